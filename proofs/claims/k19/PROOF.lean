import PyProof.Rows.All
import Wide.All
import OpenK.AllK
import Wide.FinOn
import Lean
import PyProof.EqAt
import PyProof.EqKinds
import PyProof.TupleCall
import PySem.Challenge.RW_nofall_k19_inners_told
set_option genSizeOf false
set_option genSizeOfSpec false
set_option Elab.async false
set_option linter.all false
set_option maxRecDepth 100000
open PySem renaming wpAny_bind → À,wpAny_pure → Å,sizeLine_eq → ç,wpAny_holding → ò,wpAny_call_entry → ü,wpAny_loadPart' → Ċ,wpAny_callSpecial?_slot → Đ,wpAny_newObj_type → ĕ,codeAny_builtin → Ė,wpAny_mono → Ĳ,plainId_quiet → ł,wpAny_truthy_bool → Ń,mem_of_lookup → ŏ,wpAny_field → ŧ,wpAny_setField → Ů,wpAny_pyIter_tuple → ż
open List renaming length_map → Á,getElem?_eq_getElem → Ä,mem_of_getElem? → Æ,getElem?_eq_some_iff → É,range → Ë,mem_singleton → Ì,mem_cons_of_mem → Í,size_toArray → Î,mem_cons_self → Ï,replicate → Ó,getElem?_map → Ö,mem_filter → Û,length_append → Ý,mem_cons → Þ,length_range → à,mem_range → ã,map_append → ä,mem_append → é,mem_append_right → ê,map_cons → ð,take_add_one → ó,length_cons → õ,getD_eq_getElem?_getD → ö,mem_zipIdx_iff_getElem? → ø,getElem?_of_mem → ú,length_filter_le → ý,not_mem_nil → ă,mem_map → ą,length_take → ć,mem_append_left → ċ,getElem?_set_self → đ,getElem?_set_ne → Ē,take_length → Ě,map_map → ě,append_nil → ğ,getElem?_append_right → ġ,getElem?_append_left → Ħ,mem_replicate → Ĭ,take_of_length_le → Į,getElem_mem → į,mem_flatMap → Ļ,pairwise_lt_range → Ľ,replicate_succ → ľ,length_singleton → ń,length_replicate → Ņ,lookup_cons → Ň,length_set → Ō,find?_cons → ō,length_drop → ŕ,all_eq_true → Ŗ,filter_append → ř,drop_eq_getElem_cons → ŝ,nodup_cons → Š,length_nil → š,pairwise_map → Ţ,flatten_cons → ţ,flatMap_append → Ũ,getElem?_replicate → ũ,eq_nil_of_length_eq_zero → ū,countP_eq_length_filter → ų,take_append_drop → Ź
open PySem.PyData renaming int → Ç,eqv → î,canLayAll0 → ģ,depthAll → Ķ,list → Ĺ,tuple → Ū
open PySem.Heap renaming get?_push_of_some → È,lt_size → Ê,get?_push_size → Ô,get?_update_other → Ĉ,get?_update_self → Ď,size_update → Ġ,get?_push_ne → Ĥ,size_push → ķ,SameBut → Œ
open Nat renaming le_refl → Ò,ne_of_lt → Õ,lt_of_lt_of_le → è,lt_succ_of_lt → ô,le_trans → Ć,zero_le → Č,lt_irrefl → ď,le_succ → Ę,ne_of_gt → ħ,lt_succ_self → ĳ
open Option.some renaming inj → Ù
open Bool renaming false_ne_true → Ú,and_eq_true → Ü,false_eq_true → ì,eq_iff_iff → ē,not_eq_true → İ
open PySem.Obj renaming mapSeq → ß,data_mapFields → ĭ,isFreed_of_fields → Ž
open Int renaming toNat_natCast → á,zero_add → Ŀ,toNat_of_nonneg → ő,le_refl → ŭ,emod_lt_of_pos → ů
open PySem.W renaming Frag → â,mg_none_of → Ģ,mg_of → ļ,boot_heap → Ŧ
open Sum renaming inl → ë
open PySem.PassesOwn renaming never → ï
open Array renaming length_toList → ñ,getElem?_eq_getElem → ĥ,getElem?_toList → Ŵ
open PySem.NameKind renaming free → ÿ,cell → Ĕ
open PySem.Challenge renaming pw_nofall_k19_inners_told → Ā
open PySem.Value renaming type → Ă,none → Ą,ref → ė,int → Ŝ
open PySem.Around renaming under_plainId → ĉ
open Ne renaming symm → č
open PySem.Builtin.SmallTypes renaming nextOf → Ĝ,ownedTupleIsFree → ņ
open PySem.SetTable renaming below → ĝ,grown → Ÿ
open PySem.Builtin.List renaming listExtendWith → Ĩ,listTooLong → ŀ
open PyProof.Rows renaming callWith_type1 → ĩ,slot_tupleiter_next → Ŕ
open PySem.F renaming plainAttrs_list → Ī,slot_enumerate_next → ĺ,plain_extend_loop → ś,type_list_append → Ş,slot_list_append → ş,slot_enumerate_iter → ű
open ForInStep renaming yield → ī
open PySem.Heap.SameBut renaming update → Ŋ
open PySem.Str renaming ofString → ŋ
open Classical renaming byContradiction → Ř
open False renaming elim → Ť
open True renaming intro → Ŭ
open PySem.Builtin.Slice renaming slicePlaces → Ų
open PySem.Builtin.Tuple renaming tupleExact → ž
noncomputable section
namespace L2
open PySem PySem.Spec PyProof.Rows
theorem zK {n:Nat} (h:Nat.ble n 1000=true:=by rfl):n<=1000:=Nat.le_of_ble_eq_true h
abbrev Key:=Sum Int Str
def gO:Key->Value->Bool
 | .inl k,v=>Value.isInt k v
 | .inr x,v=>Value.isStrOf x v
def Q5 (w:World):Key->Int
 | .inl k=>hashInt k
 | .inr x=>hashStr w x
theorem aR:∀ {k:Key}{v:Value},gO k v=true->(∃ i t,k=ë i/\v=Ŝ i t)\/(∃ x t,k=Sum.inr x/\v=Value.str x t)
 | .inl i,v,h=>by
  obtain⟨t,e⟩:=Value.isInt_shape (k:=i) (v:=v) h
  exact .inl ⟨i,t,rfl,e⟩
 | .inr x,v,h=>by
  obtain⟨t,e⟩:=Value.isStrOf_shape (x:=x) (v:=v) h
  exact .inr ⟨x,t,rfl,e⟩
theorem Dr (i:Int) (t:Tok):gO (.inl i) (.int i t)=true:=by simp [gO,Value.isInt]
theorem Dq (x:Str) (t:Tok):gO (.inr x) (.str x t)=true:=by simp [gO,Value.isStrOf]
theorem Nq (a b:Int):decide ((ë a:Key)=ë b)=(a == b):=by
 by_cases e:a=b
 ·subst e; simp
 ·have h:¬ (ë a:Key)=ë b:=fun q=>e (Sum.inl.inj q)
  rw [decide_eq_false h]
  exact (beq_eq_false_iff_ne.mpr e).symm
theorem Nk (a b:Str):decide ((Sum.inr a:Key)=Sum.inr b)=decide (a=b):=by
 by_cases e:a=b
 ·subst e; simp
 ·have h:¬ (Sum.inr a:Key)=Sum.inr b:=fun q=>e (Sum.inr.inj q)
  rw [decide_eq_false h,decide_eq_false e]
theorem Np (a:Int) (b:Str):decide ((ë a:Key)=Sum.inr b)=false:=decide_eq_false (fun q=>nomatch q)
theorem Nm (a:Str) (b:Int):decide ((Sum.inr a:Key)=ë b)=false:=decide_eq_false (fun q=>nomatch q)
def aF (prog:Program) (w:World):PySem.KeyKind prog w Key where
 is:=gO
 hash:=Q5 w
 inj:=fun v a b ha hb=>by
  rcases aR ha with ⟨i,t,rfl,rfl⟩ | ⟨x,t,rfl,rfl⟩
  ·rcases aR hb with ⟨j,u,rfl,e⟩ | ⟨y,u,rfl,e⟩
   ·injection e with e1 _; rw [e1]
   ·exact nomatch e
  ·rcases aR hb with ⟨j,u,rfl,e⟩ | ⟨y,u,rfl,e⟩
   ·exact nomatch e
   ·injection e with e1 _; rw [e1]
 byValue:=fun k v h=>by
  rcases aR h with ⟨i,t,rfl,rfl⟩ | ⟨x,t,rfl,rfl⟩ <;> rfl
 pyHash:=fun hv h=>by
  rcases aR hv with ⟨i,t,rfl,rfl⟩ | ⟨x,t,rfl,rfl⟩
  ·exact wpAny_pyHash_int h
  ·exact wpAny_pyHash_str h
 eqBool:=fun hu hv h=>by
  rcases aR hu with ⟨i,t,rfl,rfl⟩ | ⟨x,t,rfl,rfl⟩
  ·rcases aR hv with ⟨j,u,rfl,rfl⟩ | ⟨y,u,rfl,rfl⟩
   ·rw [Nq] at h; exact wpAny_eqBool_int h
   ·rw [Np] at h; exact SeqAt.EqAt.int_str i t y u _ _ _ _ h
  ·rcases aR hv with ⟨j,u,rfl,rfl⟩ | ⟨y,u,rfl,rfl⟩
   ·rw [Nm] at h; exact SeqAt.EqAt.str_int x t j u _ _ _ _ h
   ·rw [Nk] at h; exact wpAny_eqBool_str h
 «strs»:=fun k x t v h=>by
  rcases aR h with ⟨i,u,rfl,e⟩ | ⟨y,u,rfl,e⟩
  ·exact nomatch e
  ·injection e with e1 _
   subst e1
   cases v <;> rfl
theorem wz (prog:Program) (w:World) (i:Int) (t:Tok):(aF prog w).is (.inl i) (.int i t)=true:=Dr i t
theorem wu (prog:Program) (w:World) (x:Str) (t:Tok):(aF prog w).is (.inr x) (.str x t)=true:=Dq x t
inductive V where
 | non | bl (b:Bool) | int (i:Int) | str (x:Str) | byt (b:Array UInt8) | flt (b:UInt64) | ref (a:Addr) | ty (n:String)
 deriving DecidableEq
def RelV:V->Value->Prop
 | .non,u=>u=Ą
 | .bl b,u=>u=Value.bool b
 | .int i,u=>∃ t,u=Ŝ i t
 | .str x,u=>∃ t,u=Value.str x t
 | .byt b,u=>∃ t,u=Value.bytes b t
 | .flt b,u=>∃ t,u=Value.float b t
 | .ref a,u=>u=ė a
 | .ty n,u=>u=Ă n
abbrev Vals:List V->List Value->Prop:=Paired RelV
theorem Vals.length {xs:List V}{us:List Value} (r:Vals xs us):xs.length=us.length:=Paired.length r
theorem Vals.get:∀ {xs:List V}{us:List Value}{i:Nat}{x:V},Vals xs us->xs[i]?=some x->∃ u,us[i]?=some u/\RelV x u
 | _,_,_,_,.nil,e=>by simp at e
 | _,_,0,_,.cons r _,e=>by simp at e; subst e; exact⟨_,rfl,r⟩
 | _,_,i+1,x,.cons _ t,e=>by
  obtain⟨u,h1,h2⟩:=Vals.get (i:=i) (x:=x) t (by simpa using e)
  exact⟨u,by simpa using h1,h2⟩
theorem Vals.set {x:V}{u:Value} (r:RelV x u):∀ {xs:List V}{us:List Value} (i:Nat),Vals xs us->Vals (xs.set i x) (us.set i u)
 | _,_,_,.nil=>.nil
 | _,_,0,.cons _ t=>.cons r t
 | _,_,i+1,.cons q t=>.cons q (Vals.set r i t)
theorem Vals.append:∀ {xs ys:List V}{us ws:List Value},Vals xs us->Vals ys ws->Vals (xs++ys) (us++ws)
 | _,_,_,_,.nil,s=>s
 | _,_,_,_,.cons r t,s=>.cons r (Vals.append t s)
theorem Vals.take:∀ {xs:List V}{us:List Value} (n:Nat),Vals xs us->Vals (xs.take n) (us.take n)
 | _,_,0,_=>.nil
 | _,_,_+1,.nil=>.nil
 | _,_,n+1,.cons r t=>.cons r (Vals.take n t)
theorem Vals.drop:∀ {xs:List V}{us:List Value} (n:Nat),Vals xs us->Vals (xs.drop n) (us.drop n)
 | _,_,0,r=>r
 | _,_,_+1,.nil=>.nil
 | _,_,n+1,.cons _ t=>Vals.drop n t
def qH:Option V->Option Value->Prop
 | some v,some u=>RelV v u
 | none,none=>True
 | _,_=>False
def KV {κ:Type}:List (κ×V)->List (κ×Value)->Prop:=Paired fun (p:κ×V) (q:κ×Value)=>p.1=q.1/\RelV p.2 q.2
def kV:Key->V
 | .inl i=>.int i
 | .inr x=>.str x
inductive HO where
 | lst (xs:List V)
 | tup (xs:List V)
 | dK (kvs:List (Key×V)) | dT (kvs:List (List Key×V))
 | set (S:Int->Bool) (n:Nat)
 | ins (C dx:Addr) (fs:List (Str×V))
 | own (x:Addr)
 | xd (fs:List (Str×V))
 | met (f x:Addr)
 | rng (lo hi:Int)
 | frz (o:Obj) (u:HO)
 | tbl (ps:Array Value)
 | ext (φ:Heap->Prop)
abbrev Hp:=Addr->Option HO
def upd (H:Hp) (a:Addr) (o:HO):Hp:=fun b=>if b=a then some o else H b
theorem ao {H:Hp}{a:Addr}{o:HO}:upd H a o a=some o:=by unfold upd; rw [if_pos rfl]
theorem aj {H:Hp}{a b:Addr}{o:HO} (h:b≠a):upd H a o b=H b:=by unfold upd; rw [if_neg h]
theorem P0 {H:Hp}{a b:Addr}{o u:HO} (h:H a=some o) (h':H b=some u) (d:o≠u):a≠b:=by
 intro e; subst e; rw [h] at h'; exact d (Ù h')
theorem ak {H:Hp}{a b:Addr}{o:HO} (h:H a=some o) (h':H b=none):a≠b:=by
 intro e; subst e; rw [h] at h'; cases h'
section
variable (P:Program) (w:World)
def aV (H:Hp) (h:Heap) (a:Addr):HO->Prop
 | .lst xs=>xs.length<=sizeLine/\∃ (its:List Value) (n:Nat),Vals xs its/\h.get? a=some { cls:=.type "list",data:=.seq its.toArray n }
 | .tup xs=>xs.length<=sizeLine/\∃ its:List Value,Vals xs its/\IsTup h a its.toArray
 | .dK kvs=>kvs.length<=sizeLine/\(a == sysModules)=false/\∃ vs,KV kvs vs/\h.DictOf (aF P w) a vs
 | .dT kvs=>kvs.length<=sizeLine/\(a == sysModules)=false/\∃ xs:List (List Key×Addr×Value),
   Paired (fun (p:List Key×V) (q:List Key×Addr×Value)=>p.1=q.1/\H q.2.1=some (.tup (p.1.map kV))/\RelV p.2 q.2.2) kvs xs /\
   ∃ o es ep,h.get? a=some o/\o.ExactDict/\o.data=.dict es ep/\es.toList=xs.map (entryOfKey (tupleKind (aF P w)))/\(xs.map (·.1)).Nodup
 | .set S n=>h.SetOf (intKind P w) a S n
 | .ins C dx fs=>H dx=some (.own a)/\fs.length<=1000/\dx≠a/\h.get? a=some (W.instObj C dx) /\
   ∃ mA,h.Ns1 dx mA/\(∀ f,qH (fs.lookup f) (mA f))/\PySem.Within mA (fs.map (·.1))
 | .own _=>∃ o,h.get? a=some o
 | .xd fs=>∃ mA,h.Ns1 a mA/\∀ f,qH (fs.lookup f) (mA f)
 | .rng lo hi=>∃ t u v,h.get? a=some { cls:=.type "range",data:=.fields #[.int lo t,.int hi u,.int 1 v] }
 | .frz o u=>h.get? a=some o/\aV H h a u
 | .tbl ps=>h.get? a=some { cls:=.none,data:=.fields ps }
 | .met f x=>h.get? a=some (W.methodObj (.ref f) (.ref x))
 | .ext φ=>φ h/\(∃ o,h.get? a=some o)/\∀ h1 h2:Heap,φ h1->(∀ o,h1.get? a=some o->h2.get? a=some o)->φ h2
def HOk (H:Hp) (h:Heap):Prop:=∀ a o,H a=some o->aV P w H h a o
end
section
variable {P:Program}{w:World}{H H':Hp}{h h':Heap}{a:Addr}{o:HO}
theorem aV.lt (x:aV P w H h a o):a<h.objs.size:=by
 cases o with
 | lst xs=>obtain⟨_,_,_,_,e⟩:=x; exact Ê e
 | tup xs=>obtain⟨_,_,_,p⟩:=x; exact p.lt
 | dK kvs=>obtain⟨_,_,_,_,o,_,_,e,_⟩:=x; exact Ê e
 | dT kvs=>obtain⟨_,_,_,_,o,_,_,e,_⟩:=x; exact Ê e
 | set S n=>obtain⟨o,_,_,_,e,_⟩:=x; exact Ê e
 | ins C dx fs=>obtain⟨_,_,_,e,_⟩:=x; exact Ê e
 | own y=>obtain⟨_,e⟩:=x; exact Ê e
 | xd fs=>obtain⟨_,⟨_,_,_,e,_⟩,_⟩:=x; exact Ê e
 | rng lo hi=>obtain⟨_,_,_,e⟩:=x; exact Ê e
 | frz ob u=>obtain⟨e,_⟩:=x; exact Ê e
 | tbl ps=>exact Ê (show h.get? a=some _ from x)
 | met f y=>exact Ê (show h.get? a=some _ from x)
 | ext φ=>obtain⟨_,⟨_,e⟩,_⟩:=x; exact Ê e
theorem Paired.yQ {α β:Type}{F G:α->β->Prop}:∀ {l₁:List α}{l₂:List β},Paired F l₁ l₂->(∀ a b,F a b->G a b)->Paired G l₁ l₂
 | _,_,.nil,_=>.nil
 | _,_,.cons r t,f=>.cons (f _ _ r) (Paired.yQ t f)
theorem aV.stay (x:aV P w H h a o) (k:∀ b u,(b=a\/H b=some (.own a))->h.get? b=some u->h'.get? b=some u)
  (ho:∀ b,H b=some (.own a)->H' b=some (.own a)) (ht:∀ b xs,H b=some (.tup xs)->H' b=some (.tup xs)):aV P w H' h' a o:=by
 induction o with
 | lst xs=>obtain⟨z,its,n,r,e⟩:=x; exact⟨z,its,n,r,k _ _ (.inl rfl) e⟩
 | tup xs=>obtain⟨z,its,r,ob,e,c⟩:=x; exact⟨z,its,r,ob,k _ _ (.inl rfl) e,c⟩
 | dK kvs=>obtain⟨z,y,vs,r,ob,es,ep,e,c⟩:=x; exact⟨z,y,vs,r,ob,es,ep,k _ _ (.inl rfl) e,c⟩
 | dT kvs =>
  obtain⟨z,y,xs,r,ob,es,ep,e,c⟩:=x
  exact⟨z,y,xs,Paired.yQ r fun p q z=>⟨z.1,ht _ _ z.2.1,z.2.2⟩,ob,es,ep,k _ _ (.inl rfl) e,c⟩
 | set S n=>obtain⟨ob,es,ep,t,e,c⟩:=x; exact⟨ob,es,ep,t,k _ _ (.inl rfl) e,c⟩
 | ins C dx fs =>
  obtain⟨d,z,ne,e,mA,⟨od,es,ep,e2,c⟩,r⟩:=x
  exact⟨ho _ d,z,ne,k _ _ (.inl rfl) e,mA,⟨od,es,ep,k _ _ (.inr d) e2,c⟩,r⟩
 | own y=>obtain⟨ob,e⟩:=x; exact⟨ob,k _ _ (.inl rfl) e⟩
 | xd fs=>obtain⟨mA,⟨od,es,ep,e,c⟩,r⟩:=x; exact⟨mA,⟨od,es,ep,k _ _ (.inl rfl) e,c⟩,r⟩
 | rng lo hi=>obtain⟨t,u,v,e⟩:=x; exact⟨t,u,v,k _ _ (.inl rfl) e⟩
 | frz ob u ih=>obtain⟨e,q⟩:=x; exact⟨k _ _ (.inl rfl) e,ih q⟩
 | tbl ps =>
  have e:h.get? a=some { cls:=.none,data:=.fields ps }:=x
  show h'.get? a=some { cls:=.none,data:=.fields ps }
  exact k a _ (.inl rfl) e
 | met f y =>
  have e:h.get? a=some (W.methodObj (.ref f) (.ref y)):=x
  show h'.get? a=some (W.methodObj (.ref f) (.ref y))
  exact k a _ (.inl rfl) e
 | ext φ=>obtain⟨p,⟨o,e⟩,st⟩:=x; exact⟨st _ _ p fun o q=>k _ _ (.inl rfl) q,⟨o,k _ _ (.inl rfl) e⟩,st⟩
theorem HOk.lt (x:HOk P w H h) (e:H a=some o):a<h.objs.size:=(x a o e).lt
theorem HOk.fresh (x:HOk P w H h) (e:h.objs.size<=a):H a=none:=by
 cases q:H a with
 | none=>rfl
 | some u=>exact absurd (è (x.lt q) e) (ď _)
theorem HOk.kept (x:HOk P w H h) (k:∀ b u,h.get? b=some u->h'.get? b=some u):HOk P w H h':=fun a o e =>
 (x a o e).stay (fun b u _ q=>k b u q) (fun _ q=>q) fun _ _ q=>q
theorem HOk.laid (x:HOk P w H h) (k:∀ b u,h.get? b=some u->h'.get? b=some u) (hp:h.objs.size<=a) (new:aV P w (upd H a o) h' a o):HOk P w (upd H a o) h':=fun b u e=>by
 have hn:=x.fresh hp
 by_cases hb:b=a
 ·subst hb; rw [ao] at e; cases e; exact new
 ·rw [aj hb] at e
  exact (x b u e).stay (fun c v _ q=>k c v q) (fun c q=>by rw [aj (ak q hn)]; exact q) fun c xs q=>by rw [aj (ak q hn)]; exact q
end
def Rd (H:Hp) (a:Addr) (u:HO):Prop:=H a=some u\/∃ o,H a=some (.frz o u)
theorem Rd.ok {P:Program}{w:World}{H:Hp}{h:Heap}{a:Addr}{u:HO} (r:Rd H a u) (x:HOk P w H h):aV P w H h a u:=by
 rcases r with r | ⟨o,r⟩
 ·exact x a u r
 ·obtain⟨_,q⟩:=x a _ r
  exact q
def Mut:Option HO->Prop
 | some (.lst _)=>True
 | some (.dK _)=>True
 | some (.dT _)=>True
 | some (.set _ _)=>True
 | some (.ins _ _ _)=>True
 | some (.ext _)=>True
 | _=>False
section
variable {P:Program}{w:World}{H:Hp}{h h':Heap}{x e:Addr}{o':HO}
theorem HOk.write (ok:HOk P w H h) (mu:Mut (H x)) (he:e=x\/H e=some (.own x)) (k:∀ b u,b≠e->h.get? b=some u->h'.get? b=some u) (heo:∃ u,h'.get? e=some u)
  (new:aV P w (upd H x o') h' x o'):HOk P w (upd H x o') h':=fun b u q=>by
 have nown:∀ c y,H c=some (.own y)->c≠x:=fun c y r z=>by subst z; rw [r] at mu; exact mu
 have ntup:∀ c xs,H c=some (.tup xs)->c≠x:=fun c xs r z=>by subst z; rw [r] at mu; exact mu
 by_cases hb:b=x
 ·subst hb; rw [ao] at q; cases q; exact new
 ·rw [aj hb] at q
  by_cases hbe:b=e
  ·have q':H b=some (.own x):=by
    rcases he with z | z
    ·exact absurd (hbe.trans z) hb
    ·rw [hbe]; exact z
   rw [q] at q'; cases q'
   obtain⟨v,hv⟩:=heo
   exact⟨v,by rw [hbe]; exact hv⟩
  ·refine (ok b u q).stay (fun c v hc r=>k c v ?_ r) (fun c r=>by rw [aj (nown c b r)]; exact r) fun c xs r=>by rw [aj (ntup c xs r)]; exact r
   rcases hc with rfl | hc
   ·exact hbe
   ·rintro rfl
    rcases he with z | z
    ·exact nown c b hc z
    ·rw [hc] at z; cases z; exact hb rfl
end
structure Un (fs ex:List Addr) (H H':Hp) (h h':Heap):Prop where
 keep:∀ b o,h.get? b=some o->H b=none->b∉fs->b∉ex->h'.get? b=some o
 slot:∀ b o,h.get? b=some o->H b=none->b∈fs->b∉ex->∃ sl,h'.get? b=some { o with slots:=sl }
 free:∀ b o,h.get? b=some o->H b=none->b∉ex->H' b=none
 there:∀ b o,h.get? b=some o->b∉ex->∃ o',h'.get? b=some o'
 tups:∀ b xs,H b=some (.tup xs)->H' b=some (.tup xs)
 frzs:∀ b o u,H b=some (.frz o u)->H' b=some (.frz o u)
 tbls:∀ b ps,H b=some (.tbl ps)->∃ more,H' b=some (.tbl (ps++more))
section
variable {fs fs' ex ex':List Addr}{H H1 H2:Hp}{h h1 h2 h':Heap}{a x e:Addr}{o:HO}
theorem Un.any (u:Un fs ex H H1 h h1) {b:Addr}{ob:Obj} (q:h.get? b=some ob) (n:H b=none) (hx:b∉ex):∃ sl,h1.get? b=some { ob with slots:=sl }:=by
 by_cases hb:b∈fs
 ·exact u.slot b ob q n hb hx
 ·exact⟨ob.slots,u.keep b ob q n hb hx⟩
theorem Un.kept (k:∀ b u,h.get? b=some u->h'.get? b=some u):Un fs ex H H h h' :=
 ⟨fun b ob q _ _ _=>k b ob q,fun b ob q _ _ _=>⟨ob.slots,k b ob q⟩,fun _ _ _ n _=>n,fun b ob q _=>⟨ob,k b ob q⟩,fun _ _ q=>q,fun _ _ _ q=>q,fun _ ps q=>⟨#[],by rw [q]; simp⟩⟩
theorem Un.refl:Un fs ex H H h h:=Un.kept fun _ _ q=>q
theorem Un.laid (k:∀ b u,h.get? b=some u->h'.get? b=some u) (hp:h.objs.size<=a) (hn:H a=none):Un fs ex H (upd H a o) h h' where
 keep:=fun b u q _ _ _=>k b u q
 slot:=fun b u q _ _ _=>⟨u.slots,k b u q⟩
 free:=fun b u q n _=>by rw [aj (Õ (è (Ê q) hp))]; exact n
 there:=fun b u q _=>⟨u,k b u q⟩
 tups:=fun b xs q=>by rw [aj (ak q hn)]; exact q
 frzs:=fun b u xs q=>by rw [aj (ak q hn)]; exact q
 tbls:=fun b ps q=>⟨#[],by rw [aj (ak q hn),q]; simp⟩
theorem Un.write (mu:Mut (H x)) (he:e=x\/H e=some (.own x)) (k:∀ b u,b≠e->h.get? b=some u->h'.get? b=some u) (heo:∃ u,h'.get? e=some u):Un fs ex H (upd H x o) h h':=by
 have hx:∀ b,H b=none->b≠x:=fun b n z=>by subst z; rw [n] at mu; exact mu
 have hb:∀ b,H b=none->b≠e:=fun b n z=>by
  subst z
  rcases he with r | r
  ·exact hx b n r
  ·rw [n] at r; cases r
 have hm:∀ b u,H b=some u->¬ Mut (some u)->b≠x:=fun b u q nm z=>by subst z; rw [q] at mu; exact nm mu
 refine⟨fun b u q n _ _=>k b u (hb b n) q,fun b u q n _ _=>⟨u.slots,k b u (hb b n) q⟩,fun b u q n _=>by rw [aj (hx b n)]; exact n,fun b u q _=>?_,
  fun b xs q=>by rw [aj (hm b _ q fun z=>z)]; exact q,fun b u xs q=>by rw [aj (hm b _ q fun z=>z)]; exact q,fun b ps q=>⟨#[],by rw [aj (hm b _ q fun z=>z),q]; simp⟩⟩
 by_cases hbe:b=e
 ·subst hbe; exact heo
 ·exact⟨u,k b u hbe q⟩
end
def trk (h:Heap) (H:Hp):List Addr:=(Ë h.objs.size).filter fun a=>(H a).isSome
def uD (h:Heap) (H:Hp):Heap:=W.hideAll h (trk h H)
theorem Du (h:Heap) (H:Hp):(uD h H).objs.size=h.objs.size:=W.hideAll_size _ _
theorem G8 {h:Heap}{H:Hp}{b:Addr}{o:Obj} (e:h.get? b=some o) (n:H b=none):(uD h H).get? b=some o :=
 W.hideAll_get _ e fun hm=>by
  have q:(H b).isSome=true:=(Û.mp hm).2
  rw [n] at q; simp at q
theorem Jw {h:Heap}{H:Hp}{b:Addr}{o:Obj} (e:(uD h H).get? b=some o):h.get? b=some o/\H b=none:=by
 have e':h.get? b=some o:=W.of_hideAll (trk h H) e
 refine⟨e',?_⟩
 cases q:H b with
 | none=>rfl
 | some x =>
  have hm:b∈trk h H:=Û.mpr ⟨ã.mpr (Ê e'),by simp [q]⟩
  have z:(uD h H).get? b=none:=W.hideAll_none (trk h H) hm
  rw [z] at e; cases e
def uZ (g h:Heap) (L:Addr):List (Addr×Obj):=(Ë h.objs.size).filterMap fun a=>if a=L\/(g.get? a).isSome=true then none else (h.get? a).map fun o=>(a,o)
theorem pJ {g h:Heap}{L:Addr}{p:Addr×Obj} (hp:p∈uZ g h L):p.1≠L/\g.get? p.1=none/\h.get? p.1=some p.2:=by
 obtain⟨b,_,e⟩:=List.mem_filterMap.mp hp
 split at e
 ·cases e
 ·rename_i hn
  cases q:h.get? b with
  | none=>rw [q] at e; simp at e
  | some u =>
   rw [q] at e
   simp only [Option.map_some,Option.some.injEq] at e
   subst e
   refine⟨fun z=>hn (.inl z),?_,q⟩
   show g.get? b=none
   cases r:g.get? b with
   | none=>rfl
   | some v=>exact (hn (.inr (by simp [r]))).elim
def rest (g h:Heap) (L d:Addr):List (Addr×Obj):=(uZ g h L).filter fun p=>decide (p.1≠d)
theorem Gv {g h:Heap}{L:Addr}:News g L h (uZ g h L):=fun p hp=>let ⟨a,b,c⟩:=pJ hp; ⟨c,a,b⟩
structure Mod (K:â) (mg:Str->Option Value) (base:Heap):Prop where
 kin:K.In base
 glob:base.Ns mainGlobals mg
 blt:∃ mb,base.Ns builtinsNs mb/\∀ x:Str,x≠"__name__"->mb x=bootBuiltins x
 nolimit:base.NoLimit
structure Cx where
 prog:Program
 w:World
 K:â
 mg:Str->Option Value
 base:Heap
 A:Around
 N:List Str
 s₀:Shared
 H₀:Hp
 env:Env
 outer:List Env
 stack:List Env
 ex:List Addr
 fn:Str->Bool
 calm:Bool
 pn:List (Addr×Obj)
 xe:Value->Shared->Prop
 sf:List (Addr×Obj×HO):=[]
def frs (l:List Env):List Addr:=l.filterMap (·.frame)
abbrev Cx.fs (X:Cx):List Addr:=frs X.outer
def Vis (sc:Scope) (x:Str):Prop:=sc.names.lookup x=some .local\/sc.names.lookup x=some .cell\/sc.names.lookup x=some .free
def Loc (sc:Scope) (x:Str):Prop:=sc.names.lookup x=some .local\/sc.names.lookup x=some .cell
def Look (env:Env) (h:Heap) (m:Str->Option Value) (x:Str) (u:Value):Prop :=
 (env.kindOf x=some .local/\m x=some u)\/((env.kindOf x=some .cell\/env.kindOf x=some .free)/\∃ c,env.cells.lookup x=some c/\h.IsCell c (some u))
abbrev zS (X:Cx) (e:Expr) (es:List Expr):Prop:=starEach (e::es) X.env=(false,eval e X.env)::starEach es X.env
abbrev zP (X:Cx) (p:Pos) (es:List Expr):Prop:=(backTo p (starEach es X.env)).any (·.1)=false
abbrev zB (x:Str):Prop:=(x == ("__debug__":Str))=false
abbrev zF (X:Cx) (e:Expr):Prop:=∀ x,foldedSetIterable e X.env x=pure x
abbrev zL (X:Cx) (x:Str):Prop:=X.fn x=true\/X.env.scope.names.lookup x=some .local
abbrev zW (X:Cx) (p:Pos) (es:List Expr):Prop:=((backTo p (starEach es X.env)).all (fun x=>!x.1)&&(backToKw p (keywordEach [] X.env)).all (fun x=>x.1.isSome)&&decide (es.length+([]:List Keyword).length+(if ([]:List Keyword).isEmpty then 0 else 1)<30))=true
theorem zQ {sc:Scope}{x:Str} (h:(sc.names.lookup x == some .local||sc.names.lookup x == some .cell)=true:=by rfl):Loc sc x:=(Bool.or_eq_true_iff.mp h).imp (fun z=>eq_of_beq z) fun z=>eq_of_beq z
structure Cx.Ok (X:Cx):Prop where
 mod:Mod X.K X.mg X.base
 kind:X.env.scope.kind=.function
 glob:X.env.globals=mainGlobals
 blt:X.env.builtins=builtinsNs
 above:X.s₀.heap.objs.size<=X.env.locals
 inj:∀ x y c,X.env.cells.lookup x=some c->X.env.cells.lookup y=some c->x=y
 has:∀ x,(X.env.kindOf x=some .cell\/X.env.kindOf x=some .free)->∃ c,X.env.cells.lookup x=some c
 cab:∀ x c,X.fn x=true->X.env.cells.lookup x=some c->X.s₀.heap.objs.size<=c
 hd:X.calm=true->X.A.handled=none
 frames:X.A.frames=some X.stack
 stk:X.stack=X.outer\/(X.stack=X.env::X.outer/\X.env.frame=some X.env.locals)
 exf:∀ b∈X.ex,b≠X.env.locals/\∀ x c,X.env.cells.lookup x=some c->c≠b
 bs:∀ b o,X.base.get? b=some o->X.s₀.heap.get? b=some o/\X.H₀ b=none
 bsz:X.base.objs.size<=X.s₀.heap.objs.size
 noex:∀ b o,X.base.get? b=some o->b∉X.ex
 exfs:∀ b∈X.ex,b∉X.fs
 pZ:X.s₀.heap.FunFrames X.base X.outer
 frf:∀ b∈X.fs,X.H₀ b=none
 sof:∀ q∈X.sf,X.A.handled=some (.ref q.1)/\X.H₀ q.1=some (.frz q.2.1 q.2.2)/\∃ ws,q.2.1.data=.fields ws/\ws[2]?=some .none
structure Inv (X:Cx) (pins:List (Addr×Obj)) (σ:List (Option V)) (H:Hp) (s:Shared):Prop where
 ok:X.Ok
 os:s.os=X.s₀.os
 bare:AllBare s.gens
 base:Un X.fs X.ex X.H₀ H X.s₀.heap s.heap
 loc:∃ m,s.heap.Ns X.env.locals m/\∀ (i:Nat) (x:Str) (v:V),X.N[i]?=some x->σ[i]?=some (some v)->Vis X.env.scope x->∃ u,RelV v u/\Look X.env s.heap m x u
 cell:∀ x c,X.env.cells.lookup x=some c->∃ v,s.heap.IsCell c v
 free:H X.env.locals=none
 freeC:∀ x c,X.env.cells.lookup x=some c->H c=none
 pin:∀ p∈X.pn++pins,s.heap.get? p.1=some p.2/\H p.1=none/\p.1≠X.env.locals/\p.1∉X.fs/\∀ v,p.2.data≠.cell v
 hok:HOk X.prog X.w H s.heap
 len:σ.length=X.N.length
section
variable {X:Cx}{pins:List (Addr×Obj)}{σ:List (Option V)}{H H':Hp}{s:Shared}{h':Heap}
theorem Cx.Ok.QX (ok:X.Ok) {b:Addr}{o:Obj} (e:X.base.get? b=some o):b∉X.fs:=fun hb=>by
 have:=(ok.pZ.mem hb).1
 rw [e] at this; cases this
theorem Inv.bs (I:Inv X pins σ H s):∀ b o,X.base.get? b=some o->s.heap.get? b=some o/\H b=none:=fun b o e =>
 ⟨I.base.keep b o (I.ok.bs b o e).1 (I.ok.bs b o e).2 (I.ok.QX e) (I.ok.noex b o e),I.base.free b o (I.ok.bs b o e).1 (I.ok.bs b o e).2 (I.ok.noex b o e)⟩
theorem Inv.bk (I:Inv X pins σ H s):∀ b o,X.base.get? b=some o->s.heap.get? b=some o:=fun b o e=>(I.bs b o e).1
theorem Inv.mod (I:Inv X pins σ H s):Mod X.K X.mg X.base:=I.ok.mod
theorem Inv.kIn (I:Inv X pins σ H s):X.K.In s.heap:=I.ok.mod.kin.keeps I.bk
theorem Inv.fr (I:Inv X pins σ H s):∃ m,Fr X.base X.env.locals s.heap m :=
 let ⟨m,hn,_⟩:=I.loc
 ⟨m,hn,I.bk,Ć I.ok.bsz I.ok.above⟩
theorem Inv.lt (I:Inv X pins σ H s):X.env.locals<s.heap.objs.size:=let ⟨_,hn,_⟩:=I.loc; hn.lt
theorem Inv.sz (I:Inv X pins σ H s):X.s₀.heap.objs.size<=s.heap.objs.size:=Ć I.ok.above (Nat.le_of_lt I.lt)
theorem Inv.QW (I:Inv X pins σ H s) {a:Addr} (h:s.heap.objs.size<=a):a∉X.fs:=fun hb=>by
 obtain⟨_,o,ho,_⟩:=I.ok.pZ.mem hb
 exact absurd (è (Ê ho) (Ć I.sz h)) (ď _)
theorem Inv.cne (I:Inv X pins σ H s):∀ x c,X.env.cells.lookup x=some c->c≠X.env.locals:=fun x c e z=>by
 obtain⟨v,o,ho,hd⟩:=I.cell x c e
 obtain⟨m,⟨o',es,ep,ho',hd',_⟩,_⟩:=I.loc
 rw [z,ho'] at ho; cases ho; rw [hd'] at hd; cases hd
theorem Inv.pZ (I:Inv X pins σ H s):s.heap.FunFrames X.base X.outer:=by
 have all:∀ (l:List Env),(∀ b∈frs l,b∈X.fs)->X.s₀.heap.FunFrames X.base l->s.heap.FunFrames X.base l:=by
  intro l
  induction l with
  | nil=>intro _ _; trivial
  | cons env r ih =>
   intro hs hl
   obtain⟨hk,⟨L,o,hf,hn,ho,hd⟩,hr⟩:=hl
   have hL:L∈X.fs:=hs L (by unfold frs; rw [List.filterMap_cons,hf]; exact Ï)
   obtain⟨sl,e⟩:=I.base.slot L o ho (I.ok.frf L hL) hL fun z=>I.ok.exfs L z hL
   exact⟨hk,⟨L,_,hf,hn,e,hd⟩,ih (fun b hb=>hs b (by unfold frs; rw [List.filterMap_cons,hf]; exact Í _ hb)) hr⟩
 exact all X.outer (fun _ hb=>hb) I.ok.pZ
theorem Inv.stack (I:Inv X pins σ H s):s.heap.FunFrames X.base X.stack:=by
 rcases I.ok.stk with e | ⟨e,hf⟩
 ·rw [e]; exact I.pZ
 ·rw [e]
  obtain⟨m,hn,_⟩:=I.loc
  refine .cons (by rw [I.ok.kind]; decide) hf hn ?_ I.pZ
  exact Heap.get?_none_of_le (Ć I.ok.bsz I.ok.above)
theorem Inv.xX (I:Inv X pins σ H s):∀ b∈frs X.stack,b∈X.env.locals::X.fs:=fun b hb=>by
 rcases I.ok.stk with e | ⟨e,hf⟩
 ·rw [e] at hb; exact Í _ hb
 ·rw [e] at hb
  unfold frs at hb
  rw [List.filterMap_cons,hf] at hb
  exact hb
theorem Inv.Ak (I:Inv X pins σ H s):∀ b∈frs X.stack,H b=none:=fun b hb=>by
 rcases Þ.mp (I.xX b hb) with e | hb
 ·rw [e]; exact I.free
 ·obtain⟨_,o,ho,_⟩:=I.ok.pZ.mem hb
  exact I.base.free b o ho (I.ok.frf b hb) fun z=>I.ok.exfs b z hb
theorem Inv.step {g':Array GenState}{t':Nat}{d':Drawn}{ch:List Addr} (I:Inv X pins σ H s)
  (hch:∀ b∈ch,(b∈X.ex\/X.s₀.heap.objs.size<=b)/\b≠X.env.locals/\(∀ x c,X.env.cells.lookup x=some c->c≠b)/\∀ p∈X.pn++pins,p.1≠b)
  (keep:∀ b o,b≠X.env.locals->b∉X.fs->b∉ch->s.heap.get? b=some o->H b=none->h'.get? b=some o)
  (slot:∀ b o,b≠X.env.locals->b∈X.fs->b∉ch->s.heap.get? b=some o->H b=none->∃ sl,h'.get? b=some { o with slots:=sl }) (free:∀ b o,b∉ch->s.heap.get? b=some o->H b=none->H' b=none)
  (there:∀ b o,b∉ch->s.heap.get? b=some o->∃ o',h'.get? b=some o')
  (tups:∀ b xs,H b=some (.tup xs)->H' b=some (.tup xs)) (frzs:∀ b o u,H b=some (.frz o u)->H' b=some (.frz o u)) (tbls:∀ b ps,H b=some (.tbl ps)->∃ more,H' b=some (.tbl (ps++more)))
  (ns:∀ m,s.heap.Ns X.env.locals m->h'.Ns X.env.locals m) (hok:HOk X.prog X.w H' h') (hg:AllBare g') :
  Inv X pins σ H' { s with heap:=h',gens:=g',drawn:=d',toks:=t' }:=by
 have neL:∀ b o,X.s₀.heap.get? b=some o->b≠X.env.locals:=fun b o e=>Õ (è (Ê e) I.ok.above)
 have neC:∀ b o,X.s₀.heap.get? b=some o->b∉X.ex->b∉ch:=fun b o e hx hb=>by
  rcases (hch b hb).1 with z | z
  ·exact hx z
  ·exact absurd (è (Ê e) z) (ď _)
 have cellK:∀ x c,X.env.cells.lookup x=some c->∀ v,s.heap.IsCell c v->h'.IsCell c v:=fun x c e v ⟨o,ho,hd⟩=>by
  have nch:c∉ch:=fun z=>(hch c z).2.2.1 x c e rfl
  by_cases hc:c∈X.fs
  ·obtain⟨sl,q⟩:=slot c o (I.cne x c e) hc nch ho (I.freeC x c e)
   exact⟨_,q,hd⟩
  ·exact⟨o,keep c o (I.cne x c e) hc nch ho (I.freeC x c e),hd⟩
 refine⟨I.ok,I.os,hg,⟨fun b o e n hb hx=>?_,fun b o e n hb hx=>?_,fun b o e n hx=>?_,fun b o e hx=>?_,fun b xs e=>tups b xs (I.base.tups b xs e),fun b o xs e=>frzs b o xs (I.base.frzs b o xs e),fun b ps e=>?_⟩,?_,fun x c e=>?_,?_,fun x c e=>?_,fun p hp=>?_,hok,I.len⟩
 ·exact keep b o (neL b o e) hb (neC b o e hx) (I.base.keep b o e n hb hx) (I.base.free b o e n hx)
 ·obtain⟨sl,e1⟩:=I.base.slot b o e n hb hx
  obtain⟨sl',e2⟩:=slot b _ (neL b o e) hb (neC b o e hx) e1 (I.base.free b o e n hx)
  exact⟨sl',e2⟩
 ·obtain⟨o',e1⟩:=I.base.there b o e hx
  exact free b o' (neC b o e hx) e1 (I.base.free b o e n hx)
 ·obtain⟨o',e1⟩:=I.base.there b o e hx
  exact there b o' (neC b o e hx) e1
 ·obtain⟨m1,e1⟩:=I.base.tbls b ps e
  obtain⟨m2,e2⟩:=tbls b _ e1
  exact⟨m1++m2,by rw [e2,Array.append_assoc]⟩
 ·obtain⟨m,hn,hl⟩:=I.loc
  refine⟨m,ns m hn,fun i x v e1 e2 e3=>?_⟩
  obtain⟨u,r,l⟩:=hl i x v e1 e2 e3
  refine⟨u,r,?_⟩
  rcases l with l | ⟨k,c,e,z⟩
  ·exact .inl l
  ·exact .inr ⟨k,c,e,cellK x c e _ z⟩
 ·obtain⟨v,z⟩:=I.cell x c e
  exact⟨v,cellK x c e v z⟩
 ·obtain⟨m,⟨o,_,_,ho,_⟩,_⟩:=I.loc
  exact free _ o (fun z=>(hch _ z).2.1 rfl) ho I.free
 ·obtain⟨v,o,ho,hd⟩:=I.cell x c e
  exact free c o (fun z=>(hch c z).2.2.1 x c e rfl) ho (I.freeC x c e)
 ·obtain⟨e,n,ne,nf,d⟩:=I.pin p hp
  have nch:p.1∉ch:=fun z=>(hch p.1 z).2.2.2 p hp rfl
  exact⟨keep p.1 p.2 ne nf nch e n,free p.1 p.2 nch e n,ne,nf,d⟩
theorem Inv.un {t':Nat} (I:Inv X pins σ H s) (u:Un X.fs [] H H' s.heap h') (hok:HOk X.prog X.w H' h'):Inv X pins σ H' { s with heap:=h',toks:=t' }:=by
 obtain⟨m,⟨o,es,ep,ho,r⟩,_⟩:=id I.loc
 obtain⟨sl,hL⟩:=u.any ho I.free (by simp)
 exact I.step (g':=s.gens) (d':=s.drawn) (ch:=[]) (fun _ z=>nomatch z) (fun b o _ hb _ e n=>u.keep b o e n hb (by simp)) (fun b o _ hb _ e n=>u.slot b o e n hb (by simp)) (fun b o _ e n=>u.free b o e n (by simp)) (fun b o _ e=>u.there b o e (by simp)) u.tups u.frzs u.tbls (fun m' hm=>by
  obtain⟨o',es',ep',ho',r'⟩:=hm
  rw [ho] at ho'; cases ho'
  exact⟨_,es',ep',hL,r'⟩) hok I.bare
theorem Inv.call {g':Array GenState}{t':Nat}{d':Drawn}{ch:List Addr} (I:Inv X pins σ H s) (u:Un (frs X.stack) ch H H' s.heap h') (hok:HOk X.prog X.w H' h') (hg:AllBare g')
  (hch:∀ b∈ch,(b∈X.ex\/X.s₀.heap.objs.size<=b)/\b≠X.env.locals/\(∀ x c,X.env.cells.lookup x=some c->c≠b)/\∀ p∈X.pn++pins,p.1≠b) :
  Inv X pins σ H' { s with heap:=h',gens:=g',drawn:=d',toks:=t' }:=by
 obtain⟨m,⟨o,es,ep,ho,r⟩,_⟩:=id I.loc
 obtain⟨sl,hL⟩:=u.any ho I.free fun z=>(hch _ z).2.1 rfl
 exact I.step (ch:=ch) hch (fun b o hL hb hc e n=>u.keep b o e n (fun z=>(Þ.mp (I.xX b z)).elim hL hb) hc) (fun b o _ _ hc e n=>u.any e n hc) (fun b o hc e n=>u.free b o e n hc) (fun b o hc e=>u.there b o e hc) u.tups u.frzs u.tbls (fun m' hm=>by
  obtain⟨o',es',ep',ho',r'⟩:=hm
  rw [ho] at ho'; cases ho'
  exact⟨_,es',ep',hL,r'⟩) hok hg
theorem Inv.turned {t':Nat}{it:Addr} (I:Inv X pins σ H s) (k:∀ b o,b≠it->s.heap.get? b=some o->h'.get? b=some o) (hn:H it=none) (hL:it≠X.env.locals)
  (h1:it∈X.ex\/X.s₀.heap.objs.size<=it) (h2:∀ x c,X.env.cells.lookup x=some c->c≠it) (h3:∀ p∈X.pn++pins,p.1≠it):Inv X pins σ H { s with heap:=h',toks:=t' }:=by
 have nit:∀ b u,H b=some u->b≠it:=fun b u e z=>by rw [z,hn] at e; cases e
 refine I.step (g':=s.gens) (d':=s.drawn) (ch:=[it]) (fun b hb=>?_) (fun b o _ _ hc e _=>k b o (fun z=>hc (by simp [z])) e) (fun b o _ _ hc e _=>⟨o.slots,k b o (fun z=>hc (by simp [z])) e⟩) (fun _ _ _ _ n=>n)
  (fun b o hc e=>⟨o,k b o (fun z=>hc (by simp [z])) e⟩) (fun _ _ e=>e) (fun _ _ _ e=>e) (fun b ps e=>⟨#[],by rw [e]; simp⟩) (fun m hm=>?_) (fun b u e=>?_) I.bare
 ·have e:b=it:=by simpa using hb
  subst e
  exact⟨h1,hL,h2,h3⟩
 ·obtain⟨o,es,ep,ho,r⟩:=hm
  exact⟨o,es,ep,k _ o (č hL) ho,r⟩
 ·refine (I.hok b u e).stay (fun c v hc q=>k c v ?_ q) (fun _ q=>q) fun _ _ q=>q
  rcases hc with z | z
  ·rw [z]; exact nit b u e
  ·exact nit c _ z
theorem Inv.tok (I:Inv X pins σ H s) (t:Nat):Inv X pins σ H { s with toks:=t }:=I.un (h':=s.heap) (t':=t) Un.refl I.hok
theorem Inv.kept {t':Nat} (I:Inv X pins σ H s) (k:∀ b u,s.heap.get? b=some u->h'.get? b=some u):Inv X pins σ H { s with heap:=h',toks:=t' }:=I.un (Un.kept k) (I.hok.kept k)
theorem Inv.laid {a:Addr}{o:HO}{t':Nat} (I:Inv X pins σ H s) (k:∀ b u,s.heap.get? b=some u->h'.get? b=some u) (hp:s.heap.objs.size<=a) (new:aV X.prog X.w (upd H a o) h' a o) :
  Inv X pins σ (upd H a o) { s with heap:=h',toks:=t' }:=I.un (Un.laid k hp (I.hok.fresh hp)) (I.hok.laid k hp new)
theorem Inv.write {x e:Addr}{o:HO}{t':Nat} (I:Inv X pins σ H s) (mu:Mut (H x)) (he:e=x\/H e=some (.own x)) (k:∀ b u,b≠e->s.heap.get? b=some u->h'.get? b=some u) (heo:∃ u,h'.get? e=some u)
  (new:aV X.prog X.w (upd H x o) h' x o):Inv X pins σ (upd H x o) { s with heap:=h',toks:=t' }:=I.un (Un.write mu he k heo) (I.hok.write mu he k heo new)
theorem Inv.nW {pins':List (Addr×Obj)} (I:Inv X pins σ H s) (h:∀ p∈pins',s.heap.get? p.1=some p.2/\H p.1=none/\p.1≠X.env.locals/\p.1∉X.fs/\∀ v,p.2.data≠.cell v):Inv X pins' σ H s :=
 ⟨I.ok,I.os,I.bare,I.base,I.loc,I.cell,I.free,I.freeC,fun p hp=>(é.mp hp).elim (fun z=>I.pin p (ċ _ z)) (h p),I.hok,I.len⟩
theorem v9 {N:List Str} (hN:N.Nodup) {i j:Nat}{x:Str} (a:N[i]?=some x) (b:N[j]?=some x):i=j:=by
 obtain⟨h1,e1⟩:=É.mp a
 obtain⟨h2,e2⟩:=É.mp b
 exact (List.getElem_inj hN).mp (e1.trans e2.symm)
theorem qW {M:Model}{A:Around}{E:Value->Shared->Prop}{i:Nat}{x:Str}{v:V}{u:Value}{Q:Unit->Shared->Prop} (I:Inv X pins σ H s) (hU:∀ j,X.N[j]?=some x->j=i) (hi:X.N[i]?=some x) (hx:Loc X.env.scope x) (r:RelV v u)
  (h:∀ s',Inv X pins (σ.set i (some v)) H s'->(∃ a,Œ a s.heap s'.heap/\(a=X.env.locals\/X.env.cells.lookup x=some a))->Q () s') (hf:X.fn x=true\/X.env.scope.names.lookup x=some .local:=by first | exact .inl rfl | exact .inr rfl | assumption):wpAny M A (storeName X.env x u) Q E s:=by
 obtain⟨m,hn,hl⟩:=id I.loc
 have hcls:(X.env.scope.kind == .class || (X.env.scope.kind == .module&&X.env.locals != X.env.globals))=false:=by rw [I.ok.kind]; rfl
 have hiσ:i<σ.length:=by rw [I.len]; exact (É.mp hi).1
 have cne:=I.cne
 have tracked:∀ {a:Addr}{h':Heap},(∃ o,s.heap.get? a=some o/\H a=none)->Œ a s.heap h'->HOk X.prog X.w H h':=fun {a h'} ha hs b ob e=>by
  obtain⟨_,_,hfree⟩:=ha
  refine (I.hok b ob e).stay (fun c w' hc q=>(hs.2 c ?_).trans q) (fun _ q=>q) fun _ _ q=>q
  rintro rfl
  rcases hc with rfl | hc
  ·rw [hfree] at e; cases e
  ·rw [hfree] at hc; cases hc
 rcases hx with hk | hk
 ·refine wpAny_storeName_local hk hn (fun h' hn' hs=>?_) hcls
  obtain⟨oL,_,_,hoL,_⟩:=id hn
  refine h _ ⟨I.ok,I.os,I.bare,⟨fun b o e n hb hx=>?_,fun b o e n hb hx=>?_,I.base.free,fun b o e hx=>?_,I.base.tups,I.base.frzs,I.base.tbls⟩,⟨_,hn',fun j y v' e1 e2 e3=>?_⟩,fun y c e=>?_,I.free,I.freeC,fun p hp=>?_,tracked ⟨oL,hoL,I.free⟩ hs,by simpa using I.len⟩ ⟨_,hs,.inl rfl⟩
  ·exact (hs.2 b (Õ (è (Ê e) I.ok.above))).trans (I.base.keep b o e n hb hx)
  ·obtain⟨sl,e1⟩:=I.base.slot b o e n hb hx
   exact⟨sl,(hs.2 b (Õ (è (Ê e) I.ok.above))).trans e1⟩
  ·obtain⟨o',e1⟩:=I.base.there b o e hx
   exact⟨o',(hs.2 b (Õ (è (Ê e) I.ok.above))).trans e1⟩
  ·by_cases hj:j=i
   ·subst hj
    rw [hi] at e1; cases e1
    rw [đ hiσ] at e2
    cases e2
    exact⟨u,r,.inl ⟨hk,by simp⟩⟩
   ·rw [Ē (č hj)] at e2
    obtain⟨u',r',q⟩:=hl j y v' e1 e2 e3
    refine⟨u',r',?_⟩
    rcases q with ⟨k,e⟩ | ⟨k,c,e,z⟩
    ·refine .inl ⟨k,?_⟩
     have:y≠x:=fun e=>hj (hU _ (e ▸ e1))
     simp [this,e]
    ·exact .inr ⟨k,c,e,z.sameBut hs (cne y c e)⟩
  ·obtain⟨w',z⟩:=I.cell y c e
   exact⟨w',z.sameBut hs (cne y c e)⟩
  ·obtain⟨e,n,ne,nf,d⟩:=I.pin p hp
   exact⟨(hs.2 p.1 ne).trans e,n,ne,nf,d⟩
 ·have hfn:X.fn x=true:=by
   rcases hf with z | z
   ·exact z
   ·rw [z] at hk; cases hk
  obtain⟨c,hc⟩:=I.ok.has x (.inl hk)
  obtain⟨w',z⟩:=I.cell x c hc
  refine wpAny_storeName_cell I.ok.kind hk hc z (fun h' hc' hs=>?_)
  obtain⟨oc,hoc,hocd⟩:=id z
  refine h { s with heap:=h' } ⟨I.ok,I.os,I.bare,⟨fun b o e n hb hx=>?_,fun b o e n hb hx=>?_,I.base.free,fun b o e hx=>?_,I.base.tups,I.base.frzs,I.base.tbls⟩,⟨m,hn.sameBut hs (č (cne x c hc)),fun j y v' e1 e2 e3=>?_⟩,fun y c' e=>?_,I.free,I.freeC,fun p hp=>?_,tracked ⟨oc,hoc,I.freeC x c hc⟩ hs,by simpa using I.len⟩ ⟨c,hs,.inr hc⟩
  ·exact (hs.2 b (Õ (è (Ê e) (I.ok.cab x c hfn hc)))).trans (I.base.keep b o e n hb hx)
  ·obtain⟨sl,e1⟩:=I.base.slot b o e n hb hx
   exact⟨sl,(hs.2 b (Õ (è (Ê e) (I.ok.cab x c hfn hc)))).trans e1⟩
  ·obtain⟨o',e1⟩:=I.base.there b o e hx
   exact⟨o',(hs.2 b (Õ (è (Ê e) (I.ok.cab x c hfn hc)))).trans e1⟩
  ·by_cases hj:j=i
   ·subst hj
    rw [hi] at e1; cases e1
    rw [đ hiσ] at e2
    cases e2
    exact⟨u,r,.inr ⟨.inl hk,c,hc,hc'⟩⟩
   ·rw [Ē (č hj)] at e2
    obtain⟨u',r',q⟩:=hl j y v' e1 e2 e3
    refine⟨u',r',?_⟩
    rcases q with q | ⟨k,c',e,z'⟩
    ·exact .inl q
    ·refine .inr ⟨k,c',e,z'.sameBut hs ?_⟩
     rintro rfl
     exact hj (hU _ (I.ok.inj _ _ _ e hc ▸ e1))
  ·by_cases hcc:c'=c
   ·subst hcc; exact⟨_,hc'⟩
   ·obtain⟨w2,z2⟩:=I.cell y c' e
    exact⟨w2,z2.sameBut hs hcc⟩
  ·obtain⟨e,n,ne,nf,d⟩:=I.pin p hp
   refine⟨(hs.2 p.1 ?_).trans e,n,ne,nf,d⟩
   intro q
   rw [q,hoc] at e
   have q':oc=p.2:=Ù e
   exact d w' (by rw [← q']; exact hocd)
theorem vB {M:Model}{A:Around}{E:Value->Shared->Prop}{i:Nat}{x:Str}{v:V}{u:Value}{Q:Unit->Shared->Prop} (I:Inv X pins σ H s) (hN:X.N.Nodup) (hi:X.N[i]?=some x) (hx:Loc X.env.scope x) (r:RelV v u)
  (h:∀ s',Inv X pins (σ.set i (some v)) H s'->Q () s') (hf:X.fn x=true\/X.env.scope.names.lookup x=some .local:=by first | exact .inl rfl | exact .inr rfl | assumption):wpAny M A (storeName X.env x u) Q E s :=
 qW I (fun j h=>v9 hN h hi) hi hx r (fun s' I' _=>h s' I') hf
theorem Inv.call' {s':Shared}{ch:List Addr} (I:Inv X pins σ H s) (ho:s'.os=s.os) (u:Un (frs X.stack) ch H H' s.heap s'.heap) (hok:HOk X.prog X.w H' s'.heap) (hg:AllBare s'.gens)
  (hch:∀ b∈ch,(b∈X.ex\/X.s₀.heap.objs.size<=b)/\b≠X.env.locals/\(∀ x c,X.env.cells.lookup x=some c->c≠b)/\∀ p∈X.pn++pins,p.1≠b):Inv X pins σ H' s':=by
 obtain⟨h',g',d',t',o'⟩:=s'
 have e:o'=s.os:=ho
 subst e
 exact I.call (g':=g') (t':=t') (d':=d') u hok hg hch
end
abbrev XK:=Value->Option Addr->Hp->Prop
abbrev St:=List (Option V)
abbrev VK:=V->Hp->Prop
abbrev TE:=St->Hp->VK->Prop
abbrev TT:=St->Hp->(Bool->Hp->Prop)->Prop
abbrev TA:=St->Hp->(List V->Hp->Prop)->Prop
structure Ends where
 nx:St->Hp->Prop
 rt:VK
 bk:St->Hp->Prop:=fun _ _=>False
 ct:St->Hp->Prop:=fun _ _=>False
abbrev TS:=Ends->St->Hp->Prop
def EP (X:Cx) (pins:List (Addr×Obj)) (σ:St) (Q:VK) (u:Value) (s':Shared):Prop:=∃ v H',Inv X pins σ H' s'/\RelV v u/\Q v H'
def TP (X:Cx) (pins:List (Addr×Obj)) (σ:St) (Q:Bool->Hp->Prop) (b:Bool) (s':Shared):Prop:=∃ H',Inv X pins σ H' s'/\Q b H'
def AP (X:Cx) (pins:List (Addr×Obj)) (σ:St) (Q:List V->Hp->Prop) (us:List Value) (s':Shared):Prop:=∃ vs H',Inv X pins σ H' s'/\Vals vs us/\Q vs H'
def SP (X:Cx) (pins:List (Addr×Obj)) (D:Ends) (f:Flow) (s':Shared):Prop :=
 match f with
 | .next=>∃ σ' H',Inv X pins σ' H' s'/\D.nx σ' H'
 | .brk=>∃ σ' H',Inv X pins σ' H' s'/\D.bk σ' H'
 | .cont=>∃ σ' H',Inv X pins σ' H' s'/\D.ct σ' H'
 | .ret u=>∃ v σ' H',Inv X pins σ' H' s'/\RelV v u/\D.rt v H'
def PE (X:Cx) (e:Expr) (t:TE):Prop :=
 ∀ (pins:List (Addr×Obj)) (s:Shared) (σ:St) (H:Hp) (Q:VK),Inv X pins σ H s->t σ H Q->wpAny (model X.prog X.w) X.A (eval e X.env) (EP X pins σ Q) X.xe s
def PT (X:Cx) (e:Expr) (t:TT):Prop :=
 ∀ (pins:List (Addr×Obj)) (s:Shared) (σ:St) (H:Hp) (Q:Bool->Hp->Prop),Inv X pins σ H s->t σ H Q->wpAny (model X.prog X.w) X.A (isTrue e X.env (eval e X.env)) (TP X pins σ Q) X.xe s
def PW (X:Cx) (e:Expr) (t:TT):Prop :=
 ∀ (whole:Sem Value) (pins:List (Addr×Obj)) (s:Shared) (σ:St) (H:Hp) (Q:Bool->Hp->Prop),Inv X pins σ H s->t σ H Q->wpAny (model X.prog X.w) X.A (isTrue e X.env whole) (TP X pins σ Q) X.xe s
theorem PW.pt {X:Cx}{e:Expr}{t:TT} (h:PW X e t):PT X e t:=h _
def PA (X:Cx) (es:List Expr) (t:TA):Prop :=
 ∀ (pos:Pos) (pins:List (Addr×Obj)) (s:Shared) (σ:St) (H:Hp) (Q:List V->Hp->Prop),Inv X pins σ H s->t σ H Q->wpAny (model X.prog X.w) X.A (spliced (backTo pos (starEach es X.env))) (AP X pins σ Q) X.xe s
def PS (X:Cx) (st:Stmt) (t:TS):Prop :=
 ∀ (pins:List (Addr×Obj)) (s:Shared) (σ:St) (H:Hp) (D:Ends),Inv X pins σ H s->t D σ H->wpAny (model X.prog X.w) X.A (exec st X.env) (SP X pins D) X.xe s
def PSs (X:Cx) (st:List Stmt) (t:TS):Prop :=
 ∀ (pins:List (Addr×Obj)) (s:Shared) (σ:St) (H:Hp) (D:Ends),Inv X pins σ H s->t D σ H->wpAny (model X.prog X.w) X.A (execs st X.env) (SP X pins D) X.xe s
theorem thn {α:Type}{t:Sem α}{Q Q':α->Shared->Prop}{M:Model}{A:Around}{E:Value->Shared->Prop}{s:Shared} (h:wpAny M A t Q E s) (hQ:∀ a s,Q a s->Q' a s):wpAny M A t Q' E s:=Ĳ h hQ fun _ _ x=>x
section
variable {X:Cx}
theorem bin {a b:Expr}{ta tb:TE} (ha:PE X a ta) (hb:PE X b tb) {pins:List (Addr×Obj)}{s:Shared}{σ:St}{H:Hp}{R:V->V->Hp->Prop} (I:Inv X pins σ H s) (h:ta σ H fun x H1=>tb σ H1 fun y H2=>R x y H2)
  {α:Type}{Q:α->Shared->Prop}{f:Value->Value->Sem α}
  (hf:∀ v u s2 x y H2,Inv X pins σ H2 s2->RelV x v->RelV y u->R x y H2->wpAny (model X.prog X.w) X.A (f v u) Q X.xe s2) :
  wpAny (model X.prog X.w) X.A (eval a X.env) (fun v s₁=>wpAny (model X.prog X.w) X.A (eval b X.env) (fun u s₂=>wpAny (model X.prog X.w) X.A (f v u) Q X.xe s₂) X.xe s₁) X.xe s:=by
 refine thn (ha pins s σ H _ I h) fun v s1 ⟨x,H1,I1,r1,q1⟩=>?_
 refine thn (hb pins s1 σ H1 _ I1 q1) fun u s2 ⟨y,H2,I2,r2,q2⟩=>?_
 exact hf v u s2 x y H2 I2 r1 r2 q2
def fj (i:Nat):TE:=fun σ H Q=>∃ v,σ[i]?=some (some v)/\Q v H
def tC (v:V):TE:=fun _ H Q=>Q v H
theorem Mt {i:Nat}{x:Str}{pos:Pos} (hN:X.N[i]?=some x) (hv:Vis X.env.scope x) (hd:(x == ("__debug__":Str))=false:=by decide) (hcd:(x == ("__classdict__":Str))=false:=by decide):PE X (.Name x pos) (fj i):=by
 intro pins s σ H Q I h
 obtain⟨v,e,h⟩:=h
 obtain⟨m,hn,hl⟩:=I.loc
 obtain⟨u,r,l⟩:=hl i x v hN e hv
 have fin:EP X pins σ Q u s:=⟨v,H,I,r,h⟩
 rcases l with ⟨hk,hm⟩ | ⟨hk,c,hc,hcell⟩
 ·exact wpAny_Name (wpAny_loadName_local I.ok.kind hk hn hm fin) hd
 ·rcases hk with hk | hk
  ·exact wpAny_Name (wpAny_loadName_cell I.ok.kind hk hc hcell fin) hd
  ·exact wpAny_Name (wpAny_loadName_free I.ok.kind hk hc hcell fin hcd) hd
theorem Ga {i j pos}:PE X (.Constant (.int i) j pos) (tC (.int i)):=fun _ _ _ H _ I h=>wpAny_Constant_int ⟨.int i,H,I.tok _,⟨_,rfl⟩,h⟩
theorem Px {b j pos}:PE X (.Constant (.bool b) j pos) (tC (.bl b)):=fun _ _ _ H _ I h=>Constant_bool ⟨.bl b,H,I,rfl,h⟩
theorem Mx {j pos}:PE X (.Constant .none j pos) (tC .non):=fun _ _ _ H _ I h=>Constant_none ⟨.non,H,I,rfl,h⟩
def Gl (X:Cx) (x:Str):Prop:=X.env.kindOf x=some .globalImplicit
theorem JN {E:Value->Shared->Prop}{pins:List (Addr×Obj)}{s:Shared}{σ:St}{H:Hp}{x:Str}{u:Value}{pos:Pos}{Q:Value->Shared->Prop} (I:Inv X pins σ H s) (hg:Gl X x) (hm:X.mg x=some u) (h:Q u s)
  (hd:(x == ("__debug__":Str))=false:=by decide):wpAny (model X.prog X.w) X.A (eval (.Name x pos) X.env) Q E s :=
 Calls.Name_function_global I.ok.kind hg (Calls.loadGlobal_global (by rw [I.ok.glob]; exact I.mod.glob.keeps I.bk) hm h) hd
theorem gF {E:Value->Shared->Prop}{pins:List (Addr×Obj)}{s:Shared}{σ:St}{H:Hp}{x:Str}{u:Value}{pos:Pos}{Q:Value->Shared->Prop} (I:Inv X pins σ H s) (hg:Gl X x) (hm:X.mg x=none) (hv:bootBuiltins x=some u) (h:Q u s)
  (hn:x≠"__name__":=by decide) (hd:(x == ("__debug__":Str))=false:=by decide):wpAny (model X.prog X.w) X.A (eval (.Name x pos) X.env) Q E s:=by
 obtain⟨mb,h1,h2⟩:=I.mod.blt
 exact Calls.Name_function_global I.ok.kind hg (Calls.loadGlobal_builtin (by rw [I.ok.glob]; exact I.mod.glob.keeps I.bk) hm (by rw [I.ok.blt]; exact h1.keeps I.bk) ((h2 x hn).trans hv) h) hd
theorem Jp {x:Str}{v:V}{u:Value}{pos:Pos} (hg:Gl X x) (hm:X.mg x=none) (hv:bootBuiltins x=some u) (r:RelV v u) (hn:x≠"__name__":=by decide) (hd:(x == ("__debug__":Str))=false:=by decide):PE X (.Name x pos) (tC v) :=
 fun _ _ _ H _ I h=>gF I hg hm hv ⟨v,H,I,r,h⟩ hn hd
variable {a b:Expr}{ta tb:TE}{pos:Pos}
def PC (X:Cx) (op:CmpOp) (a b:Expr) (t:TE):Prop :=
 ∀ (pins:List (Addr×Obj)) (s:Shared) (σ:St) (H:Hp) (Q:VK),Inv X pins σ H s->t σ H Q ->
  wpAny (model X.prog X.w) X.A (eval a X.env) (fun v s₁=>wpAny (model X.prog X.w) X.A (eval b X.env) (fun u s₂=>wpAny (model X.prog X.w) X.A (compareOp op v u) (EP X pins σ Q) X.xe s₂) X.xe s₁) X.xe s
def tB (t:TE):TT:=fun σ H Q=>t σ H fun x H1=>∃ c,x=.bl c/\Q c H1
theorem Mg {op:CmpOp}{t:TE} (h:PC X op a b t) (h1:behindInMarks op b=false:=by first | exact nobehind _ (by decide) (by decide) | rfl):PT X (.Compare a [op] [b] pos) (tB t):=by
 intro pins s σ H Q I hw
 refine wpAny_isTrue_Compare1 (thn (h pins s σ H _ I hw) fun v s1 h1=>thn h1 fun u s2 h2=>thn h2 fun c s3 ⟨x,H1,I1,r1,q1⟩=>?_) h1
 obtain⟨d,rfl,q⟩:=q1
 cases r1
 exact Ń ⟨H1,I1,q⟩
theorem Ma {e:Expr}{t:TE} (h:PE X e t) (he:∀ whole,isTrue e X.env whole=(do let v ← whole; standAt e.pos; holding [v] (truthy v)):=by intro _; rfl):PT X e (tB t):=by
 intro pins s σ H Q I hw
 refine isTrue_plain (thn (h pins s σ H _ I hw) fun v s1 ⟨x,H1,I1,r1,q1⟩=>?_) (he _)
 obtain⟨d,rfl,q⟩:=q1
 cases r1
 exact Ń ⟨H1,I1,q⟩
variable {tA tB':TT}{rest:List Expr}
def O2 (t u:TT):TT:=fun σ H Q=>t σ H fun c H1=>if c=true then u σ H1 Q else Q false H1
def tOr (t u:TT):TT:=fun σ H Q=>t σ H fun c H1=>if c=true then Q true H1 else u σ H1 Q
def QJ (t:TT):TT:=fun σ H Q=>t σ H fun c H1=>Q (!c) H1
theorem Bg (ha:PT X a tA):PW X (.BoolOp .And [a] pos) tA:=by
 intro wh pins s σ H Q I h
 refine isTrue_and (thn (ha pins s σ H Q I h) fun c s1 e=>?_)
 cases c with
 | true=>exact isTrue_and_nil e
 | false=>exact e
theorem LQ (ha:PT X a tA):PW X (.BoolOp .Or [a] pos) tA:=by
 intro wh pins s σ H Q I h
 refine isTrue_or (thn (ha pins s σ H Q I h) fun c s1 e=>?_)
 cases c with
 | false=>exact isTrue_or_nil e
 | true=>exact e
theorem Fv (ha:PT X a tA) (hb:PW X (.BoolOp .And (b::rest) pos) tB'):PW X (.BoolOp .And (a::b::rest) pos) (O2 tA tB'):=by
 intro wh pins s σ H Q I h
 refine isTrue_and (thn (ha pins s σ H _ I h) fun c s1 ⟨H1,I1,q1⟩=>?_)
 cases c with
 | true=>exact hb wh pins s1 σ H1 Q I1 q1
 | false=>exact⟨H1,I1,q1⟩
theorem Pb (ha:PT X a tA) (hb:PW X (.BoolOp .Or (b::rest) pos) tB'):PW X (.BoolOp .Or (a::b::rest) pos) (tOr tA tB'):=by
 intro wh pins s σ H Q I h
 refine isTrue_or (thn (ha pins s σ H _ I h) fun c s1 ⟨H1,I1,q1⟩=>?_)
 cases c with
 | true=>exact⟨H1,I1,q1⟩
 | false=>exact hb wh pins s1 σ H1 Q I1 q1
theorem Mf (ha:PT X a tA):PT X (.UnaryOp .Not a pos) (QJ tA):=by
 intro pins s σ H Q I h
 exact isTrue_not (ha pins s σ H (fun c H1=>Q (!c) H1) I h)
def O1 (ta tb:TE):TE:=fun σ H Q=>ta σ H fun x H1=>∃ c,x=.bl c/\if c=true then tb σ H1 Q else Q (.bl false) H1
def Ow (ta:TE):TE:=fun σ H Q=>ta σ H fun x H1=>∃ c,x=.bl c/\Q (.bl (!c)) H1
theorem Mv {op}{t:TE} (h:PE X a t):PE X (.BoolOp op [a] pos) t:=fun pins s σ H Q I hw=>BoolOp_one (h pins s σ H Q I hw)
theorem MF (ha:PE X a ta) (hb:PE X (.BoolOp .And (b::rest) pos) tb):PE X (.BoolOp .And (a::b::rest) pos) (O1 ta tb):=by
 intro pins s σ H Q I h
 refine BoolOp_and (thn (ha pins s σ H _ I h) fun v s1 ⟨x,H1,I1,r1,q1⟩=>?_)
 obtain⟨c,rfl,q1⟩:=q1
 cases r1
 refine Ń ?_
 cases c with
 | true=>exact hb pins s1 σ H1 Q I1 q1
 | false=>exact⟨.bl false,H1,I1,rfl,q1⟩
theorem Mw (ha:PE X a ta):PE X (.UnaryOp .Not a pos) (Ow ta):=by
 intro pins s σ H Q I h
 refine UnaryOp_ (thn (ha pins s σ H _ I h) fun v s1 ⟨x,H1,I1,r1,q1⟩=>?_)
 obtain⟨c,rfl,q1⟩:=q1
 cases r1
 exact not_of (Ń ⟨.bl (!c),H1,I1,rfl,q1⟩)
end
def SqL (K:â) (H:Hp) (a:Addr) (xs:List V):Prop :=
 Rd H a (.lst xs) ∨
  ∃ (o:Obj) (its:Array Value) (n:Nat),K.lookup a=some o/\o.cls=.type "list"/\o.dict=none/\o.data=.seq its n/\its.size<=sizeLine/\Vals xs its.toList
def SqT (K:â) (H:Hp) (a:Addr) (xs:List V):Prop :=
 Rd H a (.tup xs) ∨
  ∃ (o:Obj) (its:Array Value) (n:Nat),K.lookup a=some o/\o.cls=.type "tuple"/\o.data=.seq its n/\its.size<=sizeLine/\Vals xs its.toList
def Rf:Value->Option V
 | .none=>some .non
 | .bool b=>some (.bl b)
 | .int i _=>some (.int i)
 | .str x _=>some (.str x)
 | .bytes b _=>some (.byt b)
 | .float b _=>some (.flt b)
 | .ref a=>some (.ref a)
 | .type n=>some (.ty n)
 | _=>none
theorem RelV.abs {x:V}{u:Value} (r:RelV x u):Rf u=some x:=by
 cases x with
 | non=>cases r; rfl
 | bl _=>cases r; rfl
 | int _=>obtain⟨t,rfl⟩:=r; rfl
 | str _=>obtain⟨t,rfl⟩:=r; rfl
 | byt _=>obtain⟨t,rfl⟩:=r; rfl
 | flt _=>obtain⟨t,rfl⟩:=r; rfl
 | ref _=>cases r; rfl
 | ty _=>cases r; rfl
theorem RelV.inj {x y:V}{u:Value} (r:RelV x u) (q:RelV y u):x=y:=Ù (r.abs.symm.trans q.abs)
theorem Vals.inj:∀ {xs ys:List V}{us:List Value},Vals xs us->Vals ys us->xs=ys
 | _,_,_,.nil,.nil=>rfl
 | _,_,_,.cons r t,.cons r' t'=>by rw [r.inj r',Vals.inj t t']
section
variable {X:Cx}{pins:List (Addr×Obj)}{σ:St}{H:Hp}{s:Shared}{a:Addr}{xs ys:List V}
theorem SqL.of {K:â} (h:H a=some (.lst xs)):SqL K H a xs:=.inl (.inl h)
theorem SqT.of {K:â} (h:H a=some (.tup xs)):SqT K H a xs:=.inl (.inl h)
theorem Inv.list (I:Inv X pins σ H s) (h:SqL X.K H a xs):∃ its:List Value,Vals xs its/\PlainL s.heap a its.toArray/\xs.length<=sizeLine:=by
 rcases h with h | ⟨o,its,n,hk,hc,hd,hs,hz,r⟩
 ·obtain⟨z,its,n,r,e⟩:=h.ok I.hok
  exact⟨its,r,⟨_,n,e,rfl,rfl,rfl⟩,z⟩
 ·refine⟨its.toList,r,⟨o,n,I.kIn a o hk,hc,hd,by simpa using hs⟩,?_⟩
  have e:=r.length
  simp only [ñ] at e
  omega
theorem Inv.tuple (I:Inv X pins σ H s) (h:SqT X.K H a xs):∃ its:List Value,Vals xs its/\IsTup s.heap a its.toArray/\xs.length<=sizeLine:=by
 rcases h with h | ⟨o,its,n,hk,hc,hs,hz,r⟩
 ·obtain⟨z,its,r,p⟩:=h.ok I.hok
  exact⟨its,r,p,z⟩
 ·refine⟨its.toList,r,⟨o,I.kIn a o hk,hc,n,by simpa using hs⟩,?_⟩
  have e:=r.length
  simp only [ñ] at e
  omega
theorem Inv.wC (I:Inv X pins σ H s) (h:SqL X.K H a xs) (h':SqL X.K H a ys):xs=ys:=by
 obtain⟨its,r,⟨o,n,e,_,_,d⟩,_⟩:=I.list h
 obtain⟨its',r',⟨o',n',e',_,_,d'⟩,_⟩:=I.list h'
 rw [e] at e'; cases e'
 rw [d] at d'
 injection d' with d1 _
 have:its=its':=by simpa using congrArg Array.toList d1
 subst this
 exact r.inj r'
theorem Inv.qT (I:Inv X pins σ H s) (h:SqT X.K H a xs) (h':SqT X.K H a ys):xs=ys:=by
 obtain⟨its,r,⟨o,e,_,n,d⟩,_⟩:=I.tuple h
 obtain⟨its',r',⟨o',e',_,n',d'⟩,_⟩:=I.tuple h'
 rw [e] at e'; cases e'
 rw [d] at d'
 injection d' with d1 _
 have:its=its':=by simpa using congrArg Array.toList d1
 subst this
 exact r.inj r'
end
abbrev Cx.wish (X:Cx) (E:Value->Shared->Prop):Cx:={ X with xe:=E }
abbrev Cx.nox (X:Cx):Cx:=X.wish fun _ _=>False
theorem Cx.Ok.wish {X:Cx} (ok:X.Ok) (E:Value->Shared->Prop):(X.wish E).Ok :=
 ⟨ok.mod,ok.kind,ok.glob,ok.blt,ok.above,ok.inj,ok.has,ok.cab,ok.hd,ok.frames,ok.stk,ok.exf,ok.bs,ok.bsz,ok.noex,ok.exfs,ok.pZ,ok.frf,ok.sof⟩
theorem Cx.Ok.gW {X:Cx}{E:Value->Shared->Prop} (ok:(X.wish E).Ok):X.Ok :=
 ⟨ok.mod,ok.kind,ok.glob,ok.blt,ok.above,ok.inj,ok.has,ok.cab,ok.hd,ok.frames,ok.stk,ok.exf,ok.bs,ok.bsz,ok.noex,ok.exfs,ok.pZ,ok.frf,ok.sof⟩
section
variable {X:Cx}{pins:List (Addr×Obj)}{σ:St}{H:Hp}{s:Shared}{E:Value->Shared->Prop}
theorem Inv.wish (I:Inv X pins σ H s) (E:Value->Shared->Prop):Inv (X.wish E) pins σ H s:=⟨I.ok.wish E,I.os,I.bare,I.base,I.loc,I.cell,I.free,I.freeC,I.pin,I.hok,I.len⟩
theorem Inv.gW (I:Inv (X.wish E) pins σ H s):Inv X pins σ H s:=⟨I.ok.gW,I.os,I.bare,I.base,I.loc,I.cell,I.free,I.freeC,I.pin,I.hok,I.len⟩
theorem SP.gW {D:Ends}{f:Flow}{s':Shared} (h:SP (X.wish E) pins D f s'):SP X pins D f s':=by
 cases f with
 | next=>obtain⟨σ',H',I,q⟩:=h; exact⟨σ',H',I.gW,q⟩
 | brk=>obtain⟨σ',H',I,q⟩:=h; exact⟨σ',H',I.gW,q⟩
 | cont=>obtain⟨σ',H',I,q⟩:=h; exact⟨σ',H',I.gW,q⟩
 | ret u=>obtain⟨v,σ',H',I,r,q⟩:=h; exact⟨v,σ',H',I.gW,r,q⟩
theorem PSs.nox {st:List Stmt}{t:TS} (h:PSs X.nox st t):PSs X st t:=fun pins s σ H D I hw =>
 Ĳ (h pins s σ H D (I.wish _) hw) (fun _ _ q=>q.gW) fun _ _ z=>Ť z
end
section
variable {X:Cx}{st:Stmt}{rest:List Stmt}{t u:TS}{e:Expr}{te:TE}{pos:Pos}
def Ko:TS:=fun D σ H=>D.nx σ H
def xV (t u:TS):TS:=fun D σ H=>t { D with nx:=u D } σ H
theorem jW:PSs X [] Ko:=fun _ _ σ H _ I h=>wpAny_execs_nil ⟨σ,H,I,h⟩
theorem aO (h1:PS X st t) (h2:PSs X rest u):PSs X (st::rest) (xV t u):=by
 intro pins s σ H D I h
 refine wpAny_execs_cons (thn (h1 pins s σ H { D with nx:=u D } I h) fun f s1 q=>?_)
 cases f with
 | next =>
  obtain⟨σ',H',I',q⟩:=q
  exact h2 pins s1 σ' H' D I' q
 | ret v=>exact q
 | brk=>exact q
 | cont=>exact q
theorem jf (h1:PS X st t):PSs X [st] t:=by
 intro pins s σ H D I h
 refine wpAny_execs_cons (thn (h1 pins s σ H D I h) fun f s1 q=>?_)
 cases f with
 | next=>exact wpAny_execs_nil q
 | ret v=>exact q
 | brk=>exact q
 | cont=>exact q
theorem Inv.quiet {pins:List (Addr×Obj)}{σ:St}{H:Hp}{s:Shared} (I:Inv X pins σ H s):interactive X.env=false:=by simp [interactive,I.ok.kind]
def eN (te:TE):TS:=fun D σ H=>te σ H fun _ H1=>D.nx σ H1
theorem dD (he:PE X e te) (hs:swapsWith e none pos.line X.env=pure false:=by rfl):PS X (.Expr e pos) (eN te):=by
 intro pins s σ H D I h
 exact wpAny_Expr_any (thn (he pins s σ H _ I h) fun v s1 ⟨x,H1,I1,r1,q1⟩=>⟨σ,H1,I1,q1⟩) I.quiet hs
def QG (te:TE):TS:=fun D σ H=>te σ H D.rt
theorem sY (he:PE X e te):PS X (.Return (some e) pos) (QG te):=by
 intro pins s σ H D I h
 exact wpAny_Return_some (thn (he pins s σ H _ I h) fun v s1 ⟨x,H1,I1,r1,q1⟩=>⟨x,σ,H1,I1,r1,q1⟩)
def Oz (c:TT) (t u:TS):TS:=fun D σ H=>c σ H fun b H1=>if b=true then t D σ H1 else u D σ H1
theorem vO {c:Expr}{a b:List Stmt}{tc:TT} (hc:PT X c tc) (ha:PSs X a t) (hb:PSs X b u):PS X (.If c a b pos) (Oz tc t u):=by
 intro pins s σ H D I h
 refine wpAny_If (thn (hc pins s σ H _ I h) fun d s1 ⟨H1,I1,q1⟩=>?_)
 cases d with
 | true=>exact ha pins s1 σ H1 D I1 q1
 | false=>exact hb pins s1 σ H1 D I1 q1
def Ln:TS:=fun _ _ _=>False
theorem Fz:PS X st Ln:=fun _ _ _ _ _ _ h=>h.elim
end
abbrev TG:=V->St->Hp->(St->Hp->Prop)->Prop
abbrev TGs:=List V->St->Hp->(St->Hp->Prop)->Prop
def PG (X:Cx) (target:Expr) (t:TG):Prop :=
 ∀ (pins:List (Addr×Obj)) (s:Shared) (σ:St) (H:Hp) (v:V) (u:Value) (Q:St->Hp->Prop),Inv X pins σ H s->RelV v u->t v σ H Q ->
  wpAny (model X.prog X.w) X.A (assign target X.env u) (fun _ s'=>∃ σ' H',Inv X pins σ' H' s'/\Q σ' H') X.xe s
def PGs (X:Cx) (ts:List Expr) (t:TGs):Prop :=
 ∀ (pins:List (Addr×Obj)) (s:Shared) (σ:St) (H:Hp) (vs:List V) (us:List Value) (Q:St->Hp->Prop),Inv X pins σ H s->Vals vs us->t vs σ H Q ->
  wpAny (model X.prog X.w) X.A (assignInOrder ((assignEach ts X.env).map (·.2)) us) (fun _ s'=>∃ σ' H',Inv X pins σ' H' s'/\Q σ' H') X.xe s
abbrev Oo:=V->V->V->Hp->(Hp->Prop)->Prop
def Qy (X:Cx) (t:Oo):Prop :=
 ∀ (pins:List (Addr×Obj)) (s:Shared) (σ:St) (H:Hp) (o i v:V) (ov iv u:Value) (Q:Hp->Prop),Inv X pins σ H s->RelV o ov->RelV i iv->RelV v u->t o i v H Q ->
  wpAny (model X.prog X.w) X.A (setItem ov iv u) (fun _ s'=>∃ H',Inv X pins σ H' s'/\Q H') X.xe s
section
variable {X:Cx}{pos:Pos}
def gQ (i:Nat):TG:=fun v σ H Q=>Q (σ.set i (some v)) H
theorem Jj {i:Nat}{x:Str} (hN:X.N.Nodup) (hi:X.N[i]?=some x) (hx:Loc X.env.scope x) (hf:X.fn x=true\/X.env.scope.names.lookup x=some .local:=by first | exact .inl rfl | exact .inr rfl | assumption):PG X (.Name x pos) (gQ i):=by
 intro pins s σ H v u Q I r h
 exact wpAny_assign_Name (vB I hN hi hx r (fun s' I'=>⟨_,H,I',h⟩) hf)
def Q9:TGs:=fun vs σ H Q=>vs=[]/\Q σ H
def Qi (t:TG) (u:TGs):TGs:=fun vs σ H Q=>∃ v r,vs=v::r/\t v σ H fun σ' H'=>u r σ' H' Q
theorem Ji:PGs X [] Q9:=by
 intro pins s σ H vs us Q I r h
 obtain⟨e,h⟩:=h
 subst e
 cases r
 exact assignInOrder_nil ⟨σ,H,I,h⟩
theorem FT {e:Expr}{es:List Expr}{t:TG}{u:TGs} (h1:PG X e t) (h2:PGs X es u)
  (hs:(assignEach (e::es) X.env).map (·.2)=assign e X.env::(assignEach es X.env).map (·.2):=by rfl):PGs X (e::es) (Qi t u):=by
 intro pins s σ H vs us Q I r h
 obtain⟨v,vr,e1,h⟩:=h
 subst e1
 cases r with
 | cons r rr =>
  rw [hs]
  refine assignInOrder_cons (thn (h1 pins s σ H _ _ _ I r h) fun _ s1 ⟨σ1,H1,I1,q1⟩=>?_)
  exact h2 pins s1 σ1 H1 _ _ Q I1 rr q1
def Q7 (K:â) (n:Nat) (t:TGs):TG:=fun v σ H Q=>∃ a xs,v=.ref a/\SqT K H a xs/\xs.length=n/\t xs σ H Q
theorem Mq {es:List Expr}{k:Nat}{t:TGs}{n:Nat} (hc:X.calm=true) (h:PGs X es t)
  (hn:(assignEach es X.env).length=n:=by rfl) (hst:(assignEach es X.env).findIdx? (·.1)=none:=by rfl):PG X (.Tuple es k pos) (Q7 X.K n t):=by
 intro pins s σ H v u Q I r hw
 obtain⟨a,xs,e1,hq,hl,hw⟩:=hw
 subst e1
 cases r
 obtain⟨its,rv,ht,hz⟩:=I.tuple hq
 refine assign_Tuple_tuple (I.ok.hd hc) ht (by simp [hn,← hl,rv.length]) hst fun h' hx=>?_
 have I1:Inv X pins σ H { s with heap:=h' }:=I.kept (t':=s.toks) fun b o e=>hx b o (Õ (Ê e)) e
 exact h pins _ σ H xs _ Q I1 (by simpa using rv) hw
def Q8 (to ti:TE) (t:Oo):TG:=fun v σ H Q=>to σ H fun o H1=>ti σ H1 fun i H2=>t o i v H2 fun H3=>Q σ H3
theorem yt {o i:Expr}{to ti:TE}{t:Oo} (ho:PE X o to) (hi:PE X i ti) (hs:Qy X t)
  (ha:∀ v,assign (.Subscript o i pos) X.env v=(do
   let ov ← holding [v] (eval o X.env)
   let iv ← holding [v,ov] (eval i X.env)
   standAt pos
   holding [v,ov,iv] (setItem ov iv v)
   release [v,ov,iv] []):=by intro _; rfl):PG X (.Subscript o i pos) (Q8 to ti t):=by
 intro pins s σ H v u Q I r h
 rw [ha]
 refine À (ò (thn (ho pins s σ H _ I h) fun ov s1 ⟨x,H1,I1,r1,q1⟩=>?_))
 refine À (ò (thn (hi pins s1 σ H1 _ I1 q1) fun iv s2 ⟨y,H2,I2,r2,q2⟩=>?_))
 refine À (wpAny_standAt (À (ò (thn (hs pins s2 σ H2 x y v ov iv u _ I2 r1 r2 r q2) fun _ s3 ⟨H3,I3,q3⟩=>?_))))
 exact wpAny_release ⟨σ,H3,I3,q3⟩
def qJ (te:TE) (g:TG):TS:=fun D σ H=>te σ H fun x H1=>g x σ H1 D.nx
theorem yp {tg e:Expr}{te:TE}{g:TG} (he:PE X e te) (hg:PG X tg g) (hs:swapsWithSole [tg] e pos.line X.env=pure false:=by rfl) (hw:swappedStores [tg] e X.env=pure none:=by rfl)
  (h1:(assignEach [tg] X.env).map (·.2)=[assign tg X.env]:=by rfl):PS X (.Assign [tg] e pos) (qJ te g):=by
 intro pins s σ H D I h
 refine wpAny_Assign_stores (thn (he pins s σ H _ I h) fun v s1 ⟨x,H1,I1,r1,q1⟩=>?_) hs hw
 rw [h1]
 exact thn (hg pins s1 σ H1 x v _ I1 r1 q1) fun _ s2 q=>q
theorem fX {i:Nat}{x:Str}{e:Expr}{te:TE}{pos':Pos} (hN:X.N.Nodup) (hi:X.N[i]?=some x) (hx:Loc X.env.scope x) (he:PE X e te) (hs:swapsWith e (some (.Name x pos')) pos.line X.env=pure false:=by rfl) (hf:X.fn x=true\/X.env.scope.names.lookup x=some .local:=by first | exact .inl rfl | exact .inr rfl | assumption) :
  PS X (.Assign [.Name x pos'] e pos) (qJ te (gQ i)):=by
 intro pins s σ H D I h
 refine wpAny_Assign_Name (thn (he pins s σ H _ I h) fun v s1 ⟨y,H1,I1,r1,q1⟩=>?_) hs
 exact vB I1 hN hi hx r1 (fun s2 I2=>⟨_,H1,I2,q1⟩) hf
end
section
variable {X:Cx}{pos:Pos}
def Lj (c:TT) (tb:TS):TS:=fun D σ H=>∃ W:Nat->St->Hp->Prop,(∃ m,W m σ H)/\∀ m σ H,W m σ H ->
 c σ H fun b H1=>if b=true then ∃ N:St->Hp->Prop,(∀ σ' H',N σ' H'->∃ m',m'<m/\W m' σ' H')/\tb { D with nx:=N,ct:=N,bk:=D.nx } σ H1 else D.nx σ H1
theorem Fy {c:Expr}{body:List Stmt}{tc:TT}{tb:TS} (hp:PassesOwn (model X.prog X.w) X.A X.env X.xe) (hc:PT X c tc) (hb:PSs X body tb):PS X (.While c body [] pos) (Lj tc tb):=by
 intro pins s σ H D I h
 obtain⟨W,⟨m0,w0⟩,turn⟩:=h
 refine wpAny_While (codeAny_whileLoop (fun n s'=>∃ σ' H',Inv X pins σ' H' s'/\W n σ' H') ?_ m0 ⟨σ,H,I,w0⟩)
 rintro n s1 ⟨σ1,H1,I1,w1⟩
 refine wpAny_passesOwn hp (thn (hc pins s1 σ1 H1 _ I1 (turn n σ1 H1 w1)) fun b s2 ⟨H2,I2,q2⟩=>?_)
 cases b with
 | true =>
  obtain⟨N,hN,q2⟩:=q2
  rw [if_pos rfl]
  refine wpAny_passesOwn hp (thn (hb pins s2 σ1 H2 _ I2 q2) fun f s3 q3=>?_)
  cases f with
  | next =>
   obtain⟨σ3,H3,I3,n3⟩:=q3
   obtain⟨m',hm,w3⟩:=hN σ3 H3 n3
   exact⟨m',hm,σ3,H3,I3,w3⟩
  | cont =>
   obtain⟨σ3,H3,I3,n3⟩:=q3
   obtain⟨m',hm,w3⟩:=hN σ3 H3 n3
   exact⟨m',hm,σ3,H3,I3,w3⟩
  | brk=>exact q3
  | ret v=>exact q3
 | false =>
  rw [if_neg Ú]
  exact wpAny_execs_nil ⟨σ1,H2,I2,q2⟩
end
structure It where
 go:Nat->Hp->Prop
 yld:Nat->Hp->V->Hp->Prop
 stop:Nat->Hp->Prop
def qI (X:Cx) (pins:List (Addr×Obj)) (H:Hp) (b:Addr):Prop :=
 H b=none/\b≠X.env.locals/\b∉X.fs/\(b∈X.ex\/X.s₀.heap.objs.size<=b)/\(∀ x c,X.env.cells.lookup x=some c->c≠b)/\∀ p∈X.pn++pins,p.1≠b
theorem Inv.uF {X:Cx}{pins:List (Addr×Obj)}{σ:St}{H H':Hp}{s:Shared}{b:Addr} (I:Inv X pins σ H s) (hb:s.heap.objs.size<=b) (hn:H' b=none):qI X pins H' b:=by
 refine⟨hn,ħ (è I.lt hb),I.QW hb,.inr (Ć I.sz hb),fun x c e z=>?_,fun p hp z=>?_⟩
 ·obtain⟨v,q⟩:=I.cell x c e
  exact absurd (è q.lt (by rw [z]; exact hb)) (ď _)
 ·exact absurd (è (Ê (I.pin p hp).1) (by rw [z]; exact hb)) (ď _)
structure TurnG (Cm:Cx->Prop) (P:Program) (w:World) (K:â) (tg:Expr) (J:It) (fp:List Addr) (it:Addr) (tn:Nat->Heap->Prop):Prop where
 mem:it∈fp
 obj:∀ i h,tn i h->∀ b∈fp,∃ o,h.get? b=some o/\∀ v,o.data≠.cell v
 keep:∀ i h h',tn i h->(∀ b∈fp,∀ o,h.get? b=some o->h'.get? b=some o)->tn i h'
 item:∀ (X:Cx),X.prog=P->X.w=w->X.K=K->Cm X->∀ (i:Nat) (pins:List (Addr×Obj)) (s:Shared) (σ:St) (H:Hp) (E:Value->Shared->Prop),Inv X pins σ H s->(∀ b∈fp,qI X pins H b)->tn i s.heap->J.go i H ->
  wpAny (model P w) X.A (pyNext (.ref it)) (fun r s1=>∃ u,r=some u /\
   wpAny (model P w) X.A (letOwnedTupleGo tg (.ref it) u) (fun _ s2=>∃ x H',Inv X pins σ H' s2/\RelV x u/\J.yld i H x H'/\tn (i+1) s2.heap/\∀ b∈fp,H' b=none) E s1) E s
 done:∀ (X:Cx),X.prog=P->X.w=w->X.K=K->Cm X->∀ (i:Nat) (pins:List (Addr×Obj)) (s:Shared) (σ:St) (H:Hp) (E:Value->Shared->Prop),Inv X pins σ H s->(∀ b∈fp,qI X pins H b)->tn i s.heap->J.stop i H ->
  wpAny (model P w) X.A (pyNext (.ref it)) (fun r s1=>r=none/\Inv X pins σ H s1) E s
 self:∀ (A:Around) (i:Nat) (s:Shared) (Q:Value->Shared->Prop) (E:Value->Shared->Prop),tn i s.heap->Q (.ref it) s->wpAny (model P w) A (pyIter (.ref it)) Q E s
abbrev Turn (P:Program) (w:World) (K:â) (tg:Expr) (J:It) (fp:List Addr) (it:Addr) (tn:Nat->Heap->Prop):Prop:=TurnG (fun X=>X.calm=true) P w K tg J fp it tn
abbrev TI:=St->Hp->(It->Hp->Prop)->Prop
def Qz (Cm:Cx->Prop) (X:Cx) (pins:List (Addr×Obj)) (σ:St) (tg:Expr) (R:It->Hp->Prop) (itv:Value) (s2:Shared):Prop :=
 ∃ (it:Addr) (fp:List Addr) (tn:Nat->Heap->Prop) (J:It) (H':Hp),itv=.ref it/\Inv X pins σ H' s2/\TurnG Cm X.prog X.w X.K tg J fp it tn/\tn 0 s2.heap/\(∀ b∈fp,qI X pins H' b)/\R J H'
def PIG (Cm:Cx->Prop) (X:Cx) (tg iter:Expr) (wi:TI):Prop :=
 ∀ (pins:List (Addr×Obj)) (s:Shared) (σ:St) (H:Hp) (R:It->Hp->Prop),Inv X pins σ H s->wi σ H R ->
  wpAny (model X.prog X.w) X.A (eval iter X.env) (fun v s1=>wpAny (model X.prog X.w) X.A (pyIter v) (Qz Cm X pins σ tg R) X.xe s1) X.xe s
abbrev PIE (X:Cx):=Qz (fun X=>X.calm=true) X
abbrev PI (X:Cx):=PIG (fun X=>X.calm=true) X
theorem Hf {M:Model}{A:Around}{E:Value->Shared->Prop}{s:Shared}{tg:Expr}{it:Addr}{u:Value}{o:Obj}{n:String}{vs:Array Value}{Q:Unit->Shared->Prop} (ho:s.heap.get? it=some o) (hc:o.cls=.type n) (hd:o.data=.fields vs)
  (hn:["enumerate","zip","dict_itemiterator","dict_reverseitemiterator","odict_iterator","itertools.zip_longest","itertools.pairwise"].contains n=false) (hQ:Q () s):wpAny M A (letOwnedTupleGo tg (.ref it) u) Q E s:=by
 unfold letOwnedTupleGo
 cases tg <;> first
  | exact Å hQ
  | (cases u <;> first
    | exact Å hQ
    | (refine À (wpAny_load ho ?_)
       rw [hc,hd]
       show wpAny M A (if (["enumerate","zip","dict_itemiterator","dict_reverseitemiterator","odict_iterator","itertools.zip_longest","itertools.pairwise"].contains n&&vs[0]? == some (rawInt _))=true then _ else _) Q E s
       rw [if_neg (by intro h; rw [hn,Bool.false_and] at h; cases h)]
       exact Å hQ))
def Itl (K:â) (a:Addr):It :=
 ⟨fun i H=>∃ xs x,SqL K H a xs/\xs[i]?=some x,fun i H x H'=>H'=H/\∀ xs,SqL K H a xs->xs[i]?=some x,fun i H=>∃ xs,SqL K H a xs/\xs.length<=i⟩
def Itt (K:â) (a:Addr):It :=
 ⟨fun i H=>∃ xs x,SqT K H a xs/\xs[i]?=some x,fun i H x H'=>H'=H/\∀ xs,SqT K H a xs->xs[i]?=some x,fun i H=>∃ xs,SqT K H a xs/\xs.length<=i⟩
def Itr (lo:Int) (n:Nat):It:=⟨fun i _=>i<n,fun i H x H'=>H'=H/\x=.int (lo+i),fun i _=>n<=i⟩
theorem Ck {P:Program}{w:World}{K:â}{tg:Expr} (a it:Addr):Turn P w K tg (Itl K a) [it] it (fun i h=>h.IsListIter it a i) where
 mem:=by simp
 obj:=fun i h st b hb=>by
  have e:b=it:=by simpa using hb
  subst e
  obtain⟨o,e,c,d⟩:=st
  exact⟨o,e,fun v z=>by rw [d] at z; cases z⟩
 keep:=fun i h h' st k=>st.at fun o e=>k it (by simp) o e
 item:=by
  intro X hP hw hK hc i pins s σ H E I hf st hg
  subst hP hw hK
  obtain⟨xs,x,hq,hx⟩:=hg
  obtain⟨its,rv,p,hz⟩:=I.list hq
  obtain⟨u,hu,ru⟩:=rv.get hx
  obtain⟨f0,f1,f2,f3,f4,f5⟩:=hf it (by simp)
  refine wpAny_pyNext_list_item st p.isList (x:=u) (by simpa using hu) fun h' st' sb=>?_
  have I1:Inv X pins σ H { s with heap:=h' }:=I.turned (t':=s.toks) (fun b o hb e=>(sb.2 b hb).trans e) f0 f1 f3 f4 f5
  obtain⟨o,e,c,d⟩:=id st'
  exact⟨u,rfl,Hf (s:={ s with heap:=h' }) e c d (by decide) ⟨x,H,I1,ru,⟨rfl,fun ys hy=>by rw [I.wC hy hq]; exact hx⟩,st',fun b hb=>(hf b hb).1⟩⟩
 done:=by
  intro X hP hw hK hc i pins s σ H E I hf st hg
  subst hP hw hK
  obtain⟨xs,hq,hx⟩:=hg
  obtain⟨its,rv,p,hz⟩:=I.list hq
  obtain⟨f0,f1,f2,f3,f4,f5⟩:=hf it (by simp)
  have hl:=rv.length
  exact wpAny_pyNext_list_end (I.ok.hd hc) st p.isList (by simp; omega) fun h' eb=>⟨rfl,I.turned (t':=s.toks) (fun b o hb e=>eb b o hb e) f0 f1 f3 f4 f5⟩
 self:=fun _ _ _ _ _ st h=>wpAny_pyIter_listiter st h
theorem xR {P:Program}{w:World}{K:â}{tg:Expr} (a it:Addr):Turn P w K tg (Itt K a) [it] it (fun i h=>h.IsTupleIter it a i) where
 mem:=by simp
 obj:=fun i h st b hb=>by
  have e:b=it:=by simpa using hb
  subst e
  obtain⟨o,e,c,d⟩:=st
  exact⟨o,e,fun v z=>by rw [d] at z; cases z⟩
 keep:=fun i h h' st k=>st.at fun o e=>k it (by simp) o e
 item:=by
  intro X hP hw hK hc i pins s σ H E I hf st hg
  subst hP hw hK
  obtain⟨xs,x,hq,hx⟩:=hg
  obtain⟨its,rv,p,hz⟩:=I.tuple hq
  obtain⟨u,hu,ru⟩:=rv.get hx
  obtain⟨f0,f1,f2,f3,f4,f5⟩:=hf it (by simp)
  refine wpAny_pyNext_tuple_item st (show s.heap.IsTuple a its.toArray from p) (x:=u) (by simpa using hu) fun h' st' sb=>?_
  have I1:Inv X pins σ H { s with heap:=h' }:=I.turned (t':=s.toks) (fun b o hb e=>(sb.2 b hb).trans e) f0 f1 f3 f4 f5
  obtain⟨o,e,c,d⟩:=id st'
  exact⟨u,rfl,Hf (s:={ s with heap:=h' }) e c d (by decide) ⟨x,H,I1,ru,⟨rfl,fun ys hy=>by rw [I.qT hy hq]; exact hx⟩,st',fun b hb=>(hf b hb).1⟩⟩
 done:=by
  intro X hP hw hK hc i pins s σ H E I hf st hg
  subst hP hw hK
  obtain⟨xs,hq,hx⟩:=hg
  obtain⟨its,rv,p,hz⟩:=I.tuple hq
  obtain⟨f0,f1,f2,f3,f4,f5⟩:=hf it (by simp)
  have hl:=rv.length
  exact wpAny_pyNext_tuple_end (I.ok.hd hc) st (show s.heap.IsTuple a its.toArray from p) (by simp; omega) fun h' eb=>⟨rfl,I.turned (t':=s.toks) (fun b o hb e=>eb b o hb e) f0 f1 f3 f4 f5⟩
 self:=fun _ _ _ _ _ st h=>wpAny_pyIter_tupleiter st h
theorem xT {P:Program}{w:World}{K:â}{tg:Expr} (it:Addr) (lo:Int) (n:Nat):Turn P w K tg (Itr lo n) [it] it (fun i h=>IsRangeIter h it (lo+(i:Nat) * 1) ((n:Int) - (i:Nat)) 1) where
 mem:=by simp
 obj:=fun i h st b hb=>by
  have e:b=it:=by simpa using hb
  subst e
  exact⟨_,st,fun v z=>by
   have z':Data.fields _=Data.cell v:=z
   cases z'⟩
 keep:=fun i h h' st k=>k it (by simp) _ st
 item:=by
  intro X hP hw hK hc i pins s σ H E I hf st hg
  subst hP hw hK
  obtain⟨f0,f1,f2,f3,f4,f5⟩:=hf it (by simp)
  have W:=Walks.range (prog:=X.prog) (w:=X.w) (I.ok.hd hc) it lo 1 n
  refine W.item i s _ _ hg st fun v h' tk hv st' kk=>?_
  obtain⟨t,rfl⟩:=hv
  have I1:Inv X pins σ H { s with heap:=h',toks:=tk }:=I.turned (fun b o hb e=>kk b o (by simpa using hb) e) f0 f1 f3 f4 f5
  refine⟨_,rfl,Hf (s:={ s with heap:=h',toks:=tk }) (n:="range_iterator") st' rfl rfl (by decide) ⟨.int (lo+i),H,I1,⟨t,?_⟩,⟨rfl,rfl⟩,st',fun b hb=>(hf b hb).1⟩⟩
  rw [Int.mul_one]
 done:=by
  intro X hP hw hK hc i pins s σ H E I hf st hg
  subst hP hw hK
  obtain⟨f0,f1,f2,f3,f4,f5⟩:=hf it (by simp)
  exact wpAny_pyNext_range_end (I.ok.hd hc) st (by have:n<=i:=hg; omega) fun h' eb=>⟨rfl,I.turned (t':=s.toks) (fun b o hb e=>eb b o hb e) f0 f1 f3 f4 f5⟩
 self:=fun _ _ _ _ _ st h=>wpAny_pyIter_rangeiter st h
section
variable {X:Cx}{tg:Expr}
theorem vK {pins:List (Addr×Obj)}{σ:St}{H:Hp}{s:Shared}{R:It->Hp->Prop}{E:Value->Shared->Prop}{lo hi:Int}{t u v:Tok}{tk:Nat} (I:Inv X pins σ H s) (h1:-(2 ^ 62)<=lo) (h2:lo<2 ^ 62) (h3:-(2 ^ 62)<=hi) (h4:hi<2 ^ 62)
  (q:R (Itr lo (hi - lo).toNat) H):wpAny (model X.prog X.w) X.A (pyIter (.ref s.heap.objs.size)) (PIE X pins σ tg R) E { s with heap:=s.heap.push { cls:=.type "range",data:=.fields #[.int lo t,.int hi u,.int 1 v] },toks:=tk }:=by
 refine wpAny_pyIter_range (IsRange.new ..) (small_one h1 h2 h3 h4) ?_
 have I1:Inv X pins σ H { s with heap:=s.heap.push { cls:=.type "range",data:=.fields #[.int lo t,.int hi u,.int 1 v] },toks:=tk }:=I.kept fun b o e=>È _ e
 refine⟨(s.heap.push { cls:=.type "range",data:=.fields #[.int lo t,.int hi u,.int 1 v] }).objs.size,[(s.heap.push { cls:=.type "range",data:=.fields #[.int lo t,.int hi u,.int 1 v] }).objs.size],_,_,H,rfl,
  I1.kept (t':=tk) fun b o e=>È _ e,xT _ lo (hi - lo).toNat,?_,fun b hb=>?_,q⟩
 ·have e1:lo+((0:Nat):Int) * 1=lo:=by simp
  have e2:(((hi - lo).toNat:Nat):Int) - ((0:Nat):Int)=Builtin.Range.rangeSize lo hi 1:=by rw [rangeSize_one]; split <;> omega
  show IsRangeIter _ _ (lo+((0:Nat):Int) * 1) ((((hi - lo).toNat:Nat):Int) - ((0:Nat):Int)) 1
  rw [e1,e2]
  exact Ô _ rfl
 ·have e:b=(s.heap.push { cls:=.type "range",data:=.fields #[.int lo t,.int hi u,.int 1 v] }).objs.size:=by simpa using hb
  subst e
  exact I1.uF (Ò _) (I1.hok.fresh (Ò _))
def Qe (ta:TA):TI:=fun σ H R=>ta σ H fun vs H1=>∃ j:Int,vs=[.int j]/\-(2 ^ 62)<=j/\j<2 ^ 62/\R (Itr 0 j.toNat) H1
def Qd (ta:TA):TI:=fun σ H R=>ta σ H fun vs H1=>∃ i j:Int,vs=[.int i,.int j]/\(-(2 ^ 62)<=i/\i<2 ^ 62/\-(2 ^ 62)<=j/\j<2 ^ 62)/\R (Itr i (j - i).toNat) H1
theorem CV {a:Expr}{ta:TA}{p pos:Pos} (hg:Gl X "range") (hm:X.mg "range"=none) (ha:PA X [a] ta) (hs:starEach [a] X.env=[(false,eval a X.env)]:=by rfl):PI X tg (.Call (.Name "range" p) [a] [] pos) (Qe ta):=by
 intro pins s σ H R I h
 refine Call_ (gF I hg hm boot_range (ĩ (thn (ha pos pins s σ H _ I h) fun us s1 ⟨vs,H1,I1,r1,q1⟩=>?_) hs rfl))
 obtain⟨j,e,q1,q2,q⟩:=q1
 subst e
 cases r1 with
 | cons r rr =>
  cases rr
  obtain⟨t,rfl⟩:=r
  exact call_range_1 (vK I1 (by omega) (by omega) q1 q2 (by simpa using q))
theorem CT {a b:Expr}{ta:TA}{p pos:Pos} (hg:Gl X "range") (hm:X.mg "range"=none) (ha:PA X [a,b] ta) (hs:starEach [a,b] X.env=[(false,eval a X.env),(false,eval b X.env)]:=by rfl) (hs2:starEach [b] X.env=[(false,eval b X.env)]:=by rfl) :
  PI X tg (.Call (.Name "range" p) [a,b] [] pos) (Qd ta):=by
 intro pins s σ H R I h
 refine Call_ (gF I hg hm boot_range (ĩ (thn (ha pos pins s σ H _ I h) fun us s1 ⟨vs,H1,I1,r1,q1⟩=>?_) (by rw [hs,hs2]) (by rw [hs2]; rfl)))
 obtain⟨i,j,e,⟨q1,q2,q3,q4⟩,q⟩:=q1
 subst e
 cases r1 with
 | cons r rr =>
  cases rr with
  | cons r' rr =>
   cases rr
   obtain⟨t,rfl⟩:=r
   obtain⟨t',rfl⟩:=r'
   exact call_range_2 (vK I1 q1 q2 q3 q4 q)
def QK (wi:TI) (g:TG) (tb:TS):TS:=fun D σ H=>wi σ H fun J H1=>∃ W:Nat->Nat->St->Hp->Prop,(∃ m,W 0 m σ H1)/\∀ i m σ H,W i m σ H ->
 (J.stop i H/\D.nx σ H)\/(J.go i H/\∃ N:St->Hp->Prop,(∀ σ' H',N σ' H'->∃ m',m'<m/\W (i+1) m' σ' H')/\∀ x H',J.yld i H x H'->g x σ H' fun σ2 H2=>tb { D with nx:=N,ct:=N,bk:=D.nx } σ2 H2)
def iw (fp:List Addr) (h:Heap):List (Addr×Obj):=fp.filterMap fun b=>(h.get? b).map fun o=>(b,o)
theorem gD {fp:List Addr}{h:Heap}{b:Addr}{o:Obj} (hb:b∈fp) (e:h.get? b=some o):(b,o)∈iw fp h:=List.mem_filterMap.mpr ⟨b,hb,by rw [e]; rfl⟩
theorem rD {fp:List Addr}{h:Heap}{p:Addr×Obj} (hp:p∈iw fp h):p.1∈fp/\h.get? p.1=some p.2:=by
 obtain⟨b,hb,e⟩:=List.mem_filterMap.mp hp
 cases q:h.get? b with
 | none=>rw [q] at e; cases e
 | some o =>
  rw [q] at e
  have e':(b,o)=p:=Ù e
  subst e'
  exact⟨hb,q⟩
theorem Inv.pinned {pins:List (Addr×Obj)}{σ:St}{H:Hp}{s:Shared}{fp:List Addr} (I:Inv X pins σ H s) (hf:∀ b∈fp,qI X pins H b) (ho:∀ b∈fp,∃ o,s.heap.get? b=some o/\∀ v,o.data≠.cell v):Inv X (pins++iw fp s.heap) σ H s :=
 I.nW fun p hp=>(é.mp hp).elim (fun z=>I.pin p (ê _ z)) fun z=>by
  obtain⟨hb,e⟩:=rD z
  obtain⟨f0,f1,f2,_⟩:=hf p.1 hb
  obtain⟨o,e',d⟩:=ho p.1 hb
  rw [e] at e'; cases e'
  exact⟨e,f0,f1,f2,d⟩
theorem Inv.jN {pins pl:List (Addr×Obj)}{σ:St}{H:Hp}{s:Shared} (I:Inv X (pins++pl) σ H s):Inv X pins σ H s:=I.nW fun p hp=>I.pin p (ê _ (ċ _ hp))
theorem Mi {iter:Expr}{body:List Stmt}{wi:TI}{g:TG}{tb:TS}{pos:Pos} (hp:PassesOwn (model X.prog X.w) X.A X.env X.xe) (hc:X.calm=true) (hi:PI X tg iter wi) (hg:PG X tg g) (hb:PSs X body tb)
  (hs:∀ x,foldedSetIterable iter X.env x=pure x:=by intro _; rfl):PS X (.For tg iter body [] pos) (QK wi g tb):=by
 intro pins s σ H D I h
 refine wpAny_For (thn (hi pins s σ H _ I h) fun v s1 h1=>thn h1 fun itv s2 h2=>?_) hs
 obtain⟨it,fp,tn,J,H2,e,I2,T,st2,f2,W,⟨m0,w0⟩,turn⟩:=h2
 subst e
 -- what stays true of the iterator's objects through the loop
 have stat:∀ {H':Hp},(∀ b∈fp,H' b=none)->∀ b∈fp,qI X pins H' b:=fun hn b hb=>⟨hn b hb,(f2 b hb).2⟩
 refine codeAny_forLoop_any (fun n s'=>∃ i σ' H',Inv X pins σ' H' s'/\tn i s'.heap/\(∀ b∈fp,H' b=none)/\W i n σ' H') ?_ m0 ⟨0,σ,H2,I2,st2,fun b hb=>(f2 b hb).1,w0⟩
 rintro n s3 ⟨i,σ3,H3,I3,st3,fr3,w3⟩
 rcases turn i n σ3 H3 w3 with ⟨stop,qn⟩ | ⟨go,N,hN,step⟩
 ·refine wpAny_passesOwn hp (thn (T.done X rfl rfl rfl hc i pins s3 σ3 H3 X.xe I3 (stat fr3) st3 stop) fun r s4 ⟨hr,I4⟩=>?_)
  subst hr
  exact wpAny_execs_nil ⟨σ3,H3,I4,qn⟩
 ·refine wpAny_passesOwn hp (thn (T.item X rfl rfl rfl hc i pins s3 σ3 H3 X.xe I3 (stat fr3) st3 go) fun r s4 ⟨u,hr,h4⟩=>?_)
  subst hr
  refine wpAny_passesOwn hp (thn h4 fun _ s5 ⟨x,H5,I5,r5,y5,st5,fr5⟩=>?_)
  have I5':=I5.pinned (stat fr5) (T.obj _ _ st5)
  refine wpAny_passesOwn hp (thn (hg _ s5 σ3 H5 x u _ I5' r5 (step x H5 y5)) fun _ s6 ⟨σ6,H6,I6,q6⟩=>?_)
  refine wpAny_passesOwn hp (thn (hb _ s6 σ6 H6 _ I6 q6) fun f s7 q7=>?_)
  have again:∀ {σ7:St}{H7:Hp},Inv X (pins++iw fp s5.heap) σ7 H7 s7->N σ7 H7->∃ m,m<n/\∃ i σ' H',Inv X pins σ' H' s7/\tn i s7.heap/\(∀ b∈fp,H' b=none)/\W i m σ' H':=fun {σ7 H7} I7 n7=>by
   obtain⟨m',hm,w7⟩:=hN σ7 H7 n7
   refine⟨m',hm,i+1,σ7,H7,I7.jN,T.keep _ _ _ st5 fun b hb o e=>(I7.pin (b,o) (ê _ (ê _ (gD hb e)))).1,fun b hb=>?_,w7⟩
   obtain⟨o,e,d⟩:=T.obj _ _ st5 b hb
   exact (I7.pin (b,o) (ê _ (ê _ (gD hb e)))).2.1
  cases f with
  | next=>obtain⟨σ7,H7,I7,n7⟩:=q7; exact again I7 n7
  | cont=>obtain⟨σ7,H7,I7,n7⟩:=q7; exact again I7 n7
  | brk=>obtain⟨σ7,H7,I7,q7⟩:=q7; exact⟨σ7,H7,I7.jN,q7⟩
  | ret v=>obtain⟨x7,σ7,H7,I7,r7,q7⟩:=q7; exact⟨x7,σ7,H7,I7.jN,r7,q7⟩
end
abbrev R2:=V->V->Hp->VK->Prop
def OpR (X:Cx) (f:Value->Value->Sem Value) (r:R2):Prop :=
 ∀ (pins:List (Addr×Obj)) (s:Shared) (σ:St) (H:Hp) (x y:V) (v u:Value) (Q:VK),Inv X pins σ H s->RelV x v->RelV y u->r x y H Q ->
  wpAny (model X.prog X.w) X.A (f v u) (EP X pins σ Q) X.xe s
def UnR (X:Cx) (f:Value->Sem Value) (r:V->Hp->VK->Prop):Prop :=
 ∀ (pins:List (Addr×Obj)) (s:Shared) (σ:St) (H:Hp) (x:V) (v:Value) (Q:VK),Inv X pins σ H s->RelV x v->r x H Q ->
  wpAny (model X.prog X.w) X.A (f v) (EP X pins σ Q) X.xe s
def bx (X:Cx) (f:Value) (r:List V->Hp->VK->Prop):Prop :=
 ∀ (pins:List (Addr×Obj)) (s:Shared) (σ:St) (H:Hp) (xs:List V) (us:List Value) (Q:VK),Inv X pins σ H s->Vals xs us->r xs H Q ->
  wpAny (model X.prog X.w) X.A (call f us) (EP X pins σ Q) X.xe s
def Rg (X:Cx) (r:V->Hp->(Bool->Hp->Prop)->Prop):Prop :=
 ∀ (pins:List (Addr×Obj)) (s:Shared) (σ:St) (H:Hp) (x:V) (v:Value) (Q:Bool->Hp->Prop),Inv X pins σ H s->RelV x v->r x H Q ->
  wpAny (model X.prog X.w) X.A (truthy v) (TP X pins σ Q) X.xe s
def tOp (r:R2) (ta tb:TE):TE:=fun σ H Q=>ta σ H fun x H1=>tb σ H1 fun y H2=>r x y H2 Q
def tUn (r:V->Hp->VK->Prop) (ta:TE):TE:=fun σ H Q=>ta σ H fun x H1=>r x H1 Q
def rI (C:Int->Int->Prop) (g:Int->Int->V):R2:=fun x y H Q=>∃ i j,x=.int i/\y=.int j/\C i j/\Q (g i j) H
def rI0 (g:Int->Int->V):R2:=fun x y H Q=>∃ i j,x=.int i/\y=.int j/\Q (g i j) H
def rU (g:Int->V):V->Hp->VK->Prop:=fun x H Q=>∃ i,x=.int i/\Q (g i) H
section
variable {X:Cx}{a b c:Expr}{ta tb tc:TE}{pos:Pos}
theorem Ol (ha:PE X a ta) (hb:PE X b tb) {pins:List (Addr×Obj)}{s:Shared}{σ:St}{H:Hp}{R:V->V->Hp->Prop} (I:Inv X pins σ H s)
  (h:ta σ H fun x H1=>tb σ H1 fun y H2=>R x y H2) {Q:Value->Shared->Prop}{f:Value->Value->Sem Value}
  (hf:∀ v u s2 x y H2,Inv X pins σ H2 s2->RelV x v->RelV y u->R x y H2->wpAny (model X.prog X.w) X.A (f v u) Q X.xe s2) :
  wpAny (model X.prog X.w) X.A (eval a X.env) (fun v s₁=>wpAny (model X.prog X.w) X.A (eval b X.env) (fun u s₂=>wpAny (model X.prog X.w) X.A (f v u) Q X.xe s₂) X.xe s₁) X.xe s:=by
 refine thn (ha pins s σ H _ I h) fun v s1 ⟨x,H1,I1,r1,q1⟩=>?_
 refine thn (hb pins s1 σ H1 _ I1 q1) fun u s2 ⟨y,H2,I2,r2,q2⟩=>?_
 exact hf v u s2 x y H2 I2 r1 r2 q2
theorem bG {op:Operator}{r:R2} (ho:OpR X (binaryOp op) r) (ha:PE X a ta) (hb:PE X b tb):PE X (.BinOp a op b pos) (tOp r ta tb):=by
 intro pins s σ H Q I h
 exact wpAny_BinOp (Ol ha hb I h fun v u s2 x y H2 I2 rx ry q=>ho pins s2 σ H2 x y v u Q I2 rx ry q)
theorem Pq {op:UnaryOp}{r:V->Hp->VK->Prop} (ho:UnR X (unaryOp op) r) (ha:PE X a ta):PE X (.UnaryOp op a pos) (tUn r ta):=by
 intro pins s σ H Q I h
 exact UnaryOp_ (thn (ha pins s σ H _ I h) fun v s1 ⟨x,H1,I1,r1,q1⟩=>ho pins s1 σ H1 x v Q I1 r1 q1)
theorem opI {f:Value->Value->Sem Value}{C:Int->Int->Prop}{g:Int->Int->Int}
  (rule:∀ (i j:Int) (t u:Tok) (s:Shared) (Q:Value->Shared->Prop) (E:Value->Shared->Prop),C i j->Q (.int (g i j) s.toks) { s with toks:=s.toks+1 }->wpAny (model X.prog X.w) X.A (f (.int i t) (.int j u)) Q E s) :
  OpR X f (rI C fun i j=>.int (g i j)):=by
 intro pins s σ H x y v u Q I rx ry h
 obtain⟨i,j,rfl,rfl,hc,q⟩:=h
 obtain⟨t,rfl⟩:=rx
 obtain⟨t',rfl⟩:=ry
 exact rule i j t t' s _ _ hc ⟨.int (g i j),H,I.tok _,⟨_,rfl⟩,q⟩
theorem PB {f:Value->Value->Sem Value}{g:Int->Int->Int}
  (rule:∀ (i j:Int) (t u:Tok) (s:Shared) (Q:Value->Shared->Prop) (E:Value->Shared->Prop),Q (.int (g i j) s.toks) { s with toks:=s.toks+1 }->wpAny (model X.prog X.w) X.A (f (.int i t) (.int j u)) Q E s) :
  OpR X f (rI0 fun i j=>.int (g i j)):=by
 intro pins s σ H x y v u Q I rx ry h
 obtain⟨i,j,rfl,rfl,q⟩:=h
 obtain⟨t,rfl⟩:=rx
 obtain⟨t',rfl⟩:=ry
 exact rule i j t t' s _ _ ⟨.int (g i j),H,I.tok _,⟨_,rfl⟩,q⟩
theorem Js {f:Value->Value->Sem Value}{g:Int->Int->Bool}
  (rule:∀ (i j:Int) (t u:Tok) (s:Shared) (Q:Value->Shared->Prop) (E:Value->Shared->Prop),Q (.bool (g i j)) s->wpAny (model X.prog X.w) X.A (f (.int i t) (.int j u)) Q E s) :
  OpR X f (rI0 fun i j=>.bl (g i j)):=by
 intro pins s σ H x y v u Q I rx ry h
 obtain⟨i,j,rfl,rfl,q⟩:=h
 obtain⟨t,rfl⟩:=rx
 obtain⟨t',rfl⟩:=ry
 exact rule i j t t' s _ _ ⟨.bl (g i j),H,I,rfl,q⟩
def Rk (i j:Int):Prop:=0<j/\j<1073741824
def Rj (i j:Int):Prop:=0<=j/\j<=1000000/\i.natAbs<2 ^ 64
def Ii (i j:Int):Prop:=(-(2 ^ 64)<i/\i<2 ^ 64)\/(-(2 ^ 64)<j/\j<2 ^ 64)
theorem Ii.ok {i j:Int} (h:Ii i j):IntMulOk i j:=by
 rcases h with ⟨h1,h2⟩ | ⟨h1,h2⟩
 ·exact .of_left (intBits_le_64 h1 h2)
 ·exact .of_right (intBits_le_64 h1 h2)
theorem iy:OpR X (binaryOp .Add) (rI0 fun i j=>.int (i+j)):=PB fun _ _ _ _ _ _ _ q=>add_int q
theorem MP:OpR X (binaryOp .Sub) (rI0 fun i j=>.int (i - j)):=PB fun _ _ _ _ _ _ _ q=>sub_int q
theorem jy:OpR X (binaryOp .Mult) (rI Ii fun i j=>.int (i * j)):=opI fun _ _ _ _ _ _ _ hc q=>mul_int q hc.ok
theorem tZ:OpR X (binaryOp .FloorDiv) (rI Rk fun i j=>.int (i / j)):=opI fun i j _ _ _ _ _ hc q=>by
 have h1:(0:Int)<j:=hc.1
 have h2:j<1073741824:=hc.2
 exact floordiv_int (by omega) (by rw [Int.fdiv_eq_ediv_of_nonneg i (by omega)]; exact q) (.inl (PyProof.noPylong_small (by omega)))
theorem gq:OpR X (binaryOp .Mod) (rI (fun _ j=>0<j) fun i j=>.int (i % j)):=opI fun i j _ _ _ _ _ hc q=>by
 have h1:(0:Int)<j:=hc
 exact mod_int' (by omega) (by rw [Int.fmod_eq_emod_of_nonneg i (by omega)]; exact q)
theorem M5:OpR X (binaryOp .Pow) (rI Rj fun i j=>.int (i ^ j.toNat)):=opI fun _ _ _ _ _ _ _ hc q=>pow_int_small hc.1 hc.2.1 hc.2.2 q
theorem unI {f:Value->Sem Value}{g:Int->Int}
  (rule:∀ (i:Int) (t:Tok) (s:Shared) (Q:Value->Shared->Prop) (E:Value->Shared->Prop),Q (.int (g i) s.toks) { s with toks:=s.toks+1 }->wpAny (model X.prog X.w) X.A (f (.int i t)) Q E s) :
  UnR X f (rU fun i=>.int (g i)):=by
 intro pins s σ H x v Q I rx h
 obtain⟨i,rfl,q⟩:=h
 obtain⟨t,rfl⟩:=rx
 exact rule i t s _ _ ⟨.int (g i),H,I.tok _,⟨_,rfl⟩,q⟩
theorem Le:UnR X (unaryOp .USub) (rU fun i=>.int (-i)):=unI fun _ _ _ _ _ q=>neg_int q
end
def O5:V->V->Bool
 | .non,.non=>true | .non,.int _=>true | .int _,.non=>true | .non,.bl _=>true | .bl _,.non=>true | .non,.str _=>true | .str _,.non=>true
 | .int _,.int _=>true | .bl _,.bl _=>true | .str _,.str _=>true | .byt _,.byt _=>true
 | .int _,.str _=>true | .str _,.int _=>true | .bl _,.str _=>true | .str _,.bl _=>true
 | _,_=>false
def rEq:R2:=fun x y H Q=>O5 x y=true/\Q (.bl (decide (x=y))) H
def rNe:R2:=fun x y H Q=>O5 x y=true/\Q (.bl (!decide (x=y))) H
theorem Ce {i j:Int}:decide (V.int i=V.int j)=(i == j):=by
 rw [ē]
 simp
theorem Hy {i j:Bool}:decide (V.bl i=V.bl j)=(i == j):=by
 rw [ē]
 simp
theorem Cd {i j:Str}:decide (V.str i=V.str j)=(i == j):=by
 rw [ē]
 simp
theorem Cg {i j:Array UInt8}:decide (V.byt i=V.byt j)=(i.toList == j.toList):=by
 rw [ē]
 cases i
 cases j
 simp
section
variable {X:Cx}{a b c:Expr}{ta tb tc:TE}{pos:Pos}
theorem aH {pins:List (Addr×Obj)}{σ:St}{H:Hp}{s:Shared}{Q:VK}{k k':Bool} (I:Inv X pins σ H s) (q:Q (.bl k) H) (e:k=k'):EP X pins σ Q (.bool k') s:=by
 subst e
 exact⟨.bl k,H,I,rfl,q⟩
theorem KH:OpR X (compareOp .Eq) rEq:=by
 intro pins s σ H x y v u Q I rx ry h
 obtain⟨hs,q⟩:=h
 cases x with
 | non =>
  cases rx
  cases y with
  | non=>cases ry; exact PySem.EqNone.eq_none_none (aH I q (by simp))
  | bl j=>cases ry; exact PySem.EqNone.eq_none_bool (aH I q (by simp))
  | int j=>obtain⟨t',rfl⟩:=ry; exact PySem.EqNone.eq_none_int (aH I q (by simp))
  | str j=>obtain⟨t',rfl⟩:=ry; exact PySem.EqNone.eq_none_str (aH I q (by simp))
  | _=>exact absurd (show false=true from hs) Ú
 | bl i =>
  cases rx
  cases y with
  | non=>cases ry; exact PySem.EqNone.eq_bool_none (aH I q (by simp))
  | bl j=>cases ry; exact eq_bool (aH I q Hy)
  | str j=>obtain⟨t',rfl⟩:=ry; exact PySem.EqMixed.eq_bool_str (aH I q (by simp))
  | _=>exact absurd (show false=true from hs) Ú
 | int i =>
  obtain⟨t,rfl⟩:=rx
  cases y with
  | non=>cases ry; exact PySem.EqNone.eq_int_none (aH I q (by simp))
  | int j=>obtain⟨t',rfl⟩:=ry; exact eq_int (aH I q Ce)
  | str j=>obtain⟨t',rfl⟩:=ry; exact PySem.EqMixed.eq_int_str (aH I q (by simp))
  | _=>exact absurd (show false=true from hs) Ú
 | str i =>
  obtain⟨t,rfl⟩:=rx
  cases y with
  | non=>cases ry; exact PySem.EqNone.eq_str_none (aH I q (by simp))
  | bl j=>cases ry; exact PySem.EqMixed.eq_str_bool (aH I q (by simp))
  | int j=>obtain⟨t',rfl⟩:=ry; exact PySem.EqMixed.eq_str_int (aH I q (by simp))
  | str j=>obtain⟨t',rfl⟩:=ry; exact eq_str (aH I q Cd)
  | _=>exact absurd (show false=true from hs) Ú
 | byt i =>
  obtain⟨t,rfl⟩:=rx
  cases y with
  | byt j=>obtain⟨t',rfl⟩:=ry; exact W.eq_bytes (aH I q Cg)
  | _=>exact absurd (show false=true from hs) Ú
 | _=>cases y <;> exact absurd (show false=true from hs) Ú
theorem KC:OpR X (compareOp .NotEq) rNe:=by
 intro pins s σ H x y v u Q I rx ry h
 obtain⟨hs,q⟩:=h
 cases x with
 | non =>
  cases rx
  cases y with
  | non=>cases ry; exact PySem.EqNone.ne_none_none (aH I q (by simp))
  | bl j=>cases ry; exact PySem.EqNone.ne_none_bool (aH I q (by simp))
  | int j=>obtain⟨t',rfl⟩:=ry; exact PySem.EqNone.ne_none_int (aH I q (by simp))
  | str j=>obtain⟨t',rfl⟩:=ry; exact PySem.EqNone.ne_none_str (aH I q (by simp))
  | _=>exact absurd (show false=true from hs) Ú
 | bl i =>
  cases rx
  cases y with
  | non=>cases ry; exact PySem.EqNone.ne_bool_none (aH I q (by simp))
  | bl j=>cases ry; exact ne_bool (aH I q (congrArg not Hy))
  | str j=>obtain⟨t',rfl⟩:=ry; exact PySem.EqMixed.ne_bool_str (aH I q (by simp))
  | _=>exact absurd (show false=true from hs) Ú
 | int i =>
  obtain⟨t,rfl⟩:=rx
  cases y with
  | non=>cases ry; exact PySem.EqNone.ne_int_none (aH I q (by simp))
  | int j=>obtain⟨t',rfl⟩:=ry; exact ne_int (aH I q (congrArg not Ce))
  | str j=>obtain⟨t',rfl⟩:=ry; exact PySem.EqMixed.ne_int_str (aH I q (by simp))
  | _=>exact absurd (show false=true from hs) Ú
 | str i =>
  obtain⟨t,rfl⟩:=rx
  cases y with
  | non=>cases ry; exact PySem.EqNone.ne_str_none (aH I q (by simp))
  | bl j=>cases ry; exact PySem.EqMixed.ne_str_bool (aH I q (by simp))
  | int j=>obtain⟨t',rfl⟩:=ry; exact PySem.EqMixed.ne_str_int (aH I q (by simp))
  | str j=>obtain⟨t',rfl⟩:=ry; exact ne_str (aH I q (congrArg not Cd))
  | _=>exact absurd (show false=true from hs) Ú
 | byt i =>
  obtain⟨t,rfl⟩:=rx
  cases y with
  | byt j=>obtain⟨t',rfl⟩:=ry; exact W.ne_bytes (aH I q (congrArg not Cg))
  | _=>exact absurd (show false=true from hs) Ú
 | _=>cases y <;> exact absurd (show false=true from hs) Ú
theorem Gj:OpR X (compareOp .Lt) (rI0 fun i j=>.bl (decide (i<j))):=Js fun _ _ _ _ _ _ _ q=>lt_int q
theorem Pz:OpR X (compareOp .LtE) (rI0 fun i j=>.bl (decide (i<=j))):=Js fun _ _ _ _ _ _ _ q=>le_int q
theorem Bo:OpR X (compareOp .Gt) (rI0 fun i j=>.bl (decide (j<i))):=Js fun _ _ _ _ _ _ _ q=>gt_int q
theorem KD:OpR X (compareOp .GtE) (rI0 fun i j=>.bl (decide (j<=i))):=Js fun _ _ _ _ _ _ _ q=>ge_int q
theorem dg (b:Expr) {op:CmpOp} (h:op≠.In:=by decide) (h2:op≠.NotIn:=by decide):behindInMarks op b=false:=by
 have e1:(op == CmpOp.In)=false:=by cases op <;> first | rfl | exact absurd rfl h
 have e2:(op == CmpOp.NotIn)=false:=by cases op <;> first | rfl | exact absurd rfl h2
 cases b <;> simp [behindInMarks,e1,e2]
theorem Jm {op:CmpOp}{r:R2} (ho:OpR X (compareOp op) r) (ha:PE X a ta) (hb:PE X b tb) (hm:behindInMarks op b=false):PE X (.Compare a [op] [b] pos) (tOp r ta tb):=by
 intro pins s σ H Q I h
 exact wpAny_Compare1 (Ol ha hb I h fun v u s2 x y H2 I2 rx ry q=>ho pins s2 σ H2 x y v u Q I2 rx ry q) hm
def Ot (t:TE):TT:=fun σ H Q=>t σ H fun x H'=>∃ k,x=.bl k/\Q k H'
theorem jV {op:CmpOp}{r:R2} (ho:OpR X (compareOp op) r) (ha:PE X a ta) (hb:PE X b tb) (hm:behindInMarks op b=false):PT X (.Compare a [op] [b] pos) (Ot (tOp r ta tb)):=by
 intro pins s σ H Q I h
 refine wpAny_isTrue_Compare1 (thn (ha pins s σ H _ I h) fun v s1 ⟨x,H1,I1,r1,q1⟩=>thn (hb pins s1 σ H1 _ I1 q1) fun u s2 ⟨y,H2,I2,r2,q2⟩ =>
  thn (ho pins s2 σ H2 x y v u _ I2 r1 r2 q2) fun c s3 ⟨z,H3,I3,r3,k,e,q3⟩=>?_) hm
 subst e
 cases r3
 exact Ń ⟨H3,I3,q3⟩
def Ew (r r':R2) (ta tb tc:TE):TE:=fun σ H Q=>ta σ H fun x H1=>tb σ H1 fun y H2=>r x y H2 fun z H3=>∃ k,z=.bl k /\
 (if k=true then tc σ H3 fun w' H4=>r' y w' H4 Q else Q (.bl false) H3)
theorem Gd {op op':CmpOp}{r r':R2} (ho:OpR X (compareOp op) r) (ho':OpR X (compareOp op') r') (ha:PE X a ta) (hb:PE X b tb) (hc:PE X c tc)
  (hm:lastMarks [op,op'] [b,c]=false:=by with_unfolding_all rfl):PE X (.Compare a [op,op'] [b,c] pos) (Ew r r' ta tb tc):=by
 intro pins s σ H Q I h
 refine Compare_chain (thn (ha pins s σ H _ I h) fun v s1 ⟨x,H1,I1,r1,q1⟩=>chain_link (thn (hb pins s1 σ H1 _ I1 q1) fun u s2 ⟨y,H2,I2,r2,q2⟩ =>
  thn (ho pins s2 σ H2 x y v u _ I2 r1 r2 q2) fun d s3 ⟨z,H3,I3,r3,k,e,q3⟩=>?_)) hm
 subst e
 cases r3
 refine Ń ?_
 cases k with
 | false=>exact ite_ff ⟨.bl false,H3,I3,rfl,q3⟩
 | true=>exact ite_tt (chain_last (thn (hc pins s3 σ H3 _ I3 q3) fun w' s4 ⟨z',H4,I4,r4,q4⟩=>ho' pins s4 σ H4 y z' u w' Q I4 r2 r4 q4))
def Qx (K:â) (x:V) (H:Hp) (k:Bool):Prop :=
 match x with
 | .non=>k=false
 | .bl b=>k=b
 | .int i=>k=(i != 0)
 | .str y=>y.length<=sizeLine/\k=((y.length:Int) != 0)
 | .byt y=>y.size<=sizeLine/\k=((y.size:Int) != 0)
 | .ref p=>(∃ xs,SqL K H p xs/\k=!xs.isEmpty)\/(∃ xs,SqT K H p xs/\k=!xs.isEmpty)\/∃ kvs,H p=some (.dK kvs)/\k=!kvs.isEmpty
 | _=>False
theorem yW {κ:Type}{kvs:List (κ×V)}{vs:List (κ×Value)} (r:KV kvs vs):(!vs.isEmpty)=!kvs.isEmpty:=by
 cases r <;> rfl
theorem pU {xs:List V}{its:List Value} (r:Vals xs its):(!its.toArray.isEmpty)=!xs.isEmpty:=by
 cases r <;> simp
theorem pQ:(sizeLine:Nat)<2 ^ 63:=by rw [ç]; decide
theorem Li:Rg X (fun x H Q=>∃ k,Qx X.K x H k/\Q k H):=by
 intro pins s σ H x v Q I rx h
 obtain⟨k,e,q⟩:=h
 have hl:=pQ
 have hs:sizeLine=16777216:=ç
 cases x with
 | non =>
  cases rx
  have e':k=false:=e
  subst e'
  exact truthy_none ⟨H,I,q⟩
 | bl b =>
  cases rx
  have e':k=b:=e
  subst e'
  exact Ń ⟨H,I,q⟩
 | int i =>
  obtain⟨t,rfl⟩:=rx
  have e':k=(i != 0):=e
  subst e'
  exact PySem.P.truthy_int ⟨H,I,q⟩
 | str y =>
  obtain⟨t,rfl⟩:=rx
  obtain⟨hy,e'⟩:y.length<=sizeLine/\k=((y.length:Int) != 0):=e
  subst e'
  exact PySem.P.truthy_str (by omega) ⟨H,I.tok _,q⟩
 | byt y =>
  obtain⟨t,rfl⟩:=rx
  obtain⟨hy,e'⟩:y.size<=sizeLine/\k=((y.size:Int) != 0):=e
  subst e'
  exact W.truthy_bytes (by omega) ⟨H,I.tok _,q⟩
 | ref p =>
  cases rx
  have e':(∃ xs,SqL X.K H p xs/\k=!xs.isEmpty)\/(∃ xs,SqT X.K H p xs/\k=!xs.isEmpty)\/∃ kvs,H p=some (.dK kvs)/\k=!kvs.isEmpty:=e
  rcases e' with ⟨xs,hx,e'⟩ | ⟨xs,hx,e'⟩ | ⟨kvs,hx,e'⟩
  ·subst e'
   obtain⟨its,r,pl,hz⟩:=I.list hx
   have hlen:=r.length
   exact wpAny_truthy_list pl.isList (by simp only [Î]; omega) ⟨H,I.tok _,by rw [pU r]; exact q⟩
  ·subst e'
   obtain⟨its,r,pl,hz⟩:=I.tuple hx
   have hlen:=r.length
   exact truthy_tuple pl (by simp only [Î]; omega) ⟨H,I.tok _,by rw [pU r]; exact q⟩
  ·subst e'
   obtain⟨hz,hS,vs,r,m⟩:kvs.length<=sizeLine/\(p == sysModules)=false/\∃ vs,KV kvs vs/\s.heap.DictOf (aF X.prog X.w) p vs:=I.hok p _ hx
   have hlen:kvs.length=vs.length:=Paired.length r
   exact wpAny_truthy_dict hS m (by omega) ⟨H,I.tok _,by rw [yW r]; exact q⟩
 | _=>exact (show False from e).elim
theorem Fx (ha:PE X a ta) (he:∀ whole,isTrue a X.env whole=(do let v ← whole; standAt a.pos; holding [v] (truthy v))) :
  PT X a (fun σ H Q=>ta σ H fun x H'=>∃ k,Qx X.K x H' k/\Q k H'):=by
 intro pins s σ H Q I h
 exact isTrue_plain (thn (ha pins s σ H _ I h) fun v s1 ⟨x,H1,I1,r1,q1⟩=>Li pins s1 σ H1 x v Q I1 r1 q1) (he _)
theorem vals1 {x:V}{us:List Value} (r:Vals [x] us):∃ u,us=[u]/\RelV x u:=by
 cases r with
 | cons r1 r2=>cases r2; exact⟨_,rfl,r1⟩
theorem vals2 {x y:V}{us:List Value} (r:Vals [x,y] us):∃ u w',us=[u,w']/\RelV x u/\RelV y w':=by
 cases r with
 | cons r1 r2 =>
  cases r2 with
  | cons r3 r4=>cases r4; exact⟨_,_,rfl,r1,r3⟩
theorem qD:bx X (.builtin "abs") (fun xs H Q=>∃ i,xs=[.int i]/\Q (.int (if i<0 then -i else i)) H):=by
 intro pins s σ H xs us Q I r h
 obtain⟨i,rfl,q⟩:=h
 obtain⟨u,rfl,t,rfl⟩:=vals1 r
 exact call_abs_int fun u tk=>⟨.int (if i<0 then -i else i),H,I.tok _,⟨_,rfl⟩,q⟩
theorem Ed (hc:X.calm=true):bx X (.builtin "max") (fun xs H Q=>∃ i j,xs=[.int i,.int j]/\Q (.int (if j > i then j else i)) H):=by
 intro pins s σ H xs us Q I r h
 obtain⟨i,j,rfl,q⟩:=h
 obtain⟨u,w',rfl,⟨t,rfl⟩,⟨t',rfl⟩⟩:=vals2 r
 refine max_two_ints (I.ok.hd hc) fun h' tk k=>⟨_,H,I.kept k,?_,q⟩
 by_cases hj:j > i
 ·rw [if_pos hj,if_pos hj]; exact⟨_,rfl⟩
 ·rw [if_neg hj,if_neg hj]; exact⟨_,rfl⟩
theorem Ef:bx X (.type "int") (fun xs H Q=>(∃ i,xs=[.int i]/\Q (.int i) H)\/∃ k,xs=[.bl k]/\Q (.int (if k then 1 else 0)) H):=by
 intro pins s σ H xs us Q I r h
 rcases h with ⟨i,rfl,q⟩ | ⟨k,rfl,q⟩
 ·obtain⟨u,rfl,t,rfl⟩:=vals1 r
  exact call_int_int ⟨.int i,H,I,⟨_,rfl⟩,q⟩
 ·obtain⟨u,rfl,r1⟩:=vals1 r
  cases r1
  exact call_int_bool ⟨.int (if k then 1 else 0),H,I.tok _,⟨_,rfl⟩,q⟩
end
structure ObjM (h:Heap) (x dx C:Addr) (mA:Str->Option Value):Prop where
 obj:h.get? x=some (W.instObj C dx)
 ns:h.Ns1 dx mA
 ne:dx≠x
theorem Dj {h:Heap}{dx:Addr}{mA:Str->Option Value} (n:h.Ns1 dx mA):∃ od,h.get? dx=some od/\∀ name,W.lookIn name od=some (mA name):=by
 obtain⟨o,es,ep,ho,hd,hk,_,hm⟩:=n
 refine⟨o,ho,fun name=>?_⟩
 have e:=hm name
 unfold nsFind findBy at e
 rw [← Array.find?_toList] at e
 unfold W.lookIn
 rw [hd]
 dsimp only
 split
 ·rename_i y q
  rw [q] at e
  exact congrArg some e
 ·rename_i q
  rw [q] at e
  have a:es.toList.any (·.refKey)=false:=by
   rw [List.any_eq_false]
   intro y hy
   obtain⟨z,t,hkey⟩:=hk y (Array.mem_toList_iff.mp hy)
   simp [DictEntry.refKey,hkey]
  have a':¬ es.toList.any (·.refKey)=true:=by rw [a]; exact Ú
  rw [if_neg a']
  exact congrArg some e
theorem ObjM.look {h:Heap}{x dx C:Addr}{mA:Str->Option Value} (I:ObjM h x dx C mA):∃ od,W.InstAt h x (W.instObj C dx) C (some od)/\∀ name,W.lookIn name od=some (mA name) :=
 let ⟨od,ho,hl⟩:=Dj I.ns
 ⟨od,⟨I.obj,rfl,rfl,ho⟩,hl⟩
section
variable {prog:Program}{w:World}{A:Around}{E:Value->Shared->Prop}{s:Shared}{K:â}{x dx C f:Addr}{mA:Str->Option Value}{name:Str}{v:Value}
end
theorem qH.some_of {v:V}{o:Option Value} (r:qH (some v) o):∃ u,o=some u/\RelV v u:=by
 cases o with
 | none=>exact (show False from r).elim
 | some u=>exact⟨u,rfl,r⟩
section
variable {P:Program}{w:World}{H H':Hp}{h h':Heap}{a C dx:Addr}{fs fs':List (Str×V)}
theorem JR (hok:HOk P w H h) (e:H a=some (.ins C dx fs)):∃ mA,ObjM h a dx C mA/\(∀ f,qH (fs.lookup f) (mA f))/\PySem.Within mA (fs.map (·.1))/\fs.length<=1000/\H dx=some (.own a):=by
 obtain⟨d,z,ne,ob,mA,n,r,q⟩:=(show aV P w H h a (.ins C dx fs) from hok a _ e)
 exact⟨mA,⟨ob,n,ne⟩,r,q,z,d⟩
end
structure Cls (K:â) (C:Addr):Prop where
 pg:W.plainGet K C Str.empty=true
 hd:W.hasDictIn K C=true
 po:W.plainOver K C=true
 sa:W.findIn K (.ref C) "__setattr__"=some (some (.builtin "object.__setattr__"))
theorem Cls.get {K:â}{C:Addr} (c:Cls K C) (f:Str):W.plainGet K C f=true:=c.pg
structure Con (K:â) (C:Addr) (f:Str) (v:V) (u:Value):Prop where
 at_:W.findIn K (.ref C) f=some (some u)
 rel:RelV v u
 get:W.specialIn K u "__get__"=some none
 cp:W.copiedNames.contains f=false
structure Meth (K:â) (C:Addr) (m:Str) (f:Addr):Prop where
 at_:W.findIn K (.ref C) m=some (some (.ref f))
 fn:W.isFn K (.ref f)=true
 kp:W.keepIn K (.ref f)=true
section
variable {X:Cx}{pins:List (Addr×Obj)}{σ:St}{H:Hp}{s:Shared}{a C dx:Addr}{fs:List (Str×V)}{f:Str}{v:V}{A:Around}{E:Value->Shared->Prop}
end
section
variable {X:Cx}{o e value:Expr}{f:Str}{pos pos' tpos:Pos}{ta tv:TE}
end
section
variable {X:Cx}{pins:List (Addr×Obj)}{σ:St}{H:Hp}{s:Shared}{A:Around}{E:Value->Shared->Prop}{Q:Value->Shared->Prop}{c:Value}{b:Bool}
inductive TyOf (K:â) (H:Hp):V->Value->Prop where
 | non:TyOf K H .non (.type "NoneType")
 | bl (x:Bool):TyOf K H (.bl x) (.type "bool")
 | int (i:Int):TyOf K H (.int i) (.type "int")
 | str (x:Str):TyOf K H (.str x) (.type "str")
 | flt (x:UInt64):TyOf K H (.flt x) (.type "float")
 | lst {a:Addr}{xs:List V} (e:H a=some (.lst xs)):TyOf K H (.ref a) (.type "list")
 | frz {a:Addr}{o:Obj}{xs:List V} (e:H a=some (.frz o (.lst xs))):TyOf K H (.ref a) (.type "list")
 | tup {a:Addr}{xs:List V} (e:H a=some (.tup xs)):TyOf K H (.ref a) (.type "tuple")
 | dK {a:Addr}{kvs:List (Key×V)} (e:H a=some (.dK kvs)):TyOf K H (.ref a) (.type "dict")
 | dT {a:Addr}{kvs:List (List Key×V)} (e:H a=some (.dT kvs)):TyOf K H (.ref a) (.type "dict")
 | ins {a C dx:Addr}{fs:List (Str×V)} (e:H a=some (.ins C dx fs)) (cl:Cls K C) (ha:W.findIn K (.ref C) "__class__"=some (some (.builtin "object.__class__")))
   (hn:W.specialIn K (.builtin "object.__class__") "__get__"=some (some (.builtin "getset_descriptor.__get__"))) (htk:W.takesIn K (.builtin "object.__class__")=some true)
   (hm:W.mroIn K C (.type "object")=some true):TyOf K H (.ref a) (.ref C)
theorem Ds {x:V}{u t:Value} (I:Inv X pins σ H s) (rx:RelV x u) (ty:TyOf X.K H x t) (e:W.kitOne X.K t c=some b) (h:∀ tk,Q (.bool b) { s with toks:=tk }) :
  wpAny (model X.prog X.w) A (call (.builtin "isinstance") [u,c]) Q E s:=by
 cases ty with
 | non=>cases (show u=Ą from rx); exact W.kia_one W.kitx_none I.kIn Ŭ e (fun z=>nomatch z) h
 | bl y=>cases (show u=Value.bool y from rx); exact W.kia_one W.kitx_bool I.kIn Ŭ e (fun z=>nomatch z) h
 | int i=>obtain⟨t,q⟩:=(show ∃ t,u=Ŝ i t from rx); cases q; exact W.kia_one W.kitx_int I.kIn Ŭ e (fun z=>nomatch z) h
 | str y=>obtain⟨t,q⟩:=(show ∃ t,u=Value.str y t from rx); cases q; exact W.kia_one W.kitx_str I.kIn Ŭ e (fun z=>nomatch z) h
 | flt y=>obtain⟨t,q⟩:=(show ∃ t,u=Value.float y t from rx); cases q; exact W.kia_one W.kitx_float I.kIn Ŭ e (fun z=>nomatch z) h
 | @lst a xs ea =>
  cases (show u=ė a from rx)
  obtain⟨_,_,n,_,h1⟩:=(show aV X.prog X.w H s.heap a (.lst xs) from I.hok a _ ea)
  exact W.kia_one W.kitx_list I.kIn ⟨_,h1,rfl⟩ e (fun z=>nomatch z) h
 | @frz a ob xs ea =>
  cases (show u=ė a from rx)
  obtain⟨_,_,_,n,_,h1⟩:=(show aV X.prog X.w H s.heap a (.frz ob (.lst xs)) from I.hok a _ ea)
  exact W.kia_one W.kitx_list I.kIn ⟨_,h1,rfl⟩ e (fun z=>nomatch z) h
 | @tup a xs ea =>
  cases (show u=ė a from rx)
  obtain⟨_,_,_,p⟩:=(show aV X.prog X.w H s.heap a (.tup xs) from I.hok a _ ea)
  obtain⟨o,h1,h2,_⟩:=p
  exact W.kia_one W.kitx_tuple I.kIn ⟨o,h1,h2⟩ e (fun z=>nomatch z) h
 | @dK a kvs ea =>
  cases (show u=ė a from rx)
  obtain⟨_,_,vs,_,p⟩:=(show aV X.prog X.w H s.heap a (.dK kvs) from I.hok a _ ea)
  obtain⟨o,es,ep,h1,h2,_⟩:=p
  exact W.kia_one W.kitx_dict I.kIn ⟨o,h1,h2.1⟩ e (fun z=>nomatch z) h
 | @dT a kvs ea =>
  cases (show u=ė a from rx)
  obtain⟨_,_,xs,_,o,es,ep,h1,h2,_⟩:=(show aV X.prog X.w H s.heap a (.dT kvs) from I.hok a _ ea)
  exact W.kia_one W.kitx_dict I.kIn ⟨o,h1,h2.1⟩ e (fun z=>nomatch z) h
 | @ins a C dx fs ea cl ha hn htk hm =>
  cases (show u=ė a from rx)
  obtain⟨mA,O,_⟩:=JR I.hok ea
  obtain⟨od,J,_⟩:=O.look
  exact W.kia_one (W.kitx_own (cl.get _) cl.hd ha hn htk hm) I.kIn J e (fun z=>nomatch z) h
end
structure Room (k:Nat) (A:Around):Prop where
 hd:A.handled=none
 dp:A.depth+3 * k+5<recursionLimit
 un:A.units+16 * k+200<cLine
 gd:A.guards=some []
theorem Room.mono {j k:Nat}{A:Around} (r:Room k A) (h:j<=k):Room j A:=⟨r.hd,by have:=r.dp; omega,by have:=r.un; omega,r.gd⟩
theorem Room.deeper {k:Nat}{A:Around} (r:Room (k+1) A) (env:Env):Room k (A.deeper env) :=
 ⟨r.hd,by have:=r.dp; show A.depth+1+3 * k+5<_; omega,by have:=r.un; show A.units+3+16 * k+200<_; omega,r.gd⟩
theorem Room.depth {k:Nat}{A:Around} (r:Room k A):A.depth<recursionLimit:=by have:=r.dp; omega
theorem Room.units {k:Nat}{A:Around} (r:Room k A):A.units+64<cLine:=by have:=r.un; omega
def Lk:TA:=fun _ H Q=>Q [] H
def vA (ta:TE) (tr:TA):TA:=fun σ H Q=>ta σ H fun x H1=>tr σ H1 fun xs H2=>Q (x::xs) H2
section
variable {X:Cx}{e:Expr}{es:List Expr}{te:TE}{t:TA}{pos:Pos}
theorem dY:PA X [] Lk:=fun _ _ _ _ H Q I h=>Calls.spliced_nil ⟨[],H,I,.nil,h⟩
theorem bN (ha:PE X e te) (hr:PA X es t) (hs:starEach (e::es) X.env=(false,eval e X.env)::starEach es X.env:=by rfl):PA X (e::es) (vA te t):=by
 intro pos pins s σ H Q I h
 rw [hs]
 show wpAny _ _ (spliced ((false,eval e X.env)::backTo pos (starEach es X.env))) _ _ s
 refine Calls.spliced_cons (thn (ha pins s σ H _ I h) fun u s1 ⟨x,H1,I1,r1,q1⟩=>?_)
 exact thn (hr pos pins s1 σ H1 _ I1 q1) fun us s2 ⟨xs,H2,I2,r2,q2⟩=>⟨x::xs,H2,I2,.cons r1 r2,q2⟩
def QF (t:TA):TE:=fun σ H Q=>t σ H fun xs H1=>xs.length<=sizeLine/\∀ p,H1 p=none->Q (.ref p) (upd H1 p (.tup xs))
def Lp (t:TA):TE:=fun σ H Q=>t σ H fun xs H1=>xs.length<=sizeLine/\∀ p,H1 p=none->Q (.ref p) (upd H1 p (.lst xs))
theorem Mu {x1} (h:PA X es t):PE X (.Tuple es x1 pos) (QF t):=by
 intro pins s σ H Q I hq
 refine wpAny_Tuple_spliced (thn (h pos pins s σ H _ I hq) fun us s1 ⟨xs,H1,I1,r,z,q⟩=>⟨by rw [← r.length]; exact z,?_⟩)
 have hf:H1 s1.heap.objs.size=none:=I1.hok.fresh (Ò _)
 refine⟨.ref s1.heap.objs.size,upd H1 s1.heap.objs.size (.tup xs),I1.laid (t':=s1.toks) (fun b u e=>È _ e) (Ò _) ?_,rfl,q _ hf⟩
 exact⟨z,us,r,⟨_,Ô _ rfl,rfl,_,rfl⟩⟩
theorem yu (h:PA X es t):PE X (.List es pos) (Lp t):=by
 intro pins s σ H Q I hq
 refine wpAny_List_spliced (thn (h pos pins s σ H _ I hq) fun us s1 ⟨xs,H1,I1,r,z,q⟩=>⟨by rw [← r.length]; exact z,?_⟩)
 have hf:H1 s1.heap.objs.size=none:=I1.hok.fresh (Ò _)
 refine⟨.ref s1.heap.objs.size,upd H1 s1.heap.objs.size (.lst xs),I1.laid (t':=s1.toks) (fun b u e=>È _ e) (Ò _) ?_,rfl,q _ hf⟩
 exact⟨z,us,0,r,Ô _ rfl⟩
end
abbrev Sp:=List V->Hp->VK->XK->Prop
abbrev CXT:=List Env->Hp->Shared->XK->Value->Shared->Prop
structure Env0 (P:Program) (w:World) (K:â) (mg:Str->Option Value) (base:Heap) (A:Around) (outer:List Env) (s:Shared) (H:Hp):Prop where
 frames:A.frames=some outer
 mod:Mod K mg base
 bs:∀ b o,base.get? b=some o->s.heap.get? b=some o/\H b=none
 bsz:base.objs.size<=s.heap.objs.size
 pZ:s.heap.FunFrames base outer
 frf:∀ b∈frs outer,H b=none
 hok:HOk P w H s.heap
 bare:AllBare s.gens
def CE (outer:List Env) (P:Program) (w:World) (H:Hp) (s:Shared) (Q:VK) (u:Value) (s':Shared):Prop :=
 ∃ v H',s'.os=s.os/\AllBare s'.gens/\Un (frs outer) [] H H' s.heap s'.heap/\HOk P w H' s'.heap/\RelV v u/\Q v H'
def CR (CX:CXT) (outer:List Env) (P:Program) (w:World) (H:Hp) (s:Shared) (Q:VK) (E:XK) (r:Result) (s':Shared):Prop :=
 match r with
 | .ok (.ret u)=>CE outer P w H s Q u s'
 | .ok _=>False
 | .error e=>CX outer H s E e s'
structure FnOk (P:Program) (w:World) (K:â) (mg:Str->Option Value) (base:Heap) (CX:CXT) (k:Nat) (f:Addr) (fd:FuncData) (ps:List Str) (sp:Sp):Prop where
 len:∀ vs H Q E,sp vs H Q E->vs.length=ps.length
 run:∀ (A:Around) (outer:List Env) (s:Shared) (H:Hp) (args:Args) (us:List Value) (vs:List V) (Q:VK) (E:XK),Room k A->Env0 P w K mg base A outer s H->BindsTo s fd args (ps.zip us)->Vals vs us->sp vs H Q E ->
  codeAny (model P w) A (.call (.ref f) args) (CR CX outer P w H s Q E) s
section
variable {X:Cx}{pins:List (Addr×Obj)}{σ:St}{H:Hp}{s s':Shared}
theorem Inv.env0 (I:Inv X pins σ H s):Env0 X.prog X.w X.K X.mg X.base X.A X.stack s H :=
 ⟨I.ok.frames,I.ok.mod,I.bs,Ć I.ok.bsz I.sz,I.stack,I.Ak,I.hok,I.bare⟩
theorem Inv.after {Q:VK}{u:Value} (I:Inv X pins σ H s) (h:CE X.stack X.prog X.w H s Q u s'):EP X pins σ Q u s':=by
 obtain⟨v,H',os,bare,un,hok,r,q⟩:=h
 obtain⟨hh,g,d,t,os'⟩:=s'
 obtain rfl:os'=s.os:=os
 exact⟨v,H',I.call (h':=hh) (g':=g) (d':=d) (t':=t) (ch:=[]) un hok bare (fun b z=>absurd z (by simp)),r,q⟩
end
def Aj (sp:Sp) (dvs:List V) (E:XK) (t:TA):TE:=fun σ H Q=>t σ H fun vs H1=>sp (vs++dvs) H1 Q E
def Binds (K:â) (fd:FuncData) (ps:List Str) (ds:List Value):Prop :=
 ∀ (s:Shared) (us:List Value),K.In s.heap->(us++ds).length=ps.length->BindsTo s fd ⟨us,[]⟩ (ps.zip (us++ds))
theorem Binds.all {K:â}{fd:FuncData}{ps:List Str} (h:∀ us:List Value,us.length=ps.length->bindArgs fd ⟨us,[]⟩=pure (ps.zip us)):Binds K fd ps []:=fun s us _ hl=>by
 rw [ğ] at hl ⊢
 exact .of_eq (h us hl)
def Passes (CX:CXT) (X:Cx) (E:XK):Prop:=∀ (pins:List (Addr×Obj)) (σ:St) (H:Hp) (s:Shared) (e:Value) (s':Shared),Inv X pins σ H s->CX X.stack H s E e s'->X.xe e s'
section
variable {X:Cx}{CX:CXT}{k:Nat}{f C:Addr}{fd:FuncData}{ps:List Str}{sp:Sp}{dvs:List V}{ds:List Value}{E:XK}{x m:Str}{p pos apos:Pos}{e o:Expr}{es:List Expr}{ta:TE}{t:TA}
theorem LC {pins:List (Addr×Obj)}{σ:St}{H:Hp}{s:Shared}{Q:VK}{us:List Value}{vs:List V} (F:FnOk X.prog X.w X.K X.mg X.base CX k f fd ps sp) (hr:Room k X.A) (hb:Binds X.K fd ps ds) (hd:Vals dvs ds) (hx:Passes CX X E)
  (I:Inv X pins σ H s) (r:Vals vs us) (h:sp (vs++dvs) H Q E):wpAny (model X.prog X.w) X.A (call (.ref f) us) (EP X pins σ Q) X.xe s:=by
 have r2:Vals (vs++dvs) (us++ds):=r.append hd
 have hl:(us++ds).length=ps.length:=by rw [← r2.length]; exact F.len _ _ _ _ h
 refine wpAny_call (codeAny_mono (F.run X.A X.stack s H ⟨us,[]⟩ (us++ds) (vs++dvs) Q E hr I.env0 (hb s us I.kIn hl) r2 h) fun r s' hq=>?_)
 cases r with
 | error e=>exact hx pins σ H s e s' I hq
 | ok fl =>
  cases fl with
  | ret u=>exact I.after hq
  | next=>exact Ť hq
  | brk=>exact Ť hq
  | cont=>exact Ť hq
theorem Jo (F:FnOk X.prog X.w X.K X.mg X.base CX k f fd ps sp) (hr:Room k X.A) (hg:Gl X x) (hm:X.mg x=some (.ref f)) (hk:W.keepIn X.K (.ref f)=true) (hb:Binds X.K fd ps ds) (hd:Vals dvs ds) (hx:Passes CX X E)
  (ha:PA X (e::es) t) (hdb:(x == ("__debug__":Str))=false:=by decide) (he:starEach (e::es) X.env=(false,eval e X.env)::starEach es X.env:=by rfl) (hpl:(backTo pos (starEach es X.env)).any (·.1)=false:=by rfl) :
  PE X (.Call (.Name x p) (e::es) [] pos) (Aj sp dvs E t):=by
 intro pins s σ H Q I h
 refine wpAny_Call_Name_kw (JN I hg hm ?_ hdb)
 refine W.callWith_K (h₀:=X.base) I.ok.mod.kin hk (thn (ha pos pins s σ H _ I h) fun us s1 ⟨vs,H1,I1,r,q⟩=>⟨I1.kIn,?_⟩) he hpl
 exact LC F hr hb hd hx I1 r q
structure Mk (K:â) (C f:Addr):Prop where
 makes:W.makesIn K C=true
 init:W.findIn K (.ref C) "__init__"=some (some (.ref f))
 fn:W.isFn K (.ref f)=true
 kp:W.keepIn K (.ref C)=true
end
section
variable {X:Cx}{CX:CXT}{k:Nat}{f C:Addr}{fd:FuncData}{ps ks:List Str}{sp:Sp}{E:XK}{x m:Str}{p pos apos kpos:Pos}{e o:Expr}{es:List Expr}{kws:List Keyword}{te ta:TE}{t tk:TA}{nm:Option Str}
structure KBinds (K:â) (fd:FuncData) (ps ks:List Str) (g:List Value->List Value->List Value) (gV:List V->List V->List V):Prop where
 to:∀ (s:Shared) (us ws:List Value),K.In s.heap->(g us ws).length=ps.length->BindsTo s fd ⟨us,ks.zip ws⟩ (ps.zip (g us ws))
 rel:∀ {vs:List V}{us:List Value}{zs:List V}{ws:List Value},Vals vs us->Vals zs ws->Vals (gV vs zs) (g us ws)
variable {g:List Value->List Value->List Value}{gV:List V->List V->List V}
end
structure FnScope (N P:List Str) (sc:Scope):Prop where
 kind:sc.kind=.function
 co:sc.isCoroutine=false
 gen:sc.isGenerator=false
 nd:N.Nodup
 pre:N.take P.length=P
 par:∀ x∈P,sc.names.lookup x=some .local\/sc.names.lookup x=some .cell
 nofree:∀ y∈sc.names,y.2≠.free
theorem zC {N P:List Str}{sc:Scope} (a:sc.kind=.function:=by rfl) (b:sc.isCoroutine=false:=by rfl) (c:sc.isGenerator=false:=by rfl) (d:N.Nodup:=by decide +kernel) (e:N.take P.length=P:=by rfl) (f:∀ x∈P,sc.names.lookup x=some .local\/sc.names.lookup x=some .cell:=by decide +kernel) (g:∀ y∈sc.names,y.2≠.free:=by decide +kernel):FnScope N P sc:=⟨a,b,c,d,e,f,g⟩
theorem rY {kindOf:Str->Option NameKind}{x:Str}:∀ {binds:List (Str×Value)}{m:Str->Option Value},(∀ v,(x,v)∉binds)->bindL kindOf binds m x=m x
 | [],_,_=>rfl
 | (n,v)::r,m,h=>by
  unfold bindL
  rw [rY fun w hw=>h w (Í _ hw)]
  split
  ·have:x≠n:=by rintro rfl; exact h v Ï
   simp [this]
  ·rfl
theorem su {kindOf:Str->Option NameKind}{x:Str}:∀ {binds:List (Str×Value)}{m:Str->Option Value},(∀ v,(x,v)∉binds)->bindC kindOf binds m x=m x
 | [],_,_=>rfl
 | (n,v)::r,m,h=>by
  unfold bindC
  rw [su fun w hw=>h w (Í _ hw)]
  split
  ·rfl
  ·have:x≠n:=by rintro rfl; exact h v Ï
   simp [this]
theorem rZ {kindOf:Str->Option NameKind}{x:Str}{v:Value}:∀ {P:List Str}{vs:List Value}{i:Nat}{m:Str->Option Value},P.Nodup->P[i]?=some x->vs[i]?=some v->kindOf x=some .local ->
  bindL kindOf (P.zip vs) m x=some v
 | [],_,_,_,_,h,_,_=>by simp at h
 | _::_,[],_,_,_,_,h,_=>by simp at h
 | p::P,w::vs,0,m,nd,h1,h2,hk=>by
  simp at h1 h2; subst h1; subst h2
  show bindL kindOf ((p,w)::P.zip vs) m p=_
  unfold bindL
  rw [rY fun v hv=>(Š.mp nd).1 (List.of_mem_zip hv).1,if_pos hk]
  simp
 | p::P,w::vs,i+1,m,nd,h1,h2,hk=>by
  show bindL kindOf ((p,w)::P.zip vs) m x=_
  unfold bindL
  exact rZ (i:=i) (Š.mp nd).2 (by simpa using h1) (by simpa using h2) hk
theorem sE {kindOf:Str->Option NameKind}{x:Str}{v:Value}:∀ {P:List Str}{vs:List Value}{i:Nat}{m:Str->Option Value},P.Nodup->P[i]?=some x->vs[i]?=some v->kindOf x≠some .local ->
  bindC kindOf (P.zip vs) m x=some v
 | [],_,_,_,_,h,_,_=>by simp at h
 | _::_,[],_,_,_,_,h,_=>by simp at h
 | p::P,w::vs,0,m,nd,h1,h2,hk=>by
  simp at h1 h2; subst h1; subst h2
  show bindC kindOf ((p,w)::P.zip vs) m p=_
  unfold bindC
  rw [su fun v hv=>(Š.mp nd).1 (List.of_mem_zip hv).1,if_neg hk]
  simp
 | p::P,w::vs,i+1,m,nd,h1,h2,hk=>by
  show bindC kindOf ((p,w)::P.zip vs) m x=_
  unfold bindC
  exact sE (i:=i) (Š.mp nd).2 (by simpa using h1) (by simpa using h2) hk
def start (N:List Str) (vs:List V):St:=vs.map some++Ó (N.length - vs.length) none
def DP (CX:CXT) (P:Program) (w:World) (K:â) (mg:Str->Option Value) (base:Heap) (N:List Str) (qual:Str) (scope:Scope) (f:Addr) (cd:Value) (A:Around) (outer:List Env) (s:Shared) (H:Hp) (E:XK):Cx where
 prog:=P
 w:=w
 K:=K
 mg:=mg
 base:=base
 A:=A.deeper (envOfC qual scope s.heap.objs.size f cd)
 N:=N
 s₀:=s
 H₀:=H
 env:=envOfC qual scope s.heap.objs.size f cd
 outer:=outer
 stack:=envOfC qual scope s.heap.objs.size f cd::outer
 ex:=[]
 calm:=true
 fn:=fun _=>true
 pn:=[]
 xe:=fun e s'=>wpAny (model P w) (A.deeper (envOfC qual scope s.heap.objs.size f cd)) (leaving (envOfC qual scope s.heap.objs.size f cd) e) (fun _ s''=>CX outer H s E e s'') (fun e' s''=>CX outer H s E e' s'') s'
theorem xq {sc:Scope}{n:Nat}{x:Str} (h:sc.names.lookup x=some .cell):∃ c,(cellsFrom n sc.names []).lookup x=some c:=by
 have q:=W.cellsFrom_some sc.names n [] (.inl h)
 exact Option.isSome_iff_exists.mp q
theorem Dt {CX:CXT}{P:Program}{w:World}{K:â}{mg:Str->Option Value}{base:Heap}{N ps:List Str}{qual:Str}{scope:Scope}{f:Addr}{cd:Value}{A:Around}{outer:List Env}{s s1:Shared}{H:Hp}{E:XK}{us:List Value}{vs:List V}
  (S:FnScope N ps scope) (hd:A.handled=none) (e0:Env0 P w K mg base A outer s H) (hl:vs.length=ps.length) (r:Vals vs us)
  (x:InCallC s s.heap.objs.size (bindL (envOfC qual scope s.heap.objs.size f cd).kindOf (ps.zip us) fun _=>none) (cellsFrom (s.heap.objs.size+1) scope.names []) (bindC (envOfC qual scope s.heap.objs.size f cd).kindOf (ps.zip us) fun _=>none) s1) :
  Inv (DP CX P w K mg base N qual scope f cd A outer s H E) [] (start N vs) H s1:=by
 have hpl:ps.length<=N.length:=by have:=congrArg List.length S.pre; rw [ć] at this; omega
 obtain⟨h1,tk,rfl,hk⟩:=x.done
 have noA:∀ b:Addr,b∉(DP CX P w K mg base N qual scope f cd A outer s H E).ex:=fun b z=>absurd (show b∈([]:List Addr) from z) (by simp)
 refine⟨⟨e0.mod,S.kind,rfl,rfl,Ò _,fun y z c h1 h2=>?_,fun y hy=>?_,fun y c _ h=>?_,fun _=>hd,Around.frames_deeper e0.frames,.inr ⟨rfl,rfl⟩,fun b z=>absurd z (noA b),e0.bs,e0.bsz,fun b _ _=>noA b,fun b z=>absurd z (noA b),e0.pZ,e0.frf,fun q z=>nomatch (show q∈([]:List (Addr×Obj×HO)) from z)⟩,
  rfl,e0.bare,Un.kept hk,⟨_,x.toInCall.ns,fun i y v h1 h2 h3=>?_⟩,fun y c h=>⟨_,x.cell y c h⟩,e0.hok.fresh (Ò _),fun y c h=>?_,fun p hp=>absurd (show p∈([]:List (Addr×Obj)) from hp) (by simp),e0.hok.kept hk,?_⟩
 ·exact name_of_addr x.apart (ŏ h1) (ŏ h2)
 ·have hy:scope.names.lookup y=some .cell\/scope.names.lookup y=some .free:=hy
  rcases hy with hy | hy
  ·exact xq hy
  ·exact absurd rfl (S.nofree _ (ŏ hy))
 ·exact Nat.le_of_lt (x.above y c (ŏ h))
 ·have hi:i<vs.length:=by
   unfold start at h2
   by_cases hi:i<vs.length
   ·exact hi
   ·rw [ġ (by simpa using hi)] at h2
    rw [ũ] at h2
    split at h2 <;> cases h2
  have ha:vs[i]?=some v:=by
   unfold start at h2
   rw [Ħ (by simpa using hi),Ö] at h2
   cases e:vs[i]? with
   | none=>rw [e] at h2; cases h2
   | some a=>rw [e] at h2; cases h2; rfl
  obtain⟨u,hu,rv⟩:=r.get ha
  have hp:ps[i]?=some y:=by
   rw [← S.pre,List.getElem?_take_of_lt (by omega)]; exact h1
  have ndP:ps.Nodup:=by rw [← S.pre]; exact S.nd.sublist (List.take_sublist _ _)
  refine⟨u,rv,?_⟩
  rcases S.par y (Æ hp) with k | k
  ·exact .inl ⟨k,rZ ndP hp hu k⟩
  ·obtain⟨c,e⟩:=xq (n:=s.heap.objs.size+1) k
   refine .inr ⟨.inl k,c,e,?_⟩
   have q:=x.cell y c e
   rw [sE ndP hp hu (by show scope.names.lookup y≠_; rw [k]; decide)] at q
   exact q
 ·exact e0.hok.fresh (Nat.le_of_lt (x.above y c (ŏ h)))
 ·unfold start
  show _=N.length
  rw [Ý,Á,Ņ]
  omega
theorem Qj {CX:CXT}{P:Program}{w:World}{K:â}{mg:Str->Option Value}{base:Heap}{k:Nat}{f:Addr}{name qual:Str}{params:Arguments}{body:List Stmt}{scope:Scope}{dV kV doc pm cdv ct oc:Value}{an od:Option Addr}
  {osl:Array (Option Value)}{N ps:List Str}{sp:Sp} (lk:K.lookup f=some ⟨oc,od,.func (W.fnOf name qual params body scope dV kV doc pm an cdv ct),osl⟩) (hcd:W.codeIn K cdv qual=true) (S:FnScope N ps scope)
  (len:∀ vs H Q E,sp vs H Q E->vs.length=ps.length)
  (hbody:∀ (A:Around) (outer:List Env) (s:Shared) (H:Hp) (vs:List V) (Q:VK) (E:XK),Room k (A.deeper (envOfC qual scope s.heap.objs.size f cdv))->sp vs H Q E ->
   ∃ t,PSs (DP CX P w K mg base N qual scope f cdv A outer s H E) body t/\t { nx:=fun _ H'=>Q .non H',rt:=Q } (start N vs) H) :
  FnOk P w K mg base CX (k+1) f (W.fnOf name qual params body scope dV kV doc pm an cdv ct) ps sp:=by
 refine⟨len,fun A outer s H args us vs Q E hr e0 hb r hsp=>?_⟩
 have hl:=len _ _ _ _ hsp
 have KX:K.In s.heap:=e0.mod.kin.keeps fun b o e=>(e0.bs b o e).1
 have lim:s.heap.NoLimit:=e0.mod.nolimit.keeps fun b o e=>(e0.bs b o e).1
 have hkind:∀ y∈ps.zip us,scope.names.lookup y.1=some .local\/(scope.names.lookup y.1=some .cell/\((cellsFrom (s.heap.objs.size+1) scope.names []).lookup y.1).isSome=true):=fun ⟨n,v⟩ hy=>by
  rcases S.par n (List.of_mem_zip hy).1 with q | q
  ·exact .inl q
  ·exact .inr ⟨q,W.cellsFrom_some _ _ _ (.inl q)⟩
 refine codeAny_call_function hr.depth (KX _ _ lk) rfl S.co S.gen rfl (W.codeRec_of KX hcd) (hb _ _ _ _ ?_)
 refine wpAny_newFunctionEnv_cells S.kind hkind fun env he s1 x=>?_
 subst he
 refine⟨lim.keeps x.toInCall.keep,codeAny_func ?_⟩
 obtain⟨t,ht,hq⟩:=hbody A outer s H vs Q E (hr.deeper _) hsp
 have I:Inv (DP CX P w K mg base N qual scope f cdv A outer s H E) [] (start N vs) H s1:=Dt S hr.hd e0 hl r x
 refine Ĳ (ht [] s1 (start N vs) H _ I hq) (fun fl s' hs=>?_) fun e s' hs=>hs
 have fin:∀ {σ':St}{H':Hp}{v:V}{u:Value},Inv (DP CX P w K mg base N qual scope f cdv A outer s H E) [] σ' H' s'->RelV v u->Q v H'->CE outer P w H s Q u s' :=
  fun {σ' H' v u} J rv q=>⟨v,H',J.os,J.bare,J.base,J.hok,rv,q⟩
 cases fl with
 | ret u =>
  obtain⟨v,σ',H',J,rv,q⟩:=hs
  exact fin J rv q
 | next =>
  obtain⟨σ',H',J,q⟩:=hs
  exact fin (v:=V.non) (u:=Ą) J rfl q
 | brk =>
  obtain⟨_,_,_,q⟩:=hs
  exact Ť q
 | cont =>
  obtain⟨_,_,_,q⟩:=hs
  exact Ť q
section
variable {X:Cx}{x:Str}{p pos:Pos}{e:Expr}{es:List Expr}{t:TA}{id T:String}{r:List V->Hp->VK->Prop}
def tCB (r:List V->Hp->VK->Prop) (t:TA):TE:=fun σ H Q=>t σ H fun vs H1=>r vs H1 Q
theorem cG (hc:bx X (.builtin id) r) (hg:Gl X x) (hm:X.mg x=none) (hv:bootBuiltins x=some (.builtin id)) (ha:PA X (e::es) t) (hn:x≠"__name__":=by decide) (hdb:(x == ("__debug__":Str))=false:=by decide)
  (he:starEach (e::es) X.env=(false,eval e X.env)::starEach es X.env:=by rfl) (hpl:(backTo pos (starEach es X.env)).any (·.1)=false:=by rfl):PE X (.Call (.Name x p) (e::es) [] pos) (tCB r t):=by
 intro pins s σ H Q I h
 refine wpAny_Call_Name_kw (gF I hg hm hv ?_ hn hdb)
 exact PyProof.Rows.callWith_builtin1 (thn (ha pos pins s σ H _ I h) fun us s1 ⟨vs,H1,I1,r1,q1⟩=>hc pins s1 σ H1 vs us Q I1 r1 q1) he hpl
theorem rB (hc:bx X (.type T) r) (hg:Gl X x) (hm:X.mg x=none) (hv:bootBuiltins x=some (.type T)) (ha:PA X (e::es) t) (hn:x≠"__name__":=by decide) (hdb:(x == ("__debug__":Str))=false:=by decide)
  (he:starEach (e::es) X.env=(false,eval e X.env)::starEach es X.env:=by rfl) (hpl:(backTo pos (starEach es X.env)).any (·.1)=false:=by rfl):PE X (.Call (.Name x p) (e::es) [] pos) (tCB r t):=by
 intro pins s σ H Q I h
 refine wpAny_Call_Name_kw (gF I hg hm hv ?_ hn hdb)
 exact ĩ (thn (ha pos pins s σ H _ I h) fun us s1 ⟨vs,H1,I1,r1,q1⟩=>hc pins s1 σ H1 vs us Q I1 r1 q1) he hpl
end
end L2
namespace HT
open PySem PyProof.Rows
section
open PySem.SeqAt
open PySem.AutoSeq1 (wpAny_loadPart')
open PySem.MeetsSeq PySem.MeetsSeq2 PySem.MeetsSeq3
end
section
variable {prog:Program}{w:World}{A:Around}{E:Value->Shared->Prop}{s:Shared}
theorem Ka {t b:Addr}{vs ws:List Value}{Q:Value->Shared->Prop} (ht:IsTup s.heap t vs.toArray) (hb:IsTup s.heap b ws.toArray) (hv:vs≠[])
  (h1:ws=[]->Q (.ref t) s) (h2:ws≠[]->Q (.ref s.heap.objs.size) { s with heap:=s.heap.push { cls:=.type "tuple",data:=.seq (vs++ws).toArray } })
  (hsz:vs.length+ws.length<=sizeLine):wpAny (model prog w) A (binaryOp .Add (.ref t) (.ref b)) Q E s:=by
 obtain⟨⟨cls,dd,data,sl⟩,ho,hc,n,hd⟩:=id ht
 obtain⟨⟨cls2,dd2,data2,sl2⟩,ho2,hc2,n2,hd2⟩:=id hb
 simp only at hc hd hc2 hd2
 subst hc hd hc2 hd2
 have e:vs.toArray++ws.toArray=(vs++ws).toArray:=by simp
 by_cases hw:ws=[]
 ·exact concat_meets ⟨_,ho,rfl⟩ ⟨_,ho2,rfl⟩ noFill_tuple_add seq_tuple_add PySem.F.slot_tuple_add PySem.F.entry_tuple_add (PySem.F.args_tuple_add_2 _ _)
   (tuple_addW1 t b vs.toArray ws.toArray n n2 dd dd2 sl sl2 (by simpa using hv) (by simp [hw])) ⟨ho,ho2,h1 hw⟩
 ·refine concat_meets ⟨_,ho,rfl⟩ ⟨_,ho2,rfl⟩ noFill_tuple_add seq_tuple_add PySem.F.slot_tuple_add PySem.F.entry_tuple_add (PySem.F.args_tuple_add_2 _ _)
   (tuple_addW2 t b vs.toArray ws.toArray n n2 dd dd2 sl sl2 (by simpa using hv) (by simpa using hw) (by rw [Î,Î]; exact hsz)) ⟨ho,ho2,?_⟩
  rw [e]
  exact h2 hw
def sIx (n d:Nat):Option Int->Nat
 | none=>d
 | some v=>if v<0 then (v+(n:Int)).toNat else min v.toNat n
theorem Az (n d k:Nat):sIx n d (some (k:Int))=min k n:=by
 show (if (k:Int)<0 then ((k:Int)+(n:Int)).toNat else min (k:Int).toNat n)=min k n
 rw [if_neg (by omega),á]
theorem Lz (n d:Nat) (hd:d<=n) (o:Option Int):sIx n d o<=n:=by
 cases o with
 | none=>exact hd
 | some v =>
  show (if v<0 then (v+(n:Int)).toNat else min v.toNat n)<=n
  by_cases hv:v<0
  ·rw [if_pos hv]; omega
  ·rw [if_neg hv]; exact Nat.min_le_right _ _
theorem Ci (v:Int) (n d:Nat):(if v<0 then max (v+(n:Int)) 0 else min v (n:Int))=((sIx n d (some v):Nat):Int):=by
 show (if v<0 then max (v+(n:Int)) 0 else min v (n:Int))=(((if v<0 then (v+(n:Int)).toNat else min v.toNat n):Nat):Int)
 by_cases hv:v<0
 ·simp only [if_pos hv]; omega
 ·simp only [if_neg hv]; omega
theorem Ae (lo hi:Option Int) (n:Nat):Builtin.Slice.sliceAdjust lo hi 1 (n:Int)=(((sIx n 0 lo:Nat):Int),((sIx n n hi:Nat):Int)):=by
 have h1:¬ ((1:Int)<0):=by omega
 unfold Builtin.Slice.sliceAdjust
 simp only [h1,if_false]
 refine Prod.ext ?_ ?_
 ·cases lo with
  | none=>rfl
  | some v=>exact Ci v n 0
 ·cases hi with
  | none=>rfl
  | some v=>exact Ci v n n
theorem yq (i j:Nat):Ų (i:Int) (j:Int) 1=j - i:=by
 unfold Ų
 have h1:(1:Int) > 0:=by omega
 simp only [h1,if_true,Int.ediv_one]
 split <;> omega
theorem oK {v:Value}{o:Option Int}{Q:Option Int->Shared->Prop} (p:IsPart v o) (h:Q o s):wpAny (model prog w) A (Builtin.Slice.slicePartIndex v) Q E s:=by
 cases p with
 | none=>exact slicePart_none h
 | int i t=>exact slicePart_int h
theorem lR {sl:Addr}{vl vu:Value}{lo hi:Option Int}{n:Nat}{Q:Int×Int×Nat->Shared->Prop} (hs:s.heap.IsSliceOf sl vl vu .none) (pl:IsPart vl lo) (pu:IsPart vu hi)
  (h:Q (((sIx n 0 lo:Nat):Int),1,sIx n n hi - sIx n 0 lo) s):wpAny (model prog w) A (Builtin.Slice.sliceApplied (.ref sl) (pure (n:Int))) Q E s:=by
 obtain⟨os,hos,hcs,hds⟩:=id hs
 unfold Builtin.Slice.sliceApplied Builtin.Slice.sliceFields
 refine À (À (ŧ hos hds (x:=vl) rfl (À (ŧ hos hds (x:=vu) rfl (À (ŧ hos hds (x:=.none) rfl (Å ?_)))))))
 refine À (slicePart_none ?_)
 show wpAny _ _ (if ((1:Int) == 0)=true then _ else _) _ _ s
 rw [if_neg (by decide)]
 refine À (oK pl (À (oK pu (À (Å ?_)))))
 show wpAny _ _ (match Builtin.Slice.sliceAdjust lo hi 1 (n:Int) with | (lo,hi)=>pure (lo,(1:Int),Ų lo hi 1)) _ _ s
 rw [Ae lo hi n]
 show wpAny _ _ (pure (((sIx n 0 lo:Nat):Int),(1:Int),Ų ((sIx n 0 lo:Nat):Int) ((sIx n n hi:Nat):Int) 1)) _ _ s
 rw [yq]
 exact Å h
theorem FP (xs:Array Value) (i k:Nat):((Ë k).filterMap fun (m:Nat)=>xs[((i:Int)+(m:Int) * 1).toNat]?).toArray=((xs.toList.drop i).take k).toArray:=by
 have e:(fun (m:Nat)=>xs[((i:Int)+(m:Int) * 1).toNat]?)=fun m=>xs[i+m]?:=by
  funext m
  have:((i:Int)+(m:Int) * 1).toNat=i+m:=by omega
  rw [this]
 rw [e]
 have:=pick_run xs i k
 rw [List.filterMap_map] at this
 have e2:((fun x=>xs[x]?) ∘ fun x=>i+x)=fun m=>xs[i+m]?:=rfl
 rw [e2] at this
 rw [this]
theorem lg {t sl:Addr}{items:Array Value}{vl vu:Value}{lo hi:Option Int}{Q:Value->Shared->Prop} (ht:IsTup s.heap t items) (hs:s.heap.IsSliceOf sl vl vu .none) (pl:IsPart vl lo) (pu:IsPart vu hi)
  (hw:¬ (sIx items.size 0 lo=0/\sIx items.size items.size hi=items.size))
  (h:Q (.ref s.heap.objs.size) { s with heap:=s.heap.push { cls:=.type "tuple",data:=.seq ((items.toList.drop (sIx items.size 0 lo)).take (sIx items.size items.size hi - sIx items.size 0 lo)).toArray } })
  (hsz:items.size<=sizeLine):wpAny (model prog w) A (getItem (.ref t) (.ref sl)) Q E s:=by
 have htake:sizeOk (.seq ((items.toList.drop (sIx items.size 0 lo)).take (sIx items.size items.size hi - sIx items.size 0 lo)).toArray):=by
  show ((items.toList.drop (sIx items.size 0 lo)).take (sIx items.size items.size hi - sIx items.size 0 lo)).toArray.size<=sizeLine
  rw [Î,ć,ŕ,ñ]
  omega
 have hj:sIx items.size items.size hi<=items.size:=Lz _ _ (Ò _) hi
 obtain⟨os,hos,hcs,hds⟩:=id hs
 have hTs:s.TypeIs (.ref sl) "slice":=⟨os,hos,hcs⟩
 unfold getItem
 try with_reducible refine ò ?_
 first | refine À (Å ?_) | skip
 refine À (wpAny_sequenceKey ht.typeIs (by decide) ?_)
 refine À (Đ (name:=ŋ "__getitem__") ht.typeIs PyProof.Rows.slot_tuple_getitem
  (ü PyProof.Rows.slot_tuple_getitem ht.typeIs entry_tuple_getitem ?_ (args_tuple_getitem _ _)))
 show wpAny _ _ (Builtin.Tuple.tupleItemsOf (.ref t) >>= _) _ _ s
 refine À (tupleItemsOf_ ht ?_)
 refine À (wpAny_typeOf hTs ?_)
 rw [if_pos (by decide)]
 refine À (lR hs pl pu ?_)
 have hno:¬ ((((sIx items.size 0 lo:Nat):Int) == 0&&(1:Int) == 1&&(sIx items.size items.size hi - sIx items.size 0 lo) == items.size)=true):=by
  intro q
  rw [Ü,Ü] at q
  have q1:((sIx items.size 0 lo:Nat):Int)=0:=eq_of_beq q.1.1
  have q2:sIx items.size items.size hi - sIx items.size 0 lo=items.size:=eq_of_beq q.2
  exact hw ⟨by omega,by omega⟩
 show wpAny _ _ (if (((sIx items.size 0 lo:Nat):Int) == 0&&(1:Int) == 1&&(sIx items.size items.size hi - sIx items.size 0 lo) == items.size)=true then _ else _) _ _ s
 rw [if_neg hno,FP]
 first
  | exact À (m:=ž _) (ĕ (Å ⟨_,rfl,Å h⟩) htake)
  | exact À (m:=ž _) (ĕ (À (Å (Å ⟨_,rfl,Å h⟩))) htake)
  | exact À (À (m:=ž _) (ĕ (Å (Å ⟨_,rfl,Å h⟩)) htake))
  | exact À (À (m:=ž _) (ĕ (Å ⟨_,rfl,Å h⟩) htake))
end
end HT
namespace L2
open PySem PySem.Spec PyProof.Rows
abbrev TO:=St->Hp->(Option Int->Hp->Prop)->Prop
def PO (X:Cx) (e:Option Expr) (t:TO):Prop :=
 ∀ (pins:List (Addr×Obj)) (s:Shared) (σ:St) (H:Hp) (Q:Option Int->Hp->Prop),Inv X pins σ H s->t σ H Q ->
  wpAny (model X.prog X.w) X.A (evalPart e X.env) (fun u s'=>∃ o H',Inv X pins σ H' s'/\IsPart u o/\Q o H') X.xe s
def Il:TO:=fun _ H Q=>Q none H
def Ov (t:TE):TO:=fun σ H Q=>t σ H fun x H1=>∃ i,x=.int i/\Q (some i) H1
theorem intsAre_of {ns:List Int}:∀ {us:List Value},Vals (ns.map V.int) us->IntsAre us ns:=by
 induction ns with
 | nil=>intro us r; rw [List.map_nil] at r; cases r; exact .nil
 | cons n ns ih =>
  intro us r
  rw [ð] at r
  cases r with
  | cons r1 r2 =>
   obtain⟨t,e⟩:=r1
   subst e
   exact .cons n t (ih r2)
section
variable {X:Cx}{e:Expr}{te:TE}{lo hi:Option Expr}{tl th:TO}{pos p2:Pos}
theorem Jg:PO X none Il:=by
 intro pins s σ H Q I h
 rw [evalPart_none]
 exact Å ⟨none,H,I,.none,h⟩
theorem Jf (h:PE X e te):PO X (some e) (Ov te):=by
 intro pins s σ H Q I hw
 rw [evalPart_some]
 refine thn (h pins s σ H _ I hw) fun u s1 ⟨x,H1,I1,r1,q1⟩=>?_
 obtain⟨i,rfl,q⟩:=q1
 obtain⟨t,rfl⟩:=r1
 exact⟨some i,H1,I1,.int i t,q⟩
def SlR (X:Cx) (r:V->Option Int->Option Int->Hp->VK->Prop):Prop :=
 ∀ (pins:List (Addr×Obj)) (s:Shared) (σ:St) (H:Hp) (x:V) (v vl vu:Value) (lo hi:Option Int) (sl:Addr) (Q:VK),Inv X pins σ H s->RelV x v->s.heap.IsSliceOf sl vl vu .none->IsPart vl lo->IsPart vu hi->r x lo hi H Q ->
  ∃ T id,typeLookup (.type T) "__getitem__"=pure (some (.builtin id))/\s.TypeIs v T/\wpAny (model X.prog X.w) X.A (getItem v (.ref sl)) (EP X pins σ Q) X.xe s
theorem SlR.or {r r':V->Option Int->Option Int->Hp->VK->Prop} (h:SlR X r) (h':SlR X r'):SlR X (fun x lo hi H Q=>r x lo hi H Q\/r' x lo hi H Q):=by
 intro pins s σ H x v vl vu lo hi sl Q I rx hs pl pu q
 rcases q with q | q
 ·exact h pins s σ H x v vl vu lo hi sl Q I rx hs pl pu q
 ·exact h' pins s σ H x v vl vu lo hi sl Q I rx hs pl pu q
def tSl (r:V->Option Int->Option Int->Hp->VK->Prop) (te:TE) (tl th:TO):TE:=fun σ H Q=>te σ H fun x H1=>tl σ H1 fun l H2=>th σ H2 fun u H3=>r x l u H3 Q
theorem FZ {r:V->Option Int->Option Int->Hp->VK->Prop} (hr:SlR X r) (he:PE X e te) (hl:PO X lo tl) (hu:PO X hi th):PE X (.Subscript e (.Slice lo hi none p2) pos) (tSl r te tl th):=by
 intro pins s σ H Q I h
 refine Subscript_ (thn (he pins s σ H _ I h) fun v s1 ⟨x,H1,I1,r1,q1⟩=>?_)
 refine wpAny_Slice (thn (hl pins s1 σ H1 _ I1 q1) fun vl s2 ⟨l,H2,I2,pl,q2⟩=>thn (hu pins s2 σ H2 _ I2 q2) fun vu s3 ⟨u,H3,I3,pu,q3⟩=>?_)
 rw [evalPart_none]
 refine Å ?_
 have I4:Inv X pins σ H3 { s3 with heap:=s3.heap.push { cls:=.type "slice",data:=.fields #[vl,vu,.none] } }:=I3.kept (t':=s3.toks) fun b ob q=>È _ q
 obtain⟨T,id,hT,ht,hg⟩:=hr pins { s3 with heap:=s3.heap.push { cls:=.type "slice",data:=.fields #[vl,vu,.none] } } σ H3 x v vl vu l u s3.heap.objs.size Q I4 r1 (Heap.IsSliceOf.new ..) pl pu q3
 show wpAny (model X.prog X.w) X.A (subscriptTail e (.Slice lo hi none p2) v (.ref s3.heap.objs.size)) (EP X pins σ Q) X.xe { s3 with heap:=s3.heap.push { cls:=.type "slice",data:=.fields #[vl,vu,.none] } }
 exact tail_any (ops:=[.ref s3.heap.objs.size,v]) ht hT hg (by with_unfolding_all rfl)
def qN (xs:List V) (lo hi:Option Int):List V:=(xs.drop (HT.sIx xs.length 0 lo)).take (HT.sIx xs.length xs.length hi - HT.sIx xs.length 0 lo)
theorem nF (xs:List V) (lo hi:Option Int):(qN xs lo hi).length<=xs.length:=by
 unfold qN
 rw [ć,ŕ]
 omega
def QL (K:â):V->Option Int->Option Int->Hp->VK->Prop:=fun x lo hi H Q=>∃ a xs,x=.ref a/\SqT K H a xs /\
 ¬ (HT.sIx xs.length 0 lo=0/\HT.sIx xs.length xs.length hi=xs.length)/\∀ p,H p=none->Q (.ref p) (upd H p (.tup (qN xs lo hi)))
theorem Lw:SlR X (QL X.K):=by
 intro pins s σ H x v vl vu lo hi sl Q I rx hs pl pu h
 obtain⟨a,xs,rfl,hx,hw,q⟩:=h
 cases rx
 obtain⟨its,r,ht,hz⟩:=I.tuple hx
 have hlen:its.toArray.size=xs.length:=by rw [Î]; exact r.length.symm
 refine⟨"tuple",_,PyProof.Rows.slot_tuple_getitem.lookup,ht.typeIs,?_⟩
 refine HT.lg ht hs pl pu (by rw [hlen]; exact hw) ?_ (by rw [hlen]; exact hz)
 rw [hlen]
 refine⟨.ref s.heap.objs.size,_,I.laid (t':=s.toks) (o:=.tup (qN xs lo hi)) (fun b ob q=>È _ q) (Ò _) ?_,rfl,q _ (I.hok.fresh (Ò _))⟩
 exact⟨Ć (nF xs lo hi) hz,_,(r.drop (HT.sIx xs.length 0 lo)).take (HT.sIx xs.length xs.length hi - HT.sIx xs.length 0 lo),IsTup.new _ _⟩
def O9 (K:â):R2:=fun x y H Q=>∃ a b xs ys,x=.ref a/\y=.ref b/\SqT K H a xs/\SqT K H b ys/\xs≠[]/\xs.length+ys.length<=sizeLine /\
 (ys=[]->Q (.ref a) H)/\(ys≠[]->∀ p,H p=none->Q (.ref p) (upd H p (.tup (xs++ys))))
theorem Vals.uf {xs:List V}{us:List Value} (r:Vals xs us):us=[]↔xs=[]:=by
 cases r with
 | nil=>simp
 | cons _ _=>simp
theorem Jq:OpR X (binaryOp .Add) (O9 X.K):=by
 intro pins s σ H x y v u Q I rx ry h
 obtain⟨a,b,xs,ys,rfl,rfl,ha,hb,hx,hz,q1,q2⟩:=h
 cases rx
 cases ry
 obtain⟨its,r1,p1,_⟩:=I.tuple ha
 obtain⟨its2,r2,p2,_⟩:=I.tuple hb
 refine HT.Ka p1 p2 (fun z=>hx (r1.uf.mp z)) (fun z=>⟨.ref a,H,I,rfl,q1 (r2.uf.mp z)⟩) (fun z=>?_) (by rw [← r1.length,← r2.length]; exact hz)
 refine⟨.ref s.heap.objs.size,_,I.laid (t':=s.toks) (o:=.tup (xs++ys)) (fun b ob q=>È _ q) (Ò _) ?_,rfl,q2 (fun w=>z (r2.uf.mpr w)) _ (I.hok.fresh (Ò _))⟩
 exact⟨by rw [Ý]; exact hz,_,r1.append r2,IsTup.new _ _⟩
end
def ixN (n:Nat) (i:Int):Option Nat:=if 0<=i then (if i<n then some i.toNat else none) else if -(n:Int)<=i then some (i+n).toNat else none
def atI {α:Type} (xs:List α) (i:Int):Option α:=(ixN xs.length i).bind fun j=>xs[j]?
theorem BJ {n:Nat}{i:Int}{j:Nat} (h:ixN n i=some j):seqIndex? i n=some j/\j<n/\-(n:Int)<=i/\i<n:=by
 unfold ixN at h
 by_cases h0:0<=i
 ·rw [if_pos h0] at h
  by_cases h1:i<n
  ·rw [if_pos h1] at h
   have e:i.toNat=j:=Ù h
   exact⟨by rw [seqIndex_of h0 h1,e],by omega,by omega,h1⟩
  ·rw [if_neg h1] at h; cases h
 ·rw [if_neg h0] at h
  by_cases h1:-(n:Int)<=i
  ·rw [if_pos h1] at h
   have e:(i+n).toNat=j:=Ù h
   exact⟨by rw [seqIndex_neg (by omega) h1,e],by omega,h1,by omega⟩
  ·rw [if_neg h1] at h; cases h
theorem Cj {α:Type}{xs:List α}{i:Int}{v:α} (h:atI xs i=some v):∃ j,seqIndex? i xs.length=some j/\xs[j]?=some v/\j<xs.length/\-(xs.length:Int)<=i/\i<xs.length:=by
 unfold atI at h
 cases e:ixN xs.length i with
 | none=>rw [e] at h; cases h
 | some j =>
  rw [e] at h
  obtain⟨h1,h2,h3,h4⟩:=BJ e
  exact⟨j,h1,h,h2,h3,h4⟩
theorem cM {α:Type}{xs:List α}{j:Nat}{v:α} (h:xs[j]?=some v):atI xs (j:Int)=some v:=by
 have hj:j<xs.length:=(É.mp h).1
 have e:ixN xs.length (j:Int)=some j:=by
  unfold ixN
  rw [if_pos (by omega),if_pos (by omega)]; simp
 unfold atI; rw [e]; exact h
theorem Ib {α:Type} (xs:List α) (v:α):atI (xs++[v]) (-1)=some v:=by
 have hl:(xs++[v]).length=xs.length+1:=by simp
 have e:ixN (xs++[v]).length (-1)=some xs.length:=by
  unfold ixN
  rw [hl,if_neg (by decide),if_pos (by omega)]
  congr 1
  omega
 unfold atI
 rw [e]
 show (xs++[v])[xs.length]?=some v
 simp
def lN (b:Expr):Prop:=∀ o i,subscripted b false o i=operate [o,i] (getItem o i)
def IxR (X:Cx) (r:R2):Prop :=
 ∀ (value slice:Expr) (pins:List (Addr×Obj)) (s:Shared) (σ:St) (H:Hp) (x y:V) (v u:Value) (Q:VK),Inv X pins σ H s->RelV x v->RelV y u->r x y H Q ->
  subscripted slice false v u=operate [v,u] (getItem v u)->wpAny (model X.prog X.w) X.A (subscriptTail value slice v u) (EP X pins σ Q) X.xe s
def MtR (X:Cx) (id:String) (r:V->List V->Hp->VK->Prop):Prop :=
 ∀ (pins:List (Addr×Obj)) (s:Shared) (σ:St) (H:Hp) (x:V) (xs:List V) (v:Value) (us:List Value) (Q:VK),Inv X pins σ H s->RelV x v->Vals xs us->r x xs H Q ->
  wpAny (model X.prog X.w) X.A (call (.builtin id) (v::us)) (EP X pins σ Q) X.xe s
section
variable {X:Cx}{a b:Expr}{ta tb:TE}{pos:Pos}
theorem IxR.or {r r':R2} (h:IxR X r) (h':IxR X r'):IxR X (fun x y H Q=>r x y H Q\/r' x y H Q):=by
 intro value slice pins s σ H x y v u Q I rx ry q hs
 rcases q with q | q
 ·exact h value slice pins s σ H x y v u Q I rx ry q hs
 ·exact h' value slice pins s σ H x y v u Q I rx ry q hs
theorem gM {r:R2} (hr:IxR X r) (ha:PE X a ta) (hb:PE X b tb) (hs:lN b):PE X (.Subscript a b pos) (tOp r ta tb):=by
 intro pins s σ H Q I h
 exact Subscript_ (Ol ha hb I h fun v u s2 x y H2 I2 rx ry q=>hr a b pins s2 σ H2 x y v u Q I2 rx ry q (hs _ _))
def Fp (K:â):R2:=fun x y H Q=>∃ p xs i v,x=.ref p/\y=.int i/\SqL K H p xs/\atI xs i=some v/\Q v H
def QS (K:â):R2:=fun x y H Q=>∃ p xs i v,x=.ref p/\y=.int i/\SqT K H p xs/\atI xs i=some v/\Q v H
theorem bU:IxR X (Fp X.K):=by
 intro value slice pins s σ H x y v u Q I rx ry h hs
 obtain⟨p,xs,i,z,rfl,rfl,hq,he,q⟩:=h
 cases rx
 obtain⟨t,rfl⟩:=ry
 obtain⟨its,r,pl,hz⟩:=I.list hq
 obtain⟨j,h1,h2,h3,h4,h5⟩:=Cj he
 obtain⟨w,ew,rw'⟩:=r.get h2
 have hl:=r.length
 have hn:=pQ
 have fin:EP X pins σ Q w s:=⟨z,H,I,rw',q⟩
 by_cases h0:0<=i
 ·have hj:i.toNat=j:=by
   rw [seqIndex_of h0 h5] at h1
   exact Ù h1
  exact item_listR pl.isList h0 (by omega) (by rw [hj]; simpa using ew) fin hs
 ·have hj:(i+(its.toArray.size:Int)).toNat=j:=by
   rw [seqIndex_neg (by omega) h4] at h1
   rw [Î,← hl]
   exact Ù h1
  exact subscriptTail_builtinR (x:=w) pl.isList.typeIs slot_list_getitem.lookup
   (wpAny_getItem_list_neg (Q:=fun r s'=>r=w/\EP X pins σ Q r s') pl.isList (by omega) (by rw [Î] <;> omega) (by omega) (by rw [hj]; simpa using ew) ⟨rfl,fin⟩) hs
theorem Nr:IxR X (QS X.K):=by
 intro value slice pins s σ H x y v u Q I rx ry h hs
 obtain⟨p,xs,i,z,rfl,rfl,hq,he,q⟩:=h
 cases rx
 obtain⟨t,rfl⟩:=ry
 obtain⟨its,r,pl,hz⟩:=I.tuple hq
 obtain⟨j,h1,h2,h3,h4,h5⟩:=Cj he
 obtain⟨w,ew,rw'⟩:=r.get h2
 have hl:=r.length
 have hn:=pQ
 have fin:EP X pins σ Q w s:=⟨z,H,I,rw',q⟩
 exact subscriptTail_builtinR (x:=w) pl.typeIs slot_tuple_getitem.lookup
  (getItem_tuple (j:=j) (Q:=fun r s'=>r=w/\EP X pins σ Q r s') pl (by omega) (by omega) (by rw [Î,← hl]; exact h1) (by simpa using ew) ⟨rfl,fin⟩) hs
theorem yP (its:List Value) (n j:Nat) (u:Value):ß (·.setIfInBounds j u) { cls:=.type "list",data:=.seq its.toArray n }={ cls:=.type "list",data:=.seq (its.set j u).toArray n }:=by
 simp [ß]
theorem Inv.lst {pins:List (Addr×Obj)}{σ:St}{H:Hp}{s:Shared}{p:Addr}{xs:List V} (I:Inv X pins σ H s) (h:H p=some (.lst xs)) :
  ∃ (its:List Value) (n:Nat),Vals xs its/\s.heap.get? p=some { cls:=.type "list",data:=.seq its.toArray n }/\xs.length<=sizeLine:=by
 obtain⟨z,its,n,r,e⟩:=I.hok p _ h
 exact⟨its,n,r,e,z⟩
theorem Inv.Ni {pins:List (Addr×Obj)}{σ:St}{H:Hp}{s:Shared}{p:Addr}{xs ys:List V}{its its':List Value}{n n':Nat}{f:Obj->Obj} (I:Inv X pins σ H s) (h:H p=some (.lst xs))
  (ho:s.heap.get? p=some { cls:=.type "list",data:=.seq its.toArray n }) (hf:f { cls:=.type "list",data:=.seq its.toArray n }={ cls:=.type "list",data:=.seq its'.toArray n' }) (r:Vals ys its') (hz:ys.length<=sizeLine) (t:Nat) :
  Inv X pins σ (upd H p (.lst ys)) { s with heap:=s.heap.update p f,toks:=t }:=by
 have e:(s.heap.update p f).get? p=some { cls:=.type "list",data:=.seq its'.toArray n' }:=by
  rw [Ď f ho (by rw [hf] <;> rfl),hf]
 refine I.write (x:=p) (e:=p) (by rw [h]; trivial) (.inl rfl) (fun b u hb q=>(Ĉ _ _ (č hb)).trans q) ⟨_,e⟩ ?_
 exact⟨hz,its',n',r,e⟩
def O7:V->V->V->Hp->(Hp->Prop)->Prop:=fun o i v H Q=>∃ p xs k j,o=.ref p/\i=.int k/\H p=some (.lst xs)/\ixN xs.length k=some j/\Q (upd H p (.lst (xs.set j v)))
theorem set_list:Qy X O7:=by
 intro pins s σ H o i v ov iv u Q I ro ri rv h
 obtain⟨p,xs,k,j,rfl,rfl,hp,hj,q⟩:=h
 cases ro
 obtain⟨t,rfl⟩:=ri
 obtain⟨its,n,r,ho,hz⟩:=I.lst hp
 obtain⟨h1,h2,h3,h4⟩:=BJ hj
 have hl:=r.length
 have hn:=pQ
 have I':Inv X pins σ (upd H p (.lst (xs.set j v))) { s with heap:=s.heap.update p (ß (·.setIfInBounds j u)) } :=
  I.Ni hp ho (yP its n j u) (r.set rv j) (by rw [Ō]; exact hz) s.toks
 by_cases h0:0<=k
 ·have hk:k.toNat=j:=by
   rw [seqIndex_of h0 h4] at h1
   exact Ù h1
  exact W.ki_setAt ho h0 (by omega) (by rw [Î,← hl]; exact h4) (by rw [hk]; exact⟨_,I',q⟩)
 ·have hk:(k+(its.toArray.size:Int)).toNat=j:=by
   rw [seqIndex_neg (by omega) h3] at h1
   rw [Î,← hl]
   exact Ù h1
  exact W.ki_setBack ho (by omega) (by rw [Î,← hl]; exact h3) (by omega) (by rw [hk]; exact⟨_,I',q⟩)
theorem sS (lo hi:Option Int) (n:Nat):(sliceBounds lo hi none n).1=((HT.sIx n 0 lo:Nat):Int)/\(sliceBounds lo hi none n).2.1=((HT.sIx n n hi:Nat):Int)/\(sliceBounds lo hi none n).2.2=1:=by
 refine⟨?_,?_,rfl⟩
 ·cases lo with
  | none=>simp [sliceBounds,HT.sIx]
  | some i =>
   simp only [sliceBounds,HT.sIx,Option.getD_none,show (1:Int) > 0 by decide,if_true]
   by_cases h:i<0
   ·simp only [h,if_true] <;> omega
   ·simp only [h,if_false] <;> omega
 ·cases hi with
  | none=>simp [sliceBounds,HT.sIx]
  | some i =>
   simp only [sliceBounds,HT.sIx,Option.getD_none,show (1:Int) > 0 by decide,if_true]
   by_cases h:i<0
   ·simp only [h,if_true] <;> omega
   ·simp only [h,if_false] <;> omega
theorem qK (its:List Value) (lo hi:Option Int):slicePick its.toArray lo hi none=((its.drop (HT.sIx its.length 0 lo)).take (HT.sIx its.length its.length hi - HT.sIx its.length 0 lo)).toArray:=by
 obtain⟨h1,h2,h3⟩:=sS lo hi its.toArray.size
 unfold slicePick
 rw [h1,h2,h3]
 simp only [sliceRange_one,pick_run,Î] <;> rfl
def QM (K:â):V->Option Int->Option Int->Hp->VK->Prop:=fun x lo hi H Q=>∃ a xs,x=.ref a/\SqL K H a xs/\∀ p,H p=none->Q (.ref p) (upd H p (.lst (qN xs lo hi)))
theorem Ip:SlR X (QM X.K):=by
 intro pins s σ H x v vl vu lo hi sl Q I rx hs pl pu h
 obtain⟨a,xs,rfl,hx,q⟩:=h
 cases rx
 obtain⟨its,r,ht,hz⟩:=I.list hx
 have hlen:=r.length
 refine⟨"list",_,slot_list_getitem.lookup,ht.isList.typeIs,?_⟩
 refine wpAny_getItem_list_slice ht.isList hs pl pu .none (by simp) ?_ (by rw [Î] <;> omega)
 rw [qK,← hlen]
 refine⟨.ref s.heap.objs.size,_,I.laid (t':=s.toks) (o:=.lst (qN xs lo hi)) (fun b ob q=>È _ q) (Ò _) ?_,rfl,q _ (I.hok.fresh (Ò _))⟩
 exact⟨Ć (nF xs lo hi) hz,_,0,(r.drop (HT.sIx xs.length 0 lo)).take (HT.sIx xs.length xs.length hi - HT.sIx xs.length 0 lo),Ô _ rfl⟩
theorem dR:bx X (.builtin "len") (fun xs H Q=>∃ p ys,xs=[.ref p]/\(SqL X.K H p ys\/SqT X.K H p ys)/\Q (.int ys.length) H):=by
 intro pins s σ H xs us Q I r h
 obtain⟨p,ys,rfl,hq,q⟩:=h
 obtain⟨u,rfl,rx⟩:=vals1 r
 cases rx
 have hn:=pQ
 rcases hq with hq | hq
 ·obtain⟨its,r',pl,hz⟩:=I.list hq
  have hlen:=r'.length
  exact Calls.call_len_list pl.isList (by simp only [Î] <;> omega) ⟨.int ys.length,H,I.tok _,⟨s.toks+1,by rw [Î,hlen]⟩,q⟩
 ·obtain⟨its,r',pl,hz⟩:=I.tuple hq
  have hlen:=r'.length
  exact len_tuple pl (by simp only [Î] <;> omega) ⟨.int ys.length,H,I.tok _,⟨s.toks+1,by rw [Î,hlen]⟩,q⟩
theorem qO:bx X (.type "tuple") (fun xs H Q=>∃ p ys,xs=[.ref p]/\((SqL X.K H p ys/\∀ l,H l=none->Q (.ref l) (upd H l (.tup ys)))\/(SqT X.K H p ys/\Q (.ref p) H))):=by
 intro pins s σ H xs us Q I r h
 obtain⟨p,ys,rfl,h⟩:=h
 obtain⟨u,rfl,rx⟩:=vals1 r
 cases rx
 rcases h with ⟨hq,q⟩ | ⟨hq,q⟩
 ·obtain⟨its,r',pl,hz⟩:=I.list hq
  have hlen:=r'.length
  refine call_tuple_list pl.isList (fun h' kp=>?_) (by simp only [Î] <;> omega)
  have I1:Inv X pins σ H { s with heap:=h' }:=I.kept (t':=s.toks) kp
  have I2:Inv X pins σ (upd H h'.objs.size (.tup ys)) { s with heap:=h'.push { cls:=.type "tuple",data:=.seq its.toArray } } :=
   I1.laid (t':=s.toks) (fun b o e=>È _ e) (Ò _) (show aV X.prog X.w _ _ _ (.tup ys) from ⟨hz,its,r',IsTup.new _ _⟩)
  exact⟨.ref h'.objs.size,_,I2,rfl,q _ (I1.hok.fresh (Ò _))⟩
 ·obtain⟨its,r',pl,hz⟩:=I.tuple hq
  exact call_tuple_same pl ⟨.ref p,H,I,rfl,q⟩
def tyV (K:â) (T:String) (x:V) (H:Hp):Prop:=match x with
 | .str _=>T="str"
 | .int _=>T="int"
 | .ref p=>(T="list"/\∃ xs,SqL K H p xs)\/(T="tuple"/\∃ o,K.lookup p=some o/\o.cls=.type "tuple"/\o.dict=none) ∨
   (T="dict"/\((∃ kvs,H p=some (.dK kvs))\/∃ kvs,H p=some (.dT kvs)))\/(T="set"/\∃ S n,H p=some (.set S n))
 | _=>False
theorem Lf {pins:List (Addr×Obj)}{σ:St}{H:Hp}{s:Shared}{T:String}{x:V}{v:Value} (I:Inv X pins σ H s) (r:RelV x v) (ty:tyV X.K T x H) :
  s.TypeIs v T/\∀ a,v=.ref a->∃ ob,s.heap.get? a=some ob/\ob.dict=none:=by
 cases x with
 | str z =>
  obtain⟨t,rfl⟩:=r
  cases (show T="str" from ty)
  exact⟨typeIs_str s z t,fun _ e=>nomatch e⟩
 | int i =>
  obtain⟨t,rfl⟩:=r
  cases (show T="int" from ty)
  exact⟨typeIs_int s i t,fun _ e=>nomatch e⟩
 | ref p =>
  cases r
  rcases ty with ⟨rfl,xs,hq⟩ | ⟨rfl,o,hk,hc,hd⟩ | ⟨rfl,hk⟩ | ⟨rfl,S,n,hk⟩
  ·obtain⟨its,_,pl,_⟩:=I.list hq
   refine⟨pl.isList.typeIs,fun a e=>?_⟩
   cases e
   obtain⟨o,n,e,c,hd,_⟩:=pl
   exact⟨o,e,hd⟩
  ·refine⟨⟨o,I.kIn p o hk,hc⟩,fun a e=>?_⟩
   cases e
   exact⟨o,I.kIn _ o hk,hd⟩
  ·have z:∃ o,s.heap.get? p=some o/\o.ExactDict:=by
    rcases hk with ⟨kvs,hk⟩ | ⟨kvs,hk⟩
    ·obtain⟨_,_,_,_,o,_,_,e,ex,_⟩:=I.hok p _ hk
     exact⟨o,e,ex⟩
    ·obtain⟨_,_,_,_,o,_,_,e,ex,_⟩:=I.hok p _ hk
     exact⟨o,e,ex⟩
   obtain⟨o,e,ex⟩:=z
   refine⟨⟨o,e,ex.1⟩,fun a e2=>?_⟩
   cases e2
   exact⟨o,e,ex.2.1⟩
  ·obtain⟨o,_,_,_,e,ex,_⟩:=I.hok p _ hk
   refine⟨⟨o,e,ex.1⟩,fun a e2=>?_⟩
   cases e2
   exact⟨o,e,ex.2.1⟩
 | _=>exact Ť ty
def tBM (K:â) (T:String) (r:V->List V->Hp->VK->Prop) (to:TE) (t:TA):TE:=fun σ H Q=>to σ H fun x H1=>tyV K T x H1/\t σ H1 fun xs H2=>r x xs H2 Q
variable {o e:Expr}{es:List Expr}{to:TE}{t:TA}{name:Str}{apos cpos:Pos}{T id:String}{r:V->List V->Hp->VK->Prop}
theorem nA (pa:PlainAttrs T) (slot:Slot T name id) (hty:typeOf (.builtin id)=pure (.type "method_descriptor")) (hm:MtR X id r) (ho:PE X o to) (ha:PA X (e::es) t)
  (hbase:attributeBase o name X.env (eval o X.env)=eval o X.env:=by rfl)
  (hfew:((backTo cpos (starEach (e::es) X.env)).all (fun x=>!x.1)&&(backToKw cpos (keywordEach [] X.env)).all (fun x=>x.1.isSome)
  &&decide ((e::es).length+([]:List Keyword).length+(if ([]:List Keyword).isEmpty then 0 else 1)<30))=true:=by rfl)
  (hline:(apos.endLine == cpos.line)=true:=by rfl) (hs:starEach (e::es) X.env=(false,eval e X.env)::starEach es X.env:=by rfl) (hplain:(backTo cpos (starEach es X.env)).any (·.1)=false:=by rfl) :
  PE X (.Call (.Attribute o name apos) (e::es) [] cpos) (tBM X.K T r to t):=by
 intro pins s σ H Q I h
 refine wpAny_Call_method_late hbase hfew hline rfl (thn (ho pins s σ H _ I h) fun v s1 ⟨x,H1,I1,r1,ty,q1⟩=>?_)
 obtain⟨h1,h2⟩:=Lf I1 r1 ty
 refine⟨T,id,pa,slot,hty,h1,h2,?_⟩
 have hA:=ha cpos pins s1 σ H1 _ I1 q1
 rw [hs] at hA ⊢
 refine Calls.callWith_builtin (by show (false || (backTo cpos (starEach es X.env)).any (·.1))=false; rw [hplain] <;> rfl) (Calls.evalArgs_plain ?_)
 exact thn hA fun us s2 ⟨vs,H2,I2,r2,q2⟩=>hm pins s2 σ H2 x vs v us Q I2 r1 r2 q2
/- xs.append(e),list.index on a module's tuple .. are MtR facts of 06m -/
end
def MtM (X:Cx) (id:String) (r:V->List V->Hp->VK->Prop):Prop :=
 ∀ (pins:List (Addr×Obj)) (s:Shared) (σ:St) (H:Hp) (x:V) (xs:List V) (v:Value) (us:List Value) (Q:VK),Inv X pins σ H s->RelV x v->Vals xs us->r x xs H Q ->
  wpAny (model X.prog X.w) X.A (call (.builtin id) (v::us)) (EP X pins σ Q) X.xe s
theorem Vals.one:∀ {x:V}{us:List Value},Vals [x] us->∃ u,us=[u]/\RelV x u
 | _,_,.cons r .nil=>⟨_,rfl,r⟩
theorem Vals.two:∀ {x y:V}{us:List Value},Vals [x,y] us->∃ u v,us=[u,v]/\RelV x u/\RelV y v
 | _,_,_,.cons r (.cons q .nil)=>⟨_,_,rfl,r,q⟩
theorem Vals.rep {xs:List V}{us:List Value} (h:Vals xs us):∀ k:Nat,Vals (Ó k xs).flatten (Ó k us).flatten
 | 0=>.nil
 | k+1=>by
  rw [ľ,ľ,ţ,ţ]
  exact Vals.append h (Vals.rep h k)
theorem foldl_rep (its:List Value):∀ (k:Nat) (acc:List Value),
  List.foldl (fun x1 x2=>x1++x2) acc.toArray (Ó k its.toArray)=(acc++(Ó k its).flatten).toArray
 | 0,acc=>by simp
 | k+1,acc=>by
  have e:acc.toArray++its.toArray=(acc++its).toArray:=by simp
  have e2:(acc++its)++(Ó k its).flatten=acc++(Ó (k+1) its).flatten:=by
   rw [ľ,ţ,List.append_assoc]
  rw [← e2,← foldl_rep its k (acc++its),← e,ľ,List.foldl_cons]
section
variable {X:Cx}{pins:List (Addr×Obj)}{σ:St}{H:Hp}{s:Shared}{l b:Addr}{xs ys zs:List V}
theorem Inv.JC {its its':List Value}{n:Nat}{f:Array Value->Array Value}{t':Nat} (I:Inv X pins σ H s) (hH:H l=some (.lst xs))
  (e:s.heap.get? l=some { cls:=.type "list",data:=.seq its.toArray n }) (hf:f its.toArray=its'.toArray) (hv:Vals ys its') (hz:ys.length<=sizeLine) :
  Inv X pins σ (upd H l (.lst ys)) { s with heap:=s.heap.update l (ß f),toks:=t' }:=by
 have q:=PySem.IsL.update e f
 rw [hf] at q
 refine I.write (x:=l) (e:=l) (by rw [hH]; exact trivial) (.inl rfl) (fun b' u hb hu=>(Ĉ s.heap (ß f) (č hb)).trans hu) ⟨_,q⟩ ?_
 exact⟨hz,its',_,hv,q⟩
theorem Inv.Qa {its:List Value}{t':Nat} (I:Inv X pins σ H s) (hv:Vals ys its) (hz:ys.length<=sizeLine) :
  Inv X pins σ (upd H s.heap.objs.size (.lst ys)) { s with heap:=s.heap.push { cls:=.type "list",data:=.seq its.toArray },toks:=t' } :=
 I.laid (fun _ _ q=>È _ q) (Ò _) ⟨hz,its,0,hv,Ô _ rfl⟩
theorem Inv.fresh (I:Inv X pins σ H s):H s.heap.objs.size=none:=I.hok.fresh (Ò _)
theorem Inv.wA (I:Inv X pins σ H s) (hH:H l=some (.lst xs)):xs.length<=sizeLine/\∃ (its:List Value) (n:Nat),Vals xs its/\xs.length=its.length/\s.heap.get? l=some { cls:=.type "list",data:=.seq its.toArray n }:=by
 obtain⟨z,its,n,r,e⟩:=I.hok l _ hH
 exact⟨z,its,n,r,r.length,e⟩
theorem pK {n:Nat} (h:n<=sizeLine):ŀ n=false:=by
 unfold ŀ
 exact decide_eq_false (by omega)
end
section
variable {X:Cx}
def cF:V->List V->Hp->VK->Prop:=fun x vs H Q=>∃ l xs y,x=.ref l/\vs=[y]/\H l=some (.lst xs)/\xs.length<sizeLine/\Q .non (upd H l (.lst (xs++[y])))
theorem fO:MtM X "list.append" cF:=by
 intro pins s σ H x vs v us Q I rx rv h
 obtain⟨l,xs,y,rfl,rfl,hH,hz,q⟩:=h
 cases rx
 obtain⟨u,rfl,ru⟩:=rv.one
 obtain⟨z,its,n,r,hl,e⟩:=I.wA hH
 refine call_meets F.slot_list_append ⟨_,e,rfl⟩ F.entry_list_append (F.args_list_append_2 _ _) (PySem.list_append l its.toArray n u (by rw [Î]; omega)) ⟨e,?_⟩
 refine⟨.non,_,I.JC (its':=its++[u]) hH e (by simp) (r.append (.cons ru .nil)) ?_,rfl,q⟩
 rw [Ý,ń]
 omega
def Bf:V->List V->Hp->VK->Prop:=fun x vs H Q=>∃ l b xs zs,x=.ref l/\vs=[.ref b]/\H l=some (.lst xs)/\H b=some (.lst zs)/\xs.length+zs.length<=sizeLine/\Q .non (upd H l (.lst (xs++zs)))
theorem Dh:MtM X "list.extend" Bf:=by
 intro pins s σ H x vs v us Q I rx rv h
 obtain⟨l,b,xs,zs,rfl,rfl,hH,hB,hz,q⟩:=h
 cases rx
 obtain⟨u,rfl,ru⟩:=rv.one
 cases ru
 obtain⟨z,its,n,r,hl,e⟩:=I.wA hH
 obtain⟨z2,its2,n2,r2,hl2,e2⟩:=I.wA hB
 have hsz:its.toArray.size+its2.toArray.size<=sizeLine:=by rw [Î,Î]; omega
 have hlong:¬ (!its.toArray.isEmpty&&ŀ (its.toArray.size+its2.toArray.size))=true:=by
  rw [pK hsz,Bool.and_false]
  exact Ú
 refine call_meets F.slot_list_extend ⟨_,e,rfl⟩ F.entry_list_extend (F.args_list_extend_2 _ _)
  (AutoSeq1.list_extend_list_list_0 l its.toArray n b its2.toArray n2 hlong (by rw [Î]; omega) (by omega)) ⟨e,e2,?_⟩
 refine⟨.non,_,I.JC (its':=its++its2) hH e (by simp) (r.append r2) ?_,rfl,q⟩
 rw [Ý]
 omega
def Pa:R2:=fun x y H Q=>∃ l b xs zs,x=.ref l/\y=.ref b/\H l=some (.lst xs)/\H b=some (.lst zs)/\xs.length+zs.length<=sizeLine/\∀ p,H p=none->Q (.ref p) (upd H p (.lst (xs++zs)))
theorem M6:OpR X (binaryOp .Add) Pa:=by
 intro pins s σ H x y v u Q I rx ry h
 obtain⟨l,b,xs,zs,rfl,rfl,hH,hB,hz,q⟩:=h
 cases rx
 cases ry
 obtain⟨z,its,n,r,hl,e⟩:=I.wA hH
 obtain⟨z2,its2,n2,r2,hl2,e2⟩:=I.wA hB
 refine PySem.P.add_list e e2 ?_ (by rw [Î,Î]; omega)
 have ea:its.toArray++its2.toArray=(its++its2).toArray:=by simp
 rw [ea]
 exact⟨.ref _,_,I.Qa (t':=s.toks) (r.append r2) (by rw [Ý]; omega),rfl,q _ I.fresh⟩
def O8:R2:=fun x y H Q=>∃ l k xs,x=.ref l/\y=.int k/\H l=some (.lst xs)/\-(2 ^ 63)<=k/\k<2 ^ 63/\xs.length * k.toNat<=sizeLine /\
 ∀ p,H p=none->Q (.ref p) (upd H p (.lst (Ó k.toNat xs).flatten))
theorem len_rep {α:Type} (xs:List α) (k:Nat):(Ó k xs).flatten.length=k * xs.length:=by
 induction k with
 | zero=>simp
 | succ k ih=>rw [ľ,ţ,Ý,ih,Nat.succ_mul,Nat.add_comm]
theorem M4:OpR X (binaryOp .Mult) O8:=by
 intro pins s σ H x y v u Q I rx ry h
 obtain⟨l,k,xs,rfl,rfl,hH,h1,h2,hz,q⟩:=h
 cases rx
 obtain⟨t,rfl⟩:=ry
 obtain⟨z,its,n,r,hl,e⟩:=I.wA hH
 have hlen:its.toArray.size * k.toNat<=sizeLine:=by rw [Î,← hl]; exact hz
 have hcap:¬ its.toArray.size * k.toNat > (2 ^ 63 - 1) / 8:=by
  have:(sizeLine:Nat)<=(2 ^ 63 - 1) / 8:=by decide
  omega
 have hfit:¬ (!Builtin.List.listFitsIndex k)=true:=by
  rw [fitsIndex_both h1 h2]
  exact Ú
 have hlong:¬ ŀ (its.toArray.size * k.toNat)=true:=by
  rw [pK hlen]
  exact Ú
 have hnew:List.foldl (fun x1 x2=>x1++x2) #[] (Ó (if its.toArray.isEmpty=true then 0 else k.toNat) its.toArray)=(Ó k.toNat its).flatten.toArray:=by
  have f0:∀ m:Nat,List.foldl (fun x1 x2=>x1++x2) #[] (Ó m its.toArray)=(Ó m its).flatten.toArray:=fun m=>by
   have:=foldl_rep its m []
   rw [List.nil_append] at this
   exact this
  rw [f0]
  cases its with
  | nil=>simp
  | cons a r'=>rw [if_neg (by simp)]
 refine wpAny_binaryOp_repeat_ref (T:="list") (U:="int") (by decide) ⟨_,e,rfl⟩ (fun s'=>typeIs_int s' k t) noFill_list_mul F.fills_int_mul F.slot_int_rmul repeat_list F.slot_int_index.lookup
  (call_meets F.slot_int_rmul (typeIs_int s k t) F.entry_int_rmul (F.args_int_rmul_2 _ _) (int___rmul___int_list k t l its.toArray n)
   ⟨e,rfl,⟨_,e,rfl⟩,call_meets F.slot_list_mul ⟨_,e,rfl⟩ F.entry_list_mul (F.args_list_mul_2 _ _) (AutoListH.list___mul___list_int_3 l its.toArray n k t hfit hcap hlong) ⟨e,?_⟩⟩)
 rw [hnew]
 exact⟨.ref _,_,I.Qa (t':=s.toks) (r.rep k.toNat) (by rw [len_rep,Nat.mul_comm]; exact hz),rfl,q _ I.fresh⟩
end
section
variable {prog:Program}{w:World}{A:Around}{E:Value->Shared->Prop}{s:Shared}
end
section
variable {X:Cx}
end
end L2
namespace Att
open PySem PySem.W PySem.Calls PyProof.Rows
theorem nO {P:Params}{h:Heap}:∀ (ns:List Int) (vs:List Value),WellAll P h vs (ns.map WData.int)->IntsAre vs ns:=by
 intro ns
 induction ns with
 | nil =>
  intro vs w
  rw [List.map_nil] at w
  cases w
  exact .nil
 | cons n ns ih =>
  intro vs w
  rw [ð] at w
  cases w with
  | cons a b =>
   cases a
   exact .cons _ _ (ih _ b)
theorem CG {l:OpenLaw}{n:Nat} (hn:l.most=some n) {P:Params}{h:Heap}{args:List WData}{vals:List Value}
  (hpre:l.row.toRowW.claim.pre args=true) (hwl:WellAll P h vals args) :
  ∃ a vs ns,vals=[ė a]/\args=[WData.list (ns.map WData.int)]/\h.get? a=some { cls:=.type "list",data:=.seq vs.toArray }/\IntsAre vs ns/\ns.length<=n:=by
 have hsh:WShape.hasAll [] args [.list .int]=true:=(pre_splitW hpre).1
 have hc:l.pre.holds [] { args:=args }=true:=(pre_splitW hpre).2
 obtain⟨d,r,rfl,h1,h2⟩:=hasAllW_cons hsh
 obtain rfl:=hasAllW_nil h2
 obtain⟨xs,rfl,h3⟩:=hasW_list h1
 obtain⟨ns,rfl⟩:=items_int h3
 have hlen:ns.length<=n:=by
  unfold OpenLaw.pre at hc
  have h4:(WTm.not (.lt (.lit (.int (n:Int))) (.len (.arg 0)))).holds [] { args:=[.list (ns.map .int)] }=true:=by
   have h4:=(holds_andW hc).1
   rw [hn] at h4
   exact h4
  have h5:=condW_of h4 (w_not (w_lt w_lit (w_len_list (w_arg rfl))))
  rw [Á] at h5
  refine Nat.le_of_not_lt fun q=>?_
  have q':(n:Int)<((ns.length:Nat):Int):=by omega
  first
   | (rw [decide_eq_true q'] at h5; exact absurd h5 (by decide))
   | (simp at h5; omega)
 cases hwl with
 | cons w1 w2 =>
  cases w2
  cases w1 with
  | list ho hall=>exact⟨_,_,ns,rfl,rfl,ho,nO ns _ hall,hlen⟩
theorem CK (l:OpenLaw) (args:List WData):l.row.toRowW.claim.post args (.bool true) args=true :=
 postW_of (r:=l.row.toRowW) (X:=(true == true))
  (show WShape.has [] (.bool true) .bool=true by first | rfl | decide | simp [WShape.has,WShape.arms,WShape.armsAll])
  (show (WTm.eq .res (.lit (.bool true))).value [] { args:=args,res:=some (.bool true),after:=args }=some (.bool (true == true)) from w_eq_bool (w_res rfl) w_lit) rfl
theorem xJ {l:OpenLaw}{n:Nat}{q:Program}{loose:List Str}{XP:(Str->Option Value)->Heap->Prop}{YP:World->Heap->Prop}{d:DefRec}
  (hn:l.most=some n) (hdf:d.params.defaults=[])
  (call:∀ (w:World) (s₀ s₁:Shared) (mg mb:Str->Option Value) (fa:Addr) (o:Obj) (pm cd doc:Value) (a:Addr) (vs:List Value) (ns:List Int),
   Ground q loose [] XP w s₀ mg mb s₁.heap->YP w s₁.heap ->
   s₁.heap.get? fa=some o->o.data=.func (docDef d.name d.params d.body d.scope pm cd doc)->s₁.heap.CodeRec cd d.name->mg d.name=some (.ref fa) ->
   s₁.heap.get? a=some { cls:=.type "list",data:=.seq vs.toArray }->IntsAre vs ns->ns.length<=n->s₁.gens=#[] ->
   codeAny (model l.prog w) callerA (.call (.ref fa) ⟨[.ref a],[]⟩) (fun r s'=>r=.ok (.ret (.bool true))/\OldK s₁.heap s'.heap/\s'.os=s₁.os/\AllBare s'.gens) s₁) :
  WalkO q loose XP YP l.row.toRowW d [] (fun f vs=>PySem.call f vs):=by
 intro w s₀ s₁ mg mb G Y fa o pm cd doc dV kV ho hd hcd hD hmg hg args vals as hpre hlay hrd hwl hlo
 obtain rfl:dV=.none:=Dflts.none hD hdf
 obtain rfl:kV=.none:=Dflts.noKw hD
 obtain⟨a,vs,ns,rfl,rfl,hobj,hints,hlen⟩:=CG hn hpre hwl
 refine enter_call (codeAny_mono (call w s₀ s₁ mg mb fa o pm cd doc a vs ns G Y ho (fd_plain hd) hcd hmg hobj hints hlen hg) fun r s' hq=>?_)
 obtain⟨rfl,h2,h3,h4⟩:=hq
 exact⟨.inl ⟨.bool true,.bool true,[],rfl,fun _=>rfl,.bool true,CK l _,fun _=>⟨List.Pairwise.nil,fun _ hm=>(nomatch hm)⟩⟩,h2,h3,h4⟩
section
variable {prog:Program}{w:World}{A:Around}{E:Value->Shared->Prop}{s:Shared}{K:Frag}
def ledger (h:Heap) (L d:Addr):List (Addr×Obj):=(Ë h.objs.size).filterMap fun a=>if a=L\/a=d then none else (h.get? a).map fun o=>(a,o)
end
end Att
namespace L2
open PySem PySem.Spec PyProof.Rows
theorem fu:∀ {vs:List Value}{ns:List Int},IntsAre vs ns->Vals (ns.map V.int) vs
 | _,_,.nil=>.nil
 | _,_,.cons n t h=>.cons ⟨t,rfl⟩ (fu h)
def Only (H:Hp):Prop:=∀ b,H b=none\/∃ o xs,H b=some (.frz o (.lst xs))
theorem GZ {P:Program}{w:World}{K:â}{mg mb:Str->Option Value}{CX:CXT}{k:Nat}{fa a:Addr}{fd:FuncData}{x:Str}{sp:Sp}{s₁:Shared}{vs:List Value}{ns:List Int}
  (KX:K.In s₁.heap) (hns:s₁.heap.Ns mainGlobals mg) (hb:s₁.heap.Ns builtinsNs mb) (hbb:∀ x:Str,x≠"__name__"->mb x=bootBuiltins x) (hlim:s₁.heap.NoLimit) (hg:s₁.gens=#[])
  (ha:s₁.heap.get? a=some { cls:=.type "list",data:=.seq vs.toArray }) (hi:IntsAre vs ns) (hl:ns.length<=sizeLine) (hr:Room k callerA)
  (F:∀ base:Heap,K.In base->base.Ns mainGlobals mg->FnOk P w K mg base CX k fa fd [x] sp) (hbind:∀ (s:Shared) (u:Value),BindsTo s fd ⟨[u],[]⟩ [(x,u)])
  (hsp:∀ H:Hp,Only H->SqL K H a (ns.map V.int)->sp [.ref a] H (fun v _=>v=.bl true) fun _ _ _=>False)
  (hCX:∀ H e s',CX [] H s₁ (fun _ _ _=>False) e s'->False) :
  codeAny (model P w) callerA (.call (.ref fa) ⟨[.ref a],[]⟩) (fun r s'=>r=.ok (.ret (.bool true))/\OldK s₁.heap s'.heap/\s'.os=s₁.os/\AllBare s'.gens) s₁:=by
 have rv:=fu hi
 have lenV:=hi.length
 -- from an abstract heap in which nothing but the script may be tracked
 have core:∀ H:Hp,Only H->SqL K H a (ns.map V.int)->HOk P w H s₁.heap->(∀ b,H b≠none->b=a)->(H a≠none->K.lookup a=none) ->
   codeAny (model P w) callerA (.call (.ref fa) ⟨[.ref a],[]⟩) (fun r s'=>r=.ok (.ret (.bool true))/\OldK s₁.heap s'.heap/\s'.os=s₁.os/\AllBare s'.gens) s₁:=by
  intro H hO hS hok hA hK
  have base_of:∀ {b:Addr}{o:Obj},s₁.heap.get? b=some o->H b=none->(uD s₁.heap H).get? b=some o:=fun e n=>G8 e n
  have noA:∀ {b:Addr}{o:Obj}{es:Array DictEntry}{ep:Nat},s₁.heap.get? b=some o->o.data=.dict es ep->H b=none:=fun {b o es ep} e d=>by
   cases q:H b with
   | none=>rfl
   | some u =>
    have e':b=a:=hA b (by rw [q]; simp)
    subst e'
    rw [ha] at e; cases e
    have d':Data.seq vs.toArray _=Data.dict es ep:=d
    cases d'
  have nsK:∀ {b:Addr}{m:Str->Option Value},s₁.heap.Ns b m->(uD s₁.heap H).Ns b m:=fun {b m} ⟨o,es,ep,e,d,r⟩=>⟨o,es,ep,base_of e (noA e d),d,r⟩
  have hKb:K.In (uD s₁.heap H):=fun b o e=>base_of (KX b o e) (by
   cases q:H b with
   | none=>rfl
   | some u =>
    have e':b=a:=hA b (by rw [q]; simp)
    subst e'
    rw [hK (by rw [q]; simp)] at e; cases e)
  have hM:Mod K mg (uD s₁.heap H):=⟨hKb,nsK hns,⟨mb,nsK hb,hbb⟩,let ⟨mc,h1,h2⟩:=hlim; ⟨mc,nsK h1,h2⟩⟩
  have e0:Env0 P w K mg (uD s₁.heap H) callerA [] s₁ H:=⟨rfl,hM,fun b o e=>Jw e,Nat.le_of_eq (Du _ _),trivial,fun b hb=>absurd (show b∈([]:List Addr) from hb) (by simp),hok,.of_eq hg⟩
  refine codeAny_mono ((F _ hKb (nsK hns)).run callerA [] s₁ H ⟨[.ref a],[]⟩ [.ref a] [.ref a] _ _ hr e0 (hbind s₁ (.ref a)) (.cons rfl .nil) (hsp H hO hS)) fun r s' h=>?_
  cases r with
  | error e=>exact (hCX H e s' h).elim
  | ok fl =>
   cases fl with
   | next=>exact Ť h
   | brk=>exact Ť h
   | cont=>exact Ť h
   | ret u =>
    obtain⟨v,H',os,bare,un,hok',r',q⟩:=h
    have q':v=.bl true:=q
    subst q'
    obtain rfl:u=Value.bool true:=r'
    refine⟨rfl,OldK.of_keep fun b o e=>?_,os,bare⟩
    cases q:H b with
    | none=>exact un.keep b o e q (by intro z; exact absurd (show b∈([]:List Addr) from z) (by simp)) (by simp)
    | some u =>
     rcases hO b with z | ⟨ob,xs,z⟩
     ·rw [q] at z; cases z
     ·have z2:=un.frzs b ob _ z
      obtain⟨e1,_⟩:=hok b _ z
      obtain⟨e2,_⟩:=hok' b _ z2
      rw [e] at e1; cases e1
      exact e2
 cases hk:K.lookup a with
 | some o =>
  -- the script is one of the module's own objects
  have e:=KX a o hk
  rw [ha] at e
  cases e
  refine core (fun _=>none) (fun _=>.inl rfl) (.inr ⟨_,vs.toArray,_,hk,rfl,rfl,rfl,by rw [Î,lenV]; exact hl,by simpa using rv⟩) (fun b u z=>by have z':(none:Option HO)=some u:=z; cases z') (fun b z=>absurd rfl z) fun z=>absurd rfl z
 | none =>
  refine core (fun b=>if b=a then some (.frz { cls:=.type "list",data:=.seq vs.toArray } (.lst (ns.map V.int))) else none) (fun b=>?_) (.inl (.inr ⟨{ cls:=.type "list",data:=.seq vs.toArray },if_pos rfl⟩)) (fun b u z=>?_) (fun b z=>?_) fun _=>hk
  ·by_cases hb:b=a
   ·exact .inr ⟨_,_,if_pos hb⟩
   ·exact .inl (if_neg hb)
  ·by_cases hb:b=a
   ·have z':=(if_pos hb).symm.trans z
    cases z'
    subst hb
    exact⟨ha,by rw [Á]; exact hl,vs,_,rv,ha⟩
   ·have z':=(if_neg hb).symm.trans z
    cases z'
  ·by_cases hb:b=a
   ·exact hb
   ·exact absurd (if_neg hb) z
theorem Ik {l:W.OpenLaw}{n k:Nat}{q:Program}{loose:List Str}{XP:(Str->Option Value)->Heap->Prop}{YP:World->Heap->Prop}{d:DefRec}{K:Params->â}{CX:World->CXT}{sp:World->Sp}{x:Str}
  (hn:l.most=some n) (hn2:n<=sizeLine) (hdf:d.params.defaults=[]) (hr:Room k callerA)
  (hY:∀ (w:World) (h:Heap),YP w h->(K w.params).In h)
  (F:∀ (w:World) (mg:Str->Option Value) (fa:Addr) (h:Heap),(K w.params).In h->h.Ns mainGlobals mg->mg d.name=some (.ref fa) ->
   ∃ fd:FuncData,(∀ (s:Shared) (u:Value),BindsTo s fd ⟨[u],[]⟩ [(x,u)]) /\
    ∀ base:Heap,(K w.params).In base->base.Ns mainGlobals mg->FnOk l.prog w (K w.params) mg base (CX w) k fa fd [x] (sp w))
  (hsp:∀ (w:World) (H:Hp) (a:Addr) (ns:List Int),ns.length<=n->Only H->SqL (K w.params) H a (ns.map V.int)->sp w [.ref a] H (fun v _=>v=.bl true) fun _ _ _=>False)
  (hCX:∀ (w:World) (H:Hp) (s:Shared) (e:Value) (s':Shared),CX w [] H s (fun _ _ _=>False) e s'->False) :
  W.WalkO q loose XP YP l.row.toRowW d [] (fun f vs=>PySem.call f vs):=by
 refine Att.xJ hn hdf fun w s₀ s₁ mg mb fa o pm cd doc a vs ns G Y ho hd hcd hmg hobj hints hlen hg=>?_
 have KX:=hY w _ Y
 obtain⟨fd,hb,hF⟩:=F w mg fa _ KX G.T.g hmg
 exact GZ KX G.T.g G.T.b G.T.builtins G.T.nolimit hg hobj hints (Ć hlen hn2) hr hF hb (fun H hO hS=>hsp w H a ns hlen hO hS) fun H e s'=>hCX w H s₁ e s'
def jj (s:Stmt):Arguments:=match s with
 | .FunctionDef _ a _ _ _ _ _ _ _ _=>a
 | _=>{ posonlyargs:=[],args:=[],vararg:=none,kwonlyargs:=[],kw_defaults:=[],kwarg:=none,defaults:=[] }
def gH (s:Stmt):List Stmt:=match s with
 | .FunctionDef _ _ b _ _ _ _ _ _ _=>b
 | _=>[]
def aq (s:Stmt):Scope:=match s with
 | .FunctionDef _ _ _ _ _ _ sc _ _ _=>sc
 | _=>{ kind:=.function,names:=[],isGenerator:=false,isCoroutine:=false }
abbrev CX0:CXT:=fun _ _ _ _ _ _=>False
abbrev E0:XK:=fun _ _ _=>False
theorem Py {X:Cx}:Passes CX0 X E0:=fun _ _ _ _ _ _ _ h=>h.elim
structure Fun (K:â) (x qual:Str) (st:Stmt) (f:Addr) (fd:FuncData):Prop where
 ex:∃ (oc:Value) (od:Option Addr) (kV doc pm:Value) (an:Option Addr) (cdv ct:Value) (osl:Array (Option Value)),
  fd=W.fnOf x qual (jj st) (gH st) (aq st) .none kV doc pm an cdv ct/\K.lookup f=some ⟨oc,od,.func fd,osl⟩/\W.codeIn K cdv qual=true
 kp:W.keepIn K (.ref f)=true
section
variable {P:Program}{w:World}{K:â}{mg:Str->Option Value}{base:Heap}
theorem Fun.ok {x qual:Str}{st:Stmt}{f:Addr}{fd:FuncData}{N ps:List Str}{k:Nat}{sp:Sp} (F:Fun K x qual st f fd) (S:FnScope N ps (aq st)) (len:∀ vs H Q E,sp vs H Q E->vs.length=ps.length)
  (hbody:∀ (cdv:Value) (A:Around) (outer:List Env) (s:Shared) (H:Hp) (vs:List V) (Q:VK) (E:XK),Room k (A.deeper (envOfC qual (aq st) s.heap.objs.size f cdv))->sp vs H Q E ->
   ∃ t,PSs (DP CX0 P w K mg base N qual (aq st) f cdv A outer s H E).nox (gH st) t/\t { nx:=fun _ H'=>Q .non H',rt:=Q } (start N vs) H):FnOk P w K mg base CX0 (k+1) f fd ps sp:=by
 obtain⟨oc,od,kV,doc,pm,an,cdv,ct,osl,rfl,lk,hcd⟩:=F.ex
 refine Qj lk hcd S len fun A outer s H vs Q E hr hsp=>?_
 obtain⟨t,h,q⟩:=hbody cdv A outer s H vs Q E hr hsp
 exact⟨t,h.nox,q⟩
theorem Fun.binds {x qual:Str}{st:Stmt}{f:Addr}{fd:FuncData}{ps:List Str} (F:Fun K x qual st f fd)
  (h:∀ (kV doc pm:Value) (an:Option Addr) (cdv ct:Value) (us:List Value),us.length=ps.length->bindArgs (W.fnOf x qual (jj st) (gH st) (aq st) .none kV doc pm an cdv ct) ⟨us,[]⟩=pure (ps.zip us):=by intro _ _ _ _ _ _ us hl; first | (obtain⟨_,rfl⟩:=Nf.len1 us hl; rfl) | (obtain⟨_,_,rfl⟩:=Nf.len2 us hl; rfl) | (obtain⟨_,_,_,rfl⟩:=Nf.Q0 us hl; rfl)):Binds K fd ps []:=by
 obtain⟨oc,od,kV,doc,pm,an,cdv,ct,osl,rfl,lk,hcd⟩:=F.ex
 exact .all (h kV doc pm an cdv ct)
theorem NT {x qual:Str}{st:Stmt}{f:Addr}{oc:Value}{od an:Option Addr}{osl:Array (Option Value)}{kV doc pm cdv ct:Value} (l:K.lookup f=some ⟨oc,od,.func (W.fnOf x qual (jj st) (gH st) (aq st) .none kV doc pm an cdv ct),osl⟩)
  (c:W.codeIn K cdv qual=true) (k:W.keepIn K (.ref f)=true):Fun K x qual st f (W.fnOf x qual (jj st) (gH st) (aq st) .none kV doc pm an cdv ct):=⟨⟨oc,od,kV,doc,pm,an,cdv,ct,osl,rfl,l,c⟩,k⟩
end
section
variable {X:Cx}
theorem pv (i:Nat) {x:Str}{pos:Pos} (hN:X.N[i]?=some x:=by rfl) (hv:Vis X.env.scope x:=by first | exact Or.inl rfl | exact Or.inr (Or.inl rfl) | exact Or.inr (Or.inr rfl)) (hd:(x == ("__debug__":Str))=false:=by decide)
  (hcd:(x == ("__classdict__":Str))=false:=by decide):PE X (.Name x pos) (fj i):=Mt hN hv hd hcd
end
theorem aW {A B:Prop} (h:B):if false=true then A else B:=by
 rw [if_neg Ú]
 exact h
theorem bJ {A B:Prop} (h:A):if true=true then A else B:=by
 rw [if_pos rfl]
 exact h
theorem iM {c A B:Prop} [Decidable c] (h1:c->A) (h2:¬ c->B):if c then A else B:=by
 by_cases h:c
 ·rw [if_pos h]
  exact h1 h
 ·rw [if_neg h]
  exact h2 h
def Same (H H':Hp):Prop:=∀ b o,H b=some o->H' b=some o
theorem Same.refl (H:Hp):Same H H:=fun _ _ h=>h
theorem Same.trans {H H1 H2:Hp} (a:Same H H1) (b:Same H1 H2):Same H H2:=fun c o h=>b c o (a c o h)
structure CB where
 cl:List (Str×Addr)
 C:Addr
 s:Shared
 H:Hp
 ex:List Addr
abbrev Cx.aQ (X:Cx) (own M:List Str) (scope:Scope) (c:CB):Cx where
 prog:=X.prog
 w:=X.w
 K:=X.K
 mg:=X.mg
 base:=X.base
 A:=X.A
 N:=own++M
 s₀:=c.s
 H₀:=c.H
 env:=compEnvC scope c.cl c.C X.env
 outer:=X.stack
 stack:=X.stack
 ex:=c.ex
 fn:=fun x=>scope.names.lookup x == some .cell
 calm:=X.calm
 pn:=[]
 sf:=X.sf
 xe:=fun _ _=>False
abbrev Cx.comp (X:Cx) (own:List Str) (scope:Scope) (c:CB):Cx:=X.aQ own X.N scope c
def cA (cells:List (Str×Addr)):List (Str×NameKind)->List (Str×Addr)->List (Str×Addr)
 | [],acc=>acc
 | (n,k)::r,acc=>if k == .free then cA cells r ((n,(cells.lookup n).getD 0)::acc) else cA cells r acc
theorem gJ {env:Env}:∀ (names:List (Str×NameKind)) (acc:List (Str×Addr)),(∀ x∈names,x.2=.free->∃ c,env.cells.lookup x.1=some c) ->
  (forIn names acc fun (p:Str×NameKind) (r:List (Str×Addr))=>match p with
   | (name,kind)=>if (kind == ÿ)=true then do let a ← cellOf env name; pure (ī ((name,a)::r)) else pure (ī r):Sem (List (Str×Addr)))=pure (cA env.cells names acc)
 | [],acc,_=>by simp [cA]
 | (n,k)::r,acc,h=>by
  rw [List.forIn_cons]
  by_cases hk:(k == ÿ)=true
  ·obtain⟨c,hc⟩:=h (n,k) Ï (by simpa using hk)
   have e:cellOf env n=pure c:=by unfold cellOf; rw [hc]
   have ih:=gJ (env:=env) r ((n,c)::acc) fun x hx=>h x (Í _ hx)
   show ((if (k == ÿ)=true then do let a ← cellOf env n; pure (ī ((n,a)::acc)) else pure (ī acc)) >>= _:Sem _)=_
   rw [if_pos hk,e]
   unfold cA
   rw [if_pos hk,hc]
   exact ih
  ·have ih:=gJ (env:=env) r acc fun x hx=>h x (Í _ hx)
   show ((if (k == ÿ)=true then do let a ← cellOf env n; pure (ī ((n,a)::acc)) else pure (ī acc)) >>= _:Sem _)=_
   rw [if_neg hk]
   unfold cA
   rw [if_neg hk]
   exact ih
theorem zX {scope:Scope}{env:Env} (h:∀ x∈scope.names,x.2=.free->∃ c,env.cells.lookup x.1=some c):closureFor scope env=pure (cA env.cells scope.names []):=by
 have e:=gJ (env:=env) scope.names [] h
 unfold closureFor
 show (forIn scope.names [] _ >>= fun cs=>pure cs:Sem _)=_
 have e2:(forIn scope.names ([]:List (Str×Addr)) fun (p:Str×NameKind) (r:List (Str×Addr))=>match p with
   | (name,kind)=>if (kind == ÿ)=true then do let a ← cellOf env name; pure (ī ((name,a)::r)) else pure (ī r):Sem (List (Str×Addr)))=pure (cA env.cells scope.names []):=e
 rw [e2]
 rfl
theorem lH {cells:List (Str×Addr)}{x:Str}{c:Addr}:∀ {names:List (Str×NameKind)}{acc:List (Str×Addr)},(cA cells names acc).lookup x=some c->acc.lookup x=some c\/((x,ÿ)∈names/\c=(cells.lookup x).getD 0)
 | [],acc,h=>.inl h
 | (n,k)::r,acc,h=>by
  unfold cA at h
  by_cases hk:(k == ÿ)=true
  ·rw [if_pos hk] at h
   have hk':k=.free:=by simpa using hk
   rcases lH h with q | ⟨q1,q2⟩
   ·rw [Ň] at q
    cases hx:x == n with
    | true =>
     rw [hx] at q
     have e:x=n:=by simpa using hx
     subst e hk'
     exact .inr ⟨Ï,(Ù q).symm⟩
    | false=>rw [hx] at q; exact .inl q
   ·exact .inr ⟨Í _ q1,q2⟩
  ·rw [if_neg hk] at h
   rcases lH h with q | ⟨q1,q2⟩
   ·exact .inl q
   ·exact .inr ⟨Í _ q1,q2⟩
theorem qz {cells:List (Str×Addr)}{x:Str}:∀ {names:List (Str×NameKind)}{acc:List (Str×Addr)},(acc.lookup x).isSome=true->((cA cells names acc).lookup x).isSome=true
 | [],_,h=>h
 | (n,k)::r,acc,h=>by
  unfold cA
  split
  ·refine qz ?_
   rw [Ň]
   cases hx:x == n <;> simp [h]
  ·exact qz h
theorem iW {cells:List (Str×Addr)}{x:Str}:∀ {names:List (Str×NameKind)}{acc:List (Str×Addr)},(x,ÿ)∈names->((cA cells names acc).lookup x).isSome=true
 | (n,k)::r,acc,h=>by
  unfold cA
  rcases Þ.mp h with e | h
  ·cases e
   rw [if_pos (by rfl)]
   exact qz (by simp [Ň])
  ·split
   ·exact iW h
   ·exact iW h
def d9 (env:Env) (scope:Scope) (N:List Str):Bool :=
 (scope.kind == .function)&&scope.names.all fun y=>match y.2 with
  | .local=>!(N.contains y.1)&&(scope.names.lookup y.1 == some .local)
  | .cell=>!(N.contains y.1)&&(scope.names.lookup y.1 == some .cell)
  | .free=>(scope.names.lookup y.1 == some .free)&&(env.kindOf y.1 == some .cell || env.kindOf y.1 == some .free)
  | _=>true
theorem bZ {env:Env}:∀ {names:List (Str×NameKind)}{x:Str}{q:NameKind},(names.map fun (n,k)=>if (k == ÿ&&env.scope.kind == .function&&env.kindOf n == some .cell) then (n,Ĕ) else (n,k)).lookup x=some q ->
  ∃ k,(x,k)∈names/\names.lookup x=some k/\(q=k\/(q=.cell/\k=.free))
 | [],_,_,h=>by simp at h
 | (n,k)::r,x,q,h=>by
  have ih:=@bZ env r x q
  have h':List.lookup x ((if (k == ÿ&&env.scope.kind == .function&&env.kindOf n == some .cell)=true then (n,Ĕ) else (n,k))::(r.map fun (n,k)=>if (k == ÿ&&env.scope.kind == .function&&env.kindOf n == some .cell) then (n,Ĕ) else (n,k)))=some q:=h
  by_cases hc:(k == ÿ&&env.scope.kind == .function&&env.kindOf n == some .cell)=true
  ·rw [if_pos hc,Ň] at h'
   cases hx:x == n with
   | true =>
    rw [hx] at h'
    have e:x=n:=by simpa using hx
    subst e
    have hk:k=.free:=by simp at hc; exact hc.1.1
    exact⟨k,Ï,by simp [Ň],.inr ⟨(Ù h').symm,hk⟩⟩
   | false =>
    rw [hx] at h'
    obtain⟨k',h1,h2,h3⟩:=ih h'
    exact⟨k',Í _ h1,by rw [Ň,hx]; exact h2,h3⟩
  ·rw [if_neg hc,Ň] at h'
   cases hx:x == n with
   | true =>
    rw [hx] at h'
    have e:x=n:=by simpa using hx
    subst e
    exact⟨k,Ï,by simp [Ň],.inl (Ù h').symm⟩
   | false =>
    rw [hx] at h'
    obtain⟨k',h1,h2,h3⟩:=ih h'
    exact⟨k',Í _ h1,by rw [Ň,hx]; exact h2,h3⟩
theorem HOk.track {P:Program}{w:World}{H:Hp}{h:Heap}{a:Addr}{o:HO} (x:HOk P w H h) (hn:H a=none) (new:aV P w (upd H a o) h a o):HOk P w (upd H a o) h:=fun b u e=>by
 by_cases hb:b=a
 ·subst hb; rw [ao] at e; cases e; exact new
 ·rw [aj hb] at e
  exact (x b u e).stay (fun c v _ q=>q) (fun c q=>by rw [aj (ak q hn)]; exact q) fun c xs q=>by rw [aj (ak q hn)]; exact q
theorem DQ {prog:Program}{w:World}{A:Around}{s:Shared}{elt target iter:Expr}{ifs:List Expr}{scope:Scope}{pos:Pos}{it acc:Value}{env:Env}{R:Result->Shared->Prop} (I:Nat->Shared->Prop)
  (turn:∀ n s,I n s->wpAny (model prog w) A (pyNext it) (fun r s₁=>match r with
   | none=>R (.ok .next) s₁
   | some v=>wpAny (model prog w) A (letOwnedTupleGo target it v) (fun _ s₀=>wpAny (model prog w) A (assign target env v) (fun _ s₂ =>
     wpAny (model prog w) A (forIn ifs true fun c r=>if r=true then do let ok ← isTrue c env (eval c env); pure (ī ok) else pure (ī r)) (fun ok s₃ =>
      if ok=true then wpAny (model prog w) A (eval elt env) (fun x s₄ =>
       wpAny (model prog w) A (call (.builtin "list.append") [acc,x]) (fun _ s₅=>∃ m,m<n/\I m s₅) (fun _ _=>False) s₄) (fun _ _=>False) s₃
      else ∃ m,m<n/\I m s₃) (fun _ _=>False) s₂) (fun _ _=>False) s₀) (fun _ _=>False) s₁) (fun _ _=>False) s)
  (n:Nat) (h:I n s):codeAny (model prog w) A (.compLoop (.ListComp elt [⟨target,iter,ifs,0⟩] scope pos) 0 it acc env) R s:=by
 refine codeAny_loop rfl I (fun n s hI=>?_) n h
 show wpAny _ A ((compTurn (.ListComp elt [⟨target,iter,ifs,0⟩] scope pos) 0 it acc env).onRaise (fun x=>do noteFrame x env; theTreesLotGoes x)) _ _ s
 refine wpAny_noted ?_
 rw [compTurn_list]
 refine À (wpAny_standAt (À (Ĳ (turn n s hI) (fun r s₁ h₁=>?_) fun _ _ h'=>h'.elim)))
 cases r with
 | none=>exact Å h₁
 | some v =>
  refine À (Ĳ h₁ (fun _ s₀ h₀'=>?_) fun _ _ h'=>h'.elim)
  refine À (Ĳ h₀' (fun _ s₂ h₂=>À (Ĳ h₂ (fun ok s₃ h₃=>?_) fun _ _ h'=>h'.elim)) fun _ _ h'=>h'.elim)
  cases ok with
  | false=>exact Å ⟨rfl,h₃⟩
  | true =>
   exact À (À (Ĳ h₃ (fun x s₄ h₄=>À (Ĳ h₄ (fun _ s₅ h₅=>Å (Å ⟨rfl,h₅⟩)) fun _ _ h'=>h'.elim)) fun _ _ h'=>h'.elim))
def PTs (X:Cx) (ifs:List Expr) (t:TT):Prop :=
 ∀ (pins:List (Addr×Obj)) (s:Shared) (σ:St) (H:Hp) (Q:Bool->Hp->Prop),Inv X pins σ H s->t σ H Q ->
  wpAny (model X.prog X.w) X.A (forIn ifs true fun c r=>if r=true then do let ok ← isTrue c X.env (eval c X.env); pure (ī ok) else pure (ī r)) (TP X pins σ Q) X.xe s
theorem I9 {X:Cx}:PTs X [] (fun _ H Q=>Q true H):=fun _ _ _ H _ I h=>wpAny_tests_nil ⟨H,I,h⟩
theorem IW {X:Cx}{c:Expr}{t:TT} (hc:PT X c t):PTs X [c] t:=fun pins s σ H Q I h=>wpAny_tests_one (hc pins s σ H Q I h)
def QB (J:It) (n:Nat) (g:CB->TG) (tt:CB->TT) (te:CB->TE) (σ:St) (Q:VK) (H:Hp):Prop:=∃ W:Nat->Nat->List V->Hp->Prop,(∃ m,W 0 m [] H)/\∀ (c:CB) i m ys H,W i m ys H ->
 (J.stop i H/\∀ p,H p=none->Q (.ref p) (upd H p (.lst ys))) ∨
 (J.go i H/\ys.length<sizeLine/\∃ N:List V->Hp->Prop,(∀ ys' H',N ys' H'->∃ m',m'<m/\W (i+1) m' ys' H')/\∀ x H',J.yld i H x H'->g c x (Ó n none++σ) H' fun σ2 H2=>tt c σ2 H2 fun b H3 =>
  if b=true then te c σ2 H3 fun v H4=>N (ys++[v]) H4 else N ys H3)
def tLC (n:Nat) (wi:TI) (g:CB->TG) (tt:CB->TT) (te:CB->TE):TE:=fun σ H Q=>wi σ H fun J H1=>QB J n g tt te σ Q H1
section
variable {X:Cx}{own:List Str}{scope:Scope}{tg iter elt:Expr}{ifs:List Expr}{pos:Pos}{wi:TI}{g:CB->TG}{tt:CB->TT}{te:CB->TE}
def aL (env:Env) (scope:Scope) (N M:List Str):Bool :=
 d9 env scope M&&((N.length == M.length)&&(N.zip M).all fun y=>y.1 == y.2 || ((y.2 == ("":Str))&&scope.names.all fun z=>!(z.1 == ("":Str))))
theorem wZ {env:Env}{N:List Str} (h:d9 env scope N=true):aL env scope N N=true:=by
 unfold aL
 rw [h,Bool.true_and,beq_self_eq_true,Bool.true_and,Ŗ]
 rintro ⟨a,b⟩ hy
 obtain⟨i,hi,e⟩:=List.mem_iff_getElem.mp hy
 rw [List.getElem_zip] at e
 cases e
 simp
variable {M:List Str}
theorem dO (h:aL X.env scope X.N M=true):scope.kind=.function:=by
 unfold aL d9 at h
 simp only [Ü,beq_iff_eq] at h
 exact h.1.1
theorem bI (h:aL X.env scope X.N M=true):∀ y∈scope.names,(y.2=.local->y.1∉M/\scope.names.lookup y.1=some .local)/\(y.2=.cell->y.1∉M/\scope.names.lookup y.1=some .cell)/\(y.2=.free->scope.names.lookup y.1=some .free/\(X.env.kindOf y.1=some .cell\/X.env.kindOf y.1=some .free)):=by
 unfold aL at h
 rw [Ü] at h
 have h:=h.1
 unfold d9 at h
 rw [Ü,Ŗ] at h
 intro y hy
 have q:=h.2 y hy
 obtain⟨n,k⟩:=y
 cases k with
 | «local»=>simp at q ⊢; exact q
 | cell=>simp at q ⊢; exact q
 | free=>simp at q ⊢; exact q
 | globalExplicit=>simp
 | globalImplicit=>simp
theorem aU:∀ (names:List (Str×NameKind)) (n:Nat) (acc:List (Str×Addr)),cellsFrom n names acc=cellsFrom n names []++acc
 | [],_,_=>rfl
 | (nm,k)::r,n,acc=>by
  show (if (k == Ĕ)=true then cellsFrom (n+1) r ((nm,n)::acc) else cellsFrom n r acc)=(if (k == Ĕ)=true then cellsFrom (n+1) r [(nm,n)] else cellsFrom n r [])++acc
  split
  ·rw [aU r (n+1) ((nm,n)::acc),aU r (n+1) [(nm,n)],List.append_assoc]
   rfl
  ·exact aU r n acc
theorem dX:∀ (names:List (Str×NameKind)) (n:Nat) (x:Str) (c:Addr),(x,c)∈cellsFrom n names []->(x,Ĕ)∈names/\n<=c
 | [],_,_,_,h=>nomatch h
 | (nm,k)::r,n,x,c,h=>by
  have h:(x,c)∈(if (k == Ĕ)=true then cellsFrom (n+1) r [(nm,n)] else cellsFrom n r []):=h
  split at h
  ·rename_i hk
   rw [aU] at h
   rcases é.mp h with z | z
   ·obtain⟨h1,h2⟩:=dX r (n+1) x c z
    exact⟨Í _ h1,by omega⟩
   ·have z:(x,c)=(nm,n):=by simpa using z
    cases z
    have hk:k=.cell:=by simpa using hk
    subst hk
    exact⟨Ï,Ò _⟩
  ·obtain⟨h1,h2⟩:=dX r n x c h
   exact⟨Í _ h1,h2⟩
theorem mU:∀ (names:List (Str×NameKind)) (n:Nat) (x y:Str) (c:Addr),(x,c)∈cellsFrom n names []->(y,c)∈cellsFrom n names []->x=y
 | [],_,_,_,_,h,_=>nomatch h
 | (nm,k)::r,n,x,y,c,h,h'=>by
  have h:(x,c)∈(if (k == Ĕ)=true then cellsFrom (n+1) r [(nm,n)] else cellsFrom n r []):=h
  have h':(y,c)∈(if (k == Ĕ)=true then cellsFrom (n+1) r [(nm,n)] else cellsFrom n r []):=h'
  by_cases hk:(k == Ĕ)=true
  ·rw [if_pos hk,aU] at h h'
   rcases é.mp h with z | z <;> rcases é.mp h' with z' | z'
   ·exact mU r (n+1) x y c z z'
   ·have:=(dX r (n+1) x c z).2
    have z':(y,c)=(nm,n):=by simpa using z'
    cases z'
    exact absurd this (Nat.not_succ_le_self _)
   ·have:=(dX r (n+1) y c z').2
    have z:(x,c)=(nm,n):=by simpa using z
    cases z
    exact absurd this (Nat.not_succ_le_self _)
   ·have z:(x,c)=(nm,n):=by simpa using z
    have z':(y,c)=(nm,n):=by simpa using z'
    cases z
    cases z'
    rfl
  ·rw [if_neg hk] at h h'
   exact mU r n x y c h h'
theorem je:∀ (names:List (Str×NameKind)) (h:Heap) (b:Addr) (o:Obj),h.get? b=some o->(pushCells h names).get? b=some o
 | [],_,_,_,e=>e
 | (nm,k)::r,h,b,o,e=>by
  show (if (k == Ĕ)=true then pushCells (h.push { cls:=Ă "cell",data:=Data.cell none }) r else pushCells h r).get? b=some o
  split
  ·exact je r _ b o (È _ e)
  ·exact je r h b o e
theorem lW:∀ (names:List (Str×NameKind)) (h:Heap) (x:Str) (c:Addr),(x,c)∈cellsFrom h.objs.size names []->(pushCells h names).IsCell c none
 | [],_,_,_,e=>nomatch e
 | (nm,k)::r,h,x,c,e=>by
  have e:(x,c)∈(if (k == Ĕ)=true then cellsFrom (h.objs.size+1) r [(nm,h.objs.size)] else cellsFrom h.objs.size r []):=e
  show (if (k == Ĕ)=true then pushCells (h.push { cls:=Ă "cell",data:=Data.cell none }) r else pushCells h r).IsCell c none
  by_cases hk:(k == Ĕ)=true
  ·rw [if_pos hk,aU] at e
   rw [if_pos hk]
   rcases é.mp e with z | z
   ·exact lW r _ x c (by rw [ķ]; exact z)
   ·have z:(x,c)=(nm,h.objs.size):=by simpa using z
    cases z
    exact⟨_,je r _ _ _ (Ô _ rfl),rfl⟩
  ·rw [if_neg hk] at e ⊢
   exact lW r h x c e
theorem yN {M:Model}{A:Around}{E:Value->Shared->Prop}{s:Shared}{scope:Scope}{globals:Addr}{closure:List (Str×Addr)}{qual:Str}{func:Option Addr}{code:Value}{around:Option Env}{builtins:Addr}{Q:Env->Shared->Prop}
  (h:Q (newEnv scope s.heap.objs.size globals (cellsFrom (s.heap.objs.size+1) scope.names closure) qual func code around builtins) { s with heap:=pushCells (s.heap.push { cls:=Ă (if around.isSome=true then "dict" else "frame"),data:=Data.dict #[] }) scope.names }) :
  wpAny M A (newFunctionEnv scope globals closure [] qual func code around builtins) Q E s:=by
 unfold newFunctionEnv
 refine À (wpAny_alloc ?_)
 refine À (wpAny_layCells _ (fun _ _ _=>rfl) _ _ _ _ ?_)
 rw [ķ]
 exact À (Å (Å h))
theorem Oi {n:Nat}{names:List (Str×NameKind)}{cl:List (Str×Addr)}{x:Str}{c:Addr} (h:(cellsFrom n names cl).lookup x=some c):(x,c)∈cellsFrom n names []\/cl.lookup x=some c:=by
 rw [aU,List.lookup_append] at h
 cases e:(cellsFrom n names []).lookup x with
 | none=>rw [e] at h; exact .inr h
 | some d =>
  rw [e] at h
  cases h
  exact .inl (ŏ e)
theorem HY {n:Nat}{names:List (Str×NameKind)}{cl:List (Str×Addr)}{x:Str} (h:∀ c,(x,c)∈cellsFrom n names []->False):(cellsFrom n names cl).lookup x=cl.lookup x:=by
 rw [aU,List.lookup_append]
 cases e:(cellsFrom n names []).lookup x with
 | none=>rfl
 | some d=>exact (h d (ŏ e)).elim
theorem wU (h:aL X.env scope X.N M=true) {n:Nat}{x:Str} (hx:(x,ÿ)∈scope.names):∀ c,(x,c)∈cellsFrom n scope.names []->False:=fun c z=>by
 have h1:=((bI h _ hx).2.2 rfl).1
 have h2:=((bI h _ (dX _ _ _ _ z).1).2.1 rfl).2
 rw [h1] at h2
 cases h2
theorem iU (h:aL X.env scope X.N M=true):X.N.length=M.length:=by
 unfold aL at h
 rw [Ü,Ü] at h
 exact eq_of_beq h.2.1
theorem rW {i:Nat}{x:Str}{k:NameKind} (h:aL X.env scope X.N M=true) (hx:M[i]?=some x) (_:x∈M) (hn:(x,k)∈scope.names):X.N[i]?=some x:=by
 have hl:=iU h
 unfold aL at h
 rw [Ü,Ü,Ŗ] at h
 have hi:i<M.length:=(É.mp hx).1
 have hx':M[i]=x:=(É.mp hx).2
 have hi':i<X.N.length:=by omega
 have q:=h.2.2 (X.N[i],M[i]) (by
  refine List.mem_iff_getElem.mpr ⟨i,by rw [List.length_zip]; omega,?_⟩
  rw [List.getElem_zip])
 rw [Bool.or_eq_true] at q
 rcases q with q | q
 ·have q:X.N[i]=M[i]:=eq_of_beq q
  rw [Ä hi',q,hx']
 ·rw [Ü,Ŗ] at q
  have e:M[i]=("":Str):=eq_of_beq q.1
  have z:=q.2 (x,k) hn
  rw [← hx',e] at z
  simp at z
theorem zV {pins:List (Addr×Obj)}{σ:St}{H:Hp}{s:Shared}{fp:List Addr}{h₁:Heap}{tk:Nat} (hk:aL X.env scope X.N M=true) (I:Inv X pins σ H s) (hf:∀ b∈fp,qI X pins H b) (hfo:∀ b∈fp,∃ o,s.heap.get? b=some o)
  (hns:h₁.Ns (s.heap.objs.size+1) fun _=>none) (old:∀ b o,s.heap.get? b=some o->h₁.get? b=some o) (hD:h₁.get? s.heap.objs.size=some { cls:=.type "list",data:=.seq #[] 0 }) (hnc:∀ x c,(x,c)∈cellsFrom (s.heap.objs.size+2) scope.names []->h₁.IsCell c none) :
  Inv (X.aQ own M scope ⟨cellsFrom (s.heap.objs.size+2) scope.names (cA X.env.cells scope.names []),s.heap.objs.size+1,s,H,fp⟩) [(s.heap.objs.size,{ cls:=.type "list",data:=.seq #[] 0 })] (Ó own.length none++σ) H { s with heap:=h₁,toks:=tk }:=by
 have hkk:=dO hk
 have hka:=bI hk
 have hhas:∀ x,(x,ÿ)∈scope.names->∃ c,X.env.cells.lookup x=some c:=fun x hx=>I.ok.has x ((hka _ hx).2.2 rfl).2
 have hcl:∀ x c,(cA X.env.cells scope.names []).lookup x=some c->X.env.cells.lookup x=some c/\(x,ÿ)∈scope.names:=fun x c e=>by
  rcases lH e with q | ⟨q1,q2⟩
  ·simp at q
  ·obtain⟨c',e'⟩:=hhas x q1
   rw [e'] at q2
   exact⟨by rw [e',q2]; rfl,q1⟩
 have hcc:∀ x c,(cellsFrom (s.heap.objs.size+2) scope.names (cA X.env.cells scope.names [])).lookup x=some c->(X.env.cells.lookup x=some c/\(x,ÿ)∈scope.names/\c<s.heap.objs.size)\/((x,c)∈cellsFrom (s.heap.objs.size+2) scope.names []/\(x,Ĕ)∈scope.names/\s.heap.objs.size+2<=c):=fun x c e=>by
  rcases Oi e with z | z
  ·exact .inr ⟨z,dX _ _ _ _ z⟩
  ·obtain⟨h1,h2⟩:=hcl x c z
   obtain⟨v,o,ho,_⟩:=I.cell x c h1
   exact .inl ⟨h1,h2,Ê ho⟩
 have hvis:∀ x,(relabel scope X.env).names.lookup x=some .cell\/(relabel scope X.env).names.lookup x=some .free->(x,ÿ)∈scope.names\/(x,Ĕ)∈scope.names:=fun x hx=>by
  have key:∀ q,(relabel scope X.env).names.lookup x=some q->q=.cell\/q=.free->(x,ÿ)∈scope.names\/(x,Ĕ)∈scope.names:=fun q hq hq'=>by
   obtain⟨k,h1,h2,h3⟩:=bZ (env:=X.env) (names:=scope.names) hq
   rcases h3 with h3 | ⟨_,h3⟩
   ·subst h3
    rcases hq' with z | z
    ·rw [z] at h1; exact .inr h1
    ·rw [z] at h1; exact .inl h1
   ·rw [h3] at h1; exact .inl h1
  rcases hx with hx | hx
  ·exact key _ hx (.inl rfl)
  ·exact key _ hx (.inr rfl)
 have hlt:∀ b o,s.heap.get? b=some o->b<s.heap.objs.size:=fun b o e=>Ê e
 refine⟨⟨I.ok.mod,hkk,I.ok.glob,I.ok.blt,Ę _,fun x y c h1 h2=>?inj,fun x hx=>?_,fun x c z e=>?cab,I.ok.hd,I.ok.frames,.inl rfl,fun b hb=>⟨?_,fun x c e=>?exf⟩,I.bs,
   Ć I.ok.bsz I.sz,fun b o e hb=>?_,fun b hb hs=>?_,I.stack,I.Ak,fun q hq=>⟨(I.ok.sof q hq).1,I.base.frzs _ _ _ (I.ok.sof q hq).2.1,(I.ok.sof q hq).2.2⟩⟩,rfl,I.bare,Un.kept old,⟨_,hns,fun i x v h1 h2 h3=>?_⟩,fun x c e=>?_,?_,fun x c e=>?frc,fun p hp=>?_,I.hok.kept old,?_⟩
 case inj =>
  rcases hcc x c h1 with ⟨a1,_,a3⟩ | ⟨a1,_,a3⟩ <;> rcases hcc y c h2 with ⟨b1,_,b3⟩ | ⟨b1,_,b3⟩
  ·exact I.ok.inj x y c a1 b1
  ·exact absurd (è a3 (Ć (Nat.le_add_right _ 2) b3)) (ď _)
  ·exact absurd (è b3 (Ć (Nat.le_add_right _ 2) a3)) (ď _)
  ·exact mU _ _ _ _ _ a1 b1
 case cab =>
  show s.heap.objs.size<=c
  rcases hcc x c e with ⟨_,a2,_⟩ | ⟨_,_,a3⟩
  ·have h1:=((hka _ a2).2.2 rfl).1
   have z:(scope.names.lookup x == some Ĕ)=true:=z
   rw [h1] at z
   exact absurd z (by decide)
  ·omega
 case exf =>
  rcases hcc x c e with ⟨a1,_,_⟩ | ⟨_,_,a3⟩
  ·exact (hf b hb).2.2.2.2.1 x c a1
  ·obtain⟨o,e⟩:=hfo b hb
   have:=hlt b o e
   intro z
   subst z
   exact absurd (è this (Ć (Nat.le_add_right _ 2) a3)) (ď _)
 case frc =>
  rcases hcc x c e with ⟨a1,_,_⟩ | ⟨_,_,a3⟩
  ·exact I.freeC x c a1
  ·exact I.hok.fresh (by omega)
 ·have hx':(relabel scope X.env).names.lookup x=some .cell\/(relabel scope X.env).names.lookup x=some .free:=hx
  refine Option.isSome_iff_exists.mp (W.cellsFrom_some _ _ _ ?_)
  rcases hvis x hx' with z | z
  ·exact .inr (iW z)
  ·exact .inl ((hka _ z).2.1 rfl).2
 ·obtain⟨o,e⟩:=hfo b hb
  exact Õ (ô (hlt b o e))
 ·have hb':b∈fp:=hb
  rcases (hf b hb').2.2.2.1 with z | z
  ·exact I.ok.noex b o e z
  ·exact absurd (è (Ê (I.ok.bs b o e).1) z) (ď _)
 ·have hb':b∈fp:=hb
  rcases Þ.mp (I.xX b hs) with z | z
  ·exact (hf b hb').2.1 z
  ·exact (hf b hb').2.2.1 z
 ·have hi:own.length<=i:=by
   by_cases hi:i<own.length
   ·rw [Ħ (by simpa using hi),ũ] at h2
    split at h2 <;> cases h2
   ·omega
  have h1':M[i - own.length]?=some x:=by
   have q:(own++M)[i]?=some x:=h1
   rwa [ġ hi] at q
  have h2':σ[i - own.length]?=some (some v):=by
   rw [ġ (by simpa using hi)] at h2
   simpa using h2
  have h3':Vis (relabel scope X.env) x:=h3
  have hfr:(x,ÿ)∈scope.names:=by
   rcases h3' with z | z
   ·obtain⟨k,q1,q2,q3⟩:=bZ (env:=X.env) (names:=scope.names) z
    rcases q3 with q3 | ⟨q3,_⟩
    ·subst q3
     exact absurd (Æ h1') ((hka _ q1).1 rfl).1
    ·cases q3
   ·rcases hvis x z with y | y
    ·exact y
    ·exact absurd (Æ h1') ((hka _ y).2.1 rfl).1
  have hkx:=((hka _ hfr).2.2 rfl).2
  obtain⟨m,hm,hl⟩:=I.loc
  obtain⟨u,ru,lu⟩:=hl _ x v (rW hk h1' (Æ h1') hfr) h2' (by rcases hkx with z | z; exact .inr (.inl z); exact .inr (.inr z))
  refine⟨u,ru,.inr ⟨?_,?_⟩⟩
  ·rcases h3' with z | z | z
   ·obtain⟨k,q1,q2,q3⟩:=bZ (env:=X.env) (names:=scope.names) z
    rcases q3 with q3 | ⟨q3,_⟩
    ·subst q3
     exact absurd (Æ h1') ((hka _ q1).1 rfl).1
    ·cases q3
   ·exact .inl z
   ·exact .inr z
  ·rcases lu with ⟨z,_⟩ | ⟨_,c,e,ic⟩
   ·rcases hkx with q | q
    ·rw [q] at z; cases z
    ·rw [q] at z; cases z
   ·obtain⟨c',e'⟩:=Option.isSome_iff_exists.mp (iW (cells:=X.env.cells) (acc:=[]) hfr)
    have e2:=(hcl x c' e').1
    rw [e] at e2
    cases e2
    obtain⟨o,ho,hd⟩:=ic
    exact⟨c,(HY (wU hk hfr)).trans e',o,old _ _ ho,hd⟩
 ·rcases hcc x c e with ⟨z,_,_⟩ | ⟨z,_,_⟩
  ·obtain⟨v,o,ho,hd⟩:=I.cell x c z
   exact⟨v,o,old _ _ ho,hd⟩
  ·exact⟨none,hnc x c z⟩
 ·exact I.hok.fresh (Ę _)
 ·have hp':p=(s.heap.objs.size,{ cls:=.type "list",data:=.seq #[] 0 }):=by simpa using hp
  subst hp'
  refine⟨hD,I.hok.fresh (Ò _),Õ (ĳ _),fun z=>?_,fun v z=>nomatch z⟩
  obtain⟨_,o,ho,_⟩:=I.stack.mem z
  exact absurd (Ê ho) (ď _)
 ·show (Ó own.length none++σ).length=(own++M).length
  rw [Ý,Ý,Ņ,I.len,iU hk]
theorem zU {pins pn:List (Addr×Obj)}{σ σ':St}{H H':Hp}{s s':Shared}{fp:List Addr}{cl:List (Str×Addr)}{ys:List V}{us:List Value}{n:Nat} (I:Inv X pins σ H s) (hf:∀ b∈fp,qI X pins H b)
  (J:Inv (X.aQ own M scope ⟨cl,s.heap.objs.size+1,s,H,fp⟩) pn σ' H' s') (hp:(s.heap.objs.size,({ cls:=.type "list",data:=.seq us.toArray n }:Obj))∈pn) (hv:Vals ys us) (hz:ys.length<=sizeLine) :
  Inv X pins σ (upd H' s.heap.objs.size (.lst ys)) s'/\H' s.heap.objs.size=none:=by
 obtain⟨hD,hDn,_⟩:=J.pin _ (ê _ hp)
 refine⟨I.call' J.os ⟨fun b o e n hb hx=>J.base.keep b o e n hb hx,fun b o e n hb hx=>J.base.slot b o e n hb hx,fun b o e n hx=>?_,fun b o e hx=>J.base.there b o e hx,fun b xs e=>?_,fun b o u e=>?_,fun b ps e=>?_⟩ ?_ J.bare ?_,hDn⟩
 ·rw [aj (Õ (Ê e))]
  exact J.base.free b o e n hx
 ·have q:=J.base.tups b xs e
  rw [aj (ak q hDn)]
  exact q
 ·have q:=J.base.frzs b o u e
  rw [aj (ak q hDn)]
  exact q
 ·obtain⟨more,q⟩:=J.base.tbls b ps e
  exact⟨more,by rw [aj (ak q hDn)]; exact q⟩
 ·exact J.hok.track hDn ⟨hz,us,n,hv,hD⟩
 ·intro b hb
  exact⟨(hf b hb).2.2.2.1,(hf b hb).2.1,(hf b hb).2.2.2.2.1,(hf b hb).2.2.2.2.2⟩
theorem qy {pins pn:List (Addr×Obj)}{σ σ':St}{H H':Hp}{s s':Shared}{fp:List Addr}{cl:List (Str×Addr)} (hk:aL X.env scope X.N M=true) (I:Inv X pins σ H s) (hf:∀ b∈fp,qI X pins H b)
  (hcl:∀ x,(x,ÿ)∈scope.names->∃ c,cl.lookup x=some c/\X.env.cells.lookup x=some c)
  (J:Inv (X.aQ own M scope ⟨cl,s.heap.objs.size+1,s,H,fp⟩) pn σ' H' s'):Inv (X.aQ own M scope ⟨cl,s.heap.objs.size+1,s,H,fp⟩) pn (Ó own.length none++σ) H' s':=by
 have hka:=bI hk
 refine⟨J.ok,J.os,J.bare,J.base,?_,J.cell,J.free,J.freeC,J.pin,J.hok,?_⟩
 ·obtain⟨mC,hmC,_⟩:=J.loc
  refine⟨mC,hmC,fun i x v h1 h2 h3=>?_⟩
  have hi:own.length<=i:=by
   by_cases hi:i<own.length
   ·rw [Ħ (by simpa using hi),ũ] at h2
    split at h2 <;> cases h2
   ·omega
  have h1':M[i - own.length]?=some x:=by
   have q:(own++M)[i]?=some x:=h1
   rwa [ġ hi] at q
  have h2':σ[i - own.length]?=some (some v):=by
   rw [ġ (by simpa using hi)] at h2
   simpa using h2
  have h3':Vis (relabel scope X.env) x:=h3
  have nloc:¬ (relabel scope X.env).names.lookup x=some .local:=fun z=>by
   obtain⟨k,q1,q2,q3⟩:=bZ (env:=X.env) (names:=scope.names) z
   rcases q3 with q3 | ⟨q3,_⟩
   ·subst q3
    exact absurd (Æ h1') ((hka _ q1).1 rfl).1
   ·cases q3
  have hkk:(relabel scope X.env).names.lookup x=some .cell\/(relabel scope X.env).names.lookup x=some .free:=by
   rcases h3' with z | z
   ·exact absurd z nloc
   ·exact z
  have hfr:(x,ÿ)∈scope.names:=by
   have key:∀ q,(relabel scope X.env).names.lookup x=some q->q=.cell\/q=.free->(x,ÿ)∈scope.names:=fun q hq hq'=>by
    obtain⟨k,h1,h2,h3⟩:=bZ (env:=X.env) (names:=scope.names) hq
    rcases h3 with h3 | ⟨_,h3⟩
    ·subst h3
     rcases hq' with z | z
     ·rw [z] at h1; exact absurd (Æ h1') ((hka _ h1).2.1 rfl).1
     ·rw [z] at h1; exact h1
    ·rw [h3] at h1; exact h1
   rcases hkk with hx | hx
   ·exact key _ hx (.inl rfl)
   ·exact key _ hx (.inr rfl)
  have hkx:=((hka _ hfr).2.2 rfl).2
  obtain⟨m,hm,hl⟩:=I.loc
  obtain⟨u,ru,lu⟩:=hl _ x v (rW hk h1' (Æ h1') hfr) h2' (by rcases hkx with z | z; exact .inr (.inl z); exact .inr (.inr z))
  refine⟨u,ru,.inr ⟨hkk,?_⟩⟩
  rcases lu with ⟨z,_⟩ | ⟨_,c,e,ic⟩
  ·rcases hkx with q | q
   ·rw [q] at z; cases z
   ·rw [q] at z; cases z
  ·obtain⟨c',e',e2⟩:=hcl x hfr
   rw [e] at e2
   cases e2
   obtain⟨o,ho,hd⟩:=ic
   obtain⟨sl,q⟩:=J.base.any ho (I.freeC x c e) fun z=>(hf c z).2.2.2.2.1 x c e rfl
   exact⟨c,e',_,q,hd⟩
 ·show (Ó own.length none++σ).length=(own++M).length
  rw [Ý,Ý,Ņ,I.len,iU hk]
theorem rQ {pins:List (Addr×Obj)}{σ:St}{H:Hp}{s:Shared}{it:Addr}{fp:List Addr}{tn:Nat->Heap->Prop}{J:It}{W:Nat->Nat->List V->Hp->Prop}{E:Value->Shared->Prop}{RR:Value->Addr->Result->Shared->Prop}{Cm:Cx->Prop} (hc:∀ c,Cm (X.aQ own M scope c))
  (hk:aL X.env scope X.N M=true) (hg:∀ c,PG (X.aQ own M scope c) tg (g c)) (ht:∀ c,PTs (X.aQ own M scope c) ifs (tt c)) (he:∀ c,PE (X.aQ own M scope c) elt (te c))
  (I:Inv X pins σ H s) (T:TurnG Cm X.prog X.w X.K tg J fp it tn) (st:tn 0 s.heap) (hf:∀ b∈fp,qI X pins H b) {m0:Nat} (w0:W 0 m0 [] H) {D:List V->Hp->Prop}
  (turn:∀ (c:CB) i m ys H,W i m ys H->(J.stop i H/\D ys H) ∨
   (J.go i H/\ys.length<sizeLine/\∃ N:List V->Hp->Prop,(∀ ys' H',N ys' H'->∃ m',m'<m/\W (i+1) m' ys' H')/\∀ x H',J.yld i H x H'->g c x (Ó own.length none++σ) H' fun σ2 H2=>tt c σ2 H2 fun b H3 =>
    if b=true then te c σ2 H3 fun v H4=>N (ys++[v]) H4 else N ys H3))
  (fin:∀ s' m' ys H',(s'.heap.Ns (s.heap.objs.size+1) m')->H' (s.heap.objs.size+1)=none->H' s.heap.objs.size=none->Inv X pins σ (upd H' s.heap.objs.size (.lst ys)) s'->D ys H'->RR (.ref s.heap.objs.size) (s.heap.objs.size+1) (.ok .next) s') :
  wpAny (model X.prog X.w) X.A (newList []) (fun acc s₃=>wpAny (model X.prog X.w) X.A (newFunctionEnv scope X.env.globals (cA X.env.cells scope.names []) [] X.env.qual none .none (some X.env)) (fun cenv s₄ =>
   codeAny (model X.prog X.w) X.A (.compStart (.ListComp elt [⟨tg,iter,ifs,0⟩] scope pos) 0 (.ref it) acc { cenv with scope:=relabel scope X.env }) (RR acc cenv.locals) s₄) E s₃) E s:=by
 have hkk:=dO hk
 have hka:=bI hk
 refine ĕ (yN ?_)
 dsimp only
 have hC:(s.heap.push { cls:=.type "list",dict:=none,data:=.seq ([]:List Value).toArray }).objs.size=s.heap.objs.size+1:=ķ ..
 rw [hC]
 generalize hH2:s.heap.push { cls:=.type "list",dict:=none,data:=.seq ([]:List Value).toArray }=H2 at hC ⊢
 generalize hH3:H2.push { cls:=Ă (if (some X.env:Option Env).isSome=true then "dict" else "frame"),data:=Data.dict #[] }=H3
 generalize hh1:pushCells H3 scope.names=h₁
 have hC3:H3.objs.size=s.heap.objs.size+2:=by rw [← hH3,ķ,hC]
 have old3:∀ b o,H3.get? b=some o->h₁.get? b=some o:=fun b o e=>hh1 ▸ je _ _ _ _ e
 have old2:∀ b o,H2.get? b=some o->h₁.get? b=some o:=fun b o e=>old3 b o (hH3 ▸ È _ e)
 have old:∀ b o,s.heap.get? b=some o->h₁.get? b=some o:=fun b o e=>old2 b o (hH2 ▸ È _ e)
 have hacc:h₁.get? s.heap.objs.size=some { cls:=.type "list",data:=.seq #[] 0 }:=old2 _ _ (hH2 ▸ Ô _ rfl)
 have hns:h₁.Ns (s.heap.objs.size+1) fun _=>none:=by
  have z:=Heap.Ns.new H2 (Ă (if (some X.env:Option Env).isSome=true then "dict" else "frame"))
  rw [hC,hH3] at z
  exact z.keeps old3
 have hnc:∀ x c,(x,c)∈cellsFrom (s.heap.objs.size+2) scope.names []->h₁.IsCell c none:=fun x c e=>by
  rw [← hC3] at e
  exact hh1 ▸ lW _ _ _ _ e
 have hfo:∀ b∈fp,∃ o,s.heap.get? b=some o:=fun b hb=>let ⟨o,e,_⟩:=T.obj 0 _ st b hb; ⟨o,e⟩
 have st₁:tn 0 h₁:=T.keep 0 _ _ st fun b _ o e=>old b o e
 have I₁:=zV (own:=own) (tk:=s.toks) hk I hf hfo hns old hacc hnc
 have loop:∀ s₃:Shared,s₃={ s with heap:=h₁,toks:=s.toks } ->
   codeAny (model X.prog X.w) X.A (.compLoop (.ListComp elt [⟨tg,iter,ifs,0⟩] scope pos) 0 (.ref it) (.ref s.heap.objs.size) (compEnvC scope (cellsFrom (s.heap.objs.size+2) scope.names (cA X.env.cells scope.names [])) (s.heap.objs.size+1) X.env))
    (RR (.ref s.heap.objs.size) (s.heap.objs.size+1)) s₃:=by
  rintro s₃ rfl
  have neD:∀ b∈fp,b≠s.heap.objs.size:=fun b hb=>by
   obtain⟨o,e⟩:=hfo b hb
   exact Õ (Ê e)
  have stat:∀ {H':Hp}{o:Obj},(∀ b∈fp,H' b=none)->∀ b∈fp,qI (X.aQ own M scope ⟨cellsFrom (s.heap.objs.size+2) scope.names (cA X.env.cells scope.names []),s.heap.objs.size+1,s,H,fp⟩) [(s.heap.objs.size,o)] H' b:=fun {H' o} hn b hb =>
   ⟨hn b hb,(I₁.ok.exf b hb).1,I₁.ok.exfs b hb,.inl hb,(I₁.ok.exf b hb).2,fun p hp=>by
    have hp':p=(s.heap.objs.size,o):=by simpa using hp
    subst hp'
    exact č (neD b hb)⟩
  refine DQ (fun k s'=>∃ i ys us n H',Inv (X.aQ own M scope ⟨cellsFrom (s.heap.objs.size+2) scope.names (cA X.env.cells scope.names []),s.heap.objs.size+1,s,H,fp⟩) [(s.heap.objs.size,{ cls:=.type "list",data:=.seq (us:List Value).toArray n })] (Ó own.length none++σ) H' s' /\
    Vals ys us/\ys.length<=sizeLine/\tn i s'.heap/\(∀ b∈fp,H' b=none)/\W i k ys H') ?_ m0 ⟨0,[],[],0,H,I₁,.nil,Č _,st₁,fun b hb=>(hf b hb).1,w0⟩
  rintro k s3 ⟨i,ys,us,n,H3,I3,hv,hz,st3,fr3,w3⟩
  rcases turn ⟨cellsFrom (s.heap.objs.size+2) scope.names (cA X.env.cells scope.names []),s.heap.objs.size+1,s,H,fp⟩ i k ys H3 w3 with ⟨stop,d⟩ | ⟨go,hlt,N,hN,step⟩
  ·refine thn (T.done (X.aQ own M scope ⟨cellsFrom (s.heap.objs.size+2) scope.names (cA X.env.cells scope.names []),s.heap.objs.size+1,s,H,fp⟩) rfl rfl rfl (hc _) i _ s3 _ H3 _ I3 (stat fr3) st3 stop) fun r s4 ⟨hr,I4⟩=>?_
   subst hr
   obtain⟨m',hm',_⟩:=I4.loc
   obtain⟨J4,hDn⟩:=zU I hf I4 (Ì.mpr rfl) hv hz
   exact fin s4 m' ys H3 hm' I4.free hDn J4 d
  ·refine thn (T.item (X.aQ own M scope ⟨cellsFrom (s.heap.objs.size+2) scope.names (cA X.env.cells scope.names []),s.heap.objs.size+1,s,H,fp⟩) rfl rfl rfl (hc _) i _ s3 _ H3 _ I3 (stat fr3) st3 go) fun r s4 ⟨u,hr,h4⟩=>?_
   subst hr
   refine thn h4 fun _ s5 ⟨x,H5,I5,r5,y5,st5,fr5⟩=>?_
   have I5':=I5.pinned (stat fr5) (T.obj _ _ st5)
   refine thn (hg _ _ s5 _ H5 x u _ I5' r5 (step x H5 y5)) fun _ s6 ⟨σ6,H6,I6,q6⟩=>?_
   refine thn (ht _ _ s6 σ6 H6 _ I6 q6) fun b s7 ⟨H7,I7,q7⟩=>?_
   -- the turn's end: the iterator's records stand,the names are forgotten
   have clH:∀ x,(x,ÿ)∈scope.names->∃ c,(cellsFrom (s.heap.objs.size+2) scope.names (cA X.env.cells scope.names [])).lookup x=some c/\X.env.cells.lookup x=some c:=fun x hx=>by
    obtain⟨c,e⟩:=I.ok.has x ((hka _ hx).2.2 rfl).2
    obtain⟨c',e'⟩:=Option.isSome_iff_exists.mp (iW (cells:=X.env.cells) (acc:=[]) hx)
    rcases lH e' with q | ⟨_,q⟩
    ·simp at q
    ·rw [e] at q
     exact⟨c',(HY (wU hk hx)).trans e',by rw [e,q]; rfl⟩
   have keepT:∀ {H':Hp}{σ':St}{s':Shared}{pn:List (Addr×Obj)},(∀ p∈iw fp s5.heap,p∈pn)->Inv (X.aQ own M scope ⟨cellsFrom (s.heap.objs.size+2) scope.names (cA X.env.cells scope.names []),s.heap.objs.size+1,s,H,fp⟩) pn σ' H' s'->tn (i+1) s'.heap/\∀ b∈fp,H' b=none:=fun {H' σ' s' pn} hs I' =>
    ⟨T.keep _ _ _ st5 fun b hb o e=>(I'.pin (b,o) (ê _ (hs _ (gD hb e)))).1,fun b hb=>by
     obtain⟨o,e,_⟩:=T.obj _ _ st5 b hb
     exact (I'.pin (b,o) (ê _ (hs _ (gD hb e)))).2.1⟩
   cases b with
   | false =>
    rw [if_neg Ú]
    rw [if_neg Ú] at q7
    obtain⟨m',hm',w7⟩:=hN _ _ q7
    obtain⟨t7,f7⟩:=keepT (fun p hp=>ê _ hp) I7
    exact⟨m',hm',i+1,ys,us,n,H7,qy hk I hf clH I7.jN,hv,hz,t7,f7,w7⟩
   | true =>
    rw [if_pos rfl]
    rw [if_pos rfl] at q7
    refine thn (he _ _ s7 σ6 H7 _ I7 q7) fun u8 s8 ⟨v8,H8,I8,r8,q8⟩=>?_
    obtain⟨m',hm',w8⟩:=hN _ _ q8
    obtain⟨t8,f8⟩:=keepT (fun p hp=>ê _ hp) I8
    obtain⟨hD8,nD8,lD8,fD8,_⟩:=I8.pin (s.heap.objs.size,{ cls:=.type "list",data:=.seq us.toArray n }) (ê _ (ċ _ (Ì.mpr rfl)))
    refine append_at (hsz:=by rw [Î,← hv.length]; exact Nat.le_of_lt hlt) hD8 fun h9 hs9 hD9=>?_
    have J8:Inv (X.aQ own M scope ⟨cellsFrom (s.heap.objs.size+2) scope.names (cA X.env.cells scope.names []),s.heap.objs.size+1,s,H,fp⟩) (iw fp s5.heap) σ6 H8 s8:=I8.nW fun p hp=>I8.pin p (ê _ (ê _ hp))
    have J9:Inv (X.aQ own M scope ⟨cellsFrom (s.heap.objs.size+2) scope.names (cA X.env.cells scope.names []),s.heap.objs.size+1,s,H,fp⟩) (iw fp s5.heap) σ6 H8 { s8 with heap:=h9 }:=J8.turned (t':=s8.toks) (it:=s.heap.objs.size) (fun b o hb e=>(hs9.2 b hb).trans e) nD8 lD8 (.inr (Ò _))
     (fun x c e z=>by
      obtain⟨v,o,ho,hd⟩:=J8.cell x c e
      rw [z,hD8] at ho
      cases ho
      cases hd)
     (fun p hp=>by
      have hp':p∈iw fp s5.heap:=by simpa using hp
      exact neD _ (rD hp').1)
    obtain⟨t9,f9⟩:=keepT (fun p hp=>hp) J9
    have e9:h9.get? s.heap.objs.size=some { cls:=.type "list",data:=.seq (us++[u8]).toArray (n+1) }:=by
     rw [hD9,List.push_toArray]
    have J9':Inv (X.aQ own M scope ⟨cellsFrom (s.heap.objs.size+2) scope.names (cA X.env.cells scope.names []),s.heap.objs.size+1,s,H,fp⟩) [(s.heap.objs.size,{ cls:=.type "list",data:=.seq (us++[u8]).toArray (n+1) })] σ6 H8 { s8 with heap:=h9 }:=J9.nW fun p hp=>by
     have hp':p=(s.heap.objs.size,{ cls:=.type "list",data:=.seq (us++[u8]).toArray (n+1) }):=by simpa using hp
     subst hp'
     exact⟨e9,nD8,lD8,fD8,fun v z=>nomatch z⟩
    exact⟨m',hm',i+1,ys++[v8],us++[u8],n+1,H8,qy hk I hf clH J9',hv.append (.cons r8 .nil),by rw [Ý,ń]; exact hlt,t9,f9,w8⟩
 exact codeAny_compStart_list (loop _ rfl) (T.self _ 0 _ _ _ st₁ (loop _ rfl))
theorem rT {pins:List (Addr×Obj)}{σ:St}{H:Hp}{s:Shared} (hk:aL X.env scope X.N M=true) (I:Inv X pins σ H s):closureFor scope X.env=pure (cA X.env.cells scope.names []) :=
 zX fun x hx hf=>I.ok.has x.1 ((bI hk x hx).2.2 hf).2
theorem rR {pins:List (Addr×Obj)}{σ:St}{H:Hp}{s s':Shared}{C:Addr}{h':Heap}{m:Str->Option Value} (I:Inv X pins σ H s') (hs:X.s₀.heap.objs.size<=C) (hC:C≠X.env.locals) (hcl:∀ x c,X.env.cells.lookup x=some c->c≠C) (hp:∀ p∈X.pn++pins,p.1≠C) (hn:H C=none)
  (hb:Œ C s'.heap h'):Inv X pins σ H { s' with heap:=h' }:=I.turned (t':=s'.toks) (fun b o hb' e=>(hb.2 b hb').trans e) hn hC (.inr hs) hcl hp
theorem Mz (own M:List Str) (hc:X.calm=true) (hi:PI X tg iter wi) (hg:∀ c,PG (X.aQ own M scope c) tg (g c)) (ht:∀ c,PTs (X.aQ own M scope c) ifs (tt c)) (he:∀ c,PE (X.aQ own M scope c) elt (te c))
  (hk:aL X.env scope X.N M=true:=by rfl) (hs:∀ x,foldedSetIterable iter X.env x=pure x:=by intro _; rfl) :
  PE X (.ListComp elt [⟨tg,iter,ifs,0⟩] scope pos) (tLC own.length wi g tt te):=by
 intro pins s σ H Q I h
 rw [eval_ListComp]
 have hka:=bI hk
 refine wpAny_comprehension_free (use:=none) rfl hs (rT hk I) (dO hk) (fun x hx hl=>((hka x hx).1 hl).2) (thn (hi pins s σ H _ I h) fun v s1 h1=>thn h1 fun itv s2 h2=>?_)
 obtain⟨it,fp,tn,J,H2,e,I2,T,st2,f2,W,⟨m0,w0⟩,turn⟩:=h2
 subst e
 refine rQ (RR:=fun acc C=>compPost (model X.prog X.w) X.A X.xe none (EP X pins σ Q) acc C) (D:=fun ys H=>∀ p,H p=none->Q (.ref p) (upd H p (.lst ys))) (fun _=>hc) hk hg ht he I2 T st2 f2 w0 turn ?_
 intro s' m' ys H' hns hCn hDn J' d
 have lt2:∀ {b:Addr}{o:Obj},s2.heap.get? b=some o->b≠s2.heap.objs.size+1:=fun e=>Õ (ô (Ê e))
 refine⟨m',hns,fun h' hb=>⟨.ref s2.heap.objs.size,_,rR (m:=m') (s:=s2) J' (Ć I2.sz (Ę _)) (č (Õ (ô I2.lt))) (fun x c e=>?_) (fun p hp=>?_) ?_ hb,rfl,d _ hDn⟩⟩
 ·obtain⟨v,o,ho,_⟩:=I2.cell x c e
  exact lt2 ho
 ·exact lt2 (I2.pin p hp).1
 ·rw [aj (ħ (ĳ _))]
  exact hCn
theorem Ja {Cm:Cx->Prop} (own M:List Str) {i:Nat}{y:Str}{py spos:Pos} (hc:∀ c,Cm (X.aQ own M scope c)) (hN:X.N.Nodup) (hiN:X.N[i]?=some y) (hx:Loc X.env.scope y) (hi:PIG Cm X tg iter wi) (hg:∀ c,PG (X.aQ own M scope c) tg (g c)) (ht:∀ c,PTs (X.aQ own M scope c) ifs (tt c)) (he:∀ c,PE (X.aQ own M scope c) elt (te c))
  (hsw:swapsWith (.ListComp elt [⟨tg,iter,ifs,0⟩] scope pos) (some (.Name y py)) spos.line X.env=pure true:=by rfl)
  (hk:aL X.env scope X.N M=true:=by rfl) (hs:∀ x,foldedSetIterable iter X.env x=pure x:=by intro _; rfl) (hf:X.fn y=true\/X.env.scope.names.lookup y=some .local:=by first | exact .inl rfl | exact .inr rfl | assumption) :
  PS X (.Assign [.Name y py] (.ListComp elt [⟨tg,iter,ifs,0⟩] scope pos) spos) (qJ (tLC own.length wi g tt te) (gQ i)):=by
 intro pins s σ H D I h
 rw [exec_Assign_Name_used _ _ _ _ hsw]
 have hka:=bI hk
 refine À (wpAny_standAt (À ?_))
 show wpAny _ X.A (do let _ ← comprehension (.ListComp elt [⟨tg,iter,ifs,0⟩] scope pos) scope X.env _ (newList []) false (eval iter X.env) (some (assign (.Name y py) X.env))) _ _ s
 refine À (Ĳ (wpAny_comprehension_free (use:=some (assign (.Name y py) X.env)) (Q:=fun _ s'=>SP X pins D .next s') rfl hs (rT hk I) (dO hk) (fun x hx hl=>((hka x hx).1 hl).2)
  (thn (hi pins s σ H _ I h) fun v s1 h1=>thn h1 fun itv s2 h2=>?_)) (fun _ s' hq=>Å (Å hq)) fun _ _ e=>e)
 obtain⟨it,fp,tn,J,H2,e,I2,T,st2,f2,W,⟨m0,w0⟩,turn⟩:=h2
 subst e
 refine rQ (RR:=fun acc C=>compPost (model X.prog X.w) X.A X.xe (some (assign (.Name y py) X.env)) (fun _ s'=>SP X pins D .next s') acc C) (D:=fun ys H=>∀ p,H p=none->gQ i (.ref p) σ (upd H p (.lst ys)) D.nx) hc hk hg ht he I2 T st2 f2 w0 turn ?_
 intro s' m' ys H' hns hCn hDn J' d
 have lt2:∀ {b:Addr}{o:Obj},s2.heap.get? b=some o->b≠s2.heap.objs.size+1:=fun e=>Õ (ô (Ê e))
 show wpAny _ X.A (assign (.Name y py) X.env (.ref s2.heap.objs.size)) _ _ _
 refine wpAny_assign_Name (qW (v:=.ref s2.heap.objs.size) J' (fun j h=>v9 hN h hiN) hiN hx rfl (fun s'' J'' ⟨a,hsb,ha⟩=>?_) hf)
 have hLne:X.env.locals≠s2.heap.objs.size+1:=Õ (ô I2.lt)
 have hCa:s2.heap.objs.size+1≠a:=by
  rcases ha with ha | ha
  ·rw [ha]; exact č hLne
  ·obtain⟨v,o,ho,_⟩:=I2.cell _ _ ha
   exact č (lt2 ho)
 refine⟨m',hns.sameBut hsb hCa,fun h' hb=>⟨_,_,rR (m:=m') (s:=s2) J'' (Ć I2.sz (Ę _)) (č hLne) (fun x c e=>?_) (fun p hp=>?_) ?_ hb,d _ hDn⟩⟩
 ·obtain⟨v,o,ho,_⟩:=I2.cell x c e
  exact lt2 ho
 ·exact lt2 (I2.pin p hp).1
 ·rw [aj (ħ (ĳ _))]
  exact hCn
theorem FJ (own M:List Str) {i:Nat}{y:Str}{py spos:Pos} (hc:X.calm=true) (hN:X.N.Nodup) (hiN:X.N[i]?=some y) (hx:Loc X.env.scope y) (hi:PI X tg iter wi) (hg:∀ c,PG (X.aQ own M scope c) tg (g c)) (ht:∀ c,PTs (X.aQ own M scope c) ifs (tt c)) (he:∀ c,PE (X.aQ own M scope c) elt (te c))
  (hsw:swapsWith (.ListComp elt [⟨tg,iter,ifs,0⟩] scope pos) (some (.Name y py)) spos.line X.env=pure true:=by rfl)
  (hk:aL X.env scope X.N M=true:=by rfl) (hs:∀ x,foldedSetIterable iter X.env x=pure x:=by intro _; rfl) (hf:X.fn y=true\/X.env.scope.names.lookup y=some .local:=by first | exact .inl rfl | exact .inr rfl | assumption) :
  PS X (.Assign [.Name y py] (.ListComp elt [⟨tg,iter,ifs,0⟩] scope pos) spos) (qJ (tLC own.length wi g tt te) (gQ i)):=Ja own M (fun _=>hc) hN hiN hx hi hg ht he hsw hk hs hf
theorem Pu (own:List Str) (hc:X.calm=true) (hi:PI X tg iter wi) (hg:∀ c,PG (X.comp own scope c) tg (g c)) (ht:∀ c,PTs (X.comp own scope c) ifs (tt c)) (he:∀ c,PE (X.comp own scope c) elt (te c))
  (hk:d9 X.env scope X.N=true:=by rfl) (hs:∀ x,foldedSetIterable iter X.env x=pure x:=by intro _; rfl) :
  PE X (.ListComp elt [⟨tg,iter,ifs,0⟩] scope pos) (tLC own.length wi g tt te):=Mz own X.N hc hi hg ht he (wZ hk) hs
theorem Ky (own:List Str) {i:Nat}{y:Str}{py spos:Pos} (hc:X.calm=true) (hN:X.N.Nodup) (hiN:X.N[i]?=some y) (hx:Loc X.env.scope y) (hi:PI X tg iter wi) (hg:∀ c,PG (X.comp own scope c) tg (g c)) (ht:∀ c,PTs (X.comp own scope c) ifs (tt c)) (he:∀ c,PE (X.comp own scope c) elt (te c))
  (hsw:swapsWith (.ListComp elt [⟨tg,iter,ifs,0⟩] scope pos) (some (.Name y py)) spos.line X.env=pure true:=by rfl)
  (hk:d9 X.env scope X.N=true:=by rfl) (hs:∀ x,foldedSetIterable iter X.env x=pure x:=by intro _; rfl) (hf:X.fn y=true\/X.env.scope.names.lookup y=some .local:=by first | exact .inl rfl | exact .inr rfl | assumption) :
  PS X (.Assign [.Name y py] (.ListComp elt [⟨tg,iter,ifs,0⟩] scope pos) spos) (qJ (tLC own.length wi g tt te) (gQ i)):=FJ own X.N hc hN hiN hx hi hg ht he hsw (wZ hk) hs hf
end
section
variable {X:Cx}{tg:Expr}{K:â}{g:CB->TG}{tt:CB->TT}{te:CB->TE}{σ:St}{H:Hp}{Q:VK}{n:Nat}
def Q6 (K:â) (tl:TE):TI:=fun σ H R=>tl σ H fun x H1=>∃ a,x=.ref a/\(((∃ xs,SqL K H1 a xs)/\R (Itl K a) H1)\/((∃ xs,SqT K H1 a xs)/\R (Itt K a) H1))
theorem Ml {l:Expr}{tl:TE} (hl:PE X l tl):PI X tg l (Q6 X.K tl):=by
 intro pins s σ H R I h
 refine thn (hl pins s σ H _ I h) fun v s1 ⟨x,H1,I1,r1,q1⟩=>?_
 obtain⟨a,e,q1⟩:=q1
 subst e
 cases r1
 rcases q1 with ⟨⟨xs,hq⟩,q⟩ | ⟨⟨xs,hq⟩,q⟩
 ·obtain⟨its,rv,p,hz⟩:=I1.list hq
  refine wpAny_pyIter_list p.isList ?_
  refine⟨s1.heap.objs.size,[s1.heap.objs.size],_,_,H1,rfl,I1.kept (t':=s1.toks) fun b o e=>È _ e,Ck a _,⟨_,Ô _ rfl,rfl,rfl⟩,fun b hb=>?_,q⟩
  have e:b=s1.heap.objs.size:=by simpa using hb
  subst e
  exact I1.uF (Ò _) (I1.hok.fresh (Ò _))
 ·obtain⟨its,rv,p,hz⟩:=I1.tuple hq
  refine ż (show s1.heap.IsTuple a its.toArray from p) ?_
  refine⟨s1.heap.objs.size,[s1.heap.objs.size],_,_,H1,rfl,I1.kept (t':=s1.toks) fun b o e=>È _ e,xR a _,⟨_,Ô _ rfl,rfl,rfl⟩,fun b hb=>?_,q⟩
  have e:b=s1.heap.objs.size:=by simpa using hb
  subst e
  exact I1.uF (Ò _) (I1.hok.fresh (Ò _))
end
end L2
namespace NfSort
open PySem PySem.W PyProof.Rows
def kwp {α:Type} (n:Nat) (key:Nat->Int):KasT α->(α->Prop)->Prop
 | .ret a,Q=>Q a
 | .ask i j k,Q=>i<n/\j<n/\kwp n key (k (decide (key i<key j))) Q
theorem bK {α:Type}{n:Nat}{key:Nat->Int}{Q Q':α->Prop} (h:∀ a,Q a->Q' a):∀ {t:KasT α},kwp n key t Q->kwp n key t Q'
 | .ret a,q=>h a q
 | .ask _ _ k,q=>⟨q.1,q.2.1,bK h q.2.2⟩
theorem fQ {α β:Type}{n:Nat}{key:Nat->Int}{f:α->KasT β}{Q:β->Prop}:∀ {t:KasT α},kwp n key t (fun a=>kwp n key (f a) Q)->kwp n key (t.bind f) Q
 | .ret a,q=>q
 | .ask _ _ k,q=>⟨q.1,q.2.1,fQ q.2.2⟩
theorem uw {α:Type}{n:Nat}{key:Nat->Int}{cmp:Nat->Nat->(Bool->Shared->Prop)->Shared->Prop}{s:Shared}{G:α->Shared->Prop} (hc:∀ i j C,i<n->j<n->C (decide (key i<key j)) s->cmp i j C s) :
  ∀ {t:KasT α},kwp n key t (fun a=>G a s)->t.kasWp cmp G s
 | .ret _,q=>q
 | .ask i j k,q=>hc i j _ q.1 q.2.1 (uw hc q.2.2)
section
variable {n:Nat}{key:Nat->Int}{p:Array Nat}
def Pm (n:Nat) (p:Array Nat):Prop:=p.Perm (Ë n).toArray
def kk (key:Nat->Int) (p:Array Nat) (i:Nat):Int:=key (p.getD i 0)
theorem Pm.size (h:Pm n p):p.size=n:=by
 have:=Array.Perm.size_eq h
 simpa using this
theorem getD_eq (p:Array Nat) (i:Nat):p.getD i 0=(p[i]?).getD 0:=by
 by_cases h:i<p.size <;> simp [Array.getD,h]
theorem Pm.lt (h:Pm n p) {i:Nat} (hi:i<n):p.getD i 0<n:=by
 have hs:=h.size
 have hi':i<p.size:=by omega
 have hm:p[i]∈p.toList:=by
  have:=Array.getElem_mem hi'
  simpa using this
 have hp:p.toList.Perm (Ë n):=by
  have:=Array.perm_iff_toList_perm.mp h
  simpa using this
 have e:p.getD i 0=p[i]:=by simp [Array.getD,hi']
 rw [e]
 exact ã.mp (hp.mem_iff.mp hm)
theorem Pm.rev (h:Pm n p) (i j:Nat):Pm n (kas_rev p i j):=Array.Perm.trans (mirror_perm _ _ _ _) h
theorem Pm.bub (h:Pm n p) (i j:Nat):Pm n (bubble p i j):=Array.Perm.trans (bubble_perm _ _ _) h
theorem uy (h:Pm n p) {i j:Nat} (hj:j<=n) (t:Nat):kk key (kas_rev p i j) t=if i<=t/\t<j then kk key p (i+j - 1 - t) else kk key p t:=by
 unfold kk kas_rev
 rw [getD_eq,getElem?_mirror_all (by rw [h.size]; exact hj)]
 split
 ·rw [getD_eq]
 ·rw [getD_eq]
theorem Nj (h:Pm n p) {k l:Nat} (hk:k<n) (hl:l<=k) (t:Nat):kk key (bubble p k (k - l)) t=if t=l then kk key p k else if l<t/\t<=k then kk key p (t - 1) else kk key p t:=by
 unfold kk
 rw [getD_eq,getElem?_bubble (by rw [h.size]; exact hk) _ (by omega)]
 have e:k - (k - l)=l:=by omega
 rw [e]
 split
 ·rw [getD_eq]
 ·split
  ·rw [getD_eq]
  ·rw [getD_eq]
def Up (key:Nat->Int) (p:Array Nat) (m:Nat):Prop:=∀ i j,i<=j->j<m->kk key p i<=kk key p j
def Dn (key:Nat->Int) (p:Array Nat) (m:Nat):Prop:=∀ i j,i<=j->j<m->kk key p j<=kk key p i
def Rn (key:Nat->Int) (p:Array Nat) (m q:Nat):Prop:=q+1<=m/\∀ t,m<=t+q+1->t<m->kk key p t=kk key p (m - 1)
theorem Up.more {a:Nat} (h:Up key p a) (h1:1<=a) (hx:kk key p (a - 1)<=kk key p a):Up key p (a+1):=fun i j hij hj=>by
 by_cases hja:j<a
 ·exact h i j hij hja
 ·obtain rfl:j=a:=by omega
  by_cases hi:i=j
  ·subst hi; exact ŭ _
  ·exact Int.le_trans (h i (j - 1) (by omega) (by omega)) hx
theorem Dn.more {a:Nat} (h:Dn key p a) (h1:1<=a) (hx:kk key p a<=kk key p (a - 1)):Dn key p (a+1):=fun i j hij hj=>by
 by_cases hja:j<a
 ·exact h i j hij hja
 ·obtain rfl:j=a:=by omega
  by_cases hi:i=j
  ·subst hi; exact ŭ _
  ·exact Int.le_trans hx (h i (j - 1) (by omega) (by omega))
theorem Ad (hp:Pm n p):∀ (f a:Nat),1<=a->a+f<=n->Up key p a->kwp n key (kas_asc p f a) (fun m=>a<=m/\m<=a+f/\Up key p m/\(m<a+f->kk key p m<kk key p (m - 1)))
 | 0,a,h1,hf,hu=>⟨Ò _,Ò _,hu,fun h=>absurd h (by omega)⟩
 | f+1,a,h1,hf,hu=>by
  refine⟨hp.lt (by omega),hp.lt (by omega),?_⟩
  by_cases hc:key (p.getD a 0)<key (p.getD (a - 1) 0)
  ·(rw [decide_eq_true hc]; dsimp only; rw [if_pos rfl])
   exact⟨Ò _,by omega,hu,fun _=>hc⟩
  ·(rw [decide_eq_false hc]; dsimp only; rw [if_neg Ú])
   refine bK (fun m ⟨a1,a2,a3,a4⟩=>⟨by omega,by omega,a3,fun h=>a4 (by omega)⟩) (Ad hp f (a+1) (by omega) (by omega) (hu.more h1 (Int.not_lt.mp hc)))
theorem Bb (hp:Pm n p) {a q:Nat} (ha:a<=n) (hr:Rn key p a q) (t:Nat):kk key (kas_rev p (a - (q+1)) a) t=kk key p t:=by
 rw [uy hp ha]
 split
 ·rename_i h
  rw [hr.2 t (by omega) h.2]
  exact hr.2 _ (by have:=hr.1; omega) (by omega)
 ·rfl
theorem Dn.eq {p':Array Nat}{m:Nat} (h:Dn key p m) (e:∀ t,kk key p' t=kk key p t):Dn key p' m:=fun i j a b=>by rw [e,e]; exact h i j a b
theorem Ca:∀ (f:Nat) (p:Array Nat) (a q:Nat),Pm n p->1<=a->a+f<=n->Dn key p a->Rn key p a q ->
  kwp n key (kas_desc f p a q) (fun r=>Pm n r.1/\a<=r.2.1/\r.2.1<=a+f/\Dn key r.1 r.2.1/\Rn key r.1 r.2.1 r.2.2)
 | 0,p,a,q,hp,h1,hf,hd,hr=>⟨hp,Ò _,Ò _,hd,hr⟩
 | f+1,p,a,q,hp,h1,hf,hd,hr=>by
  refine⟨hp.lt (by omega),hp.lt (by omega),?_⟩
  have fin:∀ {p':Array Nat}{q':Nat},Pm n p'->Dn key p' (a+1)->Rn key p' (a+1) q'->kwp n key (kas_desc f p' (a+1) q') (fun r=>Pm n r.1/\a<=r.2.1/\r.2.1<=a+(f+1)/\Dn key r.1 r.2.1/\Rn key r.1 r.2.1 r.2.2):=fun x y z =>
   bK (fun r ⟨a1,a2,a3,a4,a5⟩=>⟨a1,by omega,by omega,a4,a5⟩) (Ca f _ (a+1) _ x (by omega) (by omega) y z)
  have rn0:∀ p':Array Nat,Rn key p' (a+1) 0:=fun p'=>⟨by omega,fun t h1 h2=>by
   have e:t=a+1 - 1:=by omega
   rw [e]⟩
  by_cases hc:key (p.getD a 0)<key (p.getD (a - 1) 0)
  ·(rw [decide_eq_true hc]; dsimp only; rw [if_pos rfl])
   have hc':kk key p a<kk key p (a - 1):=hc
   by_cases hq:q > 0
   ·rw [if_pos hq]
    have e:=Bb (key:=key) hp (by omega) hr
    exact fin (hp.rev _ _) ((hd.more h1 (Int.le_of_lt hc')).eq e) (rn0 _)
   ·rw [if_neg hq]
    exact fin hp (hd.more h1 (Int.le_of_lt hc')) (rn0 _)
  ·(rw [decide_eq_false hc]; dsimp only; rw [if_neg Ú])
   refine⟨hp.lt (by omega),hp.lt (by omega),?_⟩
   by_cases hc2:key (p.getD (a - 1) 0)<key (p.getD a 0)
   ·(rw [decide_eq_true hc2]; dsimp only; rw [if_pos rfl])
    exact⟨hp,Ò _,(by show a<=a+(f+1); omega),hd,hr⟩
   ·(rw [decide_eq_false hc2]; dsimp only; rw [if_neg Ú])
    have e:kk key p a=kk key p (a - 1):=Int.le_antisymm (Int.not_lt.mp hc2) (Int.not_lt.mp hc)
    refine fin hp (hd.more h1 (Int.le_of_eq e)) ⟨by have:=hr.1; omega,fun t t1 t2=>?_⟩
    show _=kk key p a
    by_cases ht:t=a
    ·rw [ht]
    ·rw [e]
     exact hr.2 t (by omega) (by omega)
theorem vp {a:Nat} (hp:Pm n p) (h1:1<=a) (ha:a<=n) (hd:Dn key p a):kwp n key (kas_tail3 a n p) (fun r=>Pm n r.2/\1<=r.1/\r.1<=n/\Up key r.2 r.1):=by
 unfold kas_tail3
 have hu:Up key (kas_rev p 0 a) a:=fun i j hij hj=>by
  rw [uy hp ha,uy hp ha,if_pos ⟨by omega,by omega⟩,if_pos ⟨by omega,hj⟩]
  exact hd _ _ (by omega) (by omega)
 refine fQ (bK (fun m ⟨a1,a2,a3,_⟩=>?_) (Ad (hp.rev 0 a) (n - a) a h1 (by omega) hu))
 exact⟨hp.rev 0 a,by omega,by omega,a3⟩
theorem nD {a:Nat} (hp:Pm n p) (ha:a+1<=n) (hd:Dn key p (a+1)):kwp n key (kas_descPart a n p) (fun r=>Pm n r.2/\1<=r.1/\r.1<=n/\Up key r.2 r.1):=by
 unfold kas_descPart
 refine fQ (bK (fun r ⟨a1,a2,a3,a4,a5⟩=>?_) (Ca (n - (a+1)) p (a+1) 0 hp (by omega) (by omega) hd ⟨by omega,fun t h1 h2=>by
  have e:t=a+1 - 1:=by omega
  rw [e]⟩))
 split
 ·exact vp (a1.rev _ _) (by omega) (by omega) (a4.eq (Bb a1 (by omega) a5))
 ·exact vp a1 (by omega) (by omega) a4
theorem HX (hp:Pm n p) (h1:1<=n):kwp n key (kas_count n p) (fun r=>Pm n r.2/\1<=r.1/\r.1<=n/\Up key r.2 r.1):=by
 unfold kas_count
 have u1:Up key p 1:=fun i j hij hj=>by
  have e:i=j:=by omega
  rw [e]; exact ŭ _
 refine fQ (bK (fun m ⟨a1,a2,a3,a4⟩=>?_) (Ad hp (n - 1) 1 (Ò _) (by omega) u1))
 by_cases hm:m=n
 ·rw [if_pos (by simpa using hm)]
  exact⟨hp,by omega,by omega,a3⟩
 ·rw [if_neg (by simpa using hm)]
  have hlt:=a4 (by omega)
  by_cases hm1:m > 1
  ·rw [if_pos hm1]
   refine⟨hp.lt (by omega),hp.lt (by omega),?_⟩
   by_cases hc:key (p.getD 0 0)<key (p.getD (m - 1) 0)
   ·(rw [decide_eq_true hc]; dsimp only; rw [if_pos rfl])
    exact⟨hp,by omega,by omega,a3⟩
   ·(rw [decide_eq_false hc]; dsimp only; rw [if_neg Ú])
    have hall:∀ t,t<m->kk key p t=kk key p 0:=fun t ht=>by
     have e1:=a3 0 t (by omega) ht
     have e2:=a3 t (m - 1) (by omega) (by omega)
     have e3:kk key p (m - 1)<=kk key p 0:=Int.not_lt.mp hc
     omega
    have e:∀ t,kk key (kas_rev p 0 m) t=kk key p t:=fun t=>by
     rw [uy hp (by omega)]
     split
     ·rename_i h
      rw [hall t h.2,hall _ (by omega)]
     ·rfl
    refine nD (hp.rev 0 m) (by omega) (Dn.eq (p:=p) (Dn.more (fun i j hij hj=>?_) (by omega) (Int.le_of_lt hlt)) e)
    rw [hall i (by omega),hall j hj]
    exact ŭ _
  ·rw [if_neg hm1]
   obtain rfl:m=1:=by omega
   refine nD hp (by omega) (Dn.more (fun i j hij hj=>?_) (by omega) (Int.le_of_lt hlt))
   have e:i=j:=by omega
   rw [e]; exact ŭ _
theorem oW {k:Nat} (hp:Pm n p) (hk:k<n) (hu:Up key p k):∀ (f l r:Nat),l<=r->r<=k->r<=l+f->(∀ t,t<l->kk key p t<=kk key p k)->(∀ t,r<=t->t<k->kk key p k<kk key p t) ->
  kwp n key (kas_place p k f l r) (fun l'=>l'<=k/\(∀ t,t<l'->kk key p t<=kk key p k)/\(∀ t,l'<=t->t<k->kk key p k<kk key p t))
 | 0,l,r,h1,h2,h3,h4,h5=>⟨by omega,h4,fun t a b=>h5 t (by omega) b⟩
 | f+1,l,r,h1,h2,h3,h4,h5=>by
  unfold kas_place
  by_cases hlr:l ≥ r
  ·rw [if_pos hlr]
   exact⟨by omega,h4,fun t a b=>h5 t (by omega) b⟩
  ·rw [if_neg hlr]
   have hm:(l+r) / 2<r:=by omega
   refine⟨hp.lt hk,hp.lt (by omega),?_⟩
   by_cases hc:key (p.getD k 0)<key (p.getD ((l+r) / 2) 0)
   ·(rw [decide_eq_true hc]; dsimp only; rw [if_pos rfl])
    have hc':kk key p k<kk key p ((l+r) / 2):=hc
    exact oW hp hk hu f l _ (by omega) (by omega) (by omega) h4 fun t a b=>Int.lt_of_lt_of_le hc' (hu _ t a b)
   ·(rw [decide_eq_false hc]; dsimp only; rw [if_neg Ú])
    have hc':kk key p ((l+r) / 2)<=kk key p k:=Int.not_lt.mp hc
    exact oW hp hk hu f _ r (by omega) (by omega) (by omega) (fun t a=>Int.le_trans (hu t _ (by omega) (by omega)) hc') h5
theorem Ia:∀ (f:Nat) (p:Array Nat) (k:Nat),Pm n p->k+f<=n->Up key p k->kwp n key (kas_bin f p k) (fun p'=>Pm n p'/\Up key p' (k+f))
 | 0,p,k,hp,hk,hu=>⟨hp,hu⟩
 | f+1,p,k,hp,hk,hu=>by
  unfold kas_bin
  refine fQ (bK (fun l ⟨a1,a2,a3⟩=>?_) (oW hp (by omega) hu k 0 k (Č _) (Ò _) (by omega) (fun t h=>absurd h (by omega)) (fun t h1 h2=>absurd h1 (by omega))))
  have e:=Nj (key:=key) hp (k:=k) (by omega) a1
  have hu':Up key (bubble p k (k - l)) (k+1):=fun i j hij hj=>by
   rw [e,e]
   by_cases hi:i=l
   ·rw [if_pos hi]
    by_cases hj':j=l
    ·rw [if_pos hj']; exact ŭ _
    ·rw [if_neg hj',if_pos ⟨by omega,by omega⟩]
     exact Int.le_of_lt (a3 _ (by omega) (by omega))
   ·rw [if_neg hi]
    by_cases hi2:l<i/\i<=k
    ·rw [if_pos hi2,if_neg (by omega),if_pos ⟨by omega,by omega⟩]
     exact hu _ _ (by omega) (by omega)
    ·rw [if_neg hi2]
     by_cases hj':j=l
     ·rw [if_pos hj']
      exact a2 i (by omega)
     ·rw [if_neg hj']
      by_cases hj2:l<j/\j<=k
      ·rw [if_pos hj2]
       exact hu _ _ (by omega) (by omega)
      ·rw [if_neg hj2]
       exact hu _ _ hij (by omega)
  refine bK (fun p' ⟨b1,b2⟩=>⟨b1,?_⟩) (Ia f _ (k+1) (hp.bub _ _) (by omega) hu')
  have e2:k+(f+1)=k+1+f:=by omega
  rw [e2]; exact b2
theorem Am (h1:1<=n):kwp n key (kas_sort n) (fun p=>Pm n p/\Up key p n):=by
 unfold kas_sort
 refine fQ (bK (fun r ⟨a1,a2,a3,a4⟩=>?_) (HX (p:=(Ë n).toArray) (Array.Perm.refl _) h1))
 have e:max r.1 1=r.1:=by omega
 rw [e]
 split
 ·refine bK (fun p' ⟨b1,b2⟩=>⟨b1,?_⟩) (Ia (n - r.1) r.2 r.1 a1 (by omega) a4)
  have e2:r.1+(n - r.1)=n:=by omega
  rw [e2] at b2; exact b2
 ·have e2:r.1=n:=by omega
  rw [e2] at a4
  exact⟨a1,a4⟩
end
end NfSort
namespace L2
open PySem PySem.Spec PyProof.Rows
section
variable {prog:Program}{w:World}{A:Around}{E:Value->Shared->Prop}{s:Shared}
end
section
variable {X:Cx}{pos:Pos}
def Ra (K:â) (n:Nat) (t:TGs):TG:=fun v σ H Q=>∃ a xs,v=.ref a/\SqL K H a xs/\xs.length=n/\t xs σ H Q
end
section
variable {X:Cx}
theorem uW:bx X (.builtin "isinstance") (fun xs H Q=>∃ x c t b,xs=[x,.ty c]/\TyOf X.K H x t/\W.kitOne X.K t (.type c)=some b/\Q (.bl b) H):=by
 intro pins s σ H xs us Q I r h
 obtain⟨x,c,t,b,rfl,ty,e,q⟩:=h
 obtain⟨u,u2,rfl,rx,rc⟩:=vals2 r
 cases rc
 exact Ds I rx ty e fun tk=>⟨.bl b,H,I.tok _,rfl,q⟩
theorem Af:∀ {bs:List Bool}{us:List Value},Vals (bs.map V.bl) us->us=bs.map Value.bool
 | [],_,h=>by cases h; rfl
 | b::bs,_,h=>by
  cases h with
  | cons r t =>
   cases r
   rw [Af t]
   rfl
theorem Eb (hc:X.calm=true):bx X (.builtin "min") (fun xs H Q=>∃ p a b,xs=[.ref p]/\SqT X.K H p [.int a,.int b]/\Q (.int (if b<a then b else a)) H):=by
 intro pins s σ H xs us Q I r h
 obtain⟨p,a,b,rfl,hp,q⟩:=h
 obtain⟨u,rfl,rx⟩:=vals1 r
 cases rx
 obtain⟨its,rv,pl,hz⟩:=I.tuple hp
 obtain⟨v1,v2,rfl,⟨t1,rfl⟩,⟨t2,rfl⟩⟩:=vals2 rv
 have pl':s.heap.IsTuple p (intItems #[(a,t1),(b,t2)]):=by
  have z:s.heap.IsTuple p #[Ŝ a t1,Ŝ b t2]:=pl
  simpa [intItems] using z
 have hlt:p<s.heap.objs.size:=by obtain⟨o,ho,_⟩:=pl; exact Ê ho
 refine call_min_walk (ż pl' ?_)
 refine⟨_,[s.heap.objs.size,p],[s.heap.objs.size],_,_,_,_,rfl,Walks.tuple (A:=X.A.in1) (I.ok.hd hc) _ p (Õ hlt) (intItems #[(a,t1),(b,t2)]),⟨⟨_,Ô _ rfl,rfl,rfl⟩,pl'.push _⟩,fun c hc=>?_,by simp [intItems],
  CmpOf.ints_lt (numAt #[(a,t1),(b,t2)]) (fun _ _=>intItems_at),fun v h' tk hP hk=>?_⟩
 ·show c<(s.heap.push _).objs.size
  rw [ķ]
  rcases Þ.mp hc with rfl | hc
  ·exact ĳ _
  ·have:c=p:=by simpa using hc
   rw [this]; exact ô hlt
 ·have hv:v=if b<a then Ŝ b t2 else Ŝ a t1:=by
   have hP':(intItems #[(a,t1),(b,t2)])[argBest (fun i j=>decide (numAt #[(a,t1),(b,t2)] i<numAt #[(a,t1),(b,t2)] j)) 1]?=some v:=by
    have hsz2:(intItems #[(a,t1),(b,t2)]).size - 1=1:=by simp [intItems]
    rw [← hsz2]; exact hP
   by_cases hba:b<a
   ·have e:argBest (fun i j=>decide (numAt #[(a,t1),(b,t2)] i<numAt #[(a,t1),(b,t2)] j)) 1=1:=by simp [argBest,numAt,hba]
    rw [e] at hP'
    simpa [intItems,hba] using hP'.symm
   ·have e:argBest (fun i j=>decide (numAt #[(a,t1),(b,t2)] i<numAt #[(a,t1),(b,t2)] j)) 1=0:=by simp [argBest,numAt,hba]
    rw [e] at hP'
    simpa [intItems,hba] using hP'.symm
  subst hv
  refine⟨.int (if b<a then b else a),H,I.kept fun b o eb=>hk b o ?_ (È _ eb),?_,q⟩
  ·intro hm
   have:b=s.heap.objs.size:=by simpa using hm
   exact absurd (Ê eb) (by rw [this]; exact ď _)
  ·by_cases hba:b<a
   ·rw [if_pos hba,if_pos hba]; exact⟨_,rfl⟩
   ·rw [if_neg hba,if_neg hba]; exact⟨_,rfl⟩
theorem Nt {prog:Program}{w:World}{A:Around}{E:Value->Shared->Prop}{s:Shared}{l:Addr}{n:Nat}{x:Int}{t:Tok}{u:Value}{Q:Value->Shared->Prop}{its:List Value} (ho:s.heap.get? l=some { cls:=.type "list",data:=.seq its.toArray n })
  (hfit:¬ (!Builtin.List.listFitsIndex x)=true) (hsz:its.toArray.size<=sizeLine)
  (h:Q .none { s with heap:=s.heap.update l (ß fun xs=>(xs.extract 0 (if x<0 then (x+(xs.size:Int)).toNat else min x.toNat xs.size)).push u++xs.extract (if x<0 then (x+(xs.size:Int)).toNat else min x.toNat xs.size)),toks:=s.toks }) :
  wpAny (model prog w) A (call (.builtin "list.insert") [.ref l,.int x t,u]) Q E s:=by
 generalize its.toArray=ia at ho hsz
 exact call_meets PySem.F.slot_list_insert ⟨_,ho,rfl⟩ PySem.F.entry_list_insert (PySem.F.args_list_insert_3 _ _ _) (PySem.AutoSeq1.list_insert_list_int_val_1 l ia n x t u hfit hsz) ⟨ho,h⟩
def Bd:V->List V->Hp->VK->Prop:=fun x vs H Q=>∃ l xs k y,x=.ref l/\vs=[.int (k:Nat),y]/\H l=some (.lst xs)/\k<=xs.length/\xs.length<sizeLine/\Q .non (upd H l (.lst (xs.take k++y::xs.drop k)))
theorem Dg:MtM X "list.insert" Bd:=by
 intro pins s σ H x vs v us Q I rx rv h
 obtain⟨l,xs,k,y,rfl,rfl,hH,hk,hz,q⟩:=h
 cases rx
 obtain⟨u1,u,rfl,⟨t,rfl⟩,ru⟩:=rv.two
 obtain⟨z,its,n,r,hl,e⟩:=I.wA hH
 have h24:(sizeLine:Nat)=16777216:=ç
 have hfit:¬ (!Builtin.List.listFitsIndex (k:Int))=true:=by
  have q1:decide (-(2 ^ 63:Int)<=(k:Int))=true:=decide_eq_true (by omega)
  have q2:decide ((k:Int)<2 ^ 63)=true:=decide_eq_true (by omega)
  unfold Builtin.List.listFitsIndex
  rw [q1,q2]
  exact Ú
 have hsz:its.toArray.size<=sizeLine:=by
  have e1:its.toArray.size=xs.length:=(Î ..).trans hl.symm
  rw [e1]
  exact z
 have hx0:¬ ((k:Int)<0):=by omega
 have hxk:(k:Int).toNat=k:=á k
 generalize hx:(k:Int)=x at hfit hx0 hxk
 refine Nt (its:=its) e hfit hsz ?_
 refine⟨.non,_,I.JC (its':=its.take k++u::its.drop k) hH e ?_ ?_ ?_,rfl,q⟩
 ·have hm:min k its.length=k:=by omega
  have e2:=W.kl_ins_eq its k u
  simp only [hx0,if_false,hxk,Î,hm]
  exact e2
 ·exact (r.take k).append (.cons ru (r.drop k))
 ·rw [Ý,õ,ć,ŕ]
  omega
end
abbrev Tie:=Int×Int
def Pr (H:Hp) (v:V) (t:Tie):Prop:=∃ p,v=.ref p/\H p=some (.tup [.int t.1,.int t.2])
abbrev Prs (H:Hp):List V->List Tie->Prop:=Paired (Pr H)
def aZ (t:Tie):Int:=64 * t.1+t.2
def xK (t:Tie):Prop:=0<=t.2/\t.2<64
def iZ (h:Heap) (u:Value) (t:Tie):Prop:=∃ a o t1 t2 n,u=.ref a/\h.get? a=some o/\o.cls=.type "tuple"/\o.data=.seq #[.int t.1 t1,.int t.2 t2] n
theorem iZ.keep {h h':Heap}{u:Value}{t:Tie} (x:iZ h u t) (k:∀ a o,h.get? a=some o->o.cls=.type "tuple"->h'.get? a=some o):iZ h' u t:=by
 obtain⟨a,o,t1,t2,n,e,ho,hc,hd⟩:=x
 exact⟨a,o,t1,t2,n,e,k a o ho hc,hc,hd⟩
theorem Mp {α β:Type}{F:α->β->Prop}{l₁:List α}{l₂:List β} (h:Paired F l₁ l₂):∀ {i:Nat}{b:β},l₂[i]?=some b->∃ a,l₁[i]?=some a/\F a b:=by
 induction h with
 | nil=>intro i x e; simp at e
 | cons r t ih =>
  intro i x e
  cases i with
  | zero=>simp at e; subst e; exact⟨_,rfl,r⟩
  | succ i =>
   obtain⟨c,e1,f⟩:=ih (by simpa using e)
   exact⟨c,by simpa using e1,f⟩
theorem vQ {α β:Type}{F:α->β->Prop}{l₁:List α}{l₂:List β} (h:Paired F l₁ l₂) (da:α) (db:β):∀ (p:List Nat),(∀ i∈p,i<l₂.length)->Paired F (p.map fun i=>l₁.getD i da) (p.map fun i=>l₂.getD i db)
 | [],_=>.nil
 | i::p,hp=>by
  have hi:i<l₂.length:=hp i Ï
  obtain⟨a,e,f⟩:=Mp h (i:=i) (b:=l₂[i]) (by simp [hi])
  refine .cons ?_ (vQ h da db p fun j hj=>hp j (Í _ hj))
  have e1:l₁.getD i da=a:=by rw [ö,e]; rfl
  have e2:l₂.getD i db=l₂[i]:=by simp [hi]
  show F (l₁.getD i da) (l₂.getD i db)
  rw [e1,e2]
  exact f
theorem Lr {α:Type}:∀ us:List α,List.map (fun x=>x.snd) (us.zip us)=us
 | []=>rfl
 | u::us=>by rw [List.zip_cons_cons,ð,Lr us]
theorem cJ {α:Type} (l:List α) (d:α):(Ë l.length).map (fun i=>l.getD i d)=l:=by
 apply List.ext_getElem
 ·simp
 ·intro i h1 h2
  simp at h1 ⊢
  simp [h1]
section
variable {X:Cx}{pins:List (Addr×Obj)}{σ:St}{H:Hp}{s:Shared}
theorem Inv.pairs (I:Inv X pins σ H s):∀ {vs:List V}{ts:List Tie}{us:List Value},Prs H vs ts->Vals vs us->Paired (iZ s.heap) us ts
 | _,_,_,.nil,r=>by cases r; exact .nil
 | _,_,_,.cons p q,r=>by
  cases r with
  | cons r rr =>
   refine .cons ?_ (I.pairs q rr)
   obtain⟨a,rfl,e⟩:=p
   cases r
   obtain⟨_,its,rv,⟨o,ho,hc,n,hd⟩⟩:=I.hok a _ e
   obtain⟨v1,v2,rfl,⟨t1,rfl⟩,⟨t2,rfl⟩⟩:=vals2 rv
   exact⟨a,o,t1,t2,n,rfl,ho,hc,hd⟩
end
section
variable {prog:Program}{w:World}{A:Around}{E:Value->Shared->Prop}{s:Shared}
theorem Gz {x y:Value}{a b:Tie}{Q:Bool->Shared->Prop} (hx:iZ s.heap x a) (hy:iZ s.heap y b) (na:xK a) (nb:xK b) (h:Q (decide (aZ a<aZ b)) s):wpAny (model prog w) A (keyLt' (tuples' true) x y) Q E s:=by
 obtain⟨p,o,t1,t2,n,rfl,ho,hc,hd⟩:=hx
 obtain⟨p',o',t1',t2',n',rfl,ho',hc',hd'⟩:=hy
 obtain⟨a1,a2⟩:=a
 obtain⟨b1,b2⟩:=b
 unfold xK at na nb
 simp only at na nb
 refine W.kat_lt ho hd ho' hd' ?_
 refine W.kat_cons (wpAny_eqBool_int ?_)
 by_cases e1:a1=b1
 ·subst e1
  rw [beq_self_eq_true]
  refine W.kat_yes (W.kat_cons (wpAny_eqBool_int ?_))
  by_cases e2:a2=b2
  ·subst e2
   rw [beq_self_eq_true]
   refine W.kat_yes (W.kat_nil ?_)
   have e:decide (aZ (a1,a2)<aZ (a1,a2))=false:=decide_eq_false (Int.lt_irrefl _)
   rw [e] at h
   exact h
  ·rw [beq_eq_false_iff_ne.mpr e2]
   refine W.kat_no (W.kat_one _ _ (lt_int ?_))
   have e:decide (aZ (a1,a2)<aZ (a1,b2))=decide (a2<b2):=by
    apply decide_eq_decide.mpr
    unfold aZ
    omega
   rw [e] at h
   exact h
 ·rw [beq_eq_false_iff_ne.mpr e1]
  refine W.kat_no (oneLt_int ?_)
  have e:decide (aZ (a1,a2)<aZ (b1,b2))=decide (a1<b1):=by
   apply decide_eq_decide.mpr
   unfold aZ
   simp only
   constructor
   ·intro h; omega
   ·intro h; omega
  rw [e] at h
  exact h
theorem G3:∀ {us:List Value}{ts:List Tie},Paired (iZ s.heap) us ts->∃ fs,W.KatTups s.heap us fs/\fs.length=us.length/\∀ v∈fs,∃ i t,v=Ŝ i t
 | _,_,.nil=>⟨[],.nil,rfl,fun _ h=>nomatch h⟩
 | _,_,.cons p q=>by
  obtain⟨a,o,t1,t2,n,rfl,ho,hc,hd⟩:=p
  obtain⟨fs,k,hl,hv⟩:=G3 q
  refine⟨_::fs,.cons ho hc hd (f:=Ŝ _ t1) rfl k,by simp [hl],fun v hv'=>?_⟩
  rcases Þ.mp hv' with rfl | h
  ·exact⟨_,_,rfl⟩
  ·exact hv v h
theorem Cr {a:Addr}{us:List Value}{ts:List Tie}{n:Nat}{P:PySem.Fin->Shared->Prop} (ho:s.heap.get? a=some (seqObj "list" us.toArray n))
  (hp:Paired (iZ s.heap) us ts) (hn:∀ t∈ts,xK t) (h64:us.length<64)
  (h:∀ p:List Nat,p.Perm (Ë us.length)->(∀ i j,i<=j->j<us.length->aZ (ts.getD (p.getD i 0) (0,0))<=aZ (ts.getD (p.getD j 0) (0,0))) ->
   P (.done (.ret .none)) { s with heap:=sortedHeap s.heap a us (p.map fun i=>us.getD i Ą).toArray }) :
  wpAny (model prog w) A (Builtin.«list.sort» ⟨[.ref a],[]⟩) P E s:=by
 have hlen:=hp.length
 have h24:=ç
 rw [list_sort_plain]
 have ha:a<s.heap.objs.size:=Ê ho
 refine À (listItems_at ho rfl ?_)
 refine À (listUpdate_at ho rfl ?_ (by rw [Î,ç]; omega) (Č _))
 obtain⟨e1,ho1⟩:∃ e1,(s.heap.update a (ß fun _=>(#[]:Array Value))).get? a=some (seqObj "list" #[] e1):=⟨_,get?_update_seq ho (fun _=>#[])⟩
 refine À (seqEpoch_at ho1 rfl ?_)
 refine À (wpAny_newTuple ?_ (by show us.length<=_; rw [ç]; omega))
 refine À (wpAny_newList ?_ (Č _))
 refine ò ?_
 have ho6:(((s.heap.update a (ß fun _=>(#[]:Array Value))).push (seqObj "tuple" us.toArray 0)).push (seqObj "list" #[] 0)).get? a=some (seqObj "list" #[] e1):=by
  rw [Ĥ _ _ _ (by rw [size_push',Ġ]; exact Õ (ô ha)),Ĥ _ _ _ (by rw [Ġ]; exact Õ ha)]
  exact ho1
 have kept:∀ b o,s.heap.get? b=some o->o.cls=.type "tuple"->(((s.heap.update a (ß fun _=>(#[]:Array Value))).push (seqObj "tuple" us.toArray 0)).push (seqObj "list" #[] 0)).get? b=some o:=fun b o q hc=>by
  have hlt:b<s.heap.objs.size:=Ê q
  have hne:b≠a:=fun z=>by
   rw [z,ho] at q
   cases q
   have z2:(Ă "list")=Ă "tuple":=hc
   injection z2 with z3
   exact absurd z3 (by decide)
  rw [Ĥ _ _ _ (by rw [size_push',Ġ]; exact Õ (ô hlt)),Ĥ _ _ _ (by rw [Ġ]; exact Õ hlt),Heap.get?_update_ne _ _ _ _ hne]
  exact q
 show wpAny (model prog w) A _ P E { s with heap:=((s.heap.update a (ß fun _=>(#[]:Array Value))).push (seqObj "tuple" us.toArray 0)).push (seqObj "list" #[] 0) }
 dsimp only
 have hsz:us.toArray.size=us.length:=by simp
 have hp6:Paired (iZ (((s.heap.update a (ß fun _=>(#[]:Array Value))).push (seqObj "tuple" us.toArray 0)).push (seqObj "list" #[] 0))) us ts:=Paired.yQ hp fun u t x=>x.keep kept
 by_cases h2:us.toArray.size<2
 ·rw [if_pos h2,if_pos h2]
  refine À (Å ?_)
  rw [StateT.run_pure]
  refine À (Å ?_)
  dsimp only
  have eout:(arrOf (SortSt.mk' general' (us.toArray.zip us.toArray) #[] 7 none)).map (·.2)=((Ë us.length).map fun i=>us.getD i Ą).toArray:=by
   rw [cJ]
   show (us.toArray.zip us.toArray).map (·.2)=us.toArray
   apply Array.toList_inj.mp
   simp
   exact Lr us
  rw [eout]
  refine À (seqEpoch_at ho6 rfl ?_)
  refine À (listUpdate_at ho6 rfl ?_ (Č _) (by rw [Î,Á,à,ç]; omega))
  simp only [bne_self_eq_false,ì,if_false]
  refine Å (h _ (List.Perm.refl _) fun i j hij hj=>?_)
  have:i=j:=by omega
  subst this
  exact ŭ _
 ·rw [if_neg h2,if_neg h2]
  have h2':2<=us.length:=by omega
  obtain⟨fs,hk,hfl,hfi⟩:=G3 (s:={ s with heap:=((s.heap.update a (ß fun _=>(#[]:Array Value))).push (seqObj "tuple" us.toArray 0)).push (seqObj "list" #[] 0) }) hp6
  refine À (W.kat_kind (T:=.type "int") hk (by omega) (fun v hv=>by obtain⟨i,t,rfl⟩:=hfi v hv; exact W.Looks.of_pure rfl) rfl ?_)
  have hcmp:∀ i j C,i<us.length->j<us.length->C (decide (aZ (ts.getD i (0,0))<aZ (ts.getD j (0,0)))) { s with heap:=((s.heap.update a (ß fun _=>(#[]:Array Value))).push (seqObj "tuple" us.toArray 0)).push (seqObj "list" #[] 0) } ->
    W.kas_cmp prog w A (tuples' true) (us.toArray.zip us.toArray) i j C { s with heap:=((s.heap.update a (ß fun _=>(#[]:Array Value))).push (seqObj "tuple" us.toArray 0)).push (seqObj "list" #[] 0) }:=fun i j C hi hj hC=>by
   unfold W.kas_cmp
   rw [W.kat_item rfl,W.kat_item rfl]
   have key:∀ k,k<us.length->iZ (((s.heap.update a (ß fun _=>(#[]:Array Value))).push (seqObj "tuple" us.toArray 0)).push (seqObj "list" #[] 0)) (us.getD k Ą) (ts.getD k (0,0))/\xK (ts.getD k (0,0)):=fun k hk=>by
    have hk':k<ts.length:=by omega
    have ek:ts.getD k (0,0)=ts[k]:=by simp [hk']
    obtain⟨u,eu,pu⟩:=Mp hp6 (i:=k) (b:=ts[k]) (by simp [hk'])
    have eu':us.getD k Ą=u:=by rw [ö,eu]; rfl
    rw [ek,eu']
    exact⟨pu,hn _ (į hk')⟩
   exact Gz (key i hi).1 (key j hj).1 (key i hi).2 (key j hj).2 hC
  have G:=W.kas_runs (prog:=prog) (w:=w) (A:=A) (E:=E) (κ:=tuples' true) (it:=us.toArray.zip us.toArray) (n:=us.length) (s:={ s with heap:=((s.heap.update a (ß fun _=>(#[]:Array Value))).push (seqObj "tuple" us.toArray 0)).push (seqObj "list" #[] 0) })
   (Q:=fun _ st' s'=>∃ p:Array Nat,s'={ s with heap:=((s.heap.update a (ß fun _=>(#[]:Array Value))).push (seqObj "tuple" us.toArray 0)).push (seqObj "list" #[] 0) }/\arrOf st'=p.map (W.kas_item (us.toArray.zip us.toArray))/\failedOf st'=none/\NfSort.Pm us.length p/\NfSort.Up (fun i=>aZ (ts.getD i (0,0))) p us.length)
   (G:=fun p s'=>s'={ s with heap:=((s.heap.update a (ß fun _=>(#[]:Array Value))).push (seqObj "tuple" us.toArray 0)).push (seqObj "list" #[] 0) }/\NfSort.Pm us.length p/\NfSort.Up (fun i=>aZ (ts.getD i (0,0))) p us.length) h2' h64 (fun p' st' s' a1 a2 a3 a4=>⟨p',a4.1,a2,a3,a4.2⟩)
   (NfSort.uw hcmp (NfSort.bK (fun p hp=>⟨rfl,hp⟩) (NfSort.Am (by omega))))
  have est:SortSt.mk' (tuples' true) (us.toArray.zip us.toArray) #[] 7 none=W.kas_st (tuples' true) (us.toArray.zip us.toArray) (List.toArray (Ë us.length)):=by
   have e:=W.kas_range (us.toArray.zip us.toArray)
   rw [show (us.toArray.zip us.toArray).size=us.length by simp] at e
   show SortSt.mk' (tuples' true) (us.toArray.zip us.toArray) #[] 7 none=SortSt.mk' (tuples' true) ((List.toArray (Ë us.length)).map (W.kas_item (us.toArray.zip us.toArray))) #[] 7 none
   rw [e]
  have eT:tuples' (Ă "int" != Ă "tuple")=tuples' true:=rfl
  rw [eT,est]
  refine À (Ĳ G ?_ fun _ _ e=>e)
  rintro ⟨⟨⟩,st'⟩ s' ⟨p,rfl,har,hf,hpm,hup⟩
  dsimp only
  have hout:=W.kat_snds (ks:=us) (vs:=us) rfl har
  rw [hout]
  have hsz2:p.size=us.length:=hpm.size
  refine À (seqEpoch_at ho6 rfl ?_)
  refine À (listUpdate_at ho6 rfl ?_ (Č _) (by rw [Î,Á,ñ,hsz2,ç]; omega))
  rw [hf]
  simp only [bne_self_eq_false,ì,if_false]
  refine Å (h p.toList ?_ fun i j hij hj=>?_)
  ·have:=Array.perm_iff_toList_perm.mp hpm
   simpa using this
  ·have q:=hup i j hij hj
   unfold NfSort.kk at q
   have eg:∀ k,p.toList.getD k 0=p.getD k 0:=fun k=>by
    rw [NfSort.getD_eq,ö]
    simp
   rw [eg,eg]
   exact q
theorem iV {l:Addr}{vs:List Value}{Q:List Value->Shared->Prop} (hl:IsTup s.heap l vs.toArray)
  (h:Q vs { s with heap:=(s.heap.push (seqObj "list" #[] 0)).update s.heap.objs.size (ß (·++vs.toArray)) }) (hsz:vs.length<=sizeLine) :
  wpAny (model prog w) A (collect (.ref l)) Q E s:=by
 obtain⟨o,ho,hc,n,hd⟩:=id hl
 unfold collect
 refine À (wpAny_runValue (Ė entry_proto_collect' ?_))
 show wpAny _ _ (do again (.builtin "list.__iadd__" ⟨[← newList [],.ref l],[]⟩)) _ _ s
 refine À (wpAny_newList (Å ⟨Code.quiet_builtin _ (by decide +kernel),Ė entry_list_iadd' ?_⟩))
 show wpAny _ _ (Ĩ (.ref s.heap.objs.size) (.ref l) (.ref s.heap.objs.size)) _ _ { s with heap:=s.heap.push (seqObj "list" #[] 0) }
 unfold Ĩ
 have ho':(s.heap.push (seqObj "list" #[] 0)).get? l=some o:=È _ ho
 refine À (wpAny_typeOf (T:="tuple") ⟨o,ho',hc⟩ ?_)
 have ht:(Ă "tuple" == Ă "tuple")=true:=by rfl
 rw [if_pos (by rw [ht]; simp)]
 refine À (listItems_at ho' hd ?_)
 refine À (listItems_at (xs:=#[]) (n:=0) (Ô _ rfl) rfl ?_)
 rw [if_neg (by simp)]
 refine À (listUpdate_at (xs:=#[]) (n:=0) (Ô _ rfl) rfl ?_ (Č _) (by show (#[]++vs.toArray).size<=sizeLine+1; simp only [Array.size_append,Î,š]; omega))
 refine Å ?_
 show wpAny (model prog w) A (do
   let o ← load s.heap.objs.size
   match o.data with
   | .seq xs _=>pure xs.toList
   | _=>unsupported "internal:collect") Q E { s with heap:=(s.heap.push (seqObj "list" #[] 0)).update s.heap.objs.size (ß (·++vs.toArray)) }
 refine À (wpAny_load (get?_update_seq (Ô _ rfl) _) ?_)
 show wpAny _ _ (pure ((#[]:Array Value)++vs.toArray).toList) Q E _
 rw [show ((#[]:Array Value)++vs.toArray).toList=vs by simp]
 exact Å h
theorem sJ {l:Addr}{us:List Value}{ts:List Tie}{Q:Value->Shared->Prop} (hl:s.heap.IsList l us.toArray\/IsTup s.heap l us.toArray) (hp:Paired (iZ s.heap) us ts) (hn:∀ t∈ts,xK t) (h64:us.length<64)
  (h:∀ p:List Nat,p.Perm (Ë us.length)->(∀ i j,i<=j->j<us.length->aZ (ts.getD (p.getD i 0) (0,0))<=aZ (ts.getD (p.getD j 0) (0,0))) ->
   Q (.ref (s.heap.objs.size+1)) { s with heap:=sortedAll s.heap us (p.map fun i=>us.getD i Ą).toArray }) :
  wpAny (model prog w) A (call (.builtin "sorted") [.ref l]) Q E s:=by
 have h24:=ç
 refine Calls.call_function_entry kind_sorted plain_sorted entry_sorted (args_sorted1 _) ?_
 unfold Builtin.«sorted»
 refine À (m:=checkCount "sorted" 1 1 _) (Å ?_)
 have hsz:((s.heap.push (seqObj "list" #[] 0)).update s.heap.objs.size (ß (·++us.toArray))).objs.size=s.heap.objs.size+1:=by
  rw [Ġ,size_push']
 have hoL:(((s.heap.push (seqObj "list" #[] 0)).update s.heap.objs.size (ß (·++us.toArray))).push (seqObj "list" us.toArray 0)).get? (s.heap.objs.size+1)=some (seqObj "list" us.toArray 0):=by
  rw [← hsz]; exact Ô _ rfl
 have keep:∀ b o,s.heap.get? b=some o->(((s.heap.push (seqObj "list" #[] 0)).update s.heap.objs.size (ß (·++us.toArray))).push (seqObj "list" us.toArray 0)).get? b=some o:=fun b o q=>by
  have hlt:b<s.heap.objs.size:=Ê q
  rw [Ĥ _ _ _ (by rw [hsz]; exact Õ (ô hlt)),Heap.get?_update_ne _ _ _ _ (Õ hlt),Ĥ _ _ _ (Õ hlt)]
  exact q
 have go:∀ {Q':List Value->Shared->Prop},Q' us { s with heap:=(s.heap.push (seqObj "list" #[] 0)).update s.heap.objs.size (ß (·++us.toArray)) }->wpAny (model prog w) A.in1 (collect (.ref l)) Q' (fun e s'=>E e s') s:=fun {Q'} hq=>by
  rcases hl with hl | hl
  ·exact collect_list hl hq (by omega)
  ·exact iV hl hq (by omega)
 refine À (go ?_)
 refine À (wpAny_newList ?_ (by omega))
 show wpAny _ _ _ _ _ { s with heap:=((s.heap.push (seqObj "list" #[] 0)).update s.heap.objs.size (ß (·++us.toArray))).push (seqObj "list" us.toArray 0) }
 rw [hsz]
 refine À (ò (ü slot_list_sort ⟨_,hoL,rfl⟩ entry_list_sort (Cr hoL (Paired.yQ hp fun u t x=>x.keep fun a o e _=>keep a o e) hn h64 fun p a1 a2=>⟨_,rfl,?_⟩) (args_list_sort _)))
 exact Å ⟨_,rfl,h p a1 a2⟩
end
section
variable {X:Cx}
theorem vC {ts:List Tie}{p:List Nat} (hp:p.Perm (Ë ts.length)) (h:∀ i j,i<=j->j<ts.length->aZ (ts.getD (p.getD i 0) (0,0))<=aZ (ts.getD (p.getD j 0) (0,0))) :
  (p.map fun i=>ts.getD i (0,0)).Perm ts/\(p.map fun i=>ts.getD i (0,0)).Pairwise (fun a b=>aZ a<=aZ b):=by
 refine⟨?_,?_⟩
 ·have q:=hp.map fun i=>ts.getD i (0,0)
  rw [cJ] at q
  exact q
 ·have hl:p.length=ts.length:=by simpa using hp.length_eq
  rw [List.pairwise_iff_getElem]
  intro i j hi hj hij
  rw [Á] at hi hj
  have q:=h i j (by omega) (by omega)
  have ei:p.getD i 0=p[i]:=by simp [hi]
  have ej:p.getD j 0=p[j]:=by simp [hj]
  rw [ei,ej] at q
  simpa using q
theorem uR:bx X (.builtin "sorted") (fun xs H Q=>∃ (p:Addr) (vs:List V) (ts:List Tie),xs=[.ref p]/\(SqL X.K H p vs\/SqT X.K H p vs)/\Prs H vs ts/\(∀ t∈ts,xK t)/\ts.length<64 /\
  ∀ l ws us,H l=none->Prs H ws us->us.Perm ts->us.Pairwise (fun a b=>aZ a<=aZ b)->Q (.ref l) (upd H l (.lst ws))):=by
 intro pins s σ H xs us Q I r h
 obtain⟨p,vs,ts,rfl,hp,hpr,hn,h64,q⟩:=h
 obtain⟨u,rfl,rx⟩:=vals1 r
 cases rx
 have h24:=ç
 have fin:∀ its:List Value,Vals vs its->(s.heap.IsList p its.toArray\/IsTup s.heap p its.toArray)->wpAny (model X.prog X.w) X.A (call (.builtin "sorted") [.ref p]) (EP X pins σ Q) X.xe s:=fun its rv hl=>by
  have hpv:=I.pairs hpr rv
  have hlen:=hpr.length
  have hlen2:=rv.length
  refine sJ hl hpv hn (by omega) fun pp hpp hord=>?_
  have eits:its.length=ts.length:=by omega
  rw [eits] at hpp hord
  obtain⟨hperm,hpw⟩:=vC hpp hord
  have hlt:∀ i∈pp,i<ts.length:=fun i hi=>ã.mp (hpp.mem_iff.mp hi)
  have hw:=vQ hpr V.non (0,0) pp hlt
  have hvv:Vals (pp.map fun i=>vs.getD i V.non) (pp.map fun i=>its.getD i Ą):=vQ rv V.non Ą pp fun i hi=>by have:=hlt i hi; omega
  obtain⟨e,he⟩:=sortedAll_at s.heap its (pp.map fun i=>its.getD i Ą).toArray
  refine⟨.ref (s.heap.objs.size+1),upd H (s.heap.objs.size+1) (.lst (pp.map fun i=>vs.getD i V.non)),I.laid (t':=s.toks) (fun b o eb=>sortedAll_old eb) (Ę _) ?_,rfl,q _ _ _ (I.hok.fresh (Ę _)) hw hperm hpw⟩
  refine⟨?_,_,e,hvv,he⟩
  have hl3:pp.length=ts.length:=by simpa using hpp.length_eq
  rw [Á]
  omega
 rcases hp with hp | hp
 ·obtain⟨its,rv,pl,hz⟩:=I.list hp
  exact fin its rv (.inl pl.isList)
 ·obtain⟨its,rv,pl,hz⟩:=I.tuple hp
  exact fin its rv (.inr pl)
def pD (t:Tie):PyData:=.tuple [.int t.1,.int t.2]
inductive DatV (K:â) (H:Hp):V->PyData->Prop
 | lst {a:Addr}{vs:List V}{ts:List Tie}:SqL K H a vs->Prs H vs ts->DatV K H (.ref a) (.list (ts.map pD))
 | tup {a:Addr}{vs:List V}{ts:List Tie}:SqT K H a vs->Prs H vs ts->DatV K H (.ref a) (.tuple (ts.map pD))
 | web {a b:Addr}{n:Int}{vs:List V}{ts:List Tie}:SqT K H a [.int n,.ref b]->SqT K H b vs->Prs H vs ts->DatV K H (.ref a) (.tuple [.int n,.tuple (ts.map pD)])
end
end L2
namespace L2
open PySem PySem.Spec PyProof.Rows HT
section
variable {prog:Program}{w:World}{A:Around}{E:Value->Shared->Prop}{s:Shared}
end
section
variable {X:Cx}{e:Expr}{te:TE}{p1 p2 p3 pos:Pos}
end
end L2
namespace PySem
open Sem (wp)
open AutoSeq1 (wpAny_loadPart')
theorem iH (l:Addr) (items:Array Value) (n:Nat) (dct:Option Addr) (sl:Array (Option Value)) :
  Meets (Builtin.«enumerate.__new__» ⟨[.type "enumerate",.ref l],[]⟩) (fun _ R s=>s.heap.get? l=some { cls:=.type "tuple",dict:=dct,data:=.seq items n,slots:=sl } /\
   R (.ok (.ret (.ref (s.heap.push { cls:=.type "tuple_iterator",data:=.fields #[.ref l,.int 0 0] }).objs.size)))
    { s with heap:=(s.heap.push { cls:=.type "tuple_iterator",data:=.fields #[.ref l,.int 0 0] }).push { cls:=.type "enumerate",data:=.fields #[.none,.bool false,.ref s.heap.objs.size,rawInt 0,.none,.none] } }) :=
 .of_wp fun prog w A R s h=>by
  obtain⟨hp,g,d,tk,os⟩:=s; obtain⟨hl,h⟩:=h
  have hsub:=sub_enumerate
  have hL:Heap.IsTuple (Shared.heap ⟨hp,g,d,tk,os⟩) l items:=⟨_,hl,rfl,n,rfl⟩
  wp_walk using Ċ hl
  refine wpAny_stack_any fun st=>Å ?_
  split
  ·rename_i c _ _ _ _ _
   cases (c == Ă "enumerate")
   ·wp_walk using Ċ hl,ż hL
    exact⟨_,rfl,h⟩
   ·wp_walk using Ċ hl,ż hL
    exact⟨_,rfl,h⟩
  ·wp_walk using Ċ hl,ż hL
   exact⟨_,rfl,h⟩
section
variable {prog:Program}{w:World}{A:Around}{E:Value->Shared->Prop}{s:Shared}
theorem cZ {l:Addr}{items:Array Value}{Q:Value->Shared->Prop} (hL:s.heap.IsTuple l items)
  (h:∀ h',IsEnum h' (s.heap.objs.size+1) s.heap.objs.size 0 .none->h'.IsTupleIter s.heap.objs.size l 0->h'.objs.size=s.heap.objs.size+2 ->
   (∀ b o,s.heap.get? b=some o->h'.get? b=some o)->Q (.ref (s.heap.objs.size+1)) { s with heap:=h' }) :
  wpAny (model prog w) A (call (.type "enumerate") [.ref l]) Q E s:=by
 obtain⟨⟨c,dct,dt,sl⟩,hl,hc,n,hd⟩:=hL
 replace hc:c=.type "tuple":=hc
 replace hd:dt=.seq items n:=hd
 subst hc hd
 refine callType_new F.called_enumerate (by decide) (F.typeCall_enumerate_1 _) (F.newCall_enumerate_1 _) (fun obj=>F.args_object_init_2 obj _) F.entry_enumerate_new
  (iH l items n dct sl) ⟨hl,?_⟩
 have hz:(s.heap.push { cls:=.type "tuple_iterator",data:=.fields #[.ref l,.int 0 0] }).objs.size=s.heap.objs.size+1:=ķ ..
 show _/\_
 rw [hz]
 have he:IsEnum ((s.heap.push { cls:=.type "tuple_iterator",data:=.fields #[.ref l,.int 0 0] }).push
   { cls:=.type "enumerate",data:=.fields #[.none,.bool false,.ref s.heap.objs.size,rawInt 0,.none,.none] }) (s.heap.objs.size+1) s.heap.objs.size 0 .none:=by
  have:=Ô (s.heap.push { cls:=.type "tuple_iterator",data:=.fields #[.ref l,.int 0 0] })
   (o:={ cls:=.type "enumerate",data:=.fields #[.none,.bool false,.ref s.heap.objs.size,rawInt 0,.none,.none] }) rfl
  rw [hz] at this; exact this
 refine⟨⟨_,he,rfl⟩,h _ he ⟨_,È _ (Ô _ rfl),rfl,rfl⟩ (by rw [ķ,hz]) fun b o x=>È _ (È _ x)⟩
theorem j9 {it l:Addr}{i:Nat}{items}{x:Value}{Q:Value->Shared->Prop} (hit:s.heap.IsTupleIter it l i)
  (hl:s.heap.IsTuple l items) (hx:items[i]?=some x)
  (hQ:∀ h',h'.IsTupleIter it l (i+1)->Œ it s.heap h'->Q x { s with heap:=h' }) :
  wpAny (model prog w) A (Ĝ (.ref it)) Q E s:=by
 obtain⟨o,ho,hc,hd⟩:=id hit
 obtain⟨ol,hol,_,nl,hdl⟩:=hl
 unfold Ĝ
 refine À (Đ (name:=ŋ "__next__") hit.typeIs Ŕ
  (ü Ŕ hit.typeIs PyProof.Rows.entry_tupleiter_next ?_ (PyProof.Rows.args_tupleiter_next _)))
 show wpAny _ _ (field (.ref it) 0 >>= _) _ _ s
 refine À (ŧ ho hd (x:=.ref l) rfl ?_)
 show wpAny _ _ (if (ė l == Ą)=true then _ else _) _ _ s
 rw [if_neg (show ¬ ((ė l == Ą)=true) from Ú)]
 show wpAny _ _ (field (.ref it) 1 >>= _) _ _ s
 refine À (ŧ ho hd (x:=.int i 0) rfl ?_)
 show wpAny _ _ (seqItems? (.ref l) >>= _) _ _ s
 refine À (wpAny_seqItems hol hdl ?_)
 simp only [á,hx]
 refine À (Ů ho hd (by simp) (Å ⟨x,rfl,Å (hQ _ ?_ (Ŋ ..))⟩))
 exact⟨_,Ď _ ho (Ž (ĭ hd _)),(Obj.cls_mapFields ..).trans hc,by
  rw [ĭ hd]; simp [rawInt]⟩
theorem fM {it l:Addr}{i:Nat}{items}{Q:Value->Shared->Prop} (hh:A.handled=none)
  (hit:s.heap.IsTupleIter it l i) (hl:s.heap.IsTuple l items) (hx:items[i]?=none)
  (hE:∀ h' e,Heap.ExtBut it s.heap h'->(∃ o,h'.get? e=some o/\o.cls=.type "StopIteration")->E (.ref e) { s with heap:=h' }) :
  wpAny (model prog w) A (Ĝ (.ref it)) Q E s:=by
 obtain⟨o,ho,hc,hd⟩:=id hit
 obtain⟨ol,hol,_,nl,hdl⟩:=hl
 unfold Ĝ
 refine À (Đ (name:=ŋ "__next__") hit.typeIs Ŕ
  (ü Ŕ hit.typeIs PyProof.Rows.entry_tupleiter_next ?_ (PyProof.Rows.args_tupleiter_next _)))
 show wpAny _ _ (field (.ref it) 0 >>= _) _ _ s
 refine À (ŧ ho hd (x:=.ref l) rfl ?_)
 show wpAny _ _ (if (ė l == Ą)=true then _ else _) _ _ s
 rw [if_neg (show ¬ ((ė l == Ą)=true) from Ú)]
 show wpAny _ _ (field (.ref it) 1 >>= _) _ _ s
 refine À (ŧ ho hd (x:=.int i 0) rfl ?_)
 show wpAny _ _ (seqItems? (.ref l) >>= _) _ _ s
 refine À (wpAny_seqItems hol hdl ?_)
 simp only [á,hx]
 refine À (wpAny_rule (À (Ů ho hd (by simp) ?_)))
 show wpAny _ _ (newExc (.type "StopIteration") [] >>= _) _ _ _
 refine À ?_
 simp only [newExc,newTuple]
 refine À (ĕ ?_ (by size_fits))
 refine À (m:=firstArgMember _ _) (wpAny_of_eq (a:=Ą) (by first | rfl | (simp only [firstArgMember]; rfl)) ?_)
 refine ĕ ?_ (by size_fits)
 simp only [raiseNew]
 refine À (wpAny_handled ?_)
 first | rw [show A.in1.handled=none from hh] | rw [hh]
 refine À (Å (wpAny_throw ?_))
 exact hE _ _ (((Ŋ ..).extBut.push _).push _) ⟨_,Ô _ rfl,rfl⟩
end
theorem Draws.tuple {prog:Program}{w:World}{A:Around} (hh:A.handled=none) (it l:Addr) (hne:l≠it) (items:Array Value) :
  Draws prog w A it [it,l] items.size (fun i v=>items[i]?=some v) (fun i h=>h.IsTupleIter it l i/\h.IsTuple l items) where
 live:=fun _ _ st=>let ⟨o,ho,_⟩:=st.1; ⟨o,ho⟩
 frame:=fun _ _ _ st hk=>⟨let ⟨o,ho,r⟩:=st.1; ⟨o,hk it (by simp) o ho,r⟩,let ⟨o,ho,r⟩:=st.2; ⟨o,hk l (by simp) o ho,r⟩⟩
 item:=fun i s Q E hi st hQ=>by
  refine j9 st.1 st.2 (x:=items[i]) (by simp [hi]) fun h' hit' hs'=>?_
  exact hQ _ h' s.toks (by simp [hi]) ⟨hit',st.2.extBut hs'.extBut hne⟩ hs'
 done:=fun s Q E st hE=>fM hh st.1 st.2 (by simp) hE
end PySem
namespace L2
open PySem PySem.Spec PyProof.Rows
def Ite (K:â) (a:Addr):It :=
 ⟨fun i H=>∃ xs x,SqT K H a xs/\xs[i]?=some x,fun i H x H'=>∃ t v,x=.ref t/\H t=none/\H'=upd H t (.tup [.int i,v])/\∀ xs,SqT K H a xs->xs[i]?=some v,fun i H=>∃ xs,SqT K H a xs/\xs.length<=i⟩
theorem qR {P:Program}{w:World}{K:â}{elts:List Expr}{kk:Nat}{pos:Pos} (a e it:Addr) (hei:e≠it) :
  Turn P w K (.Tuple elts kk pos) (Ite K a) [e,it] e (fun i h=>(∃ old,IsEnum h e it i old)/\h.IsTupleIter it a i) where
 mem:=by simp
 obj:=fun i h st b hb=>by
  obtain⟨⟨old,he⟩,o,ho,hc,hd⟩:=st
  rcases Þ.mp hb with rfl | hb
  ·exact⟨_,he,fun v z=>nomatch z⟩
  ·have e1:b=it:=by simpa using hb
   subst e1
   exact⟨o,ho,fun v z=>by rw [hd] at z; cases z⟩
 keep:=fun i h h' st k=>by
  obtain⟨⟨old,he⟩,o,ho,r⟩:=st
  exact⟨⟨old,k e (by simp) _ he⟩,o,k it (by simp) _ ho,r⟩
 item:=by
  intro X hP hw hK hc i pins s σ H E I hf st hg
  subst hP hw hK
  obtain⟨xs,x,hq,hx⟩:=hg
  obtain⟨its,rv,p,hz⟩:=I.tuple hq
  obtain⟨u,hu,ru⟩:=rv.get hx
  obtain⟨⟨old,he⟩,hit⟩:=st
  have hai:a≠it:=fun z=>by
   obtain⟨o,ho,hc1,_⟩:=p
   obtain⟨o',ho',hc2,_⟩:=hit
   rw [z,ho'] at ho
   cases ho
   rw [hc2] at hc1
   injection hc1 with z2
   exact absurd z2 (by decide)
  have hae:e≠a:=fun z=>by
   obtain⟨o,ho,hc1,_⟩:=p
   have he':s.heap.get? e=some _:=he
   rw [z,ho] at he'
   cases he'
   have z1:Ă "enumerate"=Ă "tuple":=hc1
   injection z1 with z2
   exact absurd z2 (by decide)
  have hlt:i<its.toArray.size:=by have:=(É.mp hu).1; simpa using this
  obtain⟨e0,e1,e2,e3,e4,e5⟩:=hf e (by simp)
  obtain⟨f0,f1,f2,f3,f4,f5⟩:=hf it (by simp)
  have D:=Draws.tuple (prog:=X.prog) (w:=X.w) (A:=X.A.in1) (I.ok.hd hc) it a hai its.toArray
  refine wpAny_pyNext_enum_itemD D he ⟨hit,show s.heap.IsTuple a its.toArray from p⟩ hlt hei (by simp [hei,hae]) fun x' h' tk hP ho hs' hT hsz hk=>⟨_,rfl,?_⟩
  have ex:x'=u:=by
   have hP':its[i]?=some x':=by simpa using hP
   rw [hu] at hP'
   exact (Ù hP').symm
  subst ex
  refine wpAny_letOwnedTupleGo_enum ho fun h2 he2 hs2=>?_
  have hTn:H s.heap.objs.size=none:=I.hok.fresh (Ò _)
  have keep2:∀ b o,b≠e->b≠it->s.heap.get? b=some o->h2.get? b=some o:=fun b o hb1 hb2 q=>(hs2.2 b hb1).trans (hk b o hb1 hb2 q)
  have hTe:s.heap.objs.size≠e:=ħ (Ê he)
  have hTup:h2.get? s.heap.objs.size=some { cls:=.type "tuple",data:=.seq #[.int i tk,x'] }:=(hs2.2 _ hTe).trans hT
  have J:Inv X pins σ (upd H s.heap.objs.size (.tup [.int i,x])) { s with heap:=h2,toks:=tk+1 }:=by
   refine I.step (g':=s.gens) (d':=s.drawn) (t':=tk+1) (ch:=[e,it]) (fun b hb=>?_) (fun b o _ _ hcb q _=>keep2 b o (fun z=>hcb (by simp [z])) (fun z=>hcb (by simp [z])) q)
    (fun b o _ _ hcb q _=>⟨o.slots,keep2 b o (fun z=>hcb (by simp [z])) (fun z=>hcb (by simp [z])) q⟩) (fun b o _ q n=>by rw [aj (Õ (Ê q))]; exact n)
    (fun b o hcb q=>⟨o,keep2 b o (fun z=>hcb (by simp [z])) (fun z=>hcb (by simp [z])) q⟩) (fun b ys q=>by rw [aj (ak q hTn)]; exact q) (fun b o y q=>by rw [aj (ak q hTn)]; exact q)
    (fun b ps q=>⟨#[],by rw [aj (ak q hTn),q]; simp⟩) (fun m hm=>?_) ?_ I.bare
   ·rcases Þ.mp hb with rfl | hb
    ·exact⟨e3,e1,e4,e5⟩
    ·have z:b=it:=by simpa using hb
     subst z
     exact⟨f3,f1,f4,f5⟩
   ·obtain⟨o,es,ep,ho',r⟩:=hm
    exact⟨o,es,ep,keep2 _ o (č e1) (č f1) ho',r⟩
   ·intro b u' q
    have nT:∀ {c y},H c=some y->c≠e/\c≠it:=fun {c y} z=>⟨fun v=>(by rw [v,e0] at z; exact nomatch z),fun v=>(by rw [v,f0] at z; exact nomatch z)⟩
    by_cases hb:b=s.heap.objs.size
    ·subst hb
     rw [ao] at q
     cases q
     exact⟨(by show 2<=sizeLine; decide),[.int i tk,x'],.cons ⟨_,rfl⟩ (.cons ru .nil),_,hTup,rfl,_,rfl⟩
    ·rw [aj hb] at q
     refine (I.hok b u' q).stay (fun c v hcv y=>keep2 c v ?_ ?_ y) (fun c y=>by rw [aj (ak y hTn)]; exact y) fun c ys y=>by rw [aj (ak y hTn)]; exact y
     ·rcases hcv with rfl | z
      ·exact (nT q).1
      ·exact (nT z).1
     ·rcases hcv with rfl | z
      ·exact (nT q).2
      ·exact (nT z).2
  refine⟨.ref s.heap.objs.size,_,J,rfl,⟨_,x,rfl,hTn,rfl,fun ys hy=>by rw [I.qT hy hq]; exact hx⟩,⟨⟨x',?_⟩,?_⟩,fun b hb=>?_⟩
  ·have he3:IsEnum h2 e it ((i:Int)+1) x':=by simpa using he2
   have ec:((i+1:Nat):Int)=(i:Int)+1:=by omega
   rw [ec]
   exact he3
  ·obtain⟨o,ho2,r⟩:=hs'.1
   exact⟨o,(hs2.2 it (č hei)).trans ho2,r⟩
  ·rw [aj]
   ·exact (hf b hb).1
   ·rcases Þ.mp hb with rfl | hb
    ·exact č hTe
    ·have z:b=it:=by simpa using hb
     subst z
     obtain⟨o,ho2,_⟩:=hit
     exact Õ (Ê ho2)
 done:=by
  intro X hP hw hK hc i pins s σ H E I hf st hg
  subst hP hw hK
  obtain⟨xs,hq,hx⟩:=hg
  obtain⟨its,rv,p,hz⟩:=I.tuple hq
  obtain⟨⟨old,he⟩,hit⟩:=st
  obtain⟨f0,f1,f2,f3,f4,f5⟩:=hf it (by simp)
  have hl:=rv.length
  have hT:s.TypeIs (.ref e) "enumerate":=⟨_,he,rfl⟩
  unfold pyNext
  refine À (wpAny_attempt (Đ (name:=ŋ "__next__") hT ĺ
   (ü ĺ hT PySem.F.entry_enumerate_next ?_ (PySem.F.args_enumerate_next_1 _))))
  show wpAny _ _ (field (.ref e) 2 >>= _) _ _ _
  refine À (ŧ he rfl (x:=.ref it) rfl ?_)
  refine À (fM (I.ok.hd hc) hit (show s.heap.IsTuple a its.toArray from p) (by simp; omega) fun h' x he' hx'=>?_)
  obtain⟨o,ho,hc'⟩:=hx'
  refine À (wpAny_isInstance (T:="StopIteration") (b:=true) ⟨o,ho,hc'⟩ isSubtype_stop ?_)
  exact Å ⟨rfl,I.turned (t':=s.toks) (fun b o hb e=>he' b o hb e) f0 f1 f3 f4 f5⟩
 self:=fun A i s Q E st h=>by
  obtain⟨⟨old,he⟩,_⟩:=st
  have hT:s.TypeIs (.ref e) "enumerate":=⟨_,he,rfl⟩
  refine wpAny_pyIter_slot hT ű (ü ű hT PySem.F.entry_enumerate_iter ?_ (PySem.F.args_enumerate_iter_1 _))
  show wpAny _ _ (ret (.ref e)) _ _ s
  exact Å ⟨_,rfl,"enumerate",_,hT,ĺ.lookup,h⟩
theorem boot_enumerate:bootBuiltins "enumerate"=some (.type "enumerate"):=by decide +kernel
def Qf (K:â) (ta:TA):TI:=fun σ H R=>ta σ H fun vs H1=>∃ a,vs=[.ref a]/\(∃ xs,SqT K H1 a xs)/\R (Ite K a) H1
theorem Jh {X:Cx}{elts:List Expr}{kk:Nat}{tpos:Pos}{a:Expr}{ta:TA}{p pos:Pos} (hg:Gl X "enumerate") (hm:X.mg "enumerate"=none) (ha:PA X [a] ta) (hs:starEach [a] X.env=[(false,eval a X.env)]:=by rfl):PI X (.Tuple elts kk tpos) (.Call (.Name "enumerate" p) [a] [] pos) (Qf X.K ta):=by
 intro pins s σ H R I h
 refine Call_ (gF I hg hm boot_enumerate (ĩ (thn (ha pos pins s σ H _ I h) fun us s1 ⟨vs,H1,I1,r1,q1⟩=>?_) hs rfl))
 obtain⟨b,e,⟨xs,hq⟩,q⟩:=q1
 subst e
 obtain⟨u,rfl,rx⟩:=vals1 r1
 cases rx
 obtain⟨its,rv,pt,hz⟩:=I1.tuple hq
 refine cZ (show s1.heap.IsTuple b its.toArray from pt) fun h' he hit hsz hk=>?_
 have I2:Inv X pins σ H1 { s1 with heap:=h' }:=I1.kept (t':=s1.toks) hk
 have T:Turn X.prog X.w X.K (.Tuple elts kk tpos) (Ite X.K b) [s1.heap.objs.size+1,s1.heap.objs.size] (s1.heap.objs.size+1) (fun i h=>(∃ old,IsEnum h (s1.heap.objs.size+1) s1.heap.objs.size i old)/\h.IsTupleIter s1.heap.objs.size b i):=qR b _ _ (ħ (ĳ _))
 refine T.self _ 0 _ _ _ ⟨⟨_,he⟩,hit⟩ ⟨_,_,_,_,H1,rfl,I2,T,⟨⟨_,he⟩,hit⟩,fun c hc=>?_,q⟩
 rcases Þ.mp hc with rfl | hc
 ·exact I1.uF (Ę _) (I1.hok.fresh (Ę _))
 ·have z:c=s1.heap.objs.size:=by simpa using hc
  subst z
  exact I1.uF (Ò _) (I1.hok.fresh (Ò _))
section
variable {κ:Type} [DecidableEq κ]
def gU (kvs:List (κ×V)) (k:κ):Option V:=(kvs.find? fun kv=>decide (kv.1=k)).map (·.2)
def putK (kvs:List (κ×V)) (k:κ) (v:V):List (κ×V) :=
 if (kvs.any fun kv=>decide (kv.1=k))=true then kvs.map (fun kv=>if kv.1=k then (kv.1,v) else kv) else kvs++[(k,v)]
theorem jM {p:κ×V}{r:List (κ×V)}{k:κ} (e:p.1=k):gU (p::r) k=some p.2:=by simp [gU,ō,e]
theorem oG {p:κ×V}{r:List (κ×V)}{k:κ} (e:¬ p.1=k):gU (p::r) k=gU r k:=by simp [gU,ō,e]
theorem vo (k:κ):∀ kvs:List (κ×V),(kvs.any fun kv=>decide (kv.1=k))=(gU kvs k).isSome
 | []=>rfl
 | p::r=>by
  rw [List.any_cons]
  by_cases e:p.1=k
  ·simp only [jM e,decide_eq_true e,Bool.true_or,Option.isSome_some]
  ·rw [oG e,decide_eq_false e,Bool.false_or]; exact vo k r
theorem iI (kvs:List (κ×V)) (k:κ) (v:V):(putK kvs k v).length<=kvs.length+1:=by
 unfold putK
 split
 ·rw [Á]; omega
 ·rw [Ý,õ,š]; omega
theorem qH.mF {o:Option V}{u:Option Value} (r:qH o u):o.isSome=u.isSome:=by
 cases o with
 | none=>cases u with
  | none=>rfl
  | some _=>exact (show False from r).elim
 | some _=>cases u with
  | none=>exact (show False from r).elim
  | some _=>rfl
theorem KV.val {kvs:List (κ×V)}{vs:List (κ×Value)} (r:KV kvs vs) (k:κ):qH (gU kvs k) (valueAt vs k):=by
 unfold KV at r
 induction r with
 | nil=>exact Ŭ
 | @cons p q ps qs h t ih =>
  obtain⟨h1,h2⟩:=h
  by_cases e:p.1=k
  ·have e':q.1=k:=h1.symm.trans e
   have b:valueAt (q::qs) k=some q.2:=by simp [valueAt,ō,e']
   rw [jM e,b]; exact h2
  ·have e':¬ q.1=k:=fun z=>e (h1.trans z)
   have b:valueAt (q::qs) k=valueAt qs k:=by simp [valueAt,ō,e']
   rw [oG e,b]; exact ih
theorem KV.any {kvs:List (κ×V)}{vs:List (κ×Value)} (r:KV kvs vs) (k:κ):(kvs.any fun kv=>decide (kv.1=k))=vs.any fun kv=>decide (kv.1=k):=by
 unfold KV at r
 induction r with
 | nil=>rfl
 | cons h t ih=>rw [List.any_cons,List.any_cons,ih,h.1]
theorem KV.repl {kvs:List (κ×V)}{vs:List (κ×Value)} (r:KV kvs vs) (k:κ) {y:V}{u:Value} (ry:RelV y u) :
  KV (kvs.map fun kv=>if kv.1=k then (kv.1,y) else kv) (vs.map fun kv=>if kv.1=k then (kv.1,u) else kv):=by
 unfold KV at r ⊢
 induction r with
 | nil=>exact .nil
 | @cons p q ps qs h t ih =>
  rw [ð,ð]
  refine .cons ?_ ih
  obtain⟨h1,h2⟩:=h
  by_cases e:p.1=k
  ·rw [if_pos e,if_pos (h1.symm.trans e)]; exact⟨h1,ry⟩
  ·rw [if_neg e,if_neg (fun z=>e (h1.trans z))]; exact⟨h1,h2⟩
theorem KV.put {kvs:List (κ×V)}{vs:List (κ×Value)} (r:KV kvs vs) (k:κ) {y:V}{u:Value} (ry:RelV y u):KV (putK kvs k y) (stored vs k u):=by
 unfold putK stored
 rw [r.any k]
 by_cases e:(vs.any fun kv=>decide (kv.1=k))=true
 ·rw [if_pos e,if_pos e]; exact r.repl k ry
 ·rw [if_neg e,if_neg e]; exact Paired.snoc r ⟨rfl,ry⟩
theorem KV.keys {kvs:List (κ×V)}{vs:List (κ×Value)} (r:KV kvs vs):kvs.map (·.1)=vs.map (·.1):=by
 unfold KV at r
 induction r with
 | nil=>rfl
 | cons h t ih=>rw [ð,ð,ih,h.1]
theorem KV.length {kvs:List (κ×V)}{vs:List (κ×Value)} (r:KV kvs vs):kvs.length=vs.length:=Paired.length r
end
theorem wK {P:Program}{w:World}{k:Key}{u:Value} (r:RelV (kV k) u):(aF P w).is k u=true:=by
 cases k with
 | inl i=>obtain⟨t,e⟩:=(show ∃ t,u=Ŝ i t from r); subst e; exact wz P w i t
 | inr x=>obtain⟨t,e⟩:=(show ∃ t,u=Value.str x t from r); subst e; exact wu P w x t
theorem rF {P:Program}{w:World}:∀ {ks:List Key}{us:List Value},Vals (ks.map kV) us->ItemsAre (aF P w) ks us
 | [],_,r=>by rw [List.map_nil] at r; cases r; exact .nil
 | k::ks,_,r=>by
  rw [ð] at r
  cases r with
  | cons h t=>exact .cons (wK h) (rF t)
abbrev KT (H:Hp):List (List Key×V)->List (List Key×Addr×Value)->Prop:=Paired fun p q=>p.1=q.1/\H q.2.1=some (.tup (p.1.map kV))/\RelV p.2 q.2.2
theorem KT.val {H:Hp}{kvs:List (List Key×V)}{xs:List (List Key×Addr×Value)} (r:KT H kvs xs) (k:List Key):qH (gU kvs k) ((atKey xs k).map (·.2)):=by
 induction r with
 | nil=>exact Ŭ
 | @cons p q ps qs h t ih =>
  obtain⟨h1,_,h2⟩:=h
  by_cases e:p.1=k
  ·have e':q.1=k:=h1.symm.trans e
   have b:atKey (q::qs) k=some q.2:=by simp [atKey,ō,e']
   rw [jM e,b]; exact h2
  ·have e':¬ q.1=k:=fun z=>e (h1.trans z)
   have b:atKey (q::qs) k=atKey qs k:=by simp [atKey,ō,e']
   rw [oG e,b]; exact ih
theorem KT.repl {H:Hp}{kvs:List (List Key×V)}{xs:List (List Key×Addr×Value)} (r:KT H kvs xs) (k:List Key) {y:V}{u:Value} (ry:RelV y u) :
  KT H (kvs.map fun kv=>if kv.1=k then (kv.1,y) else kv) (xs.map (putAt k u)):=by
 induction r with
 | nil=>exact .nil
 | @cons p q ps qs h t ih =>
  rw [ð,ð]
  refine .cons ?_ ih
  obtain⟨h1,h2,h3⟩:=h
  unfold putAt
  by_cases e:p.1=k
  ·rw [if_pos e,if_pos (h1.symm.trans e)]; exact⟨h1,h2,ry⟩
  ·rw [if_neg e,if_neg (fun z=>e (h1.trans z))]; exact⟨h1,h2,h3⟩
theorem KT.put {H:Hp}{kvs:List (List Key×V)}{xs:List (List Key×Addr×Value)} (r:KT H kvs xs) (k:List Key) {b:Addr}{y:V}{u:Value} (hb:H b=some (.tup (k.map kV))) (ry:RelV y u) :
  KT H (putK kvs k y) (storedH xs k b u):=by
 have e:(kvs.any fun kv=>decide (kv.1=k))=(atKey xs k).isSome:=by
  rw [vo,(r.val k).mF,Option.isSome_map]
 unfold putK storedH
 rw [e]
 by_cases q:(atKey xs k).isSome=true
 ·rw [if_pos q,if_pos q]; exact r.repl k ry
 ·rw [if_neg q,if_neg q]; exact Paired.snoc r ⟨rfl,hb,ry⟩
theorem KT.keeps {H H':Hp}{kvs:List (List Key×V)}{xs:List (List Key×Addr×Value)} (r:KT H kvs xs) (ht:∀ b ys,H b=some (.tup ys)->H' b=some (.tup ys)):KT H' kvs xs :=
 Paired.yQ r fun _ _ z=>⟨z.1,ht _ _ z.2.1,z.2.2⟩
section
variable {P:Program}{w:World}{H:Hp}{h:Heap}{a:Addr}
theorem Kv {u:HO} (ok:HOk P w H h) (e:Rd H a u):aV P w H h a u:=e.ok ok
theorem BZ {kvs:List (Key×V)} (ok:HOk P w H h) (e:Rd H a (.dK kvs)):kvs.length<=sizeLine/\(a == sysModules)=false/\∃ vs,KV kvs vs/\h.DictOf (aF P w) a vs :=
 show aV P w H h a (.dK kvs) from Kv ok e
theorem Hx {kvs:List (Key×V)} (ok:HOk P w H h) (e:H a=some (.dK kvs)):kvs.length<=sizeLine/\(a == sysModules)=false/\∃ vs,KV kvs vs/\h.DictOf (aF P w) a vs:=BZ ok (.inl e)
theorem uz {ks:List Key} (ok:HOk P w H h) (e:H a=some (.tup (ks.map kV))):(tupleKind (aF P w)).is h ks a:=by
 obtain⟨_,its,r,o,h1,h2,n,h3⟩:=(show aV P w H h a (.tup (ks.map kV)) from ok a _ e)
 exact⟨o,its.toArray,n,h1,h2,h3,by simpa using rF r⟩
theorem BX {kvs:List (List Key×V)} (ok:HOk P w H h) (e:Rd H a (.dT kvs)):kvs.length<=sizeLine/\(a == sysModules)=false /\
  ∃ xs,KT H kvs xs/\h.DictOfH (tupleKind (aF P w)) a xs:=by
 obtain⟨z,y,xs,r,o,es,ep,h1,h2,h3,h4,h5⟩:=(show aV P w H h a (.dT kvs) from Kv ok e)
 refine⟨z,y,xs,r,o,es,ep,h1,h2,h3,h4,fun x hx=>?_,h5⟩
 have all:∀ {l:List (List Key×V)}{m:List (List Key×Addr×Value)},KT H l m->∀ x∈m,(tupleKind (aF P w)).is h x.1 x.2.1:=by
  intro l m q
  induction q with
  | nil=>intro x hx; exact nomatch hx
  | @cons p q ps qs hq t ih =>
   intro x hx
   rcases Þ.mp hx with e | hx
   ·subst e
    exact uz ok (by rw [← hq.1]; exact hq.2.1)
   ·exact ih x hx
 exact all r x hx
theorem Qu {kvs:List (List Key×V)} (ok:HOk P w H h) (e:H a=some (.dT kvs)):kvs.length<=sizeLine/\(a == sysModules)=false /\
  ∃ xs,KT H kvs xs/\h.DictOfH (tupleKind (aF P w)) a xs:=BX ok (.inl e)
end
def u5 (H:Hp) (a:Addr) (y:V) (r:Option V):Prop :=
 (∃ kvs k,Rd H a (.dK kvs)/\y=kV k/\r=gU kvs k)\/∃ kvs k b,Rd H a (.dT kvs)/\y=.ref b/\H b=some (.tup (k.map kV))/\r=gU kvs k
def Ih (H:Hp) (a:Addr) (y v:V) (H':Hp):Prop :=
 (∃ kvs k,H a=some (.dK kvs)/\y=kV k/\kvs.length<sizeLine/\H'=upd H a (.dK (putK kvs k v))) ∨
 ∃ kvs k b,H a=some (.dT kvs)/\y=.ref b/\H b=some (.tup (k.map kV))/\kvs.length<sizeLine/\H'=upd H a (.dT (putK kvs k v))
theorem u5.k {H:Hp}{a:Addr}{kvs:List (Key×V)}{k:Key} (e:H a=some (.dK kvs)):u5 H a (kV k) (gU kvs k):=.inl ⟨kvs,k,.inl e,rfl,rfl⟩
theorem Ih.k {H:Hp}{a:Addr}{kvs:List (Key×V)}{k:Key}{v:V} (e:H a=some (.dK kvs)) (hl:kvs.length<sizeLine):Ih H a (kV k) v (upd H a (.dK (putK kvs k v))):=.inl ⟨kvs,k,e,rfl,hl,rfl⟩
section
variable {X:Cx}{pins:List (Addr×Obj)}{σ:St}{H:Hp}{s:Shared}{a:Addr}{y v:V}{u r:Value}{o:Option V}{A:Around}{E:Value->Shared->Prop}
theorem Inv.big (I:Inv X pins σ H s):sysModules<s.heap.objs.size:=by
 have h:mainGlobals<s.heap.objs.size:=(I.mod.glob.keeps I.bk).lt
 exact Nat.lt_trans (by decide) h
theorem Dz {Q:Value->Shared->Prop} (hu:A.units+1<cLine) (I:Inv X pins σ H s) (g:u5 H a y (some v)) (ry:RelV y u) (h:∀ w' s',Inv X pins σ H s'->RelV v w'->Q w' s') :
  wpAny (model X.prog X.w) A (getItem (.ref a) u) Q E s:=by
 rcases g with ⟨kvs,k,e,ey,l⟩ | ⟨kvs,k,b,e,ey,eb,l⟩
 ·subst ey
  obtain⟨z,hd,vs,rel,dd⟩:=BZ I.hok e
  obtain⟨w',hw,rw'⟩:=qH.some_of (v:=v) (o:=valueAt vs k) (by rw [l]; exact rel.val k)
  exact wpAny_getItem_of (wK ry) dd.mapOf hw (h w' _ (I.tok _) rw')
 ·subst ey
  cases (show u=ė b from ry)
  obtain⟨z,hd,xs,rel,dd⟩:=BX I.hok e
  obtain⟨w',hw,rw'⟩:=qH.some_of (v:=v) (o:=(atKey xs k).map (·.2)) (by rw [l]; exact rel.val k)
  obtain⟨p,hp,hp2⟩:=Option.map_eq_some_iff.mp hw
  refine wpAny_getItem_heap (tupleKind_room_in1 hu) (uz I.hok eb) dd hp ?_
  rw [hp2]
  exact h w' _ (I.tok _) rw'
theorem J2 {Q:Value->Shared->Prop} (hu:A.units+1<cLine) (I:Inv X pins σ H s) (g:u5 H a y o) (ry:RelV y u) (h:∀ s',Inv X pins σ H s'->Q (.bool (!o.isSome)) s') :
  wpAny (model X.prog X.w) A (compareOp .NotIn u (.ref a)) Q E s:=by
 rcases g with ⟨kvs,k,e,ey,l⟩ | ⟨kvs,k,b,e,ey,eb,l⟩
 ·subst ey
  obtain⟨z,hd,vs,rel,dd⟩:=BZ I.hok e
  refine wpAny_notIn_of (wK ry) hd dd.mapOf ?_
  rw [← (rel.val k).mF,← l]
  exact h _ (I.tok _)
 ·subst ey
  cases (show u=ė b from ry)
  obtain⟨z,hd,xs,rel,dd⟩:=BX I.hok e
  refine wpAny_notIn_heap (tupleKind_room_in1 hu) (uz I.hok eb) hd dd ?_
  have q:=(rel.val k).mF
  rw [Option.isSome_map] at q
  rw [← q,← l]
  exact h _ (I.tok _)
theorem uM {h':Heap}{t':Nat}{ob:HO} (I:Inv X pins σ H s) (mu:Mut (H a)) (hs:Œ a s.heap h') (he:∃ q,h'.get? a=some q) (new:aV X.prog X.w (upd H a ob) h' a ob) :
  Inv X pins σ (upd H a ob) { s with heap:=h',toks:=t' } :=
 I.write (x:=a) (e:=a) mu (.inl rfl) (fun b q hb z=>(hs.2 b hb).trans z) he new
theorem zN {P:Program}{w:World}{H':Hp}{h':Heap}{kvs:List (Key×V)}{vs:List (Key×Value)} (z:kvs.length<=sizeLine) (hd:(a == sysModules)=false) (rel:KV kvs vs) (dd:h'.DictOf (aF P w) a vs) :
  aV P w H' h' a (.dK kvs):=⟨z,hd,vs,rel,dd⟩
theorem Dy {H':Hp}{Q:Unit->Shared->Prop} (hu:A.units+1<cLine) (I:Inv X pins σ H s) (g:Ih H a y v H') (ry:RelV y u) (rv:RelV v r) (h:∀ s',Inv X pins σ H' s'->Q () s') :
  wpAny (model X.prog X.w) A (setItem (.ref a) u r) Q E s:=by
 rcases g with ⟨kvs,k,e,ey,l,eH⟩ | ⟨kvs,k,b,e,ey,eb,l,eH⟩
 ·subst ey eH
  obtain⟨z,hd,vs,rel,dd⟩:=Hx I.hok e
  have hz:vs.length<=sizeLine:=by rw [← rel.length]; exact z
  have hl:(putK kvs k v).length<=sizeLine:=by have:=iI kvs k v; omega
  refine wpAny_setItem_pairs (hsz:=hz) (wK ry) dd fun h' dd' hs=>h _ ?_
  have he:∃ q,h'.get? a=some q:=let ⟨q,_,_,hq,_⟩:=dd'; ⟨q,hq⟩
  exact uM I (by rw [e]; exact Ŭ) hs he (zN hl hd (rel.put k rv) dd')
 ·subst ey eH
  cases (show u=ė b from ry)
  obtain⟨z,hd,xs,rel,dd⟩:=Qu I.hok e
  have hz:xs.length<=sizeLine:=by rw [← Paired.length rel]; exact z
  have hl:(putK kvs k v).length<=sizeLine:=by have:=iI kvs k v; omega
  refine wpAny_setItem_heap (hsz:=hz) (tupleKind_room_in1 hu) (uz I.hok eb) dd fun h' dd' hs=>h _ ?_
  obtain⟨q,es,ep,hq,h2,h3,h4,_,h5⟩:=dd'
  refine uM I (by rw [e]; exact Ŭ) hs ⟨q,hq⟩ ⟨hl,hd,_,(rel.put k eb rv).keeps fun c ys ec=>?_,q,es,ep,hq,h2,h3,h4,h5⟩
  rw [aj (P0 ec e (fun z=>nomatch z))]
  exact ec
end
section
variable {X:Cx}{pins:List (Addr×Obj)}{σ:St}{H:Hp}{s:Shared}{a:Addr}{kvs:List (Key×V)}{k:Key}{u:Value}{A:Around}{E:Value->Shared->Prop}
end
def Kh (i:Expr):Prop:=∀ ov iv,subscripted i false ov iv=operate [ov,iv] (getItem ov iv)
theorem Im {prog:Program}{w:World}{A:Around}{E:Value->Shared->Prop}{s:Shared}{env:Env}{value slice:Expr}{pos:Pos}{T id:String}{Q:Value->Shared->Prop}
  (hl:typeLookup (.type T) "__getitem__"=pure (some (.builtin id))) (hs:Kh slice)
  (h:wpAny (model prog w) A (eval value env) (fun o s₁=>wpAny (model prog w) A (eval slice env) (fun i s₂=>s₂.TypeIs o T/\wpAny (model prog w) A (getItem o i) Q E s₂) E s₁) E s) :
  wpAny (model prog w) A (eval (.Subscript value slice pos) env) Q E s:=by
 refine Subscript_ (Ĳ h (fun o s₁ h₁=>Ĳ h₁ (fun i s₂ h₂=>?_) fun _ _ x=>x) fun _ _ x=>x)
 obtain⟨hT,h₂⟩:=h₂
 unfold subscriptTail
 refine À ?_
 rw [getitemInPython_of_ne hT.not_modules]
 refine À (wpAny_specialOf hT hl ?_)
 have fin:wpAny (model prog w) A (subscripted slice false o i) (fun r s₃=>wpAny (model prog w) A (letTemporaryGo value o r >>= fun _=>pure r) Q E s₃) E s₂:=by
  rw [hs o i]
  exact wpAny_operating (Ĳ h₂ (fun r s₃ h₃=>À (wpAny_letTemporaryGo (Å h₃))) fun _ _ x=>x)
 first
  | exact Å (À fin)
  | exact À (Å (À fin))
  | exact À fin
theorem wY {X:Cx}{pins:List (Addr×Obj)}{σ:St}{H:Hp}{s:Shared}{a:Addr}{y:V}{o:Option V} (I:Inv X pins σ H s) (g:u5 H a y o):s.TypeIs (.ref a) "dict":=by
 rcases g with ⟨kvs,k,e,_,_⟩ | ⟨kvs,k,b,e,_,_,_⟩
 ·obtain⟨_,_,vs,_,dd⟩:=BZ I.hok e
  exact dd.typeIs
 ·obtain⟨_,_,xs,_,dd⟩:=BX I.hok e
  exact dd.typeIs
def OJ (td ty:TE):TE:=fun σ H Q=>td σ H fun x H1=>ty σ H1 fun y H2=>∃ a v,x=.ref a/\u5 H2 a y (some v)/\Q v H2
def Ai (ty td:TE):TE:=fun σ H Q=>ty σ H fun y H1=>td σ H1 fun x H2=>∃ a o,x=.ref a/\u5 H2 a y o/\Q (.bl (!o.isSome)) H2
def Ku (td ty tv:TE):TS:=fun D σ H=>tv σ H fun v H1=>td σ H1 fun x H2=>ty σ H2 fun y H3=>∃ a H4,x=.ref a/\Ih H3 a y v H4/\D.nx σ H4
section
variable {X:Cx}{o i e value:Expr}{pos pos' tpos:Pos}{td ty tv:TE}
theorem Jl (hu:X.A.units+1<cLine) (ho:PE X o td) (hi:PE X i ty) (hs:Kh i):PE X (.Subscript o i pos) (OJ td ty):=by
 intro pins s σ H Q I h
 refine Im PySem.F.slot_dict_getitem.lookup hs (thn (ho pins s σ H _ I h) fun u s1 ⟨x,H1,I1,rx,q1⟩=>thn (hi pins s1 σ H1 _ I1 q1) fun iv s2 ⟨y,H2,I2,ry,a,v,ex,g,q2⟩=>?_)
 subst ex
 obtain rfl:u=ė a:=rx
 exact⟨wY I2 g,Dz hu I2 g ry fun w' s3 I3 rw'=>⟨v,H2,I3,rw',q2⟩⟩
theorem CW (hu:X.A.units+1<cLine) (hi:PE X i ty) (ho:PE X o td):PC X .NotIn i o (Ai ty td):=by
 intro pins s σ H Q I h
 refine thn (hi pins s σ H _ I h) fun iv s1 ⟨y,H1,I1,ry,q1⟩=>thn (ho pins s1 σ H1 _ I1 q1) fun u s2 ⟨x,H2,I2,rx,a,ov,ex,g,q2⟩=>?_
 subst ex
 obtain rfl:u=ė a:=rx
 exact J2 hu I2 g ry fun s3 I3=>⟨.bl (!ov.isSome),H2,I3,rfl,q2⟩
theorem Jc (hu:X.A.units+1<cLine) (ho:PE X o td) (hi:PE X i ty) (hv:PE X value tv) (hs:swapsWith value (some (.Subscript o i pos')) pos.line X.env=pure false) :
  PS X (.Assign [.Subscript o i pos'] value pos) (Ku td ty tv):=by
 intro pins s σ H D I h
 refine wpAny_Assign_Subscript (thn (hv pins s σ H _ I h) fun r s1 ⟨v,H1,I1,rv,q1⟩=>thn (ho pins s1 σ H1 _ I1 q1) fun u s2 ⟨x,H2,I2,rx,q2⟩=>thn (hi pins s2 σ H2 _ I2 q2) fun iv s3 ⟨y,H3,I3,ry,a,H4,ex,g,q3⟩=>?_) hs
 subst ex
 obtain rfl:u=ė a:=rx
 exact Dy hu I3 g ry rv fun s4 I4=>⟨σ,H4,I4,q3⟩
end
theorem wX {P:Program}{w:World}{H:Hp} (h:Heap) (hb:sysModules<h.objs.size):aV P w H (h.push { cls:=.type "dict",data:=.dict #[] }) h.objs.size (.dK []) :=
 ⟨Č _,beq_eq_false_iff_ne.mpr (č (Õ hb)),[],.nil,Heap.DictOf.new h⟩
def Lq:TE:=fun _ H Q=>∀ p,H p=none->Q (.ref p) (upd H p (.dK []))
section
variable {X:Cx}{pos:Pos}
theorem Gb:PE X (.Dict [] [] pos) Lq:=fun pins s σ H Q I h =>
 wpAny_Dict_empty ⟨.ref s.heap.objs.size,_,I.laid (a:=s.heap.objs.size) (o:=.dK []) (t':=s.toks) (fun _ _ q=>È _ q) (Ò _) (wX s.heap I.big),rfl,h _ (I.hok.fresh (Ò _))⟩
end
def xW:List (TE×TE)->St->Hp->(List (V×V)->Hp->Prop)->Prop
 | [],_,H,Q=>Q [] H
 | (tk,tv)::r,σ,H,Q=>tk σ H fun x H1=>tv σ H1 fun y H2=>xW r σ H2 fun ps H3=>Q ((x,y)::ps) H3
abbrev VV:List (V×V)->List (Value×Value)->Prop:=Paired fun p q=>RelV p.1 q.1/\RelV p.2 q.2
def PPs (X:Cx) (pos:Pos) (keys:List (Option Expr)) (values:List Expr) (trs:List (TE×TE)):Prop :=
 ∀ (pins:List (Addr×Obj)) (s:Shared) (σ:St) (H:Hp) (Q:List (V×V)->Hp->Prop),Inv X pins σ H s->xW trs σ H Q ->
  wpAny (model X.prog X.w) X.A (evalPairs (pairTrees keys values X.env pos)) (fun vs s'=>∃ ps H',Inv X pins σ H' s'/\VV ps vs/\Q ps H') X.xe s
theorem Je {X:Cx}{pos:Pos}:PPs X pos [] [] []:=fun pins s σ H Q I h=>pairTrees_nil_walk ⟨[],H,I,.nil,h⟩
theorem FN {X:Cx}{pos:Pos}{k v:Expr}{ks:List (Option Expr)}{vs:List Expr}{tk tv:TE}{trs:List (TE×TE)} (hk:PE X k tk) (hv:PE X v tv) (hr:PPs X pos ks vs trs) :
  PPs X pos (some k::ks) (v::vs) ((tk,tv)::trs):=fun pins s σ H Q I h =>
 pairTrees_cons_walk (thn (hk pins s σ H _ I h) fun u s1 ⟨x,H1,I1,rx,q1⟩=>thn (hv pins s1 σ H1 _ I1 q1) fun w2 s2 ⟨y,H2,I2,ry,q2⟩ =>
  thn (hr pins s2 σ H2 _ I2 q2) fun ws s3 ⟨ps,H3,I3,rel,q3⟩=>⟨(x,y)::ps,H3,I3,.cons ⟨rx,ry⟩ rel,q3⟩)
def pP (kvs more:List (Key×V)):List (Key×V):=more.foldl (fun acc kv=>putK acc kv.1 kv.2) kvs
theorem KV.merge:∀ {more:List (Key×V)}{rs:List (Key×Value)}{kvs:List (Key×V)}{vs:List (Key×Value)},KV more rs->KV kvs vs->KV (pP kvs more) (merged vs rs):=by
 intro more rs kvs vs r
 unfold KV at r
 induction r generalizing kvs vs with
 | nil=>intro q; exact q
 | @cons p q ps qs h t ih =>
  intro r0
  have e:KV (putK kvs p.1 p.2) (stored vs q.1 q.2):=by
   have:=r0.put p.1 h.2
   rw [← h.1]; exact this
  exact ih e
theorem jr:∀ (more kvs:List (Key×V)),(pP kvs more).length<=kvs.length+more.length
 | [],kvs=>by show kvs.length<=kvs.length+0; omega
 | p::r,kvs=>by
  have h1:=jr r (putK kvs p.1 p.2)
  have h2:=iI kvs p.1 p.2
  show (pP (putK kvs p.1 p.2) r).length<=_
  rw [õ]; omega
theorem qC {P:Program}{w:World}:∀ {kvs:List (Key×V)}{ws:List (Value×Value)},VV (kvs.map fun kv=>(kV kv.1,kv.2)) ws->∃ rs,Carries (aF P w) ws rs/\KV kvs rs
 | [],_,r=>by rw [List.map_nil] at r; cases r; exact⟨[],Ŭ,.nil⟩
 | p::kvs,_,r=>by
  rw [ð] at r
  cases r with
  | @cons a b as bs h t =>
   obtain⟨rs,c,q⟩:=qC (P:=P) (w:=w) t
   obtain⟨b1,b2⟩:=b
   exact⟨(p.1,b2)::rs,⟨wK h.1,rfl,c⟩,.cons ⟨rfl,h.2⟩ q⟩
def OD (trs:List (TE×TE)):TE:=fun σ H Q=>∀ p,H p=none->xW trs σ (upd H p (.dK [])) fun ps H2=>H2 p=some (.dK [])/\∃ kvs:List (Key×V),ps=kvs.map (fun kv=>(kV kv.1,kv.2))/\kvs.length<=15/\Q (.ref p) (upd H2 p (.dK (pP [] kvs)))
theorem Jk {X:Cx}{pos:Pos}{keys:List (Option Expr)}{values:List Expr}{trs:List (TE×TE)} (h:PPs X pos keys values trs) (hall:keys.all (·.isSome)=true) (hl:keys.length=values.length) (h0:keys≠[])
  (h15:keys.length<=15):PE X (.Dict keys values pos) (OD trs):=by
 intro pins s σ H Q I q
 have hn:=I.hok.fresh (Ò s.heap.objs.size)
 have I1:=I.laid (a:=s.heap.objs.size) (o:=.dK []) (h':=s.heap.push { cls:=.type "dict",data:=.dict #[] }) (t':=s.toks) (fun _ _ q=>È _ q) (Ò _) (wX s.heap I.big)
 refine wpAny_Dict_walk (knd:=aF X.prog X.w) hall hl h0 h15 (thn (h pins _ σ _ _ I1 (q _ hn)) fun ws s2 ⟨ps,H2,I2,rel,e,kvs,ep,lk,q2⟩=>?_)
 subst ep
 obtain⟨rs,c,rk⟩:=qC (P:=X.prog) (w:=X.w) rel
 obtain⟨z,hd,vs0,r0,dd⟩:=Hx I2.hok e
 cases r0
 refine⟨rs,c,dd,fun h' dd' hs=>⟨.ref s.heap.objs.size,_,?_,rfl,q2⟩⟩
 have hz:(pP [] kvs).length<=sizeLine:=by
  have h1:=jr kvs []
  rw [š] at h1
  rw [ç]; omega
 have he:∃ q,h'.get? s.heap.objs.size=some q:=let ⟨q,_,_,hq,_⟩:=dd'; ⟨q,hq⟩
 exact uM I2 (by rw [e]; exact Ŭ) hs he (zN hz hd (rk.merge .nil) dd')
structure M1 (X:Cx) (o:Expr) (m:Str) (apos:Pos) (e:Expr) (cpos:Pos):Prop where
 base:attributeBase o m X.env (eval o X.env)=eval o X.env
 few:((backTo cpos (starEach [e] X.env)).all (fun x=>!x.1)&&(backToKw cpos (keywordEach [] X.env)).all (fun x=>x.1.isSome)
 &&decide (([e]:List Expr).length+([]:List Keyword).length+(if ([]:List Keyword).isEmpty then 0 else 1)<30))=true
 line:(apos.endLine == cpos.line)=true
 trees:backTo cpos (starEach [e] X.env)=[(false,eval e X.env)]
structure M2 (X:Cx) (o:Expr) (m:Str) (apos:Pos) (e f:Expr) (cpos:Pos):Prop where
 base:attributeBase o m X.env (eval o X.env)=eval o X.env
 few:((backTo cpos (starEach [e,f] X.env)).all (fun x=>!x.1)&&(backToKw cpos (keywordEach [] X.env)).all (fun x=>x.1.isSome)
 &&decide (([e,f]:List Expr).length+([]:List Keyword).length+(if ([]:List Keyword).isEmpty then 0 else 1)<30))=true
 line:(apos.endLine == cpos.line)=true
 trees:backTo cpos (starEach [e,f] X.env)=[(false,eval e X.env),(false,eval f X.env)]
section
variable {X:Cx}{pins:List (Addr×Obj)}{σ:St}{H:Hp}{s:Shared}{a:Addr}{y d:V}{u r:Value}{o:Option V}{A:Around}{E:Value->Shared->Prop}
end
section
variable {X:Cx}{o e f:Expr}{apos cpos:Pos}{td ty tx:TE}
end
section
variable {X:Cx}{pins:List (Addr×Obj)}{σ:St}{H:Hp}{s:Shared}{a:Addr}{kvs:List (Key×V)}{A:Around}{E:Value->Shared->Prop}
end
section
variable {X:Cx}{pins:List (Addr×Obj)}{σ:St}{H:Hp}{s:Shared}{a:Addr}{y:V}{u:Value}{A:Around}{E:Value->Shared->Prop}
end
section
variable {prog:Program}{w:World}{A:Around}{E:Value->Shared->Prop}{s:Shared}
theorem w5 {T:String}{r d:Addr}{n:Nat}{P:Nat->Value->Prop}{OK:Heap->Prop}{R:List Value->Shared->Prop} (K:W.KdlSrc prog w T r d n P OK) (hh:A.handled=none) (hok:OK s.heap) (hn:n<=sizeLine)
  (h:∀ (h':Heap) (tk:Nat) (acc:Array Value),s.heap.objs.size<h'.objs.size->(∀ b o,s.heap.get? b=some o->h'.get? b=some o)->ItemsOf P acc n->R acc.toList { s with heap:=h',toks:=tk }) :
  wpAny (model prog w) A (collect (.ref r)) R E s:=by
 have hlt:=K.there _ hok
 unfold collect
 refine À (wpAny_runValue (Ė entry_proto_collect' ?_))
 rw [ĉ PySem.F.plain_proto_collect _]
 show wpAny _ A.in1 (newList [] >>= fun l=>again (.builtin "list.__iadd__" ⟨[l,.ref r],[]⟩)) _ _ s
 refine À (ĕ ?_)
 refine Å ⟨ł PySem.F.plain_list_iadd _,Ė entry_list_iadd' ?_⟩
 rw [ĉ PySem.F.plain_list_iadd _]
 have hS₁:(s.heap.push { cls:=.type "list",data:=.seq ([]:List Value).toArray }).get? s.heap.objs.size=some { cls:=.type "list",data:=.seq #[] }:=Ô _ rfl
 show wpAny _ A.in1 (Ĩ (.ref s.heap.objs.size) (.ref r) (.ref s.heap.objs.size)) _ _ _
 have key:=W.kdl_extend (A:=A) (s:={ s with heap:=s.heap.push { cls:=.type "list",data:=.seq ([]:List Value).toArray } }) K
  (R:=fun (q:Result) (s':Shared)=>∃ (h':Heap) (tk:Nat) (acc':Array Value) (c':Nat),q=.ok (.ret (.ref s.heap.objs.size))/\s'={ s with heap:=h',toks:=tk } /\
   (∀ b o,s.heap.get? b=some o->h'.get? b=some o)/\h'.get? s.heap.objs.size=some { cls:=.type "list",dict:=none,data:=.seq acc' c',slots:=#[] }/\ItemsOf P acc' n)
  hh (K.keep _ _ hok fun b _ o e=>È _ e) s.heap.objs.size (ħ hlt.1) (ħ hlt.2) (.ref s.heap.objs.size) 0 hS₁
  (fun h' tk acc' c' hk hS' hacc=>⟨h',tk,acc',c',rfl,rfl,fun b o e=>hk b o (Õ (Ê e)) (È _ e),hS',hacc⟩) hn
 refine Ĳ key (fun fin s' x=>?_) fun e s' x=>?_
 ·cases fin with
  | done f =>
   obtain⟨h',tk,acc',c',e,rfl,hk,hS',hacc⟩:=x
   cases e
   show wpAny _ A (load s.heap.objs.size >>= _) _ _ _
   refine À (wpAny_load hS' ?_)
   exact Å (h h' tk acc' (Ê hS') hk hacc)
  | again c₁ =>
   refine⟨x.1,codeAny_mono x.2 fun q s₂ y=>?_⟩
   obtain⟨h',tk,acc',c',rfl,rfl,hk,hS',hacc⟩:=y
   show wpAny _ A (load s.heap.objs.size >>= _) _ _ _
   refine À (wpAny_load hS' ?_)
   exact Å (h h' tk acc' (Ê hS') hk hacc)
 ·obtain⟨_,_,_,_,e',_⟩:=x
  cases e'
theorem xZ {T:String}{r d:Addr}{n:Nat}{P:Nat->Value->Prop}{OK:Heap->Prop}{Q:Value->Shared->Prop}{ns:List Int} (K:W.KdlSrc prog w T r d n P OK) (hh:A.handled=none) (hok:OK s.heap) (hn:n<64)
  (hP:∀ us:List Value,us.length=n->(∀ j v,us[j]?=some v->P j v)->IntsAre us ns)
  (h:∀ (h':Heap) (tk:Nat) (D:Addr) (e:Nat) (out:Array Value) (ns':List Int),s.heap.objs.size<=D->(∀ b o,s.heap.get? b=some o->h'.get? b=some o)->h'.get? D=some { cls:=.type "list",data:=.seq out e }->IntsAre out.toList ns'->ns'.Perm ns->ns'.Pairwise (·<=·)->Q (.ref D) { s with heap:=h',toks:=tk }) :
  wpAny (model prog w) A (call (.builtin "sorted") [.ref r]) Q E s:=by
 have h24:=ç
 refine Calls.call_function_entry kind_sorted plain_sorted entry_sorted (args_sorted1 _) ?_
 unfold Builtin.«sorted»
 refine À (m:=checkCount "sorted" 1 1 _) (Å ?_)
 refine À (w5 (A:=A.in1) K hh hok (by omega) fun h1 tk acc hsz hk hacc=>?_)
 have hlen:acc.toList.length=n:=by rw [ñ]; exact hacc.1
 have hI:IntsAre acc.toList ns:=hP acc.toList hlen fun j v e=>hacc.2 j v (by rw [← Ŵ]; exact e)
 have hz:s.heap.objs.size<=h1.objs.size:=Nat.le_of_lt hsz
 refine À (wpAny_newList ?_ (by omega))
 have hoL:(h1.push (seqObj "list" acc.toList.toArray 0)).get? h1.objs.size=some (seqObj "list" acc.toList.toArray 0):=Ô _ rfl
 refine À (ò (ü slot_list_sort ⟨_,hoL,rfl⟩ entry_list_sort (list_sort_tree hoL hI (by omega) fun out ns' a1 a2 a3=>⟨_,rfl,?_⟩) (args_list_sort _)))
 obtain⟨e,he⟩:=sortedHeap_at (out:=out) hoL
 refine Å ⟨_,rfl,h _ tk h1.objs.size e out ns' hz (fun b o q=>?_) he a1 a2 a3⟩
 have q1:=hk b o q
 have hlt:b<h1.objs.size:=Ê q1
 rw [sortedHeap_old (Õ hlt) (by rw [size_push']; exact ô hlt)]
 exact È _ q1
end
section
variable {X:Cx}
theorem uU:bx X (.builtin "sorted") (fun xs H Q=>∃ (p:Addr) (ns:List Int),xs=[.ref p]/\SqL X.K H p (ns.map V.int)/\ns.length<64 /\
  ∀ (l:Addr) (out:List Int),H l=none->out.Perm ns->out.Pairwise (·<=·)->Q (.ref l) (upd H l (.lst (out.map V.int)))):=by
 intro pins s σ H xs us Q I r h
 obtain⟨p,ns,rfl,hp,h64,q⟩:=h
 obtain⟨u,rfl,rx⟩:=vals1 r
 cases rx
 obtain⟨its,rv,pl,hz⟩:=I.list hp
 have hI:IntsAre its ns:=intsAre_of rv
 have hl:=rv.length
 rw [Á] at hl
 refine sorted_ints (vs:=its) (ns:=ns) pl.isList hI (by omega) fun out ns' a1 a2 a3=>?_
 obtain⟨e,he⟩:=sortedAll_at s.heap its out
 have hv:=fu a1
 have hlo:=hv.length
 rw [Á] at hlo
 have hpl:=a2.length_eq
 have h24:=ç
 refine⟨.ref (s.heap.objs.size+1),upd H (s.heap.objs.size+1) (.lst (ns'.map V.int)),I.laid (t':=s.toks) (fun b o eb=>sortedAll_old eb) (Ę _) ⟨?_,out.toList,e,hv,by simpa using he⟩,rfl,q _ _ (I.hok.fresh (Ę _)) a2 a3⟩
 rw [Á]
 omega
theorem Dp {P:Program}{w:World}{vs:List (Key×Value)}{ks:List Int} (hk:vs.map (·.1)=ks.map ë):∀ us:List Value,us.length=vs.length->(∀ (j:Nat) (v:Value),us[j]?=some v->∃ k x,vs[j]?=some (k,x)/\(aF P w).is k v=true)->IntsAre us ks:=by
 intro us
 induction us generalizing vs ks with
 | nil =>
  intro hl _
  have e:vs=[]:=ū (by simpa using hl.symm)
  subst e
  cases ks with
  | nil=>exact .nil
  | cons k ks=>simp at hk
 | cons u us ih =>
  intro hl h
  cases vs with
  | nil=>simp at hl
  | cons v vs =>
   cases ks with
   | nil=>simp at hk
   | cons k ks =>
    rw [ð,ð] at hk
    injection hk with hk1 hk2
    obtain⟨k',x,e,is⟩:=h 0 u (by simp)
    simp at e
    subst e
    simp only at hk1
    subst hk1
    have is':gO (ë k) u=true:=is
    rcases aR is' with ⟨i,t,e1,e2⟩ | ⟨y,t,e1,e2⟩
    ·injection e1 with e1
     subst e1 e2
     exact .cons _ t (ih hk2 (by simpa using hl) fun j v hj=>by simpa using h (j+1) v (by simpa using hj))
    ·cases e1
theorem uV (hc:X.calm=true):bx X (.builtin "sorted") (fun xs H Q=>∃ (d:Addr) (kvs:List (Key×V)) (ks:List Int),xs=[.ref d]/\H d=some (.dK kvs)/\kvs.map (·.1)=ks.map ë/\ks.length<64 /\
  ∀ (l:Addr) (out:List Int),H l=none->out.Perm ks->out.Pairwise (·<=·)->Q (.ref l) (upd H l (.lst (out.map V.int)))):=by
 intro pins s σ H xs us Q I r h
 obtain⟨d,kvs,ks,rfl,hd,hks,h64,q⟩:=h
 obtain⟨u,rfl,rx⟩:=vals1 r
 cases rx
 obtain⟨hz,lo,vs,kv,o,es,ep,ho,hx,hda,hk1,hk2,hk3⟩:=Hx I.hok hd
 have hm:s.heap.DictAt (aF X.prog X.w) d vs ep:=⟨o,es,ho,hx,hda,hk1,hk2,hk3⟩
 have hkeys:vs.map (·.1)=ks.map ë:=by rw [← KV.keys kv]; exact hks
 have hlv:vs.length=ks.length:=by have:=congrArg List.length hkeys; simpa using this
 refine xZ (ns:=ks) (W.kdl_dict (ep:=ep) lo) (I.ok.hd hc) hm (by omega) (fun us hl h=>Dp hkeys us hl h) fun h' tk D e out ns' hD hk he a1 a2 a3=>?_
 have hv:=fu a1
 have hpl:=a2.length_eq
 have h24:=ç
 refine⟨.ref D,upd H D (.lst (ns'.map V.int)),I.laid (fun b o eb=>hk b o eb) hD ⟨?_,out.toList,e,hv,by simpa using he⟩,rfl,q _ _ (I.hok.fresh hD) a2 a3⟩
 rw [Á]
 omega
end
section
variable {X:Cx}
def iD (l:List Int):PyData:=.list (l.map Ç)
inductive DatL (K:â) (H:Hp):V->PyData->Prop
 | flt {a:Addr}{l:List Int}:SqL K H a (l.map V.int)->DatL K H (.ref a) (iD l)
 | lists {a:Addr}{as:List Addr}{ls:List (List Int)}:SqL K H a (as.map V.ref)->Paired (fun (a:Addr) (l:List Int)=>SqL K H a (l.map V.int)) as ls->DatL K H (.ref a) (.list (ls.map iD))
end
end L2
namespace PySem
open PyProof.Rows
def Rh (h:Heap) (e:Addr):Prop:=∃ oe vs,h.get? e=some oe/\oe.data=.fields vs/\vs[2]?=some .none
section
variable {M:Model}{A:Around}{E:Value->Shared->Prop}{s:Shared}{base:Heap}{env:Env}{outer:List Env}{L e:Addr}{Q:Unit->Shared->Prop}
end
end PySem
namespace L2
open PySem PySem.Spec PyProof.Rows
def Ri (base:Heap) (l:List Env) (e:Addr) (cls a0:Value) (h:Heap):Prop:=base.StaysIn h/\base.get? e=none/\h.FunFrames base l/\h.TracedW base e cls a0/\Rh h e
def CX1 (P:Program) (w:World):CXT:=fun outer H s E e s'=>∃ (a:Addr) (cls a0:Value) (H1:Hp) (hb:Heap),e=.ref a/\s'.os=s.os/\AllBare s'.gens/\Un (frs outer) [] H H1 s.heap s'.heap/\HOk P w H1 hb/\Ri hb outer a cls a0 s'.heap /\
 (∀ b o,s.heap.get? b=some o->H b=none->b∉frs outer->hb.get? b=some o)/\(∀ b o,s.heap.get? b=some o->b∉frs outer->∃ o',hb.get? b=some o')/\E cls none H1
structure Lets (X:Cx) (E:XK):Prop where
 xe:∀ e s',wpAny (model X.prog X.w) X.A (leaving X.env e) (fun _ s''=>CX1 X.prog X.w X.outer X.H₀ X.s₀ E e s'') (fun e' s''=>CX1 X.prog X.w X.outer X.H₀ X.s₀ E e' s'') s'->X.xe e s'
 stk:X.stack=X.env::X.outer
 fr:X.env.frame=some X.env.locals
 ex:X.ex=[]
section
variable {X:Cx}{pins:List (Addr×Obj)}{σ:St}{H H1:Hp}{s:Shared}{E:XK}
end
structure ExcCls (K:â) (C:Addr) (newId:String) (bmB:List Value):Prop where
 ex:∃ (nm q:Str) (N:Addr) (bs bm:List Value) (hdct:Bool) (sn:List Str) (sub:List Value) (ab:Bool) (col:Option Bool) (dd:Option Addr) (k0 k1 k2 k3 k5:Option Value),
  K.lookup C=some (excClassObj nm q C N bs bm hdct sn sub ab col dd k0 k1 k2 k3 k5 newId)/\W.tailIn K bmB bm=true/\W.nsOkIn K N=true/\W.nsIn K N "__init__"=some none/\bm.contains (.type "BaseException")=true
section
variable {X:Cx}{E:XK}{x:Str}{C:Addr}{newId Bn initId:String}{bmB:List Value}{e:Expr}{es:List Expr}{t:TA}{np cpos pos:Pos}
end
section
variable {X:Cx}{pins:List (Addr×Obj)}{σ:St}{H:Hp}{s:Shared}{ev:Value}
theorem Inv.track {a:Addr}{o:HO} (I:Inv X pins σ H s) (hn:H a=none) (h0:∀ ob,X.s₀.heap.get? a≠some ob) (hL:a≠X.env.locals) (hC:∀ x c,X.env.cells.lookup x=some c->c≠a) (hp:∀ p∈X.pn++pins,p.1≠a)
  (new:aV X.prog X.w (upd H a o) s.heap a o):Inv X pins σ (upd H a o) s:=by
 refine⟨I.ok,I.os,I.bare,⟨I.base.keep,I.base.slot,fun b ob e n hx=>?_,I.base.there,fun b xs e=>?_,fun b ob u e=>?_,fun b ps e=>?_⟩,I.loc,I.cell,?_,fun x c e=>?_,fun p q=>?_,I.hok.track hn new,I.len⟩
 ·rw [aj (show b≠a from fun z=>h0 ob (by rw [← z]; exact e))]
  exact I.base.free b ob e n hx
 ·have q:=I.base.tups b xs e
  rw [aj (ak q hn)]
  exact q
 ·have q:=I.base.frzs b ob u e
  rw [aj (ak q hn)]
  exact q
 ·obtain⟨m,q⟩:=I.base.tbls b ps e
  exact⟨m,by rw [aj (ak q hn)]; exact q⟩
 ·rw [aj (č hL)]
  exact I.free
 ·rw [aj (hC x c e)]
  exact I.freeC x c e
 ·obtain⟨q1,q2,q3⟩:=I.pin p q
  exact⟨q1,by rw [aj (hp p q)]; exact q2,q3⟩
end
section
variable {X:Cx}{k:Nat}{f CF:Addr}{fd:FuncData}{ps:List Str}{sp:Sp}{E:XK}{x hx n:Str}{p np cpos epos hpos pos:Pos}{e:Expr}{es:List Expr}{t:TA}{b₀:Stmt}{suite:List Stmt}{ts:TS}{j:Nat}
end
end L2
namespace L2
open PySem PySem.W PySem.Spec PyProof.Rows
structure ExcK (K:â) (C:Addr):Prop where
 ex:∃ (nm q:Str) (N AF:Addr) (bs bmB:List Value) (hdct:Bool) (sn:List Str) (sub:List Value) (ab:Bool) (col:Option Bool) (dd ddF:Option Addr) (k0 k1 k2 k3 k5:Option Value) (newId B:String) (c0:Value) (cd:ClassData) (slF:Array (Option Value)),
  K.lookup C=some (excClassObj nm q C N bs (.ref AF::bmB) hdct sn sub ab col dd k0 k1 k2 k3 k5 newId)/\K.lookup AF=some ⟨c0,ddF,.cls cd,slF⟩/\nsOkIn K cd.ns=true/\(∀ n∈quietNames,nsIn K cd.ns n=some none)/\ExcAttrBase B bmB
 ga:findIn K (.ref C) "__getattribute__"=some (some (.builtin "BaseException.__getattribute__"))
 hook:findIn K (.ref C) "__getattr__"=some none
 cls:findIn K (.ref C) "__class__"=some (some (.builtin "object.__class__"))
 mro:mroIn K C (.type "object")=some true
section
variable {prog:Program}{w:World}{K:â}{a C:Addr}{A:Around}{E:Value->Shared->Prop}{s:Shared}
end
section
variable {X:Cx}
def Kw:R2:=fun x y H Q=>∃ a b xs ys,x=.ref a/\y=.ref b/\H a=some (.tup xs)/\H b=some (.tup ys)/\xs.length+ys.length<=sizeLine/\∀ c H',(∀ d u,H d=some u->H' d=some u)->H' c=some (.tup (xs++ys))->Q (.ref c) H'
theorem Jr:OpR X (binaryOp .Add) Kw:=by
 intro pins s σ H x y v u Q I rx ry h
 obtain⟨a,b,xs,ys,rfl,rfl,ha,hb,hz,q⟩:=h
 cases rx
 cases ry
 obtain⟨its,r1,p1,_⟩:=I.tuple (SqT.of ha)
 obtain⟨its2,r2,p2,_⟩:=I.tuple (SqT.of hb)
 by_cases hx:xs=[]
 ·subst hx
  cases r1
  obtain⟨m,F⟩:=I.fr
  refine add_tuples (vs:=[]) F Gv p1 p2 (fun _=>⟨.ref b,H,I,rfl,q b H (fun _ _ z=>z) (by simpa using hb)⟩) (fun z=>absurd rfl z) (fun z=>absurd rfl z) (by rw [← r2.length]; simpa using hz)
 ·refine Jq pins s σ H (.ref a) (.ref b) (.ref a) (.ref b) Q I rfl rfl ⟨a,b,xs,ys,rfl,rfl,SqT.of ha,SqT.of hb,hx,hz,fun e=>?_,fun _ p hp=>?_⟩
  ·subst e
   exact q a H (fun _ _ z=>z) (by rw [ğ]; exact ha)
  ·exact q p _ (fun d u z=>by rw [aj (ak z hp)]; exact z) ao
end
section
variable {K:â}{C c:Addr}{dd:Option Addr}{cd:ClassData}{sl:Array (Option Value)}
end
end L2
namespace Dl
open PySem L2 PyProof.Rows
abbrev D:=PyData
def kD:Key->D
 | .inl i=>.int i
 | .inr x=>.str x
mutual
inductive Rp (ok:Addr->Prop) (H:Hp):V->D->Prop
 | non:Rp ok H .non .none
 | bl (b:Bool):Rp ok H (.bl b) (.bool b)
 | int (i:Int):Rp ok H (.int i) (.int i)
 | str (x:Str):Rp ok H (.str x) (.str x)
 | lst {a:Addr}{vs:List V}{ds:List D} (o:ok a) (h:H a=some (.lst vs)) (r:Rps ok H vs ds):Rp ok H (.ref a) (.list ds)
 | tup {a:Addr}{vs:List V}{ds:List D} (h:H a=some (.tup vs)) (r:Rps ok H vs ds):Rp ok H (.ref a) (.tuple ds)
 | dct {a:Addr}{kvs:List (Key×V)}{ds:List (D×D)} (o:ok a) (h:H a=some (.dK kvs)) (r:Rkv ok H kvs ds):Rp ok H (.ref a) (.dict ds)
inductive Rps (ok:Addr->Prop) (H:Hp):List V->List D->Prop
 | nil:Rps ok H [] []
 | cons {v:V}{d:D}{vs:List V}{ds:List D} (h:Rp ok H v d) (t:Rps ok H vs ds):Rps ok H (v::vs) (d::ds)
inductive Rkv (ok:Addr->Prop) (H:Hp):List (Key×V)->List (D×D)->Prop
 | nil:Rkv ok H [] []
 | cons {k:Key}{v:V}{d:D}{vs:List (Key×V)}{ds:List (D×D)} (h:Rp ok H v d) (t:Rkv ok H vs ds):Rkv ok H ((k,v)::vs) ((kD k,d)::ds)
end
section
variable {ok ok':Addr->Prop}{H H':Hp}
mutual
theorem Rp.mono (f:∀ a,ok a->ok' a) (g:∀ a o,ok a->H a=some o->H' a=some o) (t:∀ a xs,H a=some (.tup xs)->H' a=some (.tup xs)):∀ {v:V}{d:D},Rp ok H v d->Rp ok' H' v d
 | _,_,.non=>.non
 | _,_,.bl b=>.bl b
 | _,_,.int i=>.int i
 | _,_,.str x=>.str x
 | _,_,.lst o h r=>.lst (f _ o) (g _ _ o h) (Rps.mono f g t r)
 | _,_,.tup h r=>.tup (t _ _ h) (Rps.mono f g t r)
 | _,_,.dct o h r=>.dct (f _ o) (g _ _ o h) (Rkv.mono f g t r)
theorem Rps.mono (f:∀ a,ok a->ok' a) (g:∀ a o,ok a->H a=some o->H' a=some o) (t:∀ a xs,H a=some (.tup xs)->H' a=some (.tup xs)):∀ {v:List V}{d:List D},Rps ok H v d->Rps ok' H' v d
 | _,_,.nil=>.nil
 | _,_,.cons h r=>.cons (Rp.mono f g t h) (Rps.mono f g t r)
theorem Rkv.mono (f:∀ a,ok a->ok' a) (g:∀ a o,ok a->H a=some o->H' a=some o) (t:∀ a xs,H a=some (.tup xs)->H' a=some (.tup xs)):∀ {v:List (Key×V)}{d:List (D×D)},Rkv ok H v d->Rkv ok' H' v d
 | _,_,.nil=>.nil
 | _,_,.cons h r=>.cons (Rp.mono f g t h) (Rkv.mono f g t r)
end
theorem Rps.length:∀ {vs:List V}{ds:List D},Rps ok H vs ds->vs.length=ds.length
 | _,_,.nil=>rfl
 | _,_,.cons _ t=>by rw [õ,õ,Rps.length t]
theorem Rps.getD:∀ {vs:List V}{ds:List D}{i:Nat}{d:D},Rps ok H vs ds->ds[i]?=some d->∃ v,vs[i]?=some v/\Rp ok H v d
 | _,_,i,v,.nil,e=>by simp at e
 | _,_,0,v,.cons h t,e=>by simp at e; subst e; exact⟨_,rfl,h⟩
 | _,_,i+1,v,.cons h t,e=>by
  obtain⟨d,a,b⟩:=Rps.getD (i:=i) (d:=v) t (by simpa using e)
  exact⟨d,by simpa using a,b⟩
theorem Rps.app:∀ {vs ws:List V}{ds es:List D},Rps ok H vs ds->Rps ok H ws es->Rps ok H (vs++ws) (ds++es)
 | _,_,_,_,.nil,s=>s
 | _,_,_,_,.cons h t,s=>.cons h (Rps.app t s)
theorem Rps.snoc {vs:List V}{ds:List D}{v:V}{d:D} (h:Rps ok H vs ds) (r:Rp ok H v d):Rps ok H (vs++[v]) (ds++[d]):=h.app (.cons r .nil)
theorem Rps.take:∀ {vs:List V}{ds:List D} (n:Nat),Rps ok H vs ds->Rps ok H (vs.take n) (ds.take n)
 | _,_,0,_=>by simp; exact .nil
 | _,_,_+1,.nil=>by simp; exact .nil
 | _,_,n+1,.cons r t=>.cons r (Rps.take n t)
theorem Rps.drop:∀ {vs:List V}{ds:List D} (n:Nat),Rps ok H vs ds->Rps ok H (vs.drop n) (ds.drop n)
 | _,_,0,r=>r
 | _,_,_+1,.nil=>by simp; exact .nil
 | _,_,n+1,.cons _ t=>Rps.drop n t
theorem Rps.ofMap {α:Type}{f:α->V}{g:α->D} (h:∀ x,Rp ok H (f x) (g x)):∀ l:List α,Rps ok H (l.map f) (l.map g)
 | []=>.nil
 | x::l=>.cons (h x) (Rps.ofMap h l)
theorem Rp.int' {v:V}{i:Int} (r:Rp ok H v (.int i)):v=.int i:=by cases r; rfl
theorem Rp.bl' {v:V}{i:Bool} (r:Rp ok H v (.bool i)):v=.bl i:=by cases r; rfl
theorem Rp.str' {v:V}{i:Str} (r:Rp ok H v (.str i)):v=.str i:=by cases r; rfl
theorem Rp.bF {v:V}{ds:List D} (r:Rp ok H v (.list ds)):∃ a vs,v=.ref a/\ok a/\H a=some (.lst vs)/\Rps ok H vs ds:=by
 cases r with
 | lst o h r=>exact⟨_,_,rfl,o,h,r⟩
theorem Rp.cR {v:V}{ds:List D} (r:Rp ok H v (.tuple ds)):∃ a vs,v=.ref a/\H a=some (.tup vs)/\Rps ok H vs ds:=by
 cases r with
 | tup h r=>exact⟨_,_,rfl,h,r⟩
theorem Rps.ints:∀ {vs:List V}{ns:List Int},Rps ok H vs (ns.map Ç)->vs=ns.map V.int
 | [],[],_=>rfl
 | _,n::ns,.cons h t=>by
  have e:=h.int'
  subst e
  rw [Rps.ints t]
  rfl
theorem Rps.two {vs:List V}{d e:D} (r:Rps ok H vs [d,e]):∃ v w,vs=[v,w]/\Rp ok H v d/\Rp ok H w e:=by
 cases r with
 | cons h t =>
  cases t with
  | cons h2 t2 =>
   cases t2
   exact⟨_,_,rfl,h,h2⟩
end
mutual
def eF:D->Bool
 | .none=>true
 | .bool _=>true
 | .int _=>true
 | .str _=>true
 | .list _=>false
 | .tuple ds=>cO ds
 | .dict _=>false
def cO:List D->Bool
 | []=>true
 | d::ds=>eF d&&cO ds
end
section
variable {ok:Addr->Prop}{H:Hp}
mutual
theorem Rp.imm:∀ {v:V}{d:D},Rp ok H v d->eF d=true->Rp (fun _=>False) H v d
 | _,_,.non,_=>.non
 | _,_,.bl b,_=>.bl b
 | _,_,.int i,_=>.int i
 | _,_,.str x,_=>.str x
 | _,_,.tup h r,e=>.tup h (Rps.imm r e)
theorem Rps.imm:∀ {v:List V}{d:List D},Rps ok H v d->cO d=true->Rps (fun _=>False) H v d
 | _,_,.nil,_=>.nil
 | _,_,.cons h r,e=>.cons (Rp.imm h (by simp only [cO,Ü] at e; exact e.1)) (Rps.imm r (by simp only [cO,Ü] at e; exact e.2))
end
end
structure Pn where
 fp:Addr->Prop
 PI:Hp->Prop
 pv:V
 mono:∀ H H',PI H->(∀ b o,fp b->H b=some o->H' b=some o)->PI H'
 is:∀ H b,PI H->fp b->∃ o,H b=some o/\∀ xs,o≠.tup xs
class Gr where
 G:Pn->Hp->Prop
instance (priority:=low) grT:Gr:=⟨fun _ _=>True⟩
def nC:Pn:=⟨fun _=>False,fun _=>True,.non,fun _ _ _ _=>trivial,fun _ _ _ h=>h.elim⟩
def Kp (p:Pn) (H H':Hp):Prop:=∀ b o,H b=some o->¬ p.fp b->H' b=some o
theorem Kp.refl {p:Pn}{H:Hp}:Kp p H H:=fun _ _ h _=>h
theorem Kp.trans {p:Pn}{H H1 H2:Hp} (a:Kp p H H1) (b:Kp p H1 H2):Kp p H H2:=fun c o h n=>b c o (a c o h n) n
theorem Kp.of {p:Pn}{H H':Hp} (s:Same H H'):Kp p H H':=fun b o h _=>s b o h
inductive Sl where
 | any
 | im (d:D)
 | sh (d:D)
 | sn (d:D)
 | dw (r:Nat) (d:D)
 | pen (C:Pn->Prop)
 | rw (r:Nat) (L:List (List D))
 | tw (r:Nat) (L:List (List D))
 | scr (v:V) (b:Bool)
 | sp (r:Nat) (b:Bool) (ds:List D)
inductive Kd where
 | imm | new | reg (r:Nat) | n0 | snw | shr | wk
 deriving DecidableEq
def Kd.le:Kd->Kd->Bool
 | .imm,_=>true
 | .new,.new=>true
 | .new,.n0=>true
 | .new,.snw=>true
 | .new,.shr=>true
 | .new,.wk=>true
 | .reg r,.reg q=>r == q
 | .reg _,.n0=>true
 | .reg _,.wk=>true
 | .snw,.snw=>true
 | .snw,.n0=>true
 | .snw,.shr=>true
 | .snw,.wk=>true
 | .n0,.n0=>true
 | .n0,.wk=>true
 | .shr,.shr=>true
 | .shr,.wk=>true
 | .wk,.wk=>true
 | _,_=>false
def Kd.join (a b:Kd):Kd:=if a.le b then b else if b.le a then a else if a.le .n0&&b.le .n0 then .n0 else if a.le .shr&&b.le .shr then .shr else .wk
def norm (k:Kd) (d:D):Kd:=match k with
 | .imm=>.imm
 | k=>if eF d then .imm else k
theorem iC {k:Kd}{d:D} (h:eF d=true):norm k d=.imm:=by
 cases k <;> first
  | rfl
  | exact if_pos h
theorem v7 {k:Kd}{d:D} (h:¬ eF d=true):norm k d=k:=by
 cases k <;> first
  | rfl
  | exact if_neg h
def okK (p:Pn) (H0:Hp) (own:Addr->Option Nat) (Hb:Hp):Kd->Addr->Prop
 | .imm=>fun _=>False
 | .new=>fun a=>Hb a=none
 | .reg r=>fun a=>own a=some r
 | .n0=>fun a=>H0 a=none/\¬ p.fp a
 | .snw=>fun a=>H0 a=none/\¬ p.fp a/\own a=none
 | .shr=>fun a=>¬ p.fp a/\own a=none
 | .wk=>fun a=>¬ p.fp a
structure At (p:Pn) (H0:Hp) (own:Addr->Option Nat) (Hb H:Hp):Prop where
 k0:∀ b o,H0 b=some o->¬ p.fp b->Hb b=some o
 kp:Kp p Hb H
 penb:p.PI Hb
 pen:p.PI H
 ow:∀ a r,own a=some r->H0 a=none/\¬ p.fp a/\Hb a≠none
section
variable {p:Pn}{H0 Hb H H':Hp}{own:Addr->Option Nat}
theorem At.nfp (A:At p H0 own Hb H) {a:Addr} (h:H a=none):¬ p.fp a:=fun z=>by
 obtain⟨o,e,_⟩:=p.is H a A.pen z
 rw [h] at e
 cases e
theorem At.free (A:At p H0 own Hb H) {a:Addr} (h:H a=none):Hb a=none:=by
 have hn:=A.nfp h
 cases e:Hb a with
 | none=>rfl
 | some o=>rw [A.kp a o e hn] at h; cases h
theorem At.nfb (A:At p H0 own Hb H) {a:Addr} (h:Hb a=none):¬ p.fp a:=fun z=>by
 obtain⟨o,e,_⟩:=p.is Hb a A.penb z
 rw [h] at e
 cases e
theorem At.MN (A:At p H0 own Hb H) {a:Addr} (h:Hb a=none):own a=none:=by
 cases e:own a with
 | none=>rfl
 | some r=>exact absurd h (A.ow a r e).2.2
theorem At.h0 (A:At p H0 own Hb H) {a:Addr} (h:Hb a=none):H0 a=none:=by
 cases e:H0 a with
 | none=>rfl
 | some o=>rw [A.k0 a o e (A.nfb h)] at h; cases h
theorem bM (A:At p H0 own Hb H) {j k:Kd} (h:j.le k=true) {a:Addr} (o:okK p H0 own Hb j a):okK p H0 own Hb k a:=by
 cases j with
 | imm=>exact Ť o
 | new =>
  cases k with
  | imm=>cases h
  | new=>exact o
  | reg r=>cases h
  | n0=>exact⟨A.h0 o,A.nfb o⟩
  | snw=>exact⟨A.h0 o,A.nfb o,A.MN o⟩
  | shr=>exact⟨A.nfb o,A.MN o⟩
  | wk=>exact A.nfb o
 | reg r =>
  cases k with
  | reg q =>
   have e:r=q:=by simpa [Kd.le] using h
   subst e
   exact o
  | n0=>exact⟨(A.ow a r o).1,(A.ow a r o).2.1⟩
  | wk=>exact (A.ow a r o).2.1
  | _=>cases h
 | n0 =>
  cases k with
  | n0=>exact o
  | wk=>exact o.2
  | _=>cases h
 | snw =>
  cases k with
  | snw=>exact o
  | n0=>exact⟨o.1,o.2.1⟩
  | shr=>exact o.2
  | wk=>exact o.2.1
  | _=>cases h
 | shr =>
  cases k with
  | shr=>exact o
  | wk=>exact o.1
  | _=>cases h
 | wk =>
  cases k with
  | wk=>exact o
  | _=>cases h
theorem j6 (A:At p H0 own Hb H) {k:Kd}{a:Addr} (o:okK p H0 own Hb k a):¬ p.fp a:=by
 have:k.le .wk=true:=by cases k <;> rfl
 exact bM A this o
theorem jT (A:At p H0 own Hb H) {j k:Kd} (h:j.le k=true) {v:V}{d:D}{H2:Hp} (r:Rp (okK p H0 own Hb j) H2 v d):Rp (okK p H0 own Hb k) H2 v d :=
 r.mono (fun a o=>bM A h o) (fun _ _ _ e=>e) fun _ _ e=>e
theorem dM (a b:Kd):a.le (a.join b)=true/\b.le (a.join b)=true:=by
 unfold Kd.join
 by_cases h:a.le b=true
 ·rw [if_pos h]; exact⟨h,by cases b <;> simp [Kd.le]⟩
 ·rw [if_neg h]
  by_cases h2:b.le a=true
  ·rw [if_pos h2]; exact⟨by cases a <;> simp [Kd.le],h2⟩
  ·rw [if_neg h2]
   by_cases h3:(a.le .n0&&b.le .n0)=true
   ·rw [if_pos h3]; exact Ü _ _ ▸ h3
   ·rw [if_neg h3]
    by_cases h4:(a.le .shr&&b.le .shr)=true
    ·rw [if_pos h4]; exact Ü _ _ ▸ h4
    ·rw [if_neg h4]; exact⟨by cases a <;> rfl,by cases b <;> rfl⟩
theorem bA {k:Kd}{v:V}{d:D}{H2:Hp} (r:Rp (okK p H0 own Hb k) H2 v d):Rp (okK p H0 own Hb (norm k d)) H2 v d:=by
 by_cases h:eF d=true
 ·rw [iC h]; exact r.imm h
 ·rw [v7 h]; exact r
theorem iK (A:At p H0 own Hb H) (k:Kp p H H'):∀ a xs,H a=some (.tup xs)->H' a=some (.tup xs):=fun a xs h=>k a _ h fun z=>by
 obtain⟨o,e,n⟩:=p.is H a A.pen z
 rw [h] at e
 exact n xs (Ù e).symm
theorem nj (A:At p H0 own Hb H) (k:Kp p H H') {j:Kd}{v:V}{d:D} (r:Rp (okK p H0 own Hb j) H v d):Rp (okK p H0 own Hb j) H' v d :=
 r.mono (fun _ o=>o) (fun a o h e=>k a o e (j6 A h)) (iK A k)
theorem cC (A:At p H0 own Hb H) (k:Kp p H H') {j:Kd}{v:List V}{d:List D} (r:Rps (okK p H0 own Hb j) H v d):Rps (okK p H0 own Hb j) H' v d :=
 r.mono (fun _ o=>o) (fun a o h e=>k a o e (j6 A h)) (iK A k)
theorem At.go (A:At p H0 own Hb H) (k:Kp p H H') (i:p.PI H'):At p H0 own Hb H':=⟨A.k0,A.kp.trans k,A.penb,i,A.ow⟩
theorem At.base {H1:Hp} (A:At p H0 own Hb H) (B:At p H0 own H H1):At p H0 own Hb H1:=⟨A.k0,A.kp.trans B.kp,A.penb,B.pen,A.ow⟩
theorem Gq (A:At p H0 own Hb H) {k:Kd}{a:Addr} (o:okK p H0 own H k a):okK p H0 own Hb k a:=by
 cases k <;> first
  | exact o
  | exact A.free o
theorem nU (A:At p H0 own Hb H) {k:Kd}{v:V}{d:D}{H2:Hp} (r:Rp (okK p H0 own H k) H2 v d):Rp (okK p H0 own Hb k) H2 v d :=
 r.mono (fun a o=>Gq A o) (fun _ _ _ e=>e) fun _ _ e=>e
theorem At.new (A:At p H0 own Hb H) {a:Addr} (h:H a=none) (o:HO):Kp p H (upd H a o)/\p.PI (upd H a o)/\okK p H0 own Hb .new a :=
 have s:Same H (upd H a o):=fun b u q=>by rw [aj (ak q h)]; exact q
 ⟨Kp.of s,p.mono H _ A.pen fun b u _ q=>s b u q,A.free h⟩
end
structure RowsH (own:Addr->Option Nat) (r:Nat) (H:Hp) (st:Addr) (as:List Addr) (L:List (List D)):Prop where
 top:H st=some (.lst (as.map V.ref))
 nd:(st::as).Nodup
 ow:∀ a∈st::as,own a=some r
 len:as.length=L.length
 row:∀ (j:Nat) (a:Addr) (ds:List D),as[j]?=some a->L[j]?=some ds->∃ vs,H a=some (.lst vs)/\Rps (fun _=>False) H vs ds
theorem RowsH.mono {own own':Addr->Option Nat}{r:Nat}{H H':Hp}{st:Addr}{as:List Addr}{L:List (List D)} (h:RowsH own r H st as L) (g:∀ a o,own a=some r->H a=some o->own' a=some r/\H' a=some o) (t:∀ a xs,H a=some (.tup xs)->H' a=some (.tup xs)):RowsH own' r H' st as L:=by
 have live:∀ a∈st::as,∃ o,H a=some o:=fun a ha=>by
  rcases Þ.mp ha with rfl | ha
  ·exact⟨_,h.top⟩
  ·obtain⟨j,hj⟩:=ú ha
   have hl:=(É.mp hj).1
   obtain⟨vs,e,_⟩:=h.row j a _ hj (Ä (by rw [← h.len]; exact hl))
   exact⟨_,e⟩
 refine⟨(g st _ (h.ow st Ï) h.top).2,h.nd,fun a ha=>?_,h.len,fun j a ds e1 e2=>?_⟩
 ·obtain⟨o,e⟩:=live a ha
  exact (g a o (h.ow a ha) e).1
 ·obtain⟨vs,e,r'⟩:=h.row j a ds e1 e2
  exact⟨vs,(g a _ (h.ow a (Í _ (Æ e1))) e).2,r'.mono (fun _ o=>o) (fun _ _ o=>o.elim) t⟩
theorem lV {ok:Addr->Prop}{H:Hp}:∀ (as:List Addr) (L:List (List D)),as.length=L.length->(∀ a∈as,ok a)->(∀ (j:Nat) (a:Addr) (ds:List D),as[j]?=some a->L[j]?=some ds->∃ vs,H a=some (.lst vs)/\Rps (fun _=>False) H vs ds)->Rps ok H (as.map V.ref) (L.map Ĺ)
 | [],[],_,_,_=>.nil
 | a::as,d::L,hl,h,r=>by
  obtain⟨vs,e,rs⟩:=r 0 a d rfl rfl
  exact .cons (.lst (h a Ï) e (rs.mono (fun _ o=>o.elim) (fun _ _ o=>o.elim) fun _ _ e=>e)) (lV as L (by simpa using hl) (fun b hb=>h b (Í _ hb)) fun j b ds e1 e2=>r (j+1) b ds e1 e2)
 | [],_::_,hl,_,_=>by cases hl
 | _::_,[],hl,_,_=>by cases hl
theorem RowsH.rp {own:Addr->Option Nat}{r:Nat}{H:Hp}{st:Addr}{as:List Addr}{L:List (List D)} (h:RowsH own r H st as L):Rp (fun a=>own a=some r) H (.ref st) (.list (L.map Ĺ)) :=
 .lst (h.ow st Ï) h.top (lV as L h.len (fun a ha=>h.ow a (Í _ ha)) h.row)
structure RowsT (own:Addr->Option Nat) (r:Nat) (H:Hp) (st:Addr) (as:List Addr) (L:List (List D)):Prop where
 top:H st=some (.tup (as.map V.ref))
 nd:as.Nodup
 ow:∀ a∈as,own a=some r
 len:as.length=L.length
 row:∀ (j:Nat) (a:Addr) (ds:List D),as[j]?=some a->L[j]?=some ds->∃ vs,H a=some (.lst vs)/\Rps (fun _=>False) H vs ds
theorem RowsT.mono {own own':Addr->Option Nat}{r:Nat}{H H':Hp}{st:Addr}{as:List Addr}{L:List (List D)} (h:RowsT own r H st as L) (g:∀ a o,own a=some r->H a=some o->own' a=some r/\H' a=some o) (t:∀ a xs,H a=some (.tup xs)->H' a=some (.tup xs)):RowsT own' r H' st as L:=by
 refine⟨t st _ h.top,h.nd,fun a ha=>?_,h.len,fun j a ds e1 e2=>?_⟩
 ·obtain⟨j,hj⟩:=ú ha
  have hl:=(É.mp hj).1
  obtain⟨vs,e,_⟩:=h.row j a _ hj (Ä (by rw [← h.len]; exact hl))
  exact (g a _ (h.ow a ha) e).1
 ·obtain⟨vs,e,r'⟩:=h.row j a ds e1 e2
  exact⟨vs,(g a _ (h.ow a (Æ e1)) e).2,r'.mono (fun _ o=>o) (fun _ _ o=>o.elim) t⟩
theorem RowsT.rp {own:Addr->Option Nat}{r:Nat}{H:Hp}{st:Addr}{as:List Addr}{L:List (List D)} (h:RowsT own r H st as L):Rp (fun a=>own a=some r) H (.ref st) (.tuple (L.map Ĺ)) :=
 .tup h.top (lV as L h.len h.ow h.row)
def okS (p:Pn) (H0:Hp) (own:Addr->Option Nat) (b:Bool) (a:Addr):Prop:=(b=true->H0 a=none)/\¬ p.fp a/\own a=none
def iY (p:Pn) (H0:Hp) (own:Addr->Option Nat) (σ:L2.St) (H:Hp) (i:Nat):Sl->Prop
 | .any=>True
 | .im d=>∃ v,σ[i]?=some (some v)/\Rp (fun _=>False) H v d
 | .sh d=>∃ v,σ[i]?=some (some v)/\Rp (fun a=>¬ p.fp a/\own a=none) H v d
 | .sn d=>∃ v,σ[i]?=some (some v)/\Rp (fun a=>H0 a=none/\¬ p.fp a/\own a=none) H v d
 | .dw r d=>∃ v,σ[i]?=some (some v)/\Rp (fun a=>own a=some r) H v d
 | .pen C=>σ[i]?=some (some p.pv)/\C p
 | .rw r L=>∃ st as,σ[i]?=some (some (.ref st))/\RowsH own r H st as L
 | .tw r L=>∃ st as,σ[i]?=some (some (.ref st))/\RowsT own r H st as L
 | .scr v b=>σ[i]?=some (some v)/\(b=true->p=nC)
 | .sp r b ds=>∃ l vs,σ[i]?=some (some (.ref l))/\own l=some r/\H l=some (.lst vs)/\Rps (okS p H0 own b) H vs ds
structure EnvD [Gr] (p:Pn) (H0:Hp) (own:Addr->Option Nat) (σ:L2.St) (H:Hp) (ρ:List Sl):Prop where
 k0:∀ b o,H0 b=some o->¬ p.fp b->H b=some o
 pen:p.PI H
 ow:∀ a r,own a=some r->H0 a=none/\¬ p.fp a/\H a≠none
 slot:∀ i s,ρ[i]?=some s->iY p H0 own σ H i s
 len:ρ.length=σ.length
 gr:Gr.G p H0
variable [Gr]
section
variable {p:Pn}{H0 H H':Hp}{own:Addr->Option Nat}{σ:L2.St}{ρ:List Sl}
theorem EnvD.at (E:EnvD p H0 own σ H ρ):At p H0 own H H:=⟨E.k0,Kp.refl,E.pen,E.pen,E.ow⟩
theorem EnvD.go (E:EnvD p H0 own σ H ρ) (k:Kp p H H') (i:p.PI H'):EnvD p H0 own σ H' ρ:=by
 have A:=E.at
 have tp:=iK A k
 refine⟨fun b o e n=>k b o (E.k0 b o e n) n,i,fun a r e=>?_,fun j s e=>?_,E.len,E.gr⟩
 ·obtain⟨h1,h2,h3⟩:=E.ow a r e
  refine⟨h1,h2,fun z=>?_⟩
  cases q:H a with
  | none=>exact h3 q
  | some o=>rw [k a o q h2] at z; cases z
 ·have q:=E.slot j s e
  cases s with
  | any=>trivial
  | im d=>exact let ⟨v,a,b⟩:=q; ⟨v,a,b.mono (fun _ o=>o) (fun _ _ o=>o.elim) tp⟩
  | sh d=>exact let ⟨v,a,b⟩:=q; ⟨v,a,b.mono (fun _ o=>o) (fun c u o e=>k c u e o.1) tp⟩
  | sn d=>exact let ⟨v,a,b⟩:=q; ⟨v,a,b.mono (fun _ o=>o) (fun c u o e=>k c u e o.2.1) tp⟩
  | dw r d=>exact let ⟨v,a,b⟩:=q; ⟨v,a,b.mono (fun _ o=>o) (fun c u o e=>k c u e (E.ow c r o).2.1) tp⟩
  | pen C=>exact q
  | rw r L=>exact let ⟨st,as,a,b⟩:=q; ⟨st,as,a,b.mono (fun c u o e=>⟨o,k c u e (E.ow c r o).2.1⟩) tp⟩
  | tw r L=>exact let ⟨st,as,a,b⟩:=q; ⟨st,as,a,b.mono (fun c u o e=>⟨o,k c u e (E.ow c r o).2.1⟩) tp⟩
  | scr v b=>exact q
  | sp r b ds=>exact let ⟨l,vs,a,o,h,z⟩:=q; ⟨l,vs,a,o,k l _ h (E.ow l r o).2.1,z.mono (fun _ o=>o) (fun c u o e=>k c u e o.2.1) tp⟩
end
abbrev DK:=Kd->D->Prop
abbrev DE:=List Sl->DK->Prop
def bH (t:DE):TE:=fun σ H Q=>∃ p H0 own ρ P,EnvD p H0 own σ H ρ/\t ρ P/\∀ k d v H',P k d->At p H0 own H H'->Rp (okK p H0 own H k) H' v d->Q v H'
abbrev PD (X:Cx) (e:Expr) (t:DE):Prop:=PE X e (bH t)
abbrev DA:=List Sl->(List (Kd×D)->Prop)->Prop
inductive RpK (p:Pn) (H0:Hp) (own:Addr->Option Nat) (Hb H:Hp):List V->List (Kd×D)->Prop
 | nil:RpK p H0 own Hb H [] []
 | cons {v:V}{kd:Kd×D}{vs:List V}{ks:List (Kd×D)} (h:Rp (okK p H0 own Hb kd.1) H v kd.2) (t:RpK p H0 own Hb H vs ks):RpK p H0 own Hb H (v::vs) (kd::ks)
def cY (t:DA):TA:=fun σ H Q=>∃ p H0 own ρ P,EnvD p H0 own σ H ρ/\t ρ P/\∀ ks vs H',P ks->At p H0 own H H'->RpK p H0 own H H' vs ks->Q vs H'
abbrev PDA (X:Cx) (es:List Expr) (t:DA):Prop:=PA X es (cY t)
abbrev DT:=List Sl->(Bool->Prop)->Prop
def liftT (t:DT):TT:=fun σ H Q=>∃ p H0 own ρ P,EnvD p H0 own σ H ρ/\t ρ P/\∀ b H',P b->At p H0 own H H'->Q b H'
abbrev PDT (X:Cx) (e:Expr) (t:DT):Prop:=PT X e (liftT t)
theorem PE.wk {X:Cx}{e:Expr}{t t':TE} (h:PE X e t) (w:∀ σ H Q,t' σ H Q->t σ H Q):PE X e t':=fun pins s σ H Q I q=>h pins s σ H Q I (w σ H Q q)
theorem PT.wk {X:Cx}{e:Expr}{t t':TT} (h:PT X e t) (w:∀ σ H Q,t' σ H Q->t σ H Q):PT X e t':=fun pins s σ H Q I q=>h pins s σ H Q I (w σ H Q q)
theorem PA.wk {X:Cx}{e:List Expr}{t t':TA} (h:PA X e t) (w:∀ σ H Q,t' σ H Q->t σ H Q):PA X e t':=fun pos pins s σ H Q I q=>h pos pins s σ H Q I (w σ H Q q)
section
variable {X:Cx}{pos:Pos}{a b:Expr}{ta tb:DE}
theorem RpK.go {p:Pn}{H0 Hb H H':Hp}{own:Addr->Option Nat} (A:At p H0 own Hb H) (k:Kp p H H'):∀ {vs:List V}{ks:List (Kd×D)},RpK p H0 own Hb H vs ks->RpK p H0 own Hb H' vs ks
 | _,_,.nil=>.nil
 | _,_,.cons h t=>.cons (nj A k h) (RpK.go A k t)
theorem RpK.base {p:Pn}{H0 Hb H H':Hp}{own:Addr->Option Nat} (A:At p H0 own Hb H):∀ {vs:List V}{ks:List (Kd×D)},RpK p H0 own H H' vs ks->RpK p H0 own Hb H' vs ks
 | _,_,.nil=>.nil
 | _,_,.cons h t=>.cons (nU A h) (RpK.base A t)
def tV (i:Nat):DE:=fun ρ P=>match ρ[i]? with
 | some (.im d)=>P .imm d
 | some (.sh d)=>P .shr d
 | some (.sn d)=>P .snw d
 | some (.dw r d)=>P (.reg r) d
 | some (.rw r L)=>P (.reg r) (.list (L.map Ĺ))
 | some (.tw r L)=>P (.reg r) (.tuple (L.map Ĺ))
 | some (.sp r b ds)=>P (if b=true then .n0 else .wk) (.list ds)
 | _=>False
theorem MJ {i:Nat}{x:Str}{ps:Pos} (h:PE X (.Name x ps) (fj i)):PD X (.Name x ps) (tV i):=PE.wk h (by
 rintro σ H Q ⟨p,H0,own,ρ,P,E,t,q⟩
 unfold tV at t
 split at t
 ·rename_i d e; obtain⟨v,e1,r⟩:=E.slot i _ e; exact⟨v,e1,q _ _ _ _ t E.at r⟩
 ·rename_i d e; obtain⟨v,e1,r⟩:=E.slot i _ e; exact⟨v,e1,q _ _ _ _ t E.at r⟩
 ·rename_i d e; obtain⟨v,e1,r⟩:=E.slot i _ e; exact⟨v,e1,q _ _ _ _ t E.at r⟩
 ·rename_i d e; obtain⟨v,e1,r⟩:=E.slot i _ e; exact⟨v,e1,q _ _ _ _ t E.at r⟩
 ·rename_i r L e; obtain⟨st,as,e1,h⟩:=E.slot i _ e; exact⟨_,e1,q _ _ _ _ t E.at h.rp⟩
 ·rename_i r L e; obtain⟨st,as,e1,h⟩:=E.slot i _ e; exact⟨_,e1,q _ _ _ _ t E.at h.rp⟩
 ·rename_i r b ds e
  obtain⟨l,vs,e1,o,h,z⟩:=E.slot i _ e
  refine⟨_,e1,q _ _ _ _ t E.at ?_⟩
  cases b with
  | true=>exact .lst ⟨(E.ow l r o).1,(E.ow l r o).2.1⟩ h (z.mono (fun c n=>⟨n.1 rfl,n.2.1⟩) (fun _ _ _ e=>e) fun _ _ e=>e)
  | false=>exact .lst (E.ow l r o).2.1 h (z.mono (fun c n=>n.2.1) (fun _ _ _ e=>e) fun _ _ e=>e)
 ·exact t.elim)
def tK (d:D):DE:=fun _ P=>P .imm d
theorem pC {e:Expr}{v:V}{d:D} (h:PE X e (tC v)) (r:∀ H,Rp (fun _=>False) H v d):PD X e (tK d):=PE.wk h (by
 rintro σ H Q ⟨p,H0,own,ρ,P,E,t,q⟩
 exact q _ _ _ _ t E.at (r H))
theorem yH {i:Int}{j:Nat}:PD X (.Constant (.int i) j pos) (tK (.int i)):=pC Ga fun _=>.int i
theorem rC {i:Bool}{j:Nat}:PD X (.Constant (.bool i) j pos) (tK (.bool i)):=pC Px fun _=>.bl i
theorem yF {j:Nat}:PD X (.Constant .none j pos) (tK .none):=pC Mx fun _=>.non
abbrev G2:=Kd->D->Kd->D->DK->Prop
def t2 (g:G2) (ta tb:DE):DE:=fun ρ P=>ta ρ fun k1 d1=>tb ρ fun k2 d2=>g k1 d1 k2 d2 P
def Ok2 (g:G2) (r:R2):Prop:=∀ p H0 own Hb H x y k1 d1 k2 d2 P Q,At p H0 own Hb H->Rp (okK p H0 own Hb k1) H x d1->Rp (okK p H0 own Hb k2) H y d2->g k1 d1 k2 d2 P ->
 (∀ k d v H',P k d->Kp p H H'->p.PI H'->Rp (okK p H0 own Hb k) H' v d->Q v H')->r x y H Q
theorem Bt {g:G2}{r:R2} (ok:Ok2 g r):∀ σ H Q,bH (t2 g ta tb) σ H Q->tOp r (bH ta) (bH tb) σ H Q:=by
 rintro σ H Q ⟨p,H0,own,ρ,P,E,t,q⟩
 refine⟨p,H0,own,ρ,_,E,t,fun k1 d1 v1 H1 t1 A1 r1=>?_⟩
 have E1:=E.go A1.kp A1.pen
 refine⟨p,H0,own,ρ,_,E1,t1,fun k2 d2 v2 H2 t2 A2 r2=>?_⟩
 have A:At p H0 own H H2:=A1.base A2
 exact ok p H0 own H H2 v1 v2 k1 d1 k2 d2 P Q A (nj A1 A2.kp r1) (nU A1 r2) t2 fun k d v H' h k3 i3 r3=>q k d v H' h (A.go k3 i3) r3
theorem Bm {op:Operator}{r:R2}{g:G2} (ho:OpR X (binaryOp op) r) (ok:Ok2 g r) (ha:PD X a ta) (hb:PD X b tb):PD X (.BinOp a op b pos) (t2 g ta tb):=PE.wk (bG ho ha hb) (Bt ok)
theorem tX {op:CmpOp}{r:R2}{g:G2} (ho:OpR X (compareOp op) r) (ok:Ok2 g r) (ha:PD X a ta) (hb:PD X b tb) (hm:behindInMarks op b=false):PD X (.Compare a [op] [b] pos) (t2 g ta tb):=PE.wk (Jm ho ha hb hm) (Bt ok)
def eE (t:DE):DT:=fun ρ P=>t ρ fun _ d=>match d with
 | .bool b=>P b
 | _=>False
theorem wD {t:DE}:∀ σ H Q,liftT (eE t) σ H Q->(bH t) σ H (fun x H'=>∃ k,x=.bl k/\Q k H'):=by
 rintro σ H Q ⟨p,H0,own,ρ,P,E,t,q⟩
 refine⟨p,H0,own,ρ,_,E,t,fun k d v H' h A r=>?_⟩
 cases d with
 | bool b=>exact⟨b,r.bl',q b H' h A⟩
 | _=>exact h.elim
theorem gj {op:CmpOp}{r:R2}{g:G2} (ho:OpR X (compareOp op) r) (ok:Ok2 g r) (ha:PD X a ta) (hb:PD X b tb) (hm:behindInMarks op b=false):PDT X (.Compare a [op] [b] pos) (eE (t2 g ta tb)) :=
 PT.wk (jV ho ha hb hm) fun σ H Q h=>Bt ok σ H _ (wD σ H Q h)
theorem cU {e:Expr}{t:DE} (h:PD X e t) (he:∀ whole,isTrue e X.env whole=(do let v ← whole; standAt e.pos; holding [v] (truthy v)):=by intro _; rfl):PDT X e (eE t) :=
 PT.wk (Ma h he) fun σ H Q q=>wD σ H Q q
def Qv (t:DT):DT:=fun ρ P=>t ρ fun b=>P (!b)
theorem fZ {t:DT} (ha:PDT X a t):PDT X (.UnaryOp .Not a pos) (Qv t):=PT.wk (Mf ha) (by
 rintro σ H Q ⟨p,H0,own,ρ,P,E,t,q⟩
 exact⟨p,H0,own,ρ,_,E,t,fun b H' h A=>q _ H' h A⟩)
abbrev PDW (X:Cx) (e:Expr) (t:DT):Prop:=PW X e (liftT t)
theorem PW.wk {X:Cx}{e:Expr}{t t':TT} (h:PW X e t) (w:∀ σ H Q,t' σ H Q->t σ H Q):PW X e t':=fun wh pins s σ H Q I q=>h wh pins s σ H Q I (w σ H Q q)
def J5 (t u:DT):DT:=fun ρ P=>t ρ fun b=>if b=true then u ρ P else P false
def dOr (t u:DT):DT:=fun ρ P=>t ρ fun b=>if b=true then P true else u ρ P
section
variable {rest:List Expr}{t u:DT}
theorem fJ (ha:PDT X a t):PDW X (.BoolOp .And [a] pos) t:=Bg ha
theorem jY (ha:PDT X a t):PDW X (.BoolOp .Or [a] pos) t:=LQ ha
theorem GK:∀ σ H Q,liftT (J5 t u) σ H Q->O2 (liftT t) (liftT u) σ H Q:=by
 rintro σ H Q ⟨p,H0,own,ρ,P,E,t,q⟩
 refine⟨p,H0,own,ρ,_,E,t,fun b H' h A=>?_⟩
 cases b with
 | true=>exact bJ ⟨p,H0,own,ρ,P,E.go A.kp A.pen,by simpa using h,fun c H2 h2 A2=>q c H2 h2 (A.base A2)⟩
 | false=>exact aW (q false H' (by simpa using h) A)
theorem JG:∀ σ H Q,liftT (dOr t u) σ H Q->tOr (liftT t) (liftT u) σ H Q:=by
 rintro σ H Q ⟨p,H0,own,ρ,P,E,t,q⟩
 refine⟨p,H0,own,ρ,_,E,t,fun b H' h A=>?_⟩
 cases b with
 | true=>exact bJ (q true H' (by simpa using h) A)
 | false=>exact aW ⟨p,H0,own,ρ,P,E.go A.kp A.pen,by simpa using h,fun c H2 h2 A2=>q c H2 h2 (A.base A2)⟩
theorem eU (ha:PDT X a t) (hb:PDW X (.BoolOp .And (b::rest) pos) u):PDW X (.BoolOp .And (a::b::rest) pos) (J5 t u):=PW.wk (Fv ha hb) GK
theorem lX (ha:PDT X a t) (hb:PDW X (.BoolOp .Or (b::rest) pos) u):PDW X (.BoolOp .Or (a::b::rest) pos) (dOr t u):=PW.wk (Pb ha hb) JG
theorem PDW.pt {e:Expr}{t:DT} (h:PDW X e t):PDT X e t:=PW.pt h
end
end
variable [Gr]
section
variable {X:Cx}{pos:Pos}{a b e:Expr}{es:List Expr}{ta tb te:DE}{t:DA}
def cB:DA:=fun _ P=>P []
def aK (te:DE) (t:DA):DA:=fun ρ P=>te ρ fun k d=>t ρ fun ks=>P ((k,d)::ks)
theorem tD:PDA X [] cB:=PA.wk dY (by
 rintro σ H Q ⟨p,H0,own,ρ,P,E,t,q⟩
 exact q [] [] H t E.at .nil)
theorem oY (ha:PD X e te) (hr:PDA X es t) (hs:zS X e es:=by rfl):PDA X (e::es) (aK te t):=PA.wk (bN ha hr hs) (by
 rintro σ H Q ⟨p,H0,own,ρ,P,E,t,q⟩
 refine⟨p,H0,own,ρ,_,E,t,fun k d v H1 h A r=>?_⟩
 refine⟨p,H0,own,ρ,_,E.go A.kp A.pen,h,fun ks vs H2 h2 A2 r2=>?_⟩
 exact q _ _ H2 h2 (A.base A2) (.cons (nj A A2.kp r) (RpK.base A r2)))
def joins:List (Kd×D)->Kd
 | []=>.imm
 | kd::ks=>kd.1.join (joins ks)
theorem RpK.all {p:Pn}{H0 Hb H H2:Hp}{own:Addr->Option Nat} (A:At p H0 own Hb H):∀ {vs:List V}{ks:List (Kd×D)}{k:Kd},(joins ks).le k=true->RpK p H0 own Hb H2 vs ks->Rps (okK p H0 own Hb (joins ks)) H2 vs (ks.map (·.2))
 | _,_,_,_,.nil=>.nil
 | _,kd::ks,k,e,.cons h t=>by
  have j:=dM kd.1 (joins ks)
  exact .cons (jT A j.1 h) ((RpK.all A (k:=joins ks) (by cases joins ks <;> simp [Kd.le]) t).mono (fun a o=>bM A j.2 o) (fun _ _ _ e=>e) fun _ _ e=>e)
theorem Kd.le_refl (k:Kd):k.le k=true:=by cases k <;> simp [Kd.le]
theorem RpK.length {p:Pn}{H0 Hb H2:Hp}{own:Addr->Option Nat}:∀ {vs:List V}{ks:List (Kd×D)},RpK p H0 own Hb H2 vs ks->vs.length=ks.length
 | _,_,.nil=>rfl
 | _,_,.cons _ t=>by rw [õ,õ,RpK.length t]
def Kq (t:DA):DE:=fun ρ P=>t ρ fun ks=>ks.length<=1000/\P ((joins ks).join .new) (.list (ks.map (·.2)))
def oJ (t:DA):DE:=fun ρ P=>t ρ fun ks=>ks.length<=1000/\P (norm (joins ks) (.tuple (ks.map (·.2)))) (.tuple (ks.map (·.2)))
theorem tQ (h:PDA X es t):PD X (.List es pos) (Kq t):=PE.wk (yu h) (by
 rintro σ H Q ⟨p,H0,own,ρ,P,E,t,q⟩
 refine⟨p,H0,own,ρ,_,E,t,fun ks vs H1 h A r=>?_⟩
 have h24:=ç
 have hl:=r.length
 refine⟨by have:=h.1; omega,fun l hl=>?_⟩
 obtain⟨k2,i2,nw⟩:=A.new hl (.lst vs)
 have j:=dM (joins ks) .new
 refine q _ _ _ _ h.2 (A.go k2 i2) (.lst (bM A j.2 nw) ao ?_)
 exact (cC A k2 (RpK.all A (Kd.le_refl _) r)).mono (fun a o=>bM A j.1 o) (fun _ _ _ e=>e) fun _ _ e=>e)
theorem oZ {x1} (h:PDA X es t):PD X (.Tuple es x1 pos) (oJ t):=PE.wk (Mu h) (by
 rintro σ H Q ⟨p,H0,own,ρ,P,E,t,q⟩
 refine⟨p,H0,own,ρ,_,E,t,fun ks vs H1 h A r=>?_⟩
 have h24:=ç
 have hl:=r.length
 refine⟨by have:=h.1; omega,fun l hl=>?_⟩
 obtain⟨k2,i2,nw⟩:=A.new hl (.tup vs)
 exact q _ _ _ _ h.2 (A.go k2 i2) (bA (.tup ao (cC A k2 (RpK.all A (Kd.le_refl _) r)))))
abbrev GC:=List (Kd×D)->DK->Prop
def tCl (g:GC) (t:DA):DE:=fun ρ P=>t ρ fun ks=>g ks P
def OkC (g:GC) (r:List V->Hp->VK->Prop):Prop:=∀ p H0 own Hb H vs ks P Q,At p H0 own Hb H->RpK p H0 own Hb H vs ks->g ks P ->
 (∀ k d v H',P k d->Kp p H H'->p.PI H'->Rp (okK p H0 own Hb k) H' v d->Q v H')->r vs H Q
theorem K1 {g:GC}{r:List V->Hp->VK->Prop} (ok:OkC g r):∀ σ H Q,bH (tCl g t) σ H Q->tCB r (cY t) σ H Q:=by
 rintro σ H Q ⟨p,H0,own,ρ,P,E,t,q⟩
 refine⟨p,H0,own,ρ,_,E,t,fun ks vs H1 h A r=>?_⟩
 exact ok p H0 own H H1 vs ks P Q A r h fun k d v H' h2 k2 i2 r2=>q k d v H' h2 (A.go k2 i2) r2
theorem cH {r:List V->Hp->VK->Prop}{id:String}{x:Str}{ps:Pos}{g:GC} (hc:bx X (.builtin id) r) (ok:OkC g r) (hg:Gl X x) (hm:X.mg x=none) (hv:bootBuiltins x=some (.builtin id)) (ha:PDA X (e::es) t) (hn:x≠"__name__":=by decide) (hdb:zB x:=by decide)
  (he:zS X e es:=by rfl) (hpl:zP X pos es:=by rfl):PD X (.Call (.Name x ps) (e::es) [] pos) (tCl g t):=PE.wk (cG hc hg hm hv ha hn hdb he hpl) (K1 ok)
theorem pF {r:List V->Hp->VK->Prop}{id:String}{x:Str}{ps:Pos}{g:GC} (hc:bx X (.type id) r) (ok:OkC g r) (hg:Gl X x) (hm:X.mg x=none) (hv:bootBuiltins x=some (.type id)) (ha:PDA X (e::es) t) (hn:x≠"__name__":=by decide) (hdb:zB x:=by decide)
  (he:zS X e es:=by rfl) (hpl:zP X pos es:=by rfl):PD X (.Call (.Name x ps) (e::es) [] pos) (tCl g t):=PE.wk (rB hc hg hm hv ha hn hdb he hpl) (K1 ok)
def spD (t:List D->(D->Prop)->Prop):Sp:=fun vs H Q _=>∃ ds P,Rps (fun _=>True) H vs ds/\t ds P/\∀ d v H',P d->Same H H'->Rp (fun a=>H a=none) H' v d->Q v H'
def spP (C:Pn->Prop) (t:List D->(D->Prop)->Prop):Sp:=fun vs H Q _=>∃ p vs' ds P,C p/\vs=p.pv::vs'/\p.PI H/\Rps (fun a=>¬ p.fp a) H vs' ds/\t ds P/\∀ d v H',P d->Kp p H H'->p.PI H'->Rp (fun a=>H a=none) H' v d->Q v H'
def tFn (f:List D->(D->Prop)->Prop) (t:DA):DE:=fun ρ P=>t ρ fun ks=>f (ks.map (·.2)) fun d=>P (norm .new d) d
theorem RpK.rps {p:Pn}{H0 Hb H H2:Hp}{own:Addr->Option Nat} (A:At p H0 own Hb H):∀ {vs:List V}{ks:List (Kd×D)},RpK p H0 own Hb H2 vs ks->Rps (fun a=>¬ p.fp a) H2 vs (ks.map (·.2))
 | _,_,.nil=>.nil
 | _,_,.cons h t=>.cons (h.mono (fun a o=>j6 A o) (fun _ _ _ e=>e) fun _ _ e=>e) (RpK.rps A t)
theorem JH {f:List D->(D->Prop)->Prop}:∀ σ H Q,bH (tFn f t) σ H Q->Aj (spD f) [] E0 (cY t) σ H Q:=by
 rintro σ H Q ⟨p,H0,own,ρ,P,E,t,q⟩
 refine⟨p,H0,own,ρ,_,E,t,fun ks vs H1 h A r=>?_⟩
 show spD f (vs++[]) H1 Q E0
 rw [ğ]
 refine⟨ks.map (·.2),_,(RpK.rps A r).mono (fun _ _=>trivial) (fun _ _ _ e=>e) fun _ _ e=>e,h,fun d v H' h2 s r2=>?_⟩
 have k2:Kp p H1 H':=Kp.of s
 refine q _ d v H' h2 (A.go k2 (p.mono H1 H' A.pen fun b o _ e=>s b o e)) (bA ?_)
 exact r2.mono (fun a o=>A.free o) (fun _ _ _ e=>e) fun _ _ e=>e
def Cp (C:Pn->Prop) (f:List D->(D->Prop)->Prop) (i:Nat) (t:DA):DE:=fun ρ P=>ρ[i]?=some (.pen C)/\tFn f t ρ P
theorem GJ {C:Pn->Prop}{f:List D->(D->Prop)->Prop}{i:Nat}:∀ σ H Q,bH (Cp C f i t) σ H Q->Aj (spP C f) [] E0 (vA (fj i) (cY t)) σ H Q:=by
 rintro σ H Q ⟨p,H0,own,ρ,P,E,⟨hp,t⟩,q⟩
 obtain⟨hs,c⟩:=E.slot i _ hp
 refine⟨p.pv,hs,p,H0,own,ρ,_,E,t,fun ks vs H1 h A r=>?_⟩
 show spP C f ((p.pv::vs)++[]) H1 Q E0
 rw [ğ]
 refine⟨p,vs,ks.map (·.2),_,c,rfl,A.pen,RpK.rps A r,h,fun d v H' h2 k2 i2 r2=>?_⟩
 exact q _ d v H' h2 (A.go k2 i2) (bA (r2.mono (fun a o=>A.free o) (fun _ _ _ e=>e) fun _ _ e=>e))
def gI (C:Int->Int->Prop) (f:Int->Int->D):G2:=fun _ d1 _ d2 P=>match d1,d2 with
 | .int i,.int j=>C i j/\P .imm (f i j)
 | _,_=>False
def gI0 (f:Int->Int->D):G2:=fun _ d1 _ d2 P=>match d1,d2 with
 | .int i,.int j=>P .imm (f i j)
 | _,_=>False
theorem okI {C:Int->Int->Prop}{f:Int->Int->D}{g:Int->Int->V} (h:∀ i j H,Rp (fun _=>False) H (g i j) (f i j)):Ok2 (gI C f) (rI C g):=by
 intro p H0 own Hb H x y k1 d1 k2 d2 P Q A r1 r2 t q
 unfold gI at t
 split at t
 ·rename_i i j
  exact⟨i,j,r1.int',r2.int',t.1,q _ _ _ _ t.2 Kp.refl A.pen (h i j H)⟩
 ·exact t.elim
theorem Gs {f:Int->Int->D}{g:Int->Int->V} (h:∀ i j H,Rp (fun _=>False) H (g i j) (f i j)):Ok2 (gI0 f) (rI0 g):=by
 intro p H0 own Hb H x y k1 d1 k2 d2 P Q A r1 r2 t q
 unfold gI0 at t
 split at t
 ·rename_i i j
  exact⟨i,j,r1.int',r2.int',q _ _ _ _ t Kp.refl A.pen (h i j H)⟩
 ·exact t.elim
theorem gk (ha:PD X a ta) (hb:PD X b tb):PD X (.BinOp a .Sub b pos) (t2 (gI0 fun i j=>.int (i - j)) ta tb):=Bm MP (Gs fun i j _=>.int _) ha hb
theorem tL (ha:PD X a ta) (hb:PD X b tb):PD X (.BinOp a .Mod b pos) (t2 (gI (fun _ j=>0<j) fun i j=>.int (i % j)) ta tb):=Bm gq (okI fun i j _=>.int _) ha hb
theorem Gh (ha:PD X a ta) (hb:PD X b tb):PD X (.Compare a [.Gt] [b] pos) (t2 (gI0 fun i j=>.bool (decide (j<i))) ta tb):=tX Bo (Gs fun i j _=>.bl _) ha hb (dg _)
theorem yC (ha:PD X a ta) (hb:PD X b tb):PDT X (.Compare a [.Lt] [b] pos) (eE (t2 (gI0 fun i j=>.bool (decide (i<j))) ta tb)):=gj Gj (Gs fun i j _=>.bl _) ha hb (dg _)
theorem tu (ha:PD X a ta) (hb:PD X b tb):PDT X (.Compare a [.Gt] [b] pos) (eE (t2 (gI0 fun i j=>.bool (decide (j<i))) ta tb)):=gj Bo (Gs fun i j _=>.bl _) ha hb (dg _)
theorem yD (ha:PD X a ta) (hb:PD X b tb):PDT X (.Compare a [.GtE] [b] pos) (eE (t2 (gI0 fun i j=>.bool (decide (j<=i))) ta tb)):=gj KD (Gs fun i j _=>.bl _) ha hb (dg _)
def scD:D->D->Option Bool
 | .int i,.int j=>some (decide (i=j))
 | .bool i,.bool j=>some (decide (i=j))
 | .str i,.str j=>some (decide (i=j))
 | _,_=>none
def gEq (neg:Bool):G2:=fun _ d1 _ d2 P=>match scD d1 d2 with
 | some b=>P .imm (.bool (if neg then !b else b))
 | none=>False
theorem QV:Ok2 (gEq false) rEq:=by
 intro p H0 own Hb H x y k1 d1 k2 d2 P Q A r1 r2 t q
 unfold gEq scD at t
 split at t
 ·rename_i b e
  split at e <;> first | cases e | skip
  ·rw [r1.int',r2.int']
   refine⟨rfl,?_⟩
   have e2:∀ i j:Int,decide (V.int i=V.int j)=decide (i=j):=fun i j=>by simp
   rw [e2]; exact q _ _ _ _ t Kp.refl A.pen (.bl _)
  ·rw [r1.bl',r2.bl']
   refine⟨rfl,?_⟩
   have e2:∀ i j:Bool,decide (V.bl i=V.bl j)=decide (i=j):=fun i j=>by simp
   rw [e2]; exact q _ _ _ _ t Kp.refl A.pen (.bl _)
  ·rw [r1.str',r2.str']
   refine⟨rfl,?_⟩
   have e2:∀ i j:Str,decide (V.str i=V.str j)=decide (i=j):=fun i j=>by simp
   rw [e2]; exact q _ _ _ _ t Kp.refl A.pen (.bl _)
 ·exact t.elim
theorem QT:Ok2 (gEq true) rNe:=by
 intro p H0 own Hb H x y k1 d1 k2 d2 P Q A r1 r2 t q
 unfold gEq scD at t
 split at t
 ·rename_i b e
  split at e <;> first | cases e | skip
  ·rw [r1.int',r2.int']
   refine⟨rfl,?_⟩
   have e2:∀ i j:Int,decide (V.int i=V.int j)=decide (i=j):=fun i j=>by simp
   rw [e2]; exact q _ _ _ _ t Kp.refl A.pen (.bl _)
  ·rw [r1.bl',r2.bl']
   refine⟨rfl,?_⟩
   have e2:∀ i j:Bool,decide (V.bl i=V.bl j)=decide (i=j):=fun i j=>by simp
   rw [e2]; exact q _ _ _ _ t Kp.refl A.pen (.bl _)
  ·rw [r1.str',r2.str']
   refine⟨rfl,?_⟩
   have e2:∀ i j:Str,decide (V.str i=V.str j)=decide (i=j):=fun i j=>by simp
   rw [e2]; exact q _ _ _ _ t Kp.refl A.pen (.bl _)
 ·exact t.elim
def gIx:G2:=fun k1 d1 _ d2 P=>match d1,d2 with
 | .list ds,.int i=>∃ d,atI ds i=some d/\P (norm k1 d) d
 | .tuple ds,.int i=>∃ d,atI ds i=some d/\P (norm k1 d) d
 | _,_=>False
theorem Rps.atI {ok:Addr->Prop}{H:Hp}{vs:List V}{ds:List D}{i:Int}{d:D} (r:Rps ok H vs ds) (h:L2.atI ds i=some d):∃ v,L2.atI vs i=some v/\Rp ok H v d:=by
 unfold L2.atI at h ⊢
 rw [r.length]
 cases e:ixN ds.length i with
 | none=>rw [e] at h; cases h
 | some j =>
  rw [e] at h
  obtain⟨v,h1,h2⟩:=r.getD (i:=j) (d:=d) h
  exact⟨v,h1,h2⟩
theorem cD {p:Pn}{H0 Hb H:Hp}{own:Addr->Option Nat}{vs:List V}{kd:Kd×D} (r:RpK p H0 own Hb H vs [kd]):∃ v,vs=[v]/\Rp (okK p H0 own Hb kd.1) H v kd.2:=by
 cases r with
 | cons h t=>cases t; exact⟨_,rfl,h⟩
theorem Iz {p:Pn}{H0 Hb H:Hp}{own:Addr->Option Nat}{vs:List V}{kd ke:Kd×D} (r:RpK p H0 own Hb H vs [kd,ke]):∃ v w,vs=[v,w]/\Rp (okK p H0 own Hb kd.1) H v kd.2/\Rp (okK p H0 own Hb ke.1) H w ke.2:=by
 cases r with
 | cons h t =>
  cases t with
  | cons h2 t2=>cases t2; exact⟨_,_,rfl,h,h2⟩
def JV:GC:=fun ks P=>match ks with
 | [(_,.list ds)]=>P .imm (.int ds.length)
 | [(_,.tuple ds)]=>P .imm (.int ds.length)
 | _=>False
theorem PK {K:â}:OkC JV (fun xs H Q=>∃ p ys,xs=[.ref p]/\(SqL K H p ys\/SqT K H p ys)/\Q (.int ys.length) H):=by
 intro p H0 own Hb H vs ks P Q A r t q
 unfold JV at t
 split at t
 ·obtain⟨v,rfl,r'⟩:=cD r
  obtain⟨c,vs,rfl,o,hc,rs⟩:=r'.bF
  exact⟨c,vs,rfl,.inl (SqL.of hc),by rw [rs.length]; exact q _ _ _ _ t Kp.refl A.pen (.int _)⟩
 ·obtain⟨v,rfl,r'⟩:=cD r
  obtain⟨c,vs,rfl,hc,rs⟩:=r'.cR
  exact⟨c,vs,rfl,.inr (SqT.of hc),by rw [rs.length]; exact q _ _ _ _ t Kp.refl A.pen (.int _)⟩
 ·exact t.elim
theorem yG {ps:Pos} (hm:X.mg "len"=none) (ha:PDA X [a] t) (hg:Gl X "len":=by rfl) (he:zS X a []:=by rfl) (hpl:zP X pos []:=by rfl):PD X (.Call (.Name "len" ps) [a] [] pos) (tCl JV t) :=
 cH dR PK hg hm PySem.boot_len ha (by decide) (by decide) he hpl
def NK:GC:=fun ks P=>match ks with
 | [(_,.int i)]=>P .imm (.int i)
 | [(_,.bool b)]=>P .imm (.int (if b then 1 else 0))
 | _=>False
theorem nZ {ps:Pos} (hm:X.mg "int"=none) (hv:bootBuiltins "int"=some (.type "int")) (ha:PDA X [a] t) (hg:Gl X "int":=by rfl) (he:zS X a []:=by rfl) (hpl:zP X pos []:=by rfl):PD X (.Call (.Name "int" ps) [a] [] pos) (tCl NK t) :=
 pF Ef (by
  intro p H0 own Hb H vs ks P Q A r t q
  unfold NK at t
  split at t
  ·rename_i k i
   obtain⟨v,rfl,r'⟩:=cD r
   rw [r'.int']
   exact .inl ⟨i,rfl,q _ _ _ _ t Kp.refl A.pen (.int _)⟩
  ·rename_i k i
   obtain⟨v,rfl,r'⟩:=cD r
   rw [r'.bl']
   exact .inr ⟨i,rfl,q _ _ _ _ t Kp.refl A.pen (.int _)⟩
  ·exact t.elim) hg hm hv ha (by decide) (by decide) he hpl
end
variable [Gr]
section
variable {ok ok':Addr->Prop}{H H':Hp}
mutual
theorem Rp.bR (f:∀ a o,ok a->H a=some o->ok' a/\H' a=some o) (t:∀ a xs,H a=some (.tup xs)->H' a=some (.tup xs)):∀ {v:V}{d:D},Rp ok H v d->Rp ok' H' v d
 | _,_,.non=>.non
 | _,_,.bl b=>.bl b
 | _,_,.int i=>.int i
 | _,_,.str x=>.str x
 | _,_,.lst o h r=>.lst (f _ _ o h).1 (f _ _ o h).2 (Rps.bR f t r)
 | _,_,.tup h r=>.tup (t _ _ h) (Rps.bR f t r)
 | _,_,.dct o h r=>.dct (f _ _ o h).1 (f _ _ o h).2 (Rkv.bR f t r)
theorem Rps.bR (f:∀ a o,ok a->H a=some o->ok' a/\H' a=some o) (t:∀ a xs,H a=some (.tup xs)->H' a=some (.tup xs)):∀ {v:List V}{d:List D},Rps ok H v d->Rps ok' H' v d
 | _,_,.nil=>.nil
 | _,_,.cons h r=>.cons (Rp.bR f t h) (Rps.bR f t r)
theorem Rkv.bR (f:∀ a o,ok a->H a=some o->ok' a/\H' a=some o) (t:∀ a xs,H a=some (.tup xs)->H' a=some (.tup xs)):∀ {v:List (Key×V)}{d:List (D×D)},Rkv ok H v d->Rkv ok' H' v d
 | _,_,.nil=>.nil
 | _,_,.cons h r=>.cons (Rp.bR f t h) (Rkv.bR f t r)
end
end
structure DEnds where
 nx:List Sl->Prop
 rt:D->Prop
 bk:List Sl->Prop:=fun _=>False
 ct:List Sl->Prop:=fun _=>False
abbrev DS:=DEnds->List Sl->Prop
structure FrS (p:Pn) (own:Addr->Option Nat) (H:Hp) (own':Addr->Option Nat) (H':Hp):Prop where
 keep:∀ b o,H b=some o->¬ p.fp b->own b=none->H' b=some o/\own' b=none
 tup:∀ a xs,H a=some (.tup xs)->H' a=some (.tup xs)
theorem FrS.trans {p:Pn}{o1 o2 o3:Addr->Option Nat}{H1 H2 H3:Hp} (a:FrS p o1 H1 o2 H2) (b:FrS p o2 H2 o3 H3):FrS p o1 H1 o3 H3:=⟨fun c o h n e=>let ⟨x,y⟩:=a.keep c o h n e; b.keep c o x n y,fun c xs e=>b.tup c xs (a.tup c xs e)⟩
theorem FrS.refl {p:Pn}{o1:Addr->Option Nat}{H1:Hp}:FrS p o1 H1 o1 H1:=⟨fun _ _ h _ e=>⟨h,e⟩,fun _ _ e=>e⟩
theorem At.tups {p:Pn}{H0 H H':Hp}{own:Addr->Option Nat} (A:At p H0 own H H'):∀ a xs,H a=some (.tup xs)->H' a=some (.tup xs):=iK (⟨A.k0,Kp.refl,A.penb,A.penb,A.ow⟩:At p H0 own H H) A.kp
structure RPost (p:Pn) (H0 H':Hp) (v:V) (d:D):Prop where
 k0:∀ b o,H0 b=some o->¬ p.fp b->H' b=some o
 pen:p.PI H'
 rp:Rp (fun a=>H0 a=none/\¬ p.fp a) H' v d
structure Wish (p:Pn) (H0:Hp) (own:Addr->Option Nat) (H:Hp) (P:DEnds) (Q:Ends):Prop where
 nx:∀ own' σ' H' ρ',EnvD p H0 own' σ' H' ρ'->FrS p own H own' H'->P.nx ρ'->Q.nx σ' H'
 rt:∀ d v H',P.rt d->RPost p H0 H' v d->Q.rt v H'
 bk:∀ own' σ' H' ρ',EnvD p H0 own' σ' H' ρ'->FrS p own H own' H'->P.bk ρ'->Q.bk σ' H'
 ct:∀ own' σ' H' ρ',EnvD p H0 own' σ' H' ρ'->FrS p own H own' H'->P.ct ρ'->Q.ct σ' H'
theorem Wish.go {p:Pn}{H0 H H':Hp}{own own':Addr->Option Nat}{P:DEnds}{Q:Ends} (w:Wish p H0 own H P Q) (f:FrS p own H own' H'):Wish p H0 own' H' P Q :=
 ⟨fun o s h r e g n=>w.nx o s h r e (f.trans g) n,w.rt,fun o s h r e g n=>w.bk o s h r e (f.trans g) n,fun o s h r e g n=>w.ct o s h r e (f.trans g) n⟩
def fP (t:DS):TS:=fun Q σ H=>∃ p H0 own ρ P,EnvD p H0 own σ H ρ/\t P ρ/\Wish p H0 own H P Q
abbrev PDS (X:Cx) (st:Stmt) (t:DS):Prop:=PS X st (fP t)
abbrev jc (X:Cx) (st:List Stmt) (t:DS):Prop:=PSs X st (fP t)
theorem PSs.wk' {X:Cx}{ss:List Stmt}{t t':TS} (h:PSs X ss t) (w:∀ D σ H,t' D σ H->t D σ H):PSs X ss t':=fun pins s σ H D I q=>h pins s σ H D I (w D σ H q)
theorem PS.wk' {X:Cx}{ss:Stmt}{t t':TS} (h:PS X ss t) (w:∀ D σ H,t' D σ H->t D σ H):PS X ss t':=fun pins s σ H D I q=>h pins s σ H D I (w D σ H q)
theorem At.frs {p:Pn}{H0 H H':Hp}{own:Addr->Option Nat} (A:At p H0 own H H'):FrS p own H own H':=⟨fun b o h n e=>⟨A.kp b o h n,e⟩,A.tups⟩
section
variable {X:Cx}{pos:Pos}{st:Stmt}{rest:List Stmt}{e:Expr}{te:DE}{t u:DS}
def HJ:DS:=fun P ρ=>P.nx ρ
def J3 (t u:DS):DS:=fun P ρ=>t { P with nx:=u P } ρ
theorem zH:jc X [] HJ:=PSs.wk' jW (by
 rintro Q σ H ⟨p,H0,own,ρ,P,E,t,w⟩
 exact w.nx own σ H ρ E FrS.refl t)
theorem uK (h1:PDS X st t) (h2:jc X rest u):jc X (st::rest) (J3 t u):=PSs.wk' (aO h1 h2) (by
 rintro Q σ H ⟨p,H0,own,ρ,P,E,t,w⟩
 exact⟨p,H0,own,ρ,_,E,t,⟨fun o s h r e g n=>⟨p,H0,o,r,P,e,n,w.go g⟩,w.rt,w.bk,w.ct⟩⟩)
theorem zG (h1:PDS X st t):jc X [st] t:=jf h1
theorem qj:PDS X st (fun _ _=>False):=PS.wk' Fz (by
 rintro Q σ H ⟨p,H0,own,ρ,P,E,t,w⟩
 exact t)
def HD (te:DE):DS:=fun P ρ=>te ρ fun k d=>k.le .n0=true/\P.rt d
theorem zE (he:PD X e te):PDS X (.Return (some e) pos) (HD te):=PS.wk' (sY he) (by
 rintro Q σ H ⟨p,H0,own,ρ,P,E,t,w⟩
 refine⟨p,H0,own,ρ,_,E,t,fun k d v H' h A r=>w.rt d v H' h.2 ⟨fun b o e n=>A.kp b o (A.k0 b o e n) n,A.pen,?_⟩⟩
 exact jT A h.1 r)
def dIf (c:DT) (t u:DS):DS:=fun P ρ=>c ρ fun b=>if b=true then t P ρ else u P ρ
theorem Hw {c:Expr}{a b:List Stmt}{tc:DT} (hc:PDT X c tc) (ha:jc X a t) (hb:jc X b u):PDS X (.If c a b pos) (dIf tc t u):=PS.wk' (vO hc ha hb) (by
 rintro Q σ H ⟨p,H0,own,ρ,P,E,t,w⟩
 refine⟨p,H0,own,ρ,_,E,t,fun b H' h A=>?_⟩
 cases b with
 | true=>exact bJ ⟨p,H0,own,ρ,P,E.go A.kp A.pen,by simpa using h,w.go A.frs⟩
 | false=>exact aW ⟨p,H0,own,ρ,P,E.go A.kp A.pen,by simpa using h,w.go A.frs⟩)
def La (te:DE):DS:=fun P ρ=>te ρ fun _ _=>P.nx ρ
theorem uJ (he:PD X e te) (hs:swapsWith e none pos.line X.env=pure false:=by rfl):PDS X (.Expr e pos) (La te):=PS.wk' (dD he hs) (by
 rintro Q σ H ⟨p,H0,own,ρ,P,E,t,w⟩
 exact⟨p,H0,own,ρ,_,E,t,fun k d v H' h A r=>w.nx own σ H' ρ (E.go A.kp A.pen) A.frs h⟩)
def Sl.region:Sl->Option Nat
 | .dw r _=>some r
 | .rw r _=>some r
 | .tw r _=>some r
 | .sp r _ _=>some r
 | _=>none
def p8 (r:Nat) (ρ:List Sl) (i:Nat):Bool:=(ρ.set i .any).all fun s=>s.region != some r
def stK (rg:Option Nat) (ρ:List Sl) (i:Nat) (k:Kd) (d:D):Option Sl:=match k with
 | .imm=>some (.im d)
 | .new=>match rg with
  | some r=>if p8 r ρ i=true then some (.dw r d) else none
  | none=>some (.sn d)
 | .reg r=>some (.dw r d)
 | .snw=>some (.sn d)
 | .shr=>some (.sh d)
 | _=>none
def DN (i:Nat) (rg:Option Nat) (te:DE):DS:=fun P ρ=>te ρ fun k d=>match stK rg ρ i (norm k d) d with
 | some s=>P.nx (ρ.set i s)
 | none=>False
section
variable {p:Pn}{H0 H H1:Hp}{own:Addr->Option Nat}{σ:L2.St}{ρ:List Sl}{i:Nat}
theorem EnvD.set {v:V}{s:Sl} (E:EnvD p H0 own σ H ρ) (hs:i<σ.length->iY p H0 own (σ.set i (some v)) H i s):EnvD p H0 own (σ.set i (some v)) H (ρ.set i s):=by
 refine⟨E.k0,E.pen,E.ow,fun j s' e=>?_,by simpa using E.len,E.gr⟩
 by_cases hj:j=i
 ·subst hj
  have hl:j<ρ.length:=by
   have:=(É.mp e).1
   simpa using this
  rw [đ hl] at e
  cases e
  exact hs (by rw [← E.len]; exact hl)
 ·rw [Ē (č hj)] at e
  have q:=E.slot j s' e
  have eq:(σ.set i (some v))[j]?=σ[j]?:=Ē (č hj)
  cases s' <;> simp only [iY,eq] at q ⊢ <;> exact q
def bY (r:Nat) (H H1:Hp) (own:Addr->Option Nat):Addr->Option Nat:=fun a=>match H a,H1 a with
 | none,some _=>some r
 | _,_=>own a
theorem bD {r:Nat}{a:Addr}{o:HO} (h:H a=some o):bY r H H1 own a=own a:=by unfold bY; rw [h]
theorem jm {r:Nat}{a:Addr}{o:HO} (h:H a=none) (h1:H1 a=some o):bY r H H1 own a=some r:=by unfold bY; rw [h,h1]
theorem EnvD.adopt (r:Nat) (E:EnvD p H0 own σ H ρ) (A:At p H0 own H H1):EnvD p H0 (bY r H H1 own) σ H1 ρ:=by
 have tp:=iK E.at A.kp
 refine⟨fun b o e n=>A.kp b o (E.k0 b o e n) n,A.pen,fun a q e=>?_,fun j s e=>?_,E.len,E.gr⟩
 ·cases h:H a with
  | some o =>
   rw [bD h] at e
   obtain⟨x,y,z⟩:=E.ow a q e
   refine⟨x,y,by rw [A.kp a o h y]; exact fun z=>nomatch z⟩
  | none =>
   cases h1:H1 a with
   | none =>
    have e':own a=some q:=by rw [← e]; unfold bY; rw [h,h1]
    exact absurd h (E.ow a q e').2.2
   | some o=>exact⟨E.at.h0 h,E.at.nfb h,fun z=>nomatch z⟩
 ·have q:=E.slot j s e
  cases s with
  | any=>trivial
  | im d=>exact let ⟨v,a,b⟩:=q; ⟨v,a,b.mono (fun _ o=>o) (fun _ _ o=>o.elim) tp⟩
  | sh d=>exact let ⟨v,a,b⟩:=q; ⟨v,a,b.bR (fun c o n h=>⟨⟨n.1,by rw [bD h]; exact n.2⟩,A.kp c o h n.1⟩) tp⟩
  | sn d=>exact let ⟨v,a,b⟩:=q; ⟨v,a,b.bR (fun c o n h=>⟨⟨n.1,n.2.1,by rw [bD h]; exact n.2.2⟩,A.kp c o h n.2.1⟩) tp⟩
  | dw r' d=>exact let ⟨v,a,b⟩:=q; ⟨v,a,b.bR (fun c o n h=>⟨by rw [bD h]; exact n,A.kp c o h (E.ow c r' n).2.1⟩) tp⟩
  | pen C=>exact q
  | rw r' L=>exact let ⟨st,as,a,b⟩:=q; ⟨st,as,a,b.mono (fun c o n h=>⟨by rw [bD h]; exact n,A.kp c o h (E.ow c r' n).2.1⟩) tp⟩
  | tw r' L=>exact let ⟨st,as,a,b⟩:=q; ⟨st,as,a,b.mono (fun c o n h=>⟨by rw [bD h]; exact n,A.kp c o h (E.ow c r' n).2.1⟩) tp⟩
  | scr v b=>exact q
  | sp r' b ds=>exact let ⟨l,vs,a,o,h,z⟩:=q; ⟨l,vs,a,by rw [bD h]; exact o,A.kp l _ h (E.ow l r' o).2.1,z.bR (fun c u n e=>⟨⟨n.1,n.2.1,by rw [bD e]; exact n.2.2⟩,A.kp c u e n.2.1⟩) tp⟩
theorem Ie {r:Nat}{k:Kd}{v:V}{d:D} (h:k.le .new=true) (A:At p H0 own H H1) (x:Rp (okK p H0 own H k) H1 v d):Rp (fun a=>bY r H H1 own a=some r) H1 v d :=
 (jT A h x).bR (fun a o n e=>⟨jm n e,e⟩) fun _ _ e=>e
theorem mW {r:Nat} (A:At p H0 own H H1):FrS p own H (bY r H H1 own) H1:=⟨fun b o h n e=>⟨A.kp b o h n,by rw [bD h]; exact e⟩,A.tups⟩
theorem EnvD.drop (E:EnvD p H0 own σ H ρ):EnvD p H0 own σ H (ρ.set i .any):=by
 refine⟨E.k0,E.pen,E.ow,fun j s' e=>?_,by simpa using E.len,E.gr⟩
 by_cases hj:j=i
 ·subst hj
  have hl:j<ρ.length:=by
   have:=(É.mp e).1
   simpa using this
  rw [đ hl] at e
  cases e
  trivial
 ·rw [Ē (č hj)] at e
  exact E.slot j s' e
def aM (r:Nat) (own:Addr->Option Nat):Addr->Option Nat:=fun a=>if own a=some r then none else own a
theorem EnvD.clear {r:Nat} (E:EnvD p H0 own σ H ρ) (h:ρ.all (fun s=>s.region != some r)=true):EnvD p H0 (aM r own) σ H ρ:=by
 refine⟨E.k0,E.pen,fun a q e=>?_,fun j s e=>?_,E.len,E.gr⟩
 ·unfold aM at e
  split at e
  ·cases e
  ·exact E.ow a q e
 ·have q:=E.slot j s e
  have z:=Ŗ.mp h s (Æ e)
  have c0:∀ a,own a=none->aM r own a=none:=fun a n=>by unfold aM; rw [n]; simp
  cases s with
  | any=>trivial
  | im d=>exact q
  | sh d=>exact let ⟨v,a,b⟩:=q; ⟨v,a,b.mono (fun c n=>⟨n.1,c0 c n.2⟩) (fun _ _ _ e=>e) fun _ _ e=>e⟩
  | sn d=>exact let ⟨v,a,b⟩:=q; ⟨v,a,b.mono (fun c n=>⟨n.1,n.2.1,c0 c n.2.2⟩) (fun _ _ _ e=>e) fun _ _ e=>e⟩
  | dw r' d =>
   have hne:r'≠r:=by simpa [Sl.region] using z
   exact let ⟨v,a,b⟩:=q; ⟨v,a,b.mono (fun c n=>by unfold aM; rw [n,if_neg (by simpa using hne)]) (fun _ _ _ e=>e) fun _ _ e=>e⟩
  | pen C=>exact q
  | rw r' L =>
   have hne:r'≠r:=by simpa [Sl.region] using z
   exact let ⟨st,as,a,b⟩:=q; ⟨st,as,a,b.mono (fun c o n e=>⟨by unfold aM; rw [n,if_neg (by simpa using hne)],e⟩) fun _ _ e=>e⟩
  | tw r' L =>
   have hne:r'≠r:=by simpa [Sl.region] using z
   exact let ⟨st,as,a,b⟩:=q; ⟨st,as,a,b.mono (fun c o n e=>⟨by unfold aM; rw [n,if_neg (by simpa using hne)],e⟩) fun _ _ e=>e⟩
  | scr v b=>exact q
  | sp r' b ds =>
   have hne:r'≠r:=by simpa [Sl.region] using z
   exact let ⟨l,vs,a,o,h,y⟩:=q; ⟨l,vs,a,by unfold aM; rw [o,if_neg (by simpa using hne)],h,y.mono (fun c n=>⟨n.1,n.2.1,c0 c n.2.2⟩) (fun _ _ _ e=>e) fun _ _ e=>e⟩
theorem fW {r:Nat}:FrS p own H (aM r own) H:=⟨fun b o h n e=>⟨h,by unfold aM; rw [e]; simp⟩,fun _ _ e=>e⟩
end
theorem qe {i:Nat} (rg:Option Nat) (h:PS X st (qJ (bH te) (gQ i))):PDS X st (DN i rg te):=PS.wk' h (by
 rintro Q σ H ⟨p,H0,own,ρ,P,E,t,w⟩
 refine⟨p,H0,own,ρ,_,E,t,fun k d v H1 h A r=>?_⟩
 have r:=bA r
 generalize norm k d=k' at h r
 show Q.nx (σ.set i (some v)) H1
 have E1:=E.go A.kp A.pen
 have fin:∀ s,iY p H0 own (σ.set i (some v)) H1 i s\/¬ i<σ.length->P.nx (ρ.set i s)->Q.nx (σ.set i (some v)) H1:=fun s hs hn =>
  w.nx own _ H1 _ (E1.set fun hl=>hs.elim id fun z=>absurd hl z) A.frs hn
 have here:i<σ.length->(σ.set i (some v))[i]?=some (some v):=fun hl=>đ hl
 by_cases hl:i<σ.length
 ·cases k' with
  | imm=>exact fin (.im d) (.inl ⟨v,here hl,r⟩) h
  | new =>
   cases rg with
   | none=>exact fin (.sn d) (.inl ⟨v,here hl,jT A (k:=.snw) rfl r⟩) h
   | some q =>
    simp only [stK] at h
    by_cases hf:p8 q ρ i=true
    ·rw [if_pos hf] at h
     have E2:EnvD p H0 (aM q own) σ H (ρ.set i .any):=(E.drop (i:=i)).clear hf
     have A2:At p H0 (aM q own) H H1:=⟨A.k0,A.kp,A.penb,A.pen,E2.ow⟩
     have E3:=E2.adopt q A2
     have r2:Rp (okK p H0 (aM q own) H .new) H1 v d:=r
     have E4:EnvD p H0 (bY q H H1 (aM q own)) (σ.set i (some v)) H1 ((ρ.set i .any).set i (.dw q d)):=E3.set fun _=>⟨v,here hl,Ie (k:=.new) rfl A2 r2⟩
     rw [List.set_set] at E4
     exact w.nx _ _ H1 _ E4 (fW.trans (mW A2)) h
    ·rw [if_neg hf] at h
     exact h.elim
  | reg q=>exact fin (.dw q d) (.inl ⟨v,here hl,r⟩) h
  | n0=>exact h.elim
  | snw=>exact fin (.sn d) (.inl ⟨v,here hl,r⟩) h
  | shr=>exact fin (.sh d) (.inl ⟨v,here hl,r⟩) h
  | wk=>exact h.elim
 ·cases hs:stK rg ρ i k' d with
  | none=>rw [hs] at h; exact h.elim
  | some s=>rw [hs] at h; exact fin s (.inr hl) h)
end
variable [Gr]
section
variable {ok ok':Addr->Prop}{H:Hp}
mutual
theorem Rp.inj:∀ {v:V}{d d':D},Rp ok H v d->Rp ok' H v d'->d=d'
 | _,_,_,.non,.non=>rfl
 | _,_,_,.bl b,.bl _=>rfl
 | _,_,_,.int i,.int _=>rfl
 | _,_,_,.str x,.str _=>rfl
 | _,_,_,.lst o h r,.lst o' h' r'=>by
  rw [h] at h'; cases h'
  rw [Rps.inj r r']
 | _,_,_,.lst o h r,.tup h' r'=>by rw [h] at h'; cases h'
 | _,_,_,.lst o h r,.dct o' h' r'=>by rw [h] at h'; cases h'
 | _,_,_,.tup h r,.lst o' h' r'=>by rw [h] at h'; cases h'
 | _,_,_,.tup h r,.tup h' r'=>by
  rw [h] at h'; cases h'
  rw [Rps.inj r r']
 | _,_,_,.tup h r,.dct o' h' r'=>by rw [h] at h'; cases h'
 | _,_,_,.dct o h r,.lst o' h' r'=>by rw [h] at h'; cases h'
 | _,_,_,.dct o h r,.tup h' r'=>by rw [h] at h'; cases h'
 | _,_,_,.dct o h r,.dct o' h' r'=>by
  rw [h] at h'; cases h'
  rw [Rkv.inj r r']
theorem Rps.inj:∀ {v:List V}{d d':List D},Rps ok H v d->Rps ok' H v d'->d=d'
 | _,_,_,.nil,.nil=>rfl
 | _,_,_,.cons h t,.cons h' t'=>by rw [Rp.inj h h',Rps.inj t t']
theorem Rkv.inj:∀ {v:List (Key×V)}{d d':List (D×D)},Rkv ok H v d->Rkv ok' H v d'->d=d'
 | _,_,_,.nil,.nil=>rfl
 | _,_,_,.cons h t,.cons h' t'=>by rw [Rp.inj h h',Rkv.inj t t']
end
variable {l:Addr}{T:D}
mutual
theorem Rp.avoid (h0:Rp ok' H (.ref l) T):∀ {v:V}{d:D},Rp ok H v d->sizeOf d<sizeOf T->Rp (fun a=>ok a/\a≠l) H v d
 | _,_,.non,_=>.non
 | _,_,.bl b,_=>.bl b
 | _,_,.int i,_=>.int i
 | _,_,.str x,_=>.str x
 | _,_,.lst (ds:=ds) o h r,s=>.lst ⟨o,fun z=>by
   subst z
   have e:=Rp.inj (Rp.lst o h r) h0
   rw [e] at s
   exact absurd s (ď _)⟩ h (Rps.avoid h0 r (by simp only [PyData.list.sizeOf_spec] at s; omega))
 | _,_,.tup (ds:=ds) h r,s=>.tup h (Rps.avoid h0 r (by simp only [PyData.tuple.sizeOf_spec] at s; omega))
 | _,_,.dct (ds:=ds) o h r,s=>.dct ⟨o,fun z=>by
   subst z
   have e:=Rp.inj (Rp.dct o h r) h0
   rw [e] at s
   exact absurd s (ď _)⟩ h (Rkv.avoid h0 r (by simp only [PyData.dict.sizeOf_spec] at s; omega))
theorem Rps.avoid (h0:Rp ok' H (.ref l) T):∀ {v:List V}{d:List D},Rps ok H v d->sizeOf d<sizeOf T->Rps (fun a=>ok a/\a≠l) H v d
 | _,_,.nil,_=>.nil
 | _,_,.cons h t,s=>.cons (Rp.avoid h0 h (by simp only [List.cons.sizeOf_spec] at s; omega)) (Rps.avoid h0 t (by simp only [List.cons.sizeOf_spec] at s; omega))
theorem Rkv.avoid (h0:Rp ok' H (.ref l) T):∀ {v:List (Key×V)}{d:List (D×D)},Rkv ok H v d->sizeOf d<sizeOf T->Rkv (fun a=>ok a/\a≠l) H v d
 | _,_,.nil,_=>.nil
 | _,_,.cons h t,s=>.cons (Rp.avoid h0 h (by simp only [List.cons.sizeOf_spec,Prod.mk.sizeOf_spec] at s; omega)) (Rkv.avoid h0 t (by simp only [List.cons.sizeOf_spec] at s; omega))
end
end
def forget (r:Nat) (ρ:List Sl):List Sl:=ρ.map fun s=>if s.region=some r then .any else s
section
variable {p:Pn}{H0 H H1:Hp}{own:Addr->Option Nat}{σ:L2.St}{ρ:List Sl}{i:Nat}
theorem EnvD.write {r:Nat}{l:Addr}{u o':HO} (E:EnvD p H0 own σ H ρ) (hl:own l=some r) (ho:H l=some u) (hu:∀ xs,u≠.tup xs):EnvD p H0 own σ (upd H l o') (forget r ρ):=by
 have h0:=E.ow l r hl
 have tp:∀ a xs,H a=some (.tup xs)->upd H l o' a=some (.tup xs):=fun a xs e=>by
  rw [aj]; exact e
  intro z; subst z; rw [ho] at e; exact hu xs (Ù e)
 refine⟨fun b o e n=>?_,p.mono H _ E.pen fun b o f e=>?_,fun a q e=>?_,fun j s e=>?_,by unfold forget; rw [Á]; exact E.len,E.gr⟩
 ·rw [aj]; exact E.k0 b o e n
  intro z; subst z; rw [h0.1] at e; cases e
 ·rw [aj]; exact e
  intro z; subst z; exact h0.2.1 f
 ·obtain⟨x,y,z⟩:=E.ow a q e
  refine⟨x,y,?_⟩
  by_cases hh:a=l
  ·subst hh; rw [ao]; exact fun z=>nomatch z
  ·rw [aj hh]; exact z
 ·unfold forget at e
  rw [Ö] at e
  cases hr:ρ[j]? with
  | none=>rw [hr] at e; cases e
  | some s0 =>
   rw [hr] at e
   have e:=Ù e
   have q:=E.slot j s0 hr
   have ne:∀ c,own c≠some r->c≠l:=fun c n z=>by subst z; exact n hl
   cases s0 with
   | any=>simp only [Sl.region] at e; subst e; trivial
   | im d =>
    have e:Sl.im d=s:=e
    subst e
    exact let ⟨v,a,b⟩:=q; ⟨v,a,b.mono (fun _ o=>o) (fun _ _ o=>o.elim) tp⟩
   | sh d =>
    have e:Sl.sh d=s:=e
    subst e
    exact let ⟨v,a,b⟩:=q; ⟨v,a,b.mono (fun _ o=>o) (fun c o n e=>by rw [aj (ne c (by rw [n.2]; exact fun z=>nomatch z))]; exact e) tp⟩
   | sn d =>
    have e:Sl.sn d=s:=e
    subst e
    exact let ⟨v,a,b⟩:=q; ⟨v,a,b.mono (fun _ o=>o) (fun c o n e=>by rw [aj (ne c (by rw [n.2.2]; exact fun z=>nomatch z))]; exact e) tp⟩
   | dw r' d =>
    by_cases hrr:r'=r
    ·subst hrr
     have e:(if (some r':Option Nat)=some r' then Sl.any else Sl.dw r' d)=s:=e
     rw [if_pos rfl] at e
     subst e
     trivial
    ·have e:(if (some r':Option Nat)=some r then Sl.any else Sl.dw r' d)=s:=e
     rw [if_neg (by simpa using hrr)] at e
     subst e
     exact let ⟨v,a,b⟩:=q; ⟨v,a,b.mono (fun _ o=>o) (fun c o n e=>by rw [aj (ne c (by rw [n]; simpa using hrr))]; exact e) tp⟩
   | pen C =>
    have e:Sl.pen C=s:=e
    subst e
    exact q
   | scr v b =>
    have e:Sl.scr v b=s:=e
    subst e
    exact q
   | sp r' b ds =>
    by_cases hrr:r'=r
    ·subst hrr
     have e:(if (some r':Option Nat)=some r' then Sl.any else Sl.sp r' b ds)=s:=e
     rw [if_pos rfl] at e
     subst e
     trivial
    ·have e:(if (some r':Option Nat)=some r then Sl.any else Sl.sp r' b ds)=s:=e
     rw [if_neg (by simpa using hrr)] at e
     subst e
     exact let ⟨l',vs,a,o,h,y⟩:=q; ⟨l',vs,a,o,by rw [aj (ne l' (by rw [o]; simpa using hrr))]; exact h,y.mono (fun _ o=>o) (fun c o n e=>by rw [aj (ne c (by rw [n.2.2]; exact fun z=>nomatch z))]; exact e) tp⟩
   | rw r' L =>
    by_cases hrr:r'=r
    ·subst hrr
     have e:(if (some r':Option Nat)=some r' then Sl.any else Sl.rw r' L)=s:=e
     rw [if_pos rfl] at e
     subst e
     trivial
    ·have e:(if (some r':Option Nat)=some r then Sl.any else Sl.rw r' L)=s:=e
     rw [if_neg (by simpa using hrr)] at e
     subst e
     exact let ⟨st,as,a,b⟩:=q; ⟨st,as,a,b.mono (fun c o n e=>⟨n,by rw [aj (ne c (by rw [n]; simpa using hrr))]; exact e⟩) tp⟩
   | tw r' L =>
    by_cases hrr:r'=r
    ·subst hrr
     have e:(if (some r':Option Nat)=some r' then Sl.any else Sl.tw r' L)=s:=e
     rw [if_pos rfl] at e
     subst e
     trivial
    ·have e:(if (some r':Option Nat)=some r then Sl.any else Sl.tw r' L)=s:=e
     rw [if_neg (by simpa using hrr)] at e
     subst e
     exact let ⟨st,as,a,b⟩:=q; ⟨st,as,a,b.mono (fun c o n e=>⟨n,by rw [aj (ne c (by rw [n]; simpa using hrr))]; exact e⟩) tp⟩
theorem cQ {r:Nat}{l:Addr}{u o':HO} (hl:own l=some r) (ho:H l=some u) (hu:∀ xs,u≠.tup xs):FrS p own H own (upd H l o'):=by
 refine⟨fun b o h n e=>⟨?_,e⟩,fun a xs e=>?_⟩
 ·rw [aj]; exact h
  intro z; subst z; rw [hl] at e; cases e
 ·rw [aj]; exact e
  intro z; subst z; rw [ho] at e; exact hu xs (Ù e)
theorem EnvD.put {v:V}{s:Sl} (E:EnvD p H0 own σ H ρ) (hs:iY p H0 own σ H i s):EnvD p H0 own σ H (ρ.set i s):=by
 refine⟨E.k0,E.pen,E.ow,fun j s' e=>?_,by simpa using E.len,E.gr⟩
 by_cases hj:j=i
 ·subst hj
  have hl:j<ρ.length:=by
   have:=(É.mp e).1
   simpa using this
  rw [đ hl] at e
  cases e
  exact hs
 ·rw [Ē (č hj)] at e
  exact E.slot j s' e
theorem EnvD.sV {r:Nat}{l:Addr}{vs vs':List V}{ds ds':List D} (E:EnvD p H0 own σ H ρ) (A:At p H0 own H H1) (hv:σ[i]?=some (some (.ref l))) (hl:own l=some r) (ho:H l=some (.lst vs)) (rs:Rps (fun a=>own a=some r) H vs ds)
  (hs:∀ H2,(∀ {w:V}{d:D},Rp (fun a=>own a=some r) H w d->sizeOf d<sizeOf (Ĺ ds)->Rp (fun a=>bY r H H1 own a=some r) H2 w d)->(∀ {w:V}{d:D},Rp (okK p H0 own H .new) H1 w d->Rp (fun a=>bY r H H1 own a=some r) H2 w d)->Rps (fun a=>bY r H H1 own a=some r) H2 vs' ds') :
  EnvD p H0 (bY r H H1 own) σ (upd H1 l (.lst vs')) ((forget r ρ).set i (.dw r (.list ds')))/\FrS p own H (bY r H H1 own) (upd H1 l (.lst vs')):=by
 have h1:H1 l=some (.lst vs):=A.kp l _ ho (E.ow l r hl).2.1
 have hl':bY r H H1 own l=some r:=by rw [bD ho]; exact hl
 have E1:=(E.adopt r A).write (o':=.lst vs') hl' h1 (fun xs z=>nomatch z)
 have tp:∀ a xs,H1 a=some (.tup xs)->upd H1 l (.lst vs') a=some (.tup xs):=fun a xs e=>by
  rw [aj]; exact e
  intro z; subst z; rw [h1] at e; cases e
 refine⟨E1.put (v:=.ref l) ⟨.ref l,hv,.lst hl' ao (hs _ ?_ ?_)⟩,(mW A).trans (cQ hl' h1 fun xs z=>nomatch z)⟩
 ·intro w d x sz
  have x1:=Rp.avoid (Rp.lst (ok:=fun a=>own a=some r) hl ho rs) x sz
  exact x1.bR (fun a o n e=>⟨by rw [bD e]; exact n.1,by rw [aj n.2]; exact A.kp a o e (E.ow a r n.1).2.1⟩) fun a xs e=>tp a xs (iK E.at A.kp a xs e)
 ·intro w d x
  exact x.bR (fun a o n e=>⟨jm n e,by rw [aj (fun z=>by subst z; rw [ho] at n; cases n)]; exact e⟩) tp
end
section
variable {X:Cx}{pos:Pos}{st:Stmt}{e:Expr}{te:DE}{i:Nat}{ta:DA}
theorem fB {d:D}{ds:List D} (h:d∈ds):sizeOf d<sizeOf (Ĺ ds):=by
 have:=List.sizeOf_lt_of_mem h
 simp only [PyData.list.sizeOf_spec]
 omega
theorem jR {ok ok':Addr->Prop}{H H2:Hp}{T:D} (f:∀ {w:V}{d:D},Rp ok H w d->sizeOf d<sizeOf T->Rp ok' H2 w d):∀ {vs:List V}{ds:List D},Rps ok H vs ds->(∀ d∈ds,sizeOf d<sizeOf T)->Rps ok' H2 vs ds
 | _,_,.nil,_=>.nil
 | _,_,.cons h t,s=>.cons (f h (s _ Ï)) (jR f t fun d hd=>s d (Í _ hd))
def Og (i:Nat) (te:DE):DS:=fun P ρ=>match ρ[i]? with
 | some (.dw r (.list ds))=>te ρ fun k d=>(norm k d).le .new=true/\ds.length<1000/\P.nx ((forget r ρ).set i (.dw r (.list (ds++[d]))))
 | _=>False
theorem bL (h:PS X st (eN (tBM X.K "list" cF (fj i) (cY (aK te cB))))):PDS X st (Og i te):=PS.wk' h (by
 rintro Q σ H ⟨p,H0,own,ρ,P,E,t,w⟩
 unfold Og at t
 split at t
 ·rename_i r ds hr
  obtain⟨v,hv,x⟩:=E.slot i _ hr
  obtain⟨l,vs,rfl,hl,ho,rs⟩:=x.bF
  refine⟨.ref l,hv,.inl ⟨rfl,vs,SqL.of ho⟩,p,H0,own,ρ,fun ks=>∃ k d,ks=[(k,d)]/\(norm k d).le .new=true/\ds.length<1000/\P.nx ((forget r ρ).set i (.dw r (.list (ds++[d])))),E,?_,?_⟩
  ·show te ρ fun k d=>∃ k' d',[(k,d)]=[(k',d')]/\_
   have e:(fun k d=>∃ k' d',[((k,d):Kd×D)]=[(k',d')]/\(norm k' d').le .new=true/\ds.length<1000/\P.nx ((forget r ρ).set i (.dw r (.list (ds++[d'])))))=fun k d=>(norm k d).le .new=true/\ds.length<1000/\P.nx ((forget r ρ).set i (.dw r (.list (ds++[d])))):=by
    funext k d
    apply propext
    constructor
    ·rintro ⟨k',d',e,h⟩
     cases e
     exact h
    ·exact fun h=>⟨k,d,rfl,h⟩
   rw [e]
   exact t
  ·rintro ks ws H1 ⟨k,d,rfl,hk,hlen,hn⟩ A rk
   obtain⟨y,rfl,ry⟩:=cD rk
   have ry:=jT A hk (bA ry)
   have h1:H1 l=some (.lst vs):=A.kp l _ ho (E.ow l r hl).2.1
   have h24:=ç
   have hln:=rs.length
   refine⟨l,vs,y,rfl,rfl,h1,by omega,?_⟩
   obtain⟨E2,F2⟩:=E.sV (vs':=vs++[y]) (ds':=ds++[d]) A hv hl ho rs fun H2 f g=>(jR f rs fun d hd=>fB hd).snoc (g ry)
   exact w.nx _ σ _ _ E2 F2 hn
 ·exact t.elim)
end
variable [Gr]
abbrev DG:=Kd->D->List Sl->(List Sl->Prop)->Prop
abbrev DGs:=Kd->List D->List Sl->(List Sl->Prop)->Prop
def Ks (k:Kd) (d:D):Sl:=match k with
 | .imm=>.im d
 | .new=>.sn d
 | .reg r=>.dw r d
 | .snw=>.sn d
 | .shr=>.sh d
 | _=>.any
def okB (p:Pn) (H0:Hp) (own:Addr->Option Nat):Kd->Addr->Prop
 | .imm=>fun _=>False
 | .new=>fun a=>H0 a=none/\¬ p.fp a/\own a=none
 | .reg r=>fun a=>own a=some r
 | .snw=>fun a=>H0 a=none/\¬ p.fp a/\own a=none
 | .shr=>fun a=>¬ p.fp a/\own a=none
 | .n0=>fun _=>True
 | .wk=>fun _=>True
def GQ (g:DG):TG:=fun v σ H Q=>∃ p H0 own ρ k d P,EnvD p H0 own σ H ρ/\Rp (okB p H0 own k) H v d/\g k d ρ P/\∀ σ' ρ',EnvD p H0 own σ' H ρ'->P ρ'->Q σ' H
def mD (g:DGs):TGs:=fun vs σ H Q=>∃ p H0 own ρ k ds P,EnvD p H0 own σ H ρ/\Rps (okB p H0 own k) H vs ds/\g k ds ρ P/\∀ σ' ρ',EnvD p H0 own σ' H ρ'->P ρ'->Q σ' H
abbrev PDG (X:Cx) (e:Expr) (g:DG):Prop:=PG X e (GQ g)
theorem PG.wk {X:Cx}{e:Expr}{t t':TG} (h:PG X e t) (w:∀ v σ H Q,t' v σ H Q->t v σ H Q):PG X e t':=fun pins s σ H v u Q I r q=>h pins s σ H v u Q I r (w v σ H Q q)
theorem PGs.wk {X:Cx}{e:List Expr}{t t':TGs} (h:PGs X e t) (w:∀ v σ H Q,t' v σ H Q->t v σ H Q):PGs X e t':=fun pins s σ H v u Q I r q=>h pins s σ H v u Q I r (w v σ H Q q)
theorem g8 {p:Pn}{H0 H:Hp}{own:Addr->Option Nat}{k:Kd}{v:V}{d:D} (r:Rp (okB p H0 own k) H v d):Rp (okB p H0 own (norm k d)) H v d:=by
 by_cases h:eF d=true
 ·rw [iC h]; exact r.imm h
 ·rw [v7 h]; exact r
section
variable {X:Cx}{pos:Pos}{e:Expr}{es:List Expr}
def gNm (i:Nat):DG:=fun k d ρ P=>P (ρ.set i (Ks (norm k d) d))
theorem EY {p:Pn}{H0 H:Hp}{own:Addr->Option Nat}{σ:L2.St}{i:Nat}{k:Kd}{v:V}{d:D} (r:Rp (okB p H0 own k) H v d) (h:σ[i]?=some (some v)):iY p H0 own σ H i (Ks k d):=by
 cases k with
 | imm=>exact⟨v,h,r⟩
 | new=>exact⟨v,h,r⟩
 | reg q=>exact⟨v,h,r⟩
 | n0=>trivial
 | snw=>exact⟨v,h,r⟩
 | shr=>exact⟨v,h,r⟩
 | wk=>trivial
theorem uL {i:Nat}{x:Str} (h:PG X (.Name x pos) (gQ i)):PDG X (.Name x pos) (gNm i):=PG.wk h (by
 rintro v σ H Q ⟨p,H0,own,ρ,k,d,P,E,r,t,q⟩
 exact q _ _ (E.set fun hl=>EY (g8 r) (đ hl)) t)
def K4:DGs:=fun _ ds ρ P=>match ds with
 | []=>P ρ
 | _=>False
def G9 (g:DG) (gs:DGs):DGs:=fun k ds ρ P=>match ds with
 | d::r=>g (norm k d) d ρ fun ρ'=>gs k r ρ' P
 | []=>False
theorem eY:PGs X [] (mD K4):=PGs.wk Ji (by
 rintro v σ H Q ⟨p,H0,own,ρ,k,ds,P,E,r,t,q⟩
 cases ds with
 | nil=>cases r; exact⟨rfl,q _ _ E t⟩
 | cons d ds=>exact t.elim)
theorem qt {g:DG}{gs:DGs} (h1:PDG X e g) (h2:PGs X es (mD gs)) (hs:(assignEach (e::es) X.env).map (·.2)=assign e X.env::(assignEach es X.env).map (·.2):=by rfl):PGs X (e::es) (mD (G9 g gs)):=PGs.wk (FT h1 h2 hs) (by
 rintro v σ H Q ⟨p,H0,own,ρ,k,ds,P,E,r,t,q⟩
 cases r with
 | nil=>exact t.elim
 | cons r rs =>
  exact⟨_,_,rfl,p,H0,own,ρ,_,_,_,E,g8 r,t,fun σ' ρ' E' t'=>⟨p,H0,own,ρ',k,_,P,E',rs,t',q⟩⟩)
def gTp (n:Nat) (gs:DGs):DG:=fun k d ρ P=>match d with
 | .tuple ds=>ds.length=n/\gs k ds ρ P
 | _=>False
theorem jK {gs:DGs}{k n:Nat} (hc:X.calm=true) (h:PGs X es (mD gs)) (hn:(assignEach es X.env).length=n:=by rfl) (hst:(assignEach es X.env).findIdx? (·.1)=none:=by rfl):PDG X (.Tuple es k pos) (gTp n gs):=PG.wk (Mq hc h hn hst) (by
 rintro v σ H Q ⟨p,H0,own,ρ,k,d,P,E,r,t,q⟩
 cases d with
 | tuple ds =>
  obtain⟨a,vs,rfl,ha,rs⟩:=r.cR
  exact⟨a,vs,rfl,SqT.of ha,by rw [rs.length]; exact t.1,p,H0,own,ρ,k,ds,P,E,rs,t.2,q⟩
 | _=>exact t.elim)
end
structure Wlk (Ok:Hp->Prop) (J:It) (ds:List D) (ok:Addr->Prop):Prop where
 go:∀ i H,Ok H->i<ds.length->J.go i H
 stop:∀ H,Ok H->J.stop ds.length H
 yld:∀ i H x H',Ok H->J.yld i H x H'->Same H H'/\∀ d,ds[i]?=some d->Rp ok H' x d
 stab:∀ H H',Ok H->(∀ b o,ok b->H b=some o->H' b=some o)->(∀ a xs,H a=some (.tup xs)->H' a=some (.tup xs))->Ok H'
abbrev DI:=List Sl->(Kd->List D->Prop)->Prop
def okA (p:Pn) (H0:Hp) (own:Addr->Option Nat) (Hb:Hp) (k:Kd) (H:Hp) (a:Addr):Prop:=okK p H0 own Hb k a/\∃ o,H a=some o
def GP (t:DI):TI:=fun σ H R=>∃ p H0 own ρ P,EnvD p H0 own σ H ρ/\t ρ P/\∀ k ds J H1 Ok,P k ds->At p H0 own H H1->Wlk Ok J ds (okA p H0 own H k H1)->Ok H1->R J H1
abbrev PDI (X:Cx) (tg e:Expr) (t:DI):Prop:=PI X tg e (GP t)
theorem PI.wk {X:Cx}{tg e:Expr}{t t':TI} (h:PI X tg e t) (w:∀ σ H R,t' σ H R->t σ H R):PI X tg e t':=fun pins s σ H R I q=>h pins s σ H R I (w σ H R q)
section
variable {X:Cx}{tg l:Expr}{tl:DE}{pos:Pos}{ta:DA}
theorem Er {K:â}{ok:Addr->Prop}{a:Addr}{ds:List D}:Wlk (fun H=>Rp ok H (.ref a) (.list ds)) (Itl K a) ds ok where
 go:=fun i H r hi=>by
  obtain⟨b,vs,e,o,h,rs⟩:=r.bF
  cases e
  have:i<vs.length:=by rw [rs.length]; exact hi
  exact⟨vs,vs[i],SqL.of h,by simp [this]⟩
 stop:=fun H r=>by
  obtain⟨b,vs,e,o,h,rs⟩:=r.bF
  cases e
  exact⟨vs,SqL.of h,by rw [rs.length]; exact Ò _⟩
 yld:=fun i H x H' r y=>by
  obtain⟨rfl,y⟩:=y
  obtain⟨b,vs,e,o,h,rs⟩:=r.bF
  cases e
  refine⟨Same.refl _,fun d hd=>?_⟩
  obtain⟨v,hv,rv⟩:=rs.getD hd
  have:=y vs (SqL.of h)
  rw [hv] at this
  cases this
  exact rv
 stab:=fun H H' r f t=>r.bR (fun a o n e=>⟨n,f a o n e⟩) t
theorem Ep {K:â}{ok:Addr->Prop}{a:Addr}{ds:List D}:Wlk (fun H=>Rp ok H (.ref a) (.tuple ds)) (Itt K a) ds ok where
 go:=fun i H r hi=>by
  obtain⟨b,vs,e,h,rs⟩:=r.cR
  cases e
  have:i<vs.length:=by rw [rs.length]; exact hi
  exact⟨vs,vs[i],SqT.of h,by simp [this]⟩
 stop:=fun H r=>by
  obtain⟨b,vs,e,h,rs⟩:=r.cR
  cases e
  exact⟨vs,SqT.of h,by rw [rs.length]; exact Ò _⟩
 yld:=fun i H x H' r y=>by
  obtain⟨rfl,y⟩:=y
  obtain⟨b,vs,e,h,rs⟩:=r.cR
  cases e
  refine⟨Same.refl _,fun d hd=>?_⟩
  obtain⟨v,hv,rv⟩:=rs.getD hd
  have:=y vs (SqT.of h)
  rw [hv] at this
  cases this
  exact rv
 stab:=fun H H' r f t=>r.bR (fun a o n e=>⟨n,f a o n e⟩) t
theorem vg {ok:Addr->Prop}{lo:Int}{n:Nat}:Wlk (fun _=>True) (Itr lo n) ((Ë n).map fun i=>Ç (lo+((i:Nat):Int))) ok where
 go:=fun i H r hi=>by
  have h:i<n:=by simpa using hi
  exact h
 stop:=fun H r=>by show n<=_; simp
 yld:=fun i H x H' r y=>by
  obtain⟨rfl,rfl⟩:=y
  refine⟨Same.refl _,fun d hd=>?_⟩
  rw [Ö] at hd
  cases h:(Ë n)[i]? with
  | none=>rw [h] at hd; cases hd
  | some j =>
   rw [h] at hd
   have e:=Ù hd
   have hj:j=i:=by
    have:=É.mp h
    obtain⟨h1,h2⟩:=this
    simpa using h2.symm
   subst e hj
   exact .int _
 stab:=fun _ _ _ _ _=>trivial
theorem rpA {p:Pn}{H0 Hb H:Hp}{own:Addr->Option Nat}{k:Kd}{v:V}{d:D} (r:Rp (okK p H0 own Hb k) H v d):Rp (okA p H0 own Hb k H) H v d:=r.bR (fun a o n e=>⟨⟨n,o,e⟩,e⟩) fun _ _ e=>e
def iSq (tl:DE):DI:=fun ρ P=>tl ρ fun k d=>match d with
 | .list ds=>P k ds
 | .tuple ds=>P k ds
 | _=>False
theorem zO (hl:PD X l tl):PDI X tg l (iSq tl):=PI.wk (Ml hl) (by
 rintro σ H R ⟨p,H0,own,ρ,P,E,t,q⟩
 refine⟨p,H0,own,ρ,_,E,t,fun k d v H1 h A r=>?_⟩
 cases d with
 | list ds =>
  obtain⟨a,vs,rfl,o,ha,rs⟩:=r.bF
  exact⟨a,rfl,.inl ⟨⟨vs,SqL.of ha⟩,q k ds _ H1 _ h A Er (rpA r)⟩⟩
 | tuple ds =>
  obtain⟨a,vs,rfl,ha,rs⟩:=r.cR
  exact⟨a,rfl,.inr ⟨⟨vs,SqT.of ha⟩,q k ds _ H1 _ h A Ep (rpA r)⟩⟩
 | _=>exact h.elim)
def rG (lo:Int) (n:Nat):List D:=(Ë n).map fun i=>Ç (lo+((i:Nat):Int))
def iR1 (ta:DA):DI:=fun ρ P=>ta ρ fun ks=>match ks with
 | [(_,.int j)]=>(-(2 ^ 62)<=j/\j<2 ^ 62)/\P .imm (rG 0 j.toNat)
 | _=>False
theorem mR {a:Expr}{ps:Pos} (hm:X.mg "range"=none) (ha:PDA X [a] ta) (hg:Gl X "range":=by rfl) (hs:starEach [a] X.env=[(false,eval a X.env)]:=by rfl):PDI X tg (.Call (.Name "range" ps) [a] [] pos) (iR1 ta):=PI.wk (CV hg hm ha hs) (by
 rintro σ H R ⟨p,H0,own,ρ,P,E,t,q⟩
 refine⟨p,H0,own,ρ,_,E,t,fun ks vs H1 h A r=>?_⟩
 split at h
 ·rename_i k j
  obtain⟨v,rfl,r'⟩:=cD r
  exact⟨j,by rw [r'.int'],h.1.1,h.1.2,q _ _ _ H1 _ h.2 A vg trivial⟩
 ·exact h.elim)
def iR2 (ta:DA):DI:=fun ρ P=>ta ρ fun ks=>match ks with
 | [(_,.int i),(_,.int j)]=>(-(2 ^ 62)<=i/\i<2 ^ 62/\-(2 ^ 62)<=j/\j<2 ^ 62)/\P .imm (rG i (j - i).toNat)
 | _=>False
theorem mQ {a b:Expr}{ps:Pos} (hm:X.mg "range"=none) (ha:PDA X [a,b] ta) (hg:Gl X "range":=by rfl) (hs:starEach [a,b] X.env=[(false,eval a X.env),(false,eval b X.env)]:=by rfl) (hs2:starEach [b] X.env=[(false,eval b X.env)]:=by rfl):PDI X tg (.Call (.Name "range" ps) [a,b] [] pos) (iR2 ta):=PI.wk (CT hg hm ha hs hs2) (by
 rintro σ H R ⟨p,H0,own,ρ,P,E,t,q⟩
 refine⟨p,H0,own,ρ,_,E,t,fun ks vs H1 h A r=>?_⟩
 split at h
 ·rename_i k i k' j
  obtain⟨v,w,rfl,r',r2⟩:=Iz r
  exact⟨i,j,by rw [r'.int',r2.int'],h.1,q _ _ _ H1 _ h.2 A vg trivial⟩
 ·exact h.elim)
def jt (ds:List D):List D:=ds.zipIdx.map fun x=>Ū [.int ((x.2:Nat):Int),x.1]
theorem cT {ds:List D}{i:Nat}:(jt ds)[i]?=(ds[i]?).map fun d=>Ū [.int ((i:Nat):Int),d]:=by
 unfold jt
 rw [Ö,List.getElem?_zipIdx]
 cases ds[i]? with
 | none=>rfl
 | some d=>simp
theorem cj {ds:List D}:(jt ds).length=ds.length:=by unfold jt; simp
theorem qQ {K:â}{ok:Addr->Prop}{a:Addr}{ds:List D}:Wlk (fun H=>Rp ok H (.ref a) (.tuple ds)) (Ite K a) (jt ds) ok where
 go:=fun i H r hi=>by
  obtain⟨b,vs,e,h,rs⟩:=r.cR
  cases e
  have:i<vs.length:=by rw [rs.length]; rw [cj] at hi; exact hi
  exact⟨vs,vs[i],SqT.of h,by simp [this]⟩
 stop:=fun H r=>by
  obtain⟨b,vs,e,h,rs⟩:=r.cR
  cases e
  exact⟨vs,SqT.of h,by rw [rs.length,cj]; exact Ò _⟩
 yld:=fun i H x H' r y=>by
  obtain⟨t,v,rfl,ht,rfl,y⟩:=y
  have sm:Same H (upd H t (.tup [.int i,v])):=fun b u q=>by rw [aj (ak q ht)]; exact q
  refine⟨sm,fun d hd=>?_⟩
  obtain⟨b,vs,e,h,rs⟩:=r.cR
  cases e
  rw [cT] at hd
  cases he:ds[i]? with
  | none=>rw [he] at hd; cases hd
  | some d0 =>
   rw [he] at hd
   have e:=Ù hd
   subst e
   obtain⟨v',hv,rv⟩:=rs.getD he
   have:=y vs (SqT.of h)
   rw [hv] at this
   cases this
   exact .tup ao (.cons (.int _) (.cons (rv.mono (fun _ o=>o) (fun a o _ e=>sm a o e) fun a xs e=>sm a _ e) .nil))
 stab:=fun H H' r f t=>r.bR (fun a o n e=>⟨n,f a o n e⟩) t
def iEn (ta:DA):DI:=fun ρ P=>ta ρ fun ks=>match ks with
 | [(k,.tuple ds)]=>P k (jt ds)
 | _=>False
theorem lG {elts:List Expr}{kk:Nat}{tpos:Pos}{a:Expr}{ps:Pos} (hm:X.mg "enumerate"=none) (ha:PDA X [a] ta) (hg:Gl X "enumerate":=by rfl) (hs:starEach [a] X.env=[(false,eval a X.env)]:=by rfl):PDI X (.Tuple elts kk tpos) (.Call (.Name "enumerate" ps) [a] [] pos) (iEn ta):=PI.wk (Jh hg hm ha hs) (by
 rintro σ H R ⟨p,H0,own,ρ,P,E,t,q⟩
 refine⟨p,H0,own,ρ,_,E,t,fun ks vs H1 h A r=>?_⟩
 split at h
 ·rename_i k ds
  obtain⟨v,rfl,r'⟩:=cD r
  obtain⟨a,vs,e,ha,rs⟩:=Rp.cR r'
  subst e
  exact⟨a,rfl,⟨vs,SqT.of ha⟩,q k _ _ H1 _ h A qQ (rpA r')⟩
 ·exact h.elim)
end
variable [Gr]
def elK:Kd->Kd
 | .new=>.snw
 | k=>k
section
variable {X:Cx}{tg iter:Expr}{pos:Pos}{body:List Stmt}{ti:DI}{g:DG}{tb:DS}
def Qw (ti:DI) (g:DG) (tb:DS):DS:=fun P ρ=>ti ρ fun k ds=>k.le .shr=true/\∃ Iv:Nat->List Sl->Prop,Iv 0 ρ /\
 (∀ i d ρ',ds[i]?=some d->Iv i ρ'->g (norm (elK k) d) d ρ' fun ρ2=>tb { nx:=Iv (i+1),ct:=Iv (i+1),bk:=P.nx,rt:=P.rt } ρ2)/\∀ ρ',Iv ds.length ρ'->P.nx ρ'
theorem PN {p:Pn}{H0 Hb H1 H':Hp}{own own':Addr->Option Nat}{k:Kd} (hk:k.le .shr=true) (A:At p H0 own Hb H1) (F:FrS p own H1 own' H') {v:V}{d:D}{H2:Hp} (r:Rp (okA p H0 own Hb k H1) H2 v d):Rp (okB p H0 own' (elK k)) H2 v d:=by
 refine r.mono (fun a n=>?_) (fun _ _ _ e=>e) fun _ _ e=>e
 obtain⟨o,u,hu⟩:=n
 have o2:¬ p.fp a/\own a=none:=bM A (k:=.shr) hk o
 have f:=(F.keep a u hu o2.1 o2.2).2
 cases k with
 | imm=>exact o
 | new=>exact⟨A.h0 o,o2.1,f⟩
 | reg q=>cases hk
 | n0=>cases hk
 | snw=>exact⟨o.1,o2.1,f⟩
 | shr=>exact⟨o2.1,f⟩
 | wk=>cases hk
theorem zM (hp:PassesOwn (model X.prog X.w) X.A X.env X.xe) (hc:X.calm=true) (hi:PDI X tg iter ti) (hg:PDG X tg g) (hb:jc X body tb) (hs:zF X iter:=by intro _; rfl):PDS X (.For tg iter body [] pos) (Qw ti g tb):=PS.wk' (Mi hp hc hi hg hb hs) (by
 rintro Q σ H ⟨p,H0,own,ρ,P,E,t,w⟩
 refine⟨p,H0,own,ρ,_,E,t,fun k ds J H1 Ok h A W o1=>?_⟩
 obtain⟨hk,Iv,i0,step,done⟩:=h
 have w1:=w.go A.frs
 have okS:∀ own' H',FrS p own H1 own' H'->Ok H':=fun own' H' F=>W.stab H1 H' o1 (fun b o n e=>by
  have o2:¬ p.fp b/\own b=none:=bM A (k:=.shr) hk n.1
  exact (F.keep b o e o2.1 o2.2).1) F.tup
 refine⟨fun i m σ' H'=>m=ds.length - i/\i<=ds.length/\∃ own' ρ',EnvD p H0 own' σ' H' ρ'/\FrS p own H1 own' H'/\Iv i ρ',⟨_,rfl,Č _,own,ρ,E.go A.kp A.pen,FrS.refl,i0⟩,?_⟩
 rintro i m σ' H' ⟨rfl,hi,own',ρ',E',F',iv⟩
 have oH:=okS own' H' F'
 by_cases hlt:i<ds.length
 ·refine .inr ⟨W.go i H' oH hlt,fun σ2 H2=>∃ own' ρ',EnvD p H0 own' σ2 H2 ρ'/\FrS p own H1 own' H2/\Iv (i+1) ρ',fun σ2 H2 h=>⟨_,by omega,rfl,hlt,h⟩,fun x H2 y=>?_⟩
  obtain⟨sm,rx⟩:=W.yld i H' x H2 oH y
  have rx:=rx ds[i] (Ä hlt)
  have E2:EnvD p H0 own' σ' H2 ρ':=E'.go (Kp.of sm) (p.mono H' H2 E'.pen fun b o _ e=>sm b o e)
  have F2:FrS p own H1 own' H2:=⟨fun b o e n z=>let ⟨x,y⟩:=F'.keep b o e n z; ⟨sm b o x,y⟩,fun a xs e=>sm a _ (F'.tup a xs e)⟩
  refine⟨p,H0,own',ρ',_,_,_,E2,g8 (PN hk A F2 rx),step i ds[i] ρ' (Ä hlt) iv,fun σ3 ρ3 E3 t3=>?_⟩
  have nxt:∀ own4 σ4 H4 ρ4,EnvD p H0 own4 σ4 H4 ρ4->FrS p own' H2 own4 H4->Iv (i+1) ρ4->∃ own' ρ',EnvD p H0 own' σ4 H4 ρ'/\FrS p own H1 own' H4/\Iv (i+1) ρ':=fun own4 σ4 H4 ρ4 E4 F4 v4=>⟨own4,ρ4,E4,F2.trans F4,v4⟩
  exact⟨p,H0,own',ρ3,_,E3,t3,⟨nxt,w.rt,fun o s h r e f n=>w1.nx o s h r e (F2.trans f) n,nxt⟩⟩
 ·have e:i=ds.length:=by omega
  subst e
  exact .inl ⟨W.stop H' oH,w1.nx own' σ' H' ρ' E' F' (done ρ' iv)⟩)
def Hz (tc:DT) (tb:DS):DS:=fun P ρ=>∃ Iv:Nat->List Sl->Prop,(∃ m,Iv m ρ)/\∀ m ρ',Iv m ρ'->tc ρ' fun b =>
 if b=true then tb { nx:=fun ρ2=>∃ m',m'<m/\Iv m' ρ2,ct:=fun ρ2=>∃ m',m'<m/\Iv m' ρ2,bk:=P.nx,rt:=P.rt } ρ' else P.nx ρ'
theorem lB {c:Expr}{tc:DT} (hp:PassesOwn (model X.prog X.w) X.A X.env X.xe) (hc:PDT X c tc) (hb:jc X body tb):PDS X (.While c body [] pos) (Hz tc tb):=PS.wk' (Fy hp hc hb) (by
 rintro Q σ H ⟨p,H0,own,ρ,P,E,⟨Iv,⟨m,i0⟩,step⟩,w⟩
 refine⟨fun m σ' H'=>∃ own' ρ',EnvD p H0 own' σ' H' ρ'/\FrS p own H own' H'/\Iv m ρ',⟨m,own,ρ,E,FrS.refl,i0⟩,?_⟩
 rintro m σ1 H1 ⟨own1,ρ1,E1,F1,iv⟩
 refine⟨p,H0,own1,ρ1,_,E1,step m ρ1 iv,fun b H2 h A=>?_⟩
 have F2:=F1.trans A.frs
 cases b with
 | true =>
  refine bJ ⟨fun σ' H'=>∃ m',m'<m/\∃ own' ρ',EnvD p H0 own' σ' H' ρ'/\FrS p own H own' H'/\Iv m' ρ',fun σ' H' h=>h,?_⟩
  have nxt:∀ own4 σ4 H4 ρ4,EnvD p H0 own4 σ4 H4 ρ4->FrS p own1 H2 own4 H4->(∃ m',m'<m/\Iv m' ρ4)->∃ m',m'<m/\∃ own' ρ',EnvD p H0 own' σ4 H4 ρ'/\FrS p own H own' H4/\Iv m' ρ':=fun own4 σ4 H4 ρ4 E4 F4 ⟨m',hm,v4⟩=>⟨m',hm,own4,ρ4,E4,F2.trans F4,v4⟩
  exact⟨p,H0,own1,ρ1,{ nx:=fun ρ2=>∃ m',m'<m/\Iv m' ρ2,ct:=fun ρ2=>∃ m',m'<m/\Iv m' ρ2,bk:=P.nx,rt:=P.rt },E1.go A.kp A.pen,by simpa using h,⟨nxt,w.rt,fun o s h r e f n=>w.nx o s h r e (F2.trans f) n,nxt⟩⟩
 | false=>exact aW (w.nx own1 σ1 H2 ρ1 (E1.go A.kp A.pen) F2 (by simpa using h)))
end
theorem EnvD.comp {p:Pn}{H0 H:Hp}{own:Addr->Option Nat}{σ:L2.St}{ρ:List Sl} (n:Nat) (E:EnvD p H0 own σ H ρ):EnvD p H0 own (Ó n none++σ) H (Ó n .any++ρ):=by
 refine⟨E.k0,E.pen,E.ow,fun j s e=>?_,by simp [E.len],E.gr⟩
 by_cases hj:j<n
 ·rw [Ħ (by simpa using hj)] at e
  have:s=.any:=by
   rw [ũ] at e
   rw [if_pos hj] at e
   exact (Ù e).symm
  subst this
  trivial
 ·have e1:(Ó n Sl.any++ρ)[j]?=ρ[j - n]?:=by rw [ġ (by simpa using hj)]; simp
  have e2:(Ó n (none:Option V)++σ)[j]?=σ[j - n]?:=by rw [ġ (by simpa using hj)]; simp
  rw [e1] at e
  have q:=E.slot _ s e
  cases s <;> simp only [iY,e2] at q ⊢ <;> exact q
abbrev El (X:Cx) (es:List Expr) (t:DT):Prop:=PTs X es (liftT t)
theorem dN {X:Cx}:El X [] (fun _ P=>P true):=fun pins s σ H Q I h=>by
 obtain⟨p,H0,own,ρ,P,E,t,q⟩:=h
 exact I9 pins s σ H Q I (q true H t E.at)
theorem uI {X:Cx}{c:Expr}{t:DT} (hc:PDT X c t):El X [c] t:=IW hc
def elC (k:Kd):Kd:=elK k
def dLC (n:Nat) (ti:DI) (g:DG) (tt:DT) (te:DE):DE:=fun ρ P=>ti ρ fun k ds=>ds.length<=1000/\∃ (ke:Kd) (Iv:Nat->List D->Prop),Iv 0 [] /\
 (∀ i d ys,ds[i]?=some d->Iv i ys->g (norm (elC k) d) d (Ó n .any++ρ) fun ρ'=>tt ρ' fun b=>if b=true then te ρ' fun k' d'=>(norm k' d').le ke=true/\Iv (i+1) (ys++[d']) else Iv (i+1) ys) /\
 ∀ ys,Iv ds.length ys->P (ke.join .new) (.list ys)
theorem KR {p:Pn}{H0 Hb H1:Hp}{own:Addr->Option Nat}{k:Kd} (A:At p H0 own Hb H1) {v:V}{d:D}{H2:Hp} (r:Rp (okA p H0 own Hb k H1) H2 v d):Rp (okB p H0 own (elC k)) H2 v d:=by
 refine r.mono (fun a n=>?_) (fun _ _ _ e=>e) fun _ _ e=>e
 obtain⟨o,u,hu⟩:=n
 cases k with
 | imm=>exact o
 | new=>exact⟨A.h0 o,A.nfb o,A.MN o⟩
 | reg q=>exact o
 | n0=>trivial
 | snw=>exact o
 | shr=>exact o
 | wk=>trivial
section
variable {X:Cx}{own:List Str}{scope:Scope}{tg iter elt:Expr}{ifs:List Expr}{pos:Pos}{ti:DI}{g:DG}{tt:DT}{te:DE}
theorem uo {n:Nat}:∀ σ H Q,bH (dLC n ti g tt te) σ H Q->tLC n (GP ti) (fun _=>GQ g) (fun _=>liftT tt) (fun _=>bH te) σ H Q:=by
 rintro σ H Q ⟨p,H0,own,ρ,P,E,t,q⟩
 refine⟨p,H0,own,ρ,_,E,t,fun k ds J H1 Ok h A W o1=>?_⟩
 obtain⟨hlen,ke,Iv,i0,step,done⟩:=h
 have okS:∀ H',Kp p H1 H'->p.PI H'->Ok H':=fun H' K i=>W.stab H1 H' o1 (fun b o n e=>K b o e (j6 A n.1)) (iK A K)
 refine⟨fun i m ys H'=>m=ds.length - i/\i<=ds.length/\Kp p H1 H'/\p.PI H'/\∃ es,Rps (okK p H0 own H ke) H' ys es/\es.length<=i/\Iv i es,⟨_,rfl,Č _,Kp.refl,A.pen,[],.nil,Ò _,i0⟩,?_⟩
 rintro c i m ys H' ⟨rfl,hi,K',I',es,rs,hl,iv⟩
 have oH:=okS H' K' I'
 have A':=A.go K' I'
 have h24:=ç
 by_cases hlt:i<ds.length
 ·refine .inr ⟨W.go i H' oH hlt,by have:=rs.length; omega,fun ys' H2=>Kp p H1 H2/\p.PI H2/\∃ es,Rps (okK p H0 own H ke) H2 ys' es/\es.length<=i+1/\Iv (i+1) es,fun ys' H2 h=>⟨_,by omega,rfl,hlt,h⟩,fun x H2 y=>?_⟩
  obtain⟨sm,rx⟩:=W.yld i H' x H2 oH y
  have rx:=rx ds[i] (Ä hlt)
  have I2:p.PI H2:=p.mono H' H2 I' fun b o _ e=>sm b o e
  have K2:Kp p H1 H2:=K'.trans (Kp.of sm)
  have A2:=A.go K2 I2
  have E2:EnvD p H0 own σ H2 ρ:=E.go A2.kp A2.pen
  have rs2:=cC A' (Kp.of sm) rs
  refine⟨p,H0,own,_,_,_,_,E2.comp n,g8 (KR A rx),step i ds[i] es (Ä hlt) iv,fun σ3 ρ3 E3 t3=>?_⟩
  refine⟨p,H0,own,ρ3,_,E3,t3,fun b H4 h4 A4=>?_⟩
  have A5:At p H0 own H H4:=A2.base A4
  have rs4:=cC A2 A4.kp rs2
  cases b with
  | true =>
   refine bJ ⟨p,H0,own,ρ3,_,E3.go A4.kp A4.pen,by simpa using h4,fun k' d' v H6 h6 A6 r6=>?_⟩
   refine⟨(K2.trans A4.kp).trans A6.kp,A6.pen,es++[d'],(cC A5 A6.kp rs4).snoc (jT (A5.base A6) h6.1 (bA (nU A5 r6))),by simp; omega,h6.2⟩
  | false=>exact aW ⟨K2.trans A4.kp,A4.pen,es,rs4,by omega,by simpa using h4⟩
 ·have e:i=ds.length:=by omega
  subst e
  refine .inl ⟨W.stop H' oH,fun l hl'=>?_⟩
  obtain⟨k7,i7,nw⟩:=A'.new hl' (.lst ys)
  have j:=dM ke .new
  refine q _ _ _ _ (done es iv) (A'.go k7 i7) (.lst (bM A' j.2 nw) ao ?_)
  exact (cC A' k7 rs).mono (fun a o=>bM A' j.1 o) (fun _ _ _ e=>e) fun _ _ e=>e
theorem Ge (own:List Str) (hc:X.calm=true) (hi:PDI X tg iter ti) (hg:∀ c,PDG (X.comp own scope c) tg g) (ht:∀ c,El (X.comp own scope c) ifs tt) (he:∀ c,PD (X.comp own scope c) elt te)
  (hk:d9 X.env scope X.N=true:=by rfl) (hs:zF X iter:=by intro _; rfl) :
  PD X (.ListComp elt [⟨tg,iter,ifs,0⟩] scope pos) (dLC own.length ti g tt te):=PE.wk (Pu own hc hi hg ht he hk hs) uo
end
def dz (d:D):Sl:=if eF d then .im d else .sh d
theorem rK {p:Pn}{H:Hp}{N:List Str}{vs:List V}{ds:List D} (g:Gr.G p H) (hp:p.PI H) (r:Rps (fun a=>¬ p.fp a) H vs ds):EnvD p H (fun _=>none) (L2.start N vs) H (ds.map dz++Ó (N.length - vs.length) .any):=by
 refine⟨fun _ _ e _=>e,hp,(fun _ _ e=>nomatch e),fun j s e=>?_,by unfold L2.start; simp [r.length],g⟩
 by_cases hj:j<ds.length
 ·rw [Ħ (by simpa using hj),Ö] at e
  obtain⟨v,hv,rv⟩:=r.getD (Ä hj)
  rw [Ä hj] at e
  have e:=Ù e
  have hs:(L2.start N vs)[j]?=some (some v):=by
   unfold L2.start
   rw [Ħ (by rw [Á,r.length]; exact hj),Ö,hv]
   rfl
  subst e
  unfold dz
  by_cases hi:eF ds[j]=true
  ·rw [if_pos hi]; exact⟨v,hs,rv.imm hi⟩
  ·rw [if_neg hi]; exact⟨v,hs,rv.mono (fun _ o=>⟨o,rfl⟩) (fun _ _ _ e=>e) fun _ _ e=>e⟩
 ·rw [ġ (by simpa using hj),ũ] at e
  split at e
  ·cases e; trivial
  ·cases e
theorem Oa {f:List D->(D->Prop)->Prop}{T:DS}{N:List Str}{vs:List V}{H:Hp}{Q:VK}{E:XK} (h:spD f vs H Q E)
  (body:∀ ds P,f ds P->T { nx:=fun _=>P .none,rt:=P } (ds.map dz++Ó (N.length - ds.length) .any)) (g:Gr.G nC H:=by trivial):fP T { nx:=fun _ H'=>Q .non H',rt:=Q } (L2.start N vs) H:=by
 obtain⟨ds,P,r,t,q⟩:=h
 have E:=rK (p:=nC) (N:=N) g trivial (r.mono (ok':=fun a=>¬ nC.fp a) (fun _ _ z=>z) (fun _ _ _ e=>e) fun _ _ e=>e)
 rw [r.length] at E
 have sm:∀ H',(∀ b o,H b=some o->¬ nC.fp b->H' b=some o)->Same H H':=fun H' k b o e=>k b o e fun z=>z
 refine⟨nC,H,fun _=>none,_,_,E,body ds P t,⟨fun o s h' r' e' _ n=>q _ _ h' n (sm h' e'.k0) .non,fun d v h' n w=>q d v h' n (sm h' w.k0) (w.rp.mono (fun _ o=>o.1) (fun _ _ _ e=>e) fun _ _ e=>e),fun _ _ _ _ _ _ n=>n.elim,fun _ _ _ _ _ _ n=>n.elim⟩⟩
theorem N7 {C:Pn->Prop}{f:List D->(D->Prop)->Prop}{T:DS}{N:List Str}{vs:List V}{H:Hp}{Q:VK}{E:XK} (h:spP C f vs H Q E)
  (body:∀ ds P,f ds P->T { nx:=fun _=>P .none,rt:=P } (.pen C::(ds.map dz++Ó (N.length - (ds.length+1)) .any))) (g:∀ p,Gr.G p H:=by intro _; trivial):fP T { nx:=fun _ H'=>Q .non H',rt:=Q } (L2.start N vs) H:=by
 obtain⟨p,vs',ds,P,c,rfl,pi,r,t,q⟩:=h
 have E0:=rK (p:=p) (N:=N.drop 1) (g p) pi r
 have E:EnvD p H (fun _=>none) (L2.start N (p.pv::vs')) H (.pen C::(ds.map dz++Ó (N.length - (ds.length+1)) .any)):=by
  refine⟨fun _ _ e _=>e,pi,(fun _ _ e=>nomatch e),fun j s e=>?_,by unfold L2.start; simp [r.length],g p⟩
  cases j with
  | zero =>
   have e:=Ù e
   subst e
   exact⟨rfl,c⟩
  | succ j =>
   rw [List.getElem?_cons_succ] at e
   have hl:N.length - (ds.length+1)=(N.drop 1).length - vs'.length:=by rw [r.length,ŕ]; omega
   rw [hl] at e
   have q:=E0.slot j s e
   have es:(L2.start N (p.pv::vs'))[j+1]?=(L2.start (N.drop 1) vs')[j]?:=by
    unfold L2.start
    have:N.length - (p.pv::vs').length=(N.drop 1).length - vs'.length:=by rw [ŕ,õ]; omega
    rw [this]
    simp
   cases s <;> simp only [iY,es] at q ⊢ <;> exact q
 have nw:∀ {H' v d},RPost p H H' v d->Rp (fun a=>H a=none) H' v d:=fun w=>w.rp.mono (fun _ o=>o.1) (fun _ _ _ e=>e) fun _ _ e=>e
 exact⟨p,H,fun _=>none,_,_,E,body ds P t,⟨fun o s h' r' e' _ n=>q _ _ h' n e'.k0 e'.pen .non,fun d v h' n w=>q d v h' n w.k0 w.pen (nw w),fun _ _ _ _ _ _ n=>n.elim,fun _ _ _ _ _ _ n=>n.elim⟩⟩
end Dl
namespace PySem
open PyProof.Rows
abbrev lO (f0:Value) (q:Bool) (TI TO:Addr):Obj:={ cls:=.type "zip",data:=.fields #[f0,.bool q,.bool false,.ref TI,.ref TO] }
section
variable {prog:Program}{w:World}{A:Around}{E:Value->Shared->Prop}{s:Shared}
theorem sG {z TI TO i1 i2 l1 l2 T:Addr}{q:Bool}{k:Nat}{xs ys:Array Value}{x y:Value}{oT:Obj}{Q:Value->Shared->Prop} (n1:i1≠z) (n2:i2≠z) (n12:i1≠i2) (m1:l1≠z) (m2:l2≠z) (m3:l2≠i1)
  (hZ:s.heap.get? z=some (lO (rawInt T) q TI TO)) (hI:s.heap.get? TI=some { cls:=.type "tuple",data:=.seq #[.ref i1,.ref i2] }) (hT:s.heap.get? T=some oT)
  (j1:s.heap.IsListIter i1 l1 k) (j2:s.heap.IsListIter i2 l2 k) (e1:s.heap.IsList l1 xs) (e2:s.heap.IsList l2 ys) (hx:xs[k]?=some x) (hy:ys[k]?=some y)
  (hQ:∀ h',h'.get? z=some (lO (rawInt T) true TI TO)->h'.IsListIter i1 l1 (k+1)->h'.IsListIter i2 l2 (k+1)->h'.get? s.heap.objs.size=some { cls:=.type "tuple",data:=.seq #[x,y] } ->
   (∀ c o,c≠z->c≠i1->c≠i2->s.heap.get? c=some o->h'.get? c=some o)->Q (.ref s.heap.objs.size) { s with heap:=h' }) :
  wpAny (model prog w) A (Builtin.«zip.__next__» ⟨[.ref z],[]⟩) (fun fin s'=>∃ v,fin=.done (.ret v)/\Q v s') E s:=by
 have fld:∀ {i:Nat}{v:Value}{R:Value->Shared->Prop},(#[rawInt T,Value.bool q,.bool false,.ref TI,.ref TO]:Array Value)[i]?=some v->R v s->wpAny (model prog w) A (field (.ref z) i) R E s:=fun h r=>ŧ hZ rfl h r
 show wpAny _ _ (field (.ref z) 2 >>= _) _ _ _
 refine À (fld (v:=.bool false) rfl ?_)
 show wpAny _ _ (field (.ref z) 3 >>= _) _ _ _
 refine À (fld (v:=.ref TI) rfl ?_)
 refine À (wpAny_seqItems hI rfl ?_)
 show wpAny _ _ (ņ (.ref z) >>= _) _ _ _
 refine À ?_
 unfold ņ
 refine À (fld (v:=rawInt T) rfl ?_)
 show wpAny _ _ (loadIfAlive ((T:Int).toNat) >>= _) _ _ _
 rw [á]
 refine À (W.kdx_alive hT ?_)
 simp only [Option.isNone_some,ì,if_false]
 refine À (fld (v:=.bool q) rfl ?_)
 refine L2.thn (Q:=fun a s'=>a=false/\∃ h1,s'={ s with heap:=h1 }/\h1.get? z=some (lO (rawInt T) true TI TO)/\h1.objs.size=s.heap.objs.size/\∀ c o,c≠z->s.heap.get? c=some o->h1.get? c=some o) ?_ ?_
 ·cases q with
  | true=>exact Å ⟨rfl,s.heap,rfl,hZ,rfl,fun c o _ e=>e⟩
  | false =>
   rw [if_pos (by decide)]
   refine À (wpAny_setField_rec hZ (by simp) fun h1 z1 b1=>Å ⟨rfl,h1,rfl,z1,b1.1,fun c o n e=>b1.extBut _ _ n e⟩)
 rintro a s' ⟨rfl,h1,rfl,z1,sz1,k1⟩
 simp only [ì,if_false]
 refine À ?_
 simp only [← Array.forIn_toList,List.forIn_cons,List.forIn_nil]
 have at1:h1.IsListIter i1 l1 k:=j1.at fun o e=>k1 i1 o n1 e
 have at2:h1.IsListIter i2 l2 k:=j2.at fun o e=>k1 i2 o n2 e
 have f1:h1.IsList l1 xs:=e1.at fun o e=>k1 l1 o m1 e
 have f2:h1.IsList l2 ys:=e2.at fun o e=>k1 l2 o m2 e
 refine À (À (ò ?_))
 show wpAny _ _ (Ĝ (.ref i1) >>= _) _ _ _
 refine À (wpAny_nextOf_list_item at1 f1 hx fun h2 c1 b2=>Å (Å ?_))
 refine À (À (ò ?_))
 show wpAny _ _ (Ĝ (.ref i2) >>= _) _ _ _
 refine À (wpAny_nextOf_list_item (at2.extBut b2.extBut n12.symm) (f2.extBut b2.extBut m3) hy fun h3 c2 b3=>Å (Å (Å ?_)))
 have sz3:h3.objs.size=s.heap.objs.size:=by rw [b3.1,b2.1,sz1]
 show wpAny _ _ (newTuple [x,y] >>= _) _ _ _
 refine À (wpAny_newTuple (Å ⟨_,rfl,?_⟩))
 show Q (.ref h3.objs.size) _
 rw [sz3]
 have up:∀ c o,c≠i1->c≠i2->h1.get? c=some o->(h3.push { cls:=.type "tuple",data:=.seq #[x,y] }).get? c=some o:=fun c o a b e=>È _ (b3.extBut _ _ b (b2.extBut _ _ a e))
 refine hQ _ (up z _ n1.symm n2.symm z1) ((c1.extBut b3.extBut n12).at fun o e=>È _ e) (c2.at fun o e=>È _ e) ?_ fun c o a b d e=>up c o b d (k1 c o a e)
 rw [← sz3]
 exact Ô _ rfl
theorem vd {z TI TO i1 i2 l1 l2 T:Addr}{q:Bool}{k:Nat}{xs ys:Array Value}{oT:Obj}{Q:Fin->Shared->Prop} (hh:A.handled=none) (n1:i1≠z) (n2:i2≠z) (n12:i1≠i2) (m1:l1≠z) (m2:l2≠z) (m3:l2≠i1)
  (hZ:s.heap.get? z=some (lO (rawInt T) q TI TO)) (hI:s.heap.get? TI=some { cls:=.type "tuple",data:=.seq #[.ref i1,.ref i2] }) (hT:s.heap.get? T=some oT)
  (j1:s.heap.IsListIter i1 l1 k) (j2:s.heap.IsListIter i2 l2 k) (e1:s.heap.IsList l1 xs) (e2:s.heap.IsList l2 ys) (hend:xs[k]?=none\/ys[k]?=none)
  (hE:∀ h' e,(∀ c o,c≠z->c≠i1->c≠i2->s.heap.get? c=some o->h'.get? c=some o)->(∃ o,h'.get? e=some o/\o.cls=.type "StopIteration")->E (.ref e) { s with heap:=h' }) :
  wpAny (model prog w) A (Builtin.«zip.__next__» ⟨[.ref z],[]⟩) Q E s:=by
 have fld:∀ {i:Nat}{v:Value}{R:Value->Shared->Prop},(#[rawInt T,Value.bool q,.bool false,.ref TI,.ref TO]:Array Value)[i]?=some v->R v s->wpAny (model prog w) A (field (.ref z) i) R E s:=fun h r=>ŧ hZ rfl h r
 show wpAny _ _ (field (.ref z) 2 >>= _) _ _ _
 refine À (fld (v:=.bool false) rfl ?_)
 show wpAny _ _ (field (.ref z) 3 >>= _) _ _ _
 refine À (fld (v:=.ref TI) rfl ?_)
 refine À (wpAny_seqItems hI rfl ?_)
 show wpAny _ _ (ņ (.ref z) >>= _) _ _ _
 refine À ?_
 unfold ņ
 refine À (fld (v:=rawInt T) rfl ?_)
 show wpAny _ _ (loadIfAlive ((T:Int).toNat) >>= _) _ _ _
 rw [á]
 refine À (W.kdx_alive hT ?_)
 simp only [Option.isNone_some,ì,if_false]
 refine À (fld (v:=.bool q) rfl ?_)
 refine L2.thn (Q:=fun a s'=>a=false/\∃ h1,s'={ s with heap:=h1 }/\h1.get? z=some (lO (rawInt T) true TI TO)/\h1.objs.size=s.heap.objs.size/\∀ c o,c≠z->s.heap.get? c=some o->h1.get? c=some o) ?_ ?_
 ·cases q with
  | true=>exact Å ⟨rfl,s.heap,rfl,hZ,rfl,fun c o _ e=>e⟩
  | false =>
   rw [if_pos (by decide)]
   refine À (wpAny_setField_rec hZ (by simp) fun h1 z1 b1=>Å ⟨rfl,h1,rfl,z1,b1.1,fun c o n e=>b1.extBut _ _ n e⟩)
 rintro a s' ⟨rfl,h1,rfl,z1,sz1,k1⟩
 simp only [ì,if_false]
 refine À ?_
 simp only [← Array.forIn_toList,List.forIn_cons,List.forIn_nil]
 have at1:h1.IsListIter i1 l1 k:=j1.at fun o e=>k1 i1 o n1 e
 have at2:h1.IsListIter i2 l2 k:=j2.at fun o e=>k1 i2 o n2 e
 have f1:h1.IsList l1 xs:=e1.at fun o e=>k1 l1 o m1 e
 have f2:h1.IsList l2 ys:=e2.at fun o e=>k1 l2 o m2 e
 refine À (À (ò ?_))
 show wpAny _ _ (Ĝ (.ref i1) >>= _) _ _ _
 cases hx:xs[k]? with
 | none=>exact À (wpAny_nextOf_list_end hh at1 f1 hx fun h2 e b2 he=>hE h2 e (fun c o a b _ x=>b2 c o b (k1 c o a x)) he)
 | some x =>
  have hy:ys[k]?=none:=hend.elim (fun z=>by rw [hx] at z; cases z) id
  refine À (wpAny_nextOf_list_item at1 f1 hx fun h2 c1 b2=>Å (Å ?_))
  refine À (À (ò ?_))
  show wpAny _ _ (Ĝ (.ref i2) >>= _) _ _ _
  exact À (wpAny_nextOf_list_end hh (at2.extBut b2.extBut n12.symm) (f2.extBut b2.extBut m3) hy fun h3 e b3 he=>hE h3 e (fun c o a b d x=>b3 c o d (b2.extBut _ _ b (k1 c o a x))) he)
structure ZSt (z TI TO i1 i2 l1 l2:Addr) (xs ys:Array Value) (i:Nat) (h:Heap):Prop where
 zip:(i=0/\h.get? z=some (lO .none false TI TO))\/∃ (T:Addr) (q:Bool) (oT:Obj),h.get? z=some (lO (rawInt T) q TI TO)/\h.get? T=some oT/\T≠z/\T≠i1/\T≠i2
 ti:h.get? TI=some { cls:=.type "tuple",data:=.seq #[.ref i1,.ref i2] }
 to:∃ a b,h.get? TO=some { cls:=.type "tuple",data:=.seq #[a,b] }
 j1:h.IsListIter i1 l1 i
 j2:h.IsListIter i2 l2 i
 e1:h.IsList l1 xs
 e2:h.IsList l2 ys
variable {z TI TO i1 i2 l1 l2:Addr}{xs ys:Array Value}
theorem ZSt.keeps {i:Nat}{h h':Heap} (Z:ZSt z TI TO i1 i2 l1 l2 xs ys i h) {S:Addr}{oS:Obj} (hS:h.get? S=some oS) (hc:oS.cls=.type "list") (n1:S≠l1) (n2:S≠l2) (nT:∀ (T:Addr) (q:Bool),h.get? z=some (lO (rawInt T) q TI TO)->S≠T) (k:∀ b o,b≠S->h.get? b=some o->h'.get? b=some o):ZSt z TI TO i1 i2 l1 l2 xs ys i h':=by
 have ne:∀ {b:Addr}{o:Obj},h.get? b=some o->o.cls≠.type "list"->b≠S:=fun e n z=>by subst z; rw [hS] at e; cases e; exact n hc
 obtain⟨o1,a1,c1,d1⟩:=Z.j1
 obtain⟨o2,a2,c2,d2⟩:=Z.j2
 obtain⟨a,b,ab⟩:=Z.to
 have k1:=k i1 o1 (ne a1 (by rw [c1]; decide)) a1
 have k2:=k i2 o2 (ne a2 (by rw [c2]; decide)) a2
 refine⟨?_,k _ _ (ne Z.ti (show Ă "tuple"≠_ by decide)) Z.ti,⟨a,b,k _ _ (ne ab (show Ă "tuple"≠_ by decide)) ab⟩,⟨o1,k1,c1,d1⟩,⟨o2,k2,c2,d2⟩,Z.e1.at fun o e=>k _ o n1.symm e,Z.e2.at fun o e=>k _ o n2.symm e⟩
 rcases Z.zip with ⟨h0,hz⟩ | ⟨T,q,oT,hz,hT,r⟩
 ·exact .inl ⟨h0,k _ _ (ne hz (show Ă "zip"≠_ by decide)) hz⟩
 ·exact .inr ⟨T,q,oT,k _ _ (ne hz (show Ă "zip"≠_ by decide)) hz,k _ _ (nT T q hz).symm hT,r⟩
theorem Eo {i:Nat}{x y:Value}{Q:Option Value->Shared->Prop} (D:ZipApart z TI TO i1 i2 l1 l2) (Z:ZSt z TI TO i1 i2 l1 l2 xs ys i s.heap) (hx:xs[i]?=some x) (hy:ys[i]?=some y)
  (hQ:∀ h',ZSt z TI TO i1 i2 l1 l2 xs ys (i+1) h'->h'.get? s.heap.objs.size=some { cls:=.type "tuple",data:=.seq #[x,y] }->(∀ (T:Addr) (q:Bool),h'.get? z=some (lO (rawInt T) q TI TO)->T=s.heap.objs.size\/∃ q',s.heap.get? z=some (lO (rawInt T) q' TI TO)) ->
   (∀ c o,c≠z->c≠TO->c≠i1->c≠i2->s.heap.get? c=some o->h'.get? c=some o)->Q (some (.ref s.heap.objs.size)) { s with heap:=h' }):wpAny (model prog w) A (pyNext (.ref z)) Q E s:=by
 obtain⟨a,b,ab⟩:=Z.to
 have lt:∀ {c:Addr}{o:Obj},s.heap.get? c=some o->s.heap.objs.size≠c:=fun e=>ħ (Ê e)
 obtain⟨o1,a1,_⟩:=id Z.j1
 obtain⟨o2,a2,_⟩:=id Z.j2
 rcases Z.zip with ⟨rfl,hz⟩ | ⟨T,q,oT,hz,hT,t1,t2,t3⟩
 ·refine wpAny_pyNext_zip_item D hz Z.ti ab Z.j1 Z.j2 Z.e1 Z.e2 hx hy fun h' b1 b2 b3 b4 b5 b6 b7=>hQ h' ⟨.inr ⟨_,false,_,b1,b5,lt hz,lt a1,lt a2⟩,b7 _ _ D.TIz D.TITO D.TIi1 D.TIi2 Z.ti,⟨_,_,b2⟩,b3,b4,Z.e1.at fun o e=>b7 _ o D.l1z D.l1TO D.l1i1 D.l1i2 e,Z.e2.at fun o e=>b7 _ o D.l2z D.l2TO D.l2i1 D.l2i2 e⟩ b5 (fun T q e=>?_) b7
  rw [b1] at e
  cases e
  exact .inl rfl
 ·have hTy:s.TypeIs (.ref z) "zip":=⟨_,hz,rfl⟩
  unfold pyNext
  refine À (wpAny_attempt (Đ (name:=ŋ "__next__") hTy F.slot_zip_next (ü F.slot_zip_next hTy F.entry_zip_next ?_ (F.args_zip_next_1 _))))
  refine sG D.i1z D.i2z D.i12 D.l1z D.l2z D.l2i1 hz Z.ti hT Z.j1 Z.j2 Z.e1 Z.e2 hx hy fun h' b1 b3 b4 b5 b7=>Å (hQ h' ⟨.inr ⟨T,true,oT,b1,b7 _ _ t1 t2 t3 hT,t1,t2,t3⟩,b7 _ _ D.TIz D.TIi1 D.TIi2 Z.ti,⟨a,b,b7 _ _ D.TOz D.TOi1 D.TOi2 ab⟩,b3,b4,Z.e1.at fun o e=>b7 _ o D.l1z D.l1i1 D.l1i2 e,Z.e2.at fun o e=>b7 _ o D.l2z D.l2i1 D.l2i2 e⟩ b5 (fun T' q' e=>?_) fun c o n1 _ n3 n4 e=>b7 c o n1 n3 n4 e)
  rw [b1] at e
  cases e
  exact .inr ⟨_,hz⟩
theorem Ij {i:Nat}{Q:Option Value->Shared->Prop} (hh:A.handled=none) (D:ZipApart z TI TO i1 i2 l1 l2) (Z:ZSt z TI TO i1 i2 l1 l2 xs ys i s.heap) (hend:xs[i]?=none\/ys[i]?=none)
  (hQ:∀ h',(∀ c o,c≠z->c≠TO->c≠i1->c≠i2->s.heap.get? c=some o->h'.get? c=some o)->Q none { s with heap:=h' }):wpAny (model prog w) A (pyNext (.ref z)) Q E s:=by
 obtain⟨a,b,ab⟩:=Z.to
 rcases Z.zip with ⟨rfl,hz⟩ | ⟨T,q,oT,hz,hT,t1,t2,t3⟩
 ·exact wpAny_pyNext_zip_end hh D hz Z.ti ab Z.j1 Z.j2 Z.e1 Z.e2 hend hQ
 ·have hTy:s.TypeIs (.ref z) "zip":=⟨_,hz,rfl⟩
  unfold pyNext
  refine À (wpAny_attempt (Đ (name:=ŋ "__next__") hTy F.slot_zip_next (ü F.slot_zip_next hTy F.entry_zip_next ?_ (F.args_zip_next_1 _))))
  refine vd hh D.i1z D.i2z D.i12 D.l1z D.l2z D.l2i1 hz Z.ti hT Z.j1 Z.j2 Z.e1 Z.e2 hend fun h' e k2 he=>?_
  obtain⟨o,ho,hc⟩:=he
  refine À (wpAny_isInstance (T:="StopIteration") (b:=true) ⟨o,ho,hc⟩ isSubtype_stop ?_)
  exact Å (hQ _ fun c o n1 _ n3 n4 e=>k2 c o n1 n3 n4 e)
def ItP (h:Heap):List Value->List (Value×Value)->Prop:=Paired fun v p=>∃ T,v=.ref T/\h.get? T=some { cls:=.type "tuple",data:=.seq #[p.1,p.2] }
theorem ItP.snoc {h:Heap}:∀ {vs:List Value}{ps:List (Value×Value)}{v:Value}{p:Value×Value},ItP h vs ps->(∃ T,v=.ref T/\h.get? T=some { cls:=.type "tuple",data:=.seq #[p.1,p.2] })->ItP h (vs++[v]) (ps++[p])
 | _,_,_,_,.nil,r=>.cons r .nil
 | _,_,_,_,.cons a t,r=>.cons a (ItP.snoc t r)
theorem ItP.keeps {h h':Heap}{vs:List Value}{ps:List (Value×Value)} (H:ItP h vs ps) (k:∀ T o,h.get? T=some o->o.cls=.type "tuple"->(∃ v∈vs,v=.ref T)->h'.get? T=some o):ItP h' vs ps:=by
 induction H with
 | nil=>exact .nil
 | cons a t ih =>
  obtain⟨T,e,hT⟩:=a
  exact .cons ⟨T,e,k T _ hT rfl ⟨_,Ï,e⟩⟩ (ih fun T o h c ⟨v,hv,e⟩=>k T o h c ⟨v,Í _ hv,e⟩)
end
section
variable {prog:Program}{w:World}{A:Around}{z TI TO i1 i2 l1 l2:Addr}{xs ys:Array Value}{R:Result->Shared->Prop}
abbrev JB (acc:Array Value) (c:Nat):Obj:={ cls:=.type "list",dict:=none,data:=.seq acc c,slots:=#[] }
theorem Em (hh:A.in1.handled=none) (D:ZipApart z TI TO i1 i2 l1 l2) (hn:min xs.size ys.size<=1000) (S:Addr) (nS:S≠z/\S≠TO/\S≠i1/\S≠i2/\S≠l1/\S≠l2) (res:Value):∀ (m i:Nat) (s:Shared) (acc:Array Value) (c:Nat),min xs.size ys.size - i=m->i<=min xs.size ys.size ->
  ZSt z TI TO i1 i2 l1 l2 xs ys i s.heap->(∀ (T:Addr) (q:Bool),s.heap.get? z=some (lO (rawInt T) q TI TO)->S≠T)->s.heap.get? S=some (JB acc c)->ItP s.heap acc.toList ((xs.toList.zip ys.toList).take i)->(∀ v∈acc.toList,∀ T,v=.ref T->T≠z/\T≠TO/\T≠i1/\T≠i2/\T≠S) ->
  (∀ h' acc' c',(∀ b o,b≠S->b≠z->b≠TO->b≠i1->b≠i2->s.heap.get? b=some o->h'.get? b=some o)->h'.get? S=some (JB acc' c')->ItP h' acc'.toList (xs.toList.zip ys.toList)->(∀ v∈acc'.toList,v∈acc.toList\/∃ T,v=.ref T/\s.heap.objs.size<=T)->R (.ok (.ret res)) { s with heap:=h' }) ->
  codeAny (model prog w) A (.builtin "list.extend.loop" ⟨[.ref S,.ref z,res],[]⟩) R s:=by
 obtain⟨s1,s2,s3,s4,s5,s6⟩:=nS
 intro m
 induction m with
 | zero =>
  intro i s acc c hm hi Z nT hS hP hv hR
  have e:i=min xs.size ys.size:=by omega
  refine Ė F.entry_extend_loop ?_
  rw [ĉ ś _]
  show wpAny _ A.in1 (pyNext (.ref z) >>= _) _ _ s
  refine À (Ij hh D Z ?_ fun h' k=>?_)
  ·rcases Nat.le_total xs.size ys.size with h | h
   ·exact .inl (Array.getElem?_eq_none (by omega))
   ·exact .inr (Array.getElem?_eq_none (by omega))
  ·have el:(xs.toList.zip ys.toList).take i=xs.toList.zip ys.toList:=Į (by simp; omega)
   rw [el] at hP
   exact Å (hR h' acc c (fun b o n1 n2 n3 n4 n5 e=>k b o n2 n3 n4 n5 e) (k S _ s1 s2 s3 s4 hS) (hP.keeps fun T o h _ ⟨v,hv',e⟩=>let ⟨a1,a2,a3,a4,_⟩:=hv v hv' T e; k T o a1 a2 a3 a4 h) fun v hv=>.inl hv)
 | succ m ih =>
  intro i s acc c hm hi Z nT hS hP hv hR
  have hx:i<xs.size:=by omega
  have hy:i<ys.size:=by omega
  refine Ė F.entry_extend_loop ?_
  rw [ĉ ś _]
  show wpAny _ A.in1 (pyNext (.ref z) >>= _) _ _ s
  refine À (Eo D Z (ĥ hx) (ĥ hy) fun h1 Z1 hT hz1 k1=>?_)
  have hS1:=k1 S _ s1 s2 s3 s4 hS
  have lt:∀ {b:Addr}{o:Obj},s.heap.get? b=some o->s.heap.objs.size≠b:=fun e=>ħ (Ê e)
  have hsz:=hP.length
  have hsz2:acc.size=i:=by
   have:acc.toList.length=i:=by rw [hsz,ć,List.length_zip]; simp; omega
   simpa using this
  show wpAny _ A.in1 (updateSeq S (·.push (.ref s.heap.objs.size)) >>= _) _ _ _
  refine À ?_
  have h24:=ç
  have nT1:∀ (T:Addr) (q:Bool),h1.get? z=some (lO (rawInt T) q TI TO)->S≠T:=fun T q e=>by
   rcases hz1 T q e with z' | ⟨q',e'⟩
   ·rw [z']; exact (lt hS).symm
   ·exact nT T q' e'
  have oth:∀ b o,b≠S->h1.get? b=some o->(h1.update S (ß (·.push (ė s.heap.objs.size)))).get? b=some o:=fun b o n e=>(Ĉ _ _ (č n)).trans e
  obtain⟨o1,a1,_⟩:=Z.j1
  obtain⟨o2,a2,_⟩:=Z.j2
  have az:∃ o,s.heap.get? z=some o:=by
   rcases Z.zip with ⟨_,hz⟩ | ⟨_,_,_,hz,_⟩
   ·exact⟨_,hz⟩
   ·exact⟨_,hz⟩
  obtain⟨oz,az⟩:=az
  obtain⟨ta,tb,at'⟩:=Z.to
  have newT:s.heap.objs.size≠z/\s.heap.objs.size≠TO/\s.heap.objs.size≠i1/\s.heap.objs.size≠i2/\s.heap.objs.size≠S:=⟨lt az,lt at',lt a1,lt a2,lt hS⟩
  obtain⟨c2,hS2⟩:∃ c2,(h1.update S (ß (·.push (ė s.heap.objs.size)))).get? S=some (JB (acc.push (.ref s.heap.objs.size)) c2):=⟨_,Ď _ hS1 rfl⟩
  have tk:(xs.toList.zip ys.toList).take (i+1)=(xs.toList.zip ys.toList).take i++[(xs[i],ys[i])]:=by
   rw [ó]
   congr 1
   have:(xs.toList.zip ys.toList)[i]?=some (xs[i],ys[i]):=by
    rw [List.getElem?_zip_eq_some]
    simp [hx,hy]
   rw [this]
   rfl
  refine wpAny_updateSeq hS1 rfl (Å ⟨ł ś _,ih (i+1) { s with heap:=h1.update S (ß (·.push (ė s.heap.objs.size))) } (acc.push (.ref s.heap.objs.size)) c2 (by omega) (by omega) (Z1.keeps hS1 rfl s5 s6 nT1 oth) (fun T q e=>nT1 T q ?_) hS2 ?_ ?_ ?_⟩) (by rw [hsz2]; omega) (by show (acc.push _).size<=sizeLine+1; rw [Array.size_push,hsz2]; omega)
  ·have zz:z≠S:=č s1
   rw [show (h1.update S (ß (·.push (ė s.heap.objs.size)))).get? z=h1.get? z from Ĉ _ _ (č zz)] at e
   exact e
  ·rw [tk,Array.toList_push]
   refine ItP.snoc (hP.keeps fun T o h _ ⟨v,hv',e⟩=>?_) ⟨_,rfl,oth _ _ newT.2.2.2.2 hT⟩
   obtain⟨b1,b2,b3,b4,b5⟩:=hv v hv' T e
   exact oth _ _ b5 (k1 T o b1 b2 b3 b4 h)
  ·intro v hv' T e
   rw [Array.toList_push] at hv'
   rcases é.mp hv' with q | q
   ·exact hv v q T e
   ·have q':v=.ref s.heap.objs.size:=by simpa using q
    rw [q'] at e
    cases e
    exact newT
  ·intro h' acc' c' kk hS' hP' hn'
   refine hR h' acc' c' (fun b o n1 n2 n3 n4 n5 e=>kk b o n1 n2 n3 n4 n5 (oth b o n1 (k1 b o n2 n3 n4 n5 e))) hS' hP' fun v hv'=>?_
   rcases hn' v hv' with q | ⟨T,e,hT'⟩
   ·rw [Array.toList_push] at q
    rcases é.mp q with q | q
    ·exact .inl q
    ·have q':v=.ref s.heap.objs.size:=by simpa using q
     exact .inr ⟨_,q',Ò _⟩
   ·exact .inr ⟨T,e,Ć (Nat.le_of_lt (Ê (oth _ _ newT.2.2.2.2 hT))) hT'⟩
theorem xM:typeLookup (.type "zip") "__len__"=pure none:=by rw [typeLookup_type,builtinLookup_eq_fast]; kernel_rfl
theorem u6:typeLookup (.type "zip") "__length_hint__"=pure none:=by rw [typeLookup_type,builtinLookup_eq_fast]; kernel_rfl
theorem En {s:Shared}{E:Value->Shared->Prop}{Q:Value->Shared->Prop} (hh:A.handled=none) (D:ZipApart z TI TO i1 i2 l1 l2) (hn:min xs.size ys.size<=1000) (hz:s.heap.get? z=some (lO .none false TI TO)) (Z:ZSt z TI TO i1 i2 l1 l2 xs ys 0 s.heap)
  (hQ:∀ h' acc' c',(∀ b o,b≠z->b≠TO->b≠i1->b≠i2->s.heap.get? b=some o->h'.get? b=some o)->h'.get? s.heap.objs.size=some (JB acc' c')->ItP h' acc'.toList (xs.toList.zip ys.toList)->(∀ v∈acc'.toList,∃ T,v=.ref T/\s.heap.objs.size<T)->Q (.ref s.heap.objs.size) { s with heap:=h' }) :
  wpAny (model prog w) A (call (.type "list") [.ref z]) Q E s:=by
 have lt:∀ {b:Addr}{o:Obj},s.heap.get? b=some o->s.heap.objs.size≠b:=fun e=>ħ (Ê e)
 obtain⟨o1,a1,_⟩:=id Z.j1
 obtain⟨o2,a2,_⟩:=id Z.j2
 obtain⟨p1,b1,_⟩:=id Z.e1
 obtain⟨p2,b2,_⟩:=id Z.e2
 obtain⟨ta,tb,at'⟩:=id Z.to
 refine callType_codes (Q₁:=fun obj s₁=>obj=.ref s.heap.objs.size/\s₁={ s with heap:=s.heap.push { cls:=.type "list",data:=.seq #[] } }) F.called_list (F.typeCall_list_1 _) F.entry_list_init (code_list_new _ ⟨rfl,rfl⟩) fun obj sx hx=>?_
 obtain⟨rfl,rfl⟩:=hx
 have hS:(s.heap.push { cls:=.type "list",data:=.seq #[] }).get? s.heap.objs.size=some { cls:=.type "list",data:=.seq #[] }:=Ô _ rfl
 refine⟨⟨_,hS,rfl⟩,F.args_list_init_2 _ _,?_⟩
 show wpAny _ _ (Builtin.List.listItems (.ref s.heap.objs.size) >>= fun old=>Builtin.List.listUpdate (.ref s.heap.objs.size) (fun _=>#[]) >>= fun _=>letGo old.toList.reverse >>= fun _=>Ĩ (.ref s.heap.objs.size) (.ref z) .none) _ _ _
 have old:∀ b o,s.heap.get? b=some o->(s.heap.push { cls:=.type "list",data:=.seq #[] }).get? b=some o:=fun b o e=>È _ e
 refine À ?_
 unfold Builtin.List.listItems
 refine À (wpAny_seqItems hS rfl (Å ?_))
 refine À (m:=updateSeq s.heap.objs.size (fun _=>#[])) (wpAny_updateSeq hS rfl ?_)
 have hS2:=Ď (ß (fun _=>(#[]:Array Value))) hS rfl
 refine À (wpAny_letGo ?_)
 generalize hg:(s.heap.push { cls:=.type "list",data:=.seq #[] }).update s.heap.objs.size (ß fun _=>(#[]:Array Value))=g at hS2
 have kg:∀ b o,s.heap.get? b=some o->g.get? b=some o:=fun b o e=>by rw [← hg]; exact (Ĉ _ _ (lt e)).trans (old b o e)
 have sg:g.objs.size=s.heap.objs.size+1:=by rw [← hg,Ġ,ķ]
 have Zg:∀ {h:Heap},(∀ b o,s.heap.get? b=some o->h.get? b=some o)->ZSt z TI TO i1 i2 l1 l2 xs ys 0 h:=fun {h} k=>⟨.inl ⟨rfl,k _ _ hz⟩,k _ _ Z.ti,⟨ta,tb,k _ _ at'⟩,Z.j1.at fun o e=>k _ o e,Z.j2.at fun o e=>k _ o e,Z.e1.at fun o e=>k _ o e,Z.e2.at fun o e=>k _ o e⟩
 have hT:∀ {h:Heap},(∀ b o,s.heap.get? b=some o->h.get? b=some o)->({ s with heap:=h }:Shared).TypeIs (.ref z) "zip":=fun k=>⟨_,k _ _ hz,rfl⟩
 unfold Ĩ
 refine À (wpAny_typeOf (hT kg) ?_)
 have q1:Builtin.List.listSameRef (.ref s.heap.objs.size) (.ref z)=false:=by simp [Builtin.List.listSameRef,lt hz]
 have q2:(Ă "zip" == Ă "list")=false:=by decide
 have q3:(Ă "zip" == Ă "tuple")=false:=by decide
 simp only [q1,q2,q3,Bool.or_false,ì,if_false]
 refine À (wpAny_pyIter_zip (kg _ _ hz) ?_)
 refine À (ò ?_)
 unfold Builtin.List.listLengthHint
 refine À (wpAny_specialOf (hT kg) xM ?_)
 show wpAny _ _ (specialOf (ė z) (ŋ "__length_hint__") >>= _) _ _ _
 refine À (wpAny_specialOf (hT kg) u6 ?_)
 refine Å ?_
 show wpAny _ _ (rule "list.extend.makes-room" >>= fun _=>Builtin.List.listTouch (.ref s.heap.objs.size) >>= fun _=>again (.builtin "list.extend.loop" ⟨[.ref s.heap.objs.size,.ref z,.none],[]⟩)) _ _ _
 refine À (wpAny_rule (À ?_))
 show wpAny _ _ (updateSeq s.heap.objs.size (·.push .none) >>= fun _=>updateSeq s.heap.objs.size (·.pop)) _ _ _
 refine À (wpAny_updateSeq hS2 rfl ?_)
 have hS3:=Ď (ß (·.push Ą)) hS2 rfl
 refine wpAny_updateSeq hS3 rfl ?_
 have hS4:=Ď (ß (·.pop)) hS3 rfl
 generalize hk:(g.update s.heap.objs.size (ß (·.push Ą))).update s.heap.objs.size (ß (·.pop))=g' at hS4
 have kk:∀ b o,b≠s.heap.objs.size->g.get? b=some o->g'.get? b=some o:=fun b o n e=>by rw [← hk]; exact (Ĉ _ _ (č n)).trans ((Ĉ _ _ (č n)).trans e)
 have kk2:∀ b o,s.heap.get? b=some o->g'.get? b=some o:=fun b o e=>kk b o (č (lt e)) (kg b o e)
 have sk:g'.objs.size=s.heap.objs.size+1:=by rw [← hk,Ġ,Ġ,sg]
 refine Å ⟨ł ś _,Em (A:=A.in1) (xs:=xs) (ys:=ys) hh D hn s.heap.objs.size ⟨lt hz,lt at',lt a1,lt a2,lt b1,lt b2⟩ _ _ 0 { s with heap:=g' } #[] _ rfl (Č _) (Zg kk2) (fun T q e=>?_) hS4 .nil (fun v hv=>nomatch hv) fun h' acc' c' k' hS' hP' hn'=>?_⟩
 ·have e':=kk2 _ _ hz
  rw [e] at e'
  cases e'
 ·refine⟨rfl,hQ h' acc' c' (fun b o n1 n2 n3 n4 e=>k' b o (č (lt e)) n1 n2 n3 n4 (kk2 b o e)) hS' hP' fun v hv=>?_⟩
  rcases hn' v hv with q | ⟨T,e,hT'⟩
  ·exact nomatch q
  ·refine⟨T,e,?_⟩
   have:g'.objs.size<=T:=hT'
   omega
end
end PySem
namespace L2
open PySem PySem.Spec PyProof.Rows
section
variable {X:Cx}{pins:List (Addr×Obj)}{σ:L2.St}{H:Hp}{s:Shared}
theorem Inv.Et {a:Addr}{o:HO}{H0:Hp}{s0:Shared}{σ0:L2.St} (I:Inv X pins σ H s) (I0:Inv X pins σ0 H0 s0) (hle:s0.heap.objs.size<=a) (hn:H a=none) (new:aV X.prog X.w (upd H a o) s.heap a o):Inv X pins σ (upd H a o) s:=by
 have lt:∀ {b:Addr}{u:Obj},s0.heap.get? b=some u->b≠a:=fun e z=>absurd (è (Ê e) hle) (by rw [z]; exact ď _)
 refine I.track hn (fun ob e=>?_) (č (Õ (è I0.lt hle))) (fun x c e=>?_) (fun p hp=>lt (I0.pin p hp).1) new
 ·exact absurd (è (Ê e) (Ć I0.sz hle)) (ď _)
 ·obtain⟨v,u,hu,_⟩:=I0.cell x c e
  exact lt hu
theorem Inv.tuples {H0:Hp}{s0:Shared}{σ0:L2.St} (I0:Inv X pins σ0 H0 s0):∀ (vs:List Value) (ps:List (Value×Value)) (qs:List (V×V)) (H:Hp),Inv X pins σ H s->ItP s.heap vs ps->Paired (fun (q:V×V) (p:Value×Value)=>RelV q.1 p.1/\RelV q.2 p.2) qs ps->(∀ v∈vs,∃ T,v=.ref T/\s0.heap.objs.size<=T)->(∀ T,s0.heap.objs.size<=T->H T=none\/∃ xs,H T=some (.tup xs)) ->
  ∃ (H':Hp) (ws:List V),Inv X pins σ H' s/\Same H H'/\Vals ws vs/\Paired (fun w (q:V×V)=>∃ t,w=.ref t/\H' t=some (.tup [q.1,q.2])) ws qs/\(∀ T,s0.heap.objs.size<=T->H' T=none\/∃ xs,H' T=some (.tup xs))/\(∀ T,(∀ v∈vs,v≠.ref T)->H' T=H T)
 | _,_,_,H,I,.nil,.nil,_,hN=>⟨H,[],I,Same.refl _,.nil,.nil,hN,fun _ _=>rfl⟩
 | _,_,_,H,I,.cons (a:=v) (l₁:=vs) (b:=p) (l₂:=ps) r t,.cons (a:=q) (l₁:=qs) rq tq,hv,hN=>by
  obtain⟨T,e,hT⟩:=r
  subst e
  obtain⟨T',e',hle⟩:=hv _ Ï
  cases e'
  have vq:Vals [q.1,q.2] [p.1,p.2]:=.cons rq.1 (.cons rq.2 .nil)
  have okT:∀ H2:Hp,aV X.prog X.w H2 s.heap T (.tup [q.1,q.2]):=fun H2=>⟨by show 2<=sizeLine; decide,[p.1,p.2],vq,⟨_,hT,rfl,0,rfl⟩⟩
  have key:∃ H1,Inv X pins σ H1 s/\Same H H1/\H1 T=some (.tup [q.1,q.2])/\(∀ U,s0.heap.objs.size<=U->H1 U=none\/∃ xs,H1 U=some (.tup xs))/\∀ U,U≠T->H1 U=H U:=by
   rcases hN T hle with hn | ⟨xs,hx⟩
   ·refine⟨upd H T (.tup [q.1,q.2]),I.Et I0 hle hn (okT _),fun b u e=>by rw [aj (ak e hn)]; exact e,ao,fun U hU=>?_,fun U hU=>aj hU⟩
    by_cases z:U=T
    ·subst z; exact .inr ⟨_,ao⟩
    ·rw [aj z]; exact hN U hU
   ·refine⟨H,I,Same.refl _,?_,hN,fun _ _=>rfl⟩
    obtain⟨_,its,rv,o,ho,hc,n,hd⟩:=I.hok T _ hx
    rw [hT] at ho
    cases ho
    cases hd
    have:xs=[q.1,q.2]:=Vals.inj (by simpa using rv) vq
    rw [hx,this]
  obtain⟨H1,I1,s1,h1,N1,u1⟩:=key
  obtain⟨H2,ws,I2,s2,v2,p2,N2,u2⟩:=Inv.tuples I0 vs ps qs H1 I1 t tq (fun v hv'=>hv v (Í _ hv')) N1
  refine⟨H2,.ref T::ws,I2,s1.trans s2,.cons rfl v2,.cons ⟨T,rfl,s2 _ _ h1⟩ p2,N2,fun U hU=>?_⟩
  rw [u2 U fun v hv'=>hU v (Í _ hv'),u1 U fun z=>hU _ Ï (by rw [z])]
def tLZ (K:â) (ta:TA):TE:=fun σ H Q=>ta σ H fun vs H1=>∃ p q xs ys,vs=[.ref p,.ref q]/\SqL K H1 p xs/\SqL K H1 q ys/\xs.length<=1000 /\
 ∀ l ws H',Same H1 H'->H1 l=none->H' l=some (.lst ws)->Paired (fun w (q:V×V)=>∃ t,w=.ref t/\H' t=some (.tup [q.1,q.2])) ws (xs.zip ys)->Q (.ref l) H'
theorem vh:∀ {xs ys:List V}{us vs:List Value},Vals xs us->Vals ys vs->Paired (fun (q:V×V) (p:Value×Value)=>RelV q.1 p.1/\RelV q.2 p.2) (xs.zip ys) (us.zip vs)
 | _,_,_,_,.nil,_=>.nil
 | _,_,_,_,.cons _ _,.nil=>.nil
 | _,_,_,_,.cons a b,.cons c d=>.cons ⟨a,c⟩ (vh b d)
theorem yx {a b:Expr}{ta:TA}{p1 p2 pos1 pos2:Pos} (hc:X.calm=true) (hgl:Gl X "list") (hml:X.mg "list"=none) (hgz:Gl X "zip") (hmz:X.mg "zip"=none) (ha:PA X [a,b] ta)
  (e1:starEach [.Call (.Name "zip" p2) [a,b] [] pos2] X.env=[(false,eval (.Call (.Name "zip" p2) [a,b] [] pos2) X.env)]:=by rfl) (e2:starEach [a,b] X.env=(false,eval a X.env)::starEach [b] X.env:=by rfl) (e3:(backTo pos2 (starEach [b] X.env)).any (·.1)=false:=by rfl) :
  PE X (.Call (.Name "list" p1) [.Call (.Name "zip" p2) [a,b] [] pos2] [] pos1) (tLZ X.K ta):=by
 intro pins s σ H Q I h
 refine wpAny_Call_Name_kw (gF I hgl hml boot_list ?_)
 refine ĩ ?_ e1 rfl
 rw [e1]
 refine Calls.spliced_cons ?_
 refine wpAny_Call_Name_kw (gF I hgz hmz PyProof.Rows.boot_zip ?_)
 refine ĩ (thn (ha pos2 pins s σ H _ I h) fun us s1 ⟨vs,H1,I1,r1,q1⟩=>?_) e2 e3
 obtain⟨p,q,xs,ys,rfl,hp,hq,hlen,k⟩:=q1
 obtain⟨u,u2,rfl,rx,ry⟩:=vals2 r1
 cases rx
 cases ry
 obtain⟨its,rv,pl,_⟩:=I1.list hp
 obtain⟨its2,rv2,pl2,_⟩:=I1.list hq
 refine call_zip_2 pl.isList pl2.isList fun h' hz hTI hTO hi1 hi2 hsz hk=>?_
 refine Calls.spliced_nil ?_
 have lp:p<s1.heap.objs.size:=by obtain⟨o,e,_⟩:=pl.isList; exact Ê e
 have lq:q<s1.heap.objs.size:=by obtain⟨o,e,_⟩:=pl2.isList; exact Ê e
 have D:=zipApart_new lp lq
 have Z:ZSt (s1.heap.objs.size+4) (s1.heap.objs.size+2) (s1.heap.objs.size+3) s1.heap.objs.size (s1.heap.objs.size+1) p q its.toArray its2.toArray 0 h' :=
  ⟨.inl ⟨rfl,hz⟩,hTI,⟨_,_,hTO⟩,hi1,hi2,pl.isList.at fun o e=>hk _ o e,pl2.isList.at fun o e=>hk _ o e⟩
 have hl1:=rv.length
 refine En (s:={ s1 with heap:=h' }) (I1.ok.hd hc) D (by simp; omega) hz Z fun h2 acc c2 k2 hS hP hT=>?_
 have lt:∀ {b:Addr}{o:Obj},s1.heap.get? b=some o->b<s1.heap.objs.size:=fun e=>Ê e
 have kept:∀ b o,s1.heap.get? b=some o->h2.get? b=some o:=fun b o e=>by
  have l0:=lt e
  have l1:∀ j,b≠s1.heap.objs.size+j:=fun j=>Õ (è l0 (Nat.le_add_right _ _))
  exact k2 b o (l1 4) (l1 3) (l1 0) (l1 1) (hk b o e)
 have I2:Inv X pins σ H1 { s1 with heap:=h2 }:=I1.kept (t':=s1.toks) kept
 have hsz':h'.objs.size=s1.heap.objs.size+5:=hsz
 obtain⟨H3,ws,I3,s3,v3,p3,N3,u3⟩:=Inv.tuples I1 acc.toList _ _ H1 I2 hP (vh rv rv2) (fun v hv=>by
  obtain⟨T,e,hT'⟩:=hT v hv
  have hT'':h'.objs.size<T:=hT'
  exact⟨T,e,by omega⟩) fun T hT=>.inl (I1.hok.fresh hT)
 have hSn:H3 h'.objs.size=none:=by
  rw [u3 _ fun v hv z=>?_]
  ·exact I1.hok.fresh (by omega)
  ·obtain⟨T,e,hT'⟩:=hT v hv
   rw [z] at e
   cases e
   exact absurd hT' (ď _)
 have hwl:ws.length<=sizeLine:=by
  have:=v3.length
  have h24:=ç
  have l3:=p3.length
  rw [l3,List.length_zip]
  omega
 have I4:Inv X pins σ (upd H3 h'.objs.size (.lst ws)) { s1 with heap:=h2 }:=I3.Et I1 (by omega) hSn ⟨hwl,acc.toList,c2,v3,hS⟩
 refine⟨.ref h'.objs.size,_,I4,rfl,k h'.objs.size ws _ (s3.trans fun b u e=>by rw [aj (ak e hSn)]; exact e) (I1.hok.fresh (by omega)) ao (Paired.yQ p3 fun w q ⟨t,e,ht⟩=>⟨t,e,by rw [aj (ak ht hSn)]; exact ht⟩)⟩
end
end L2
namespace Dl
open PySem L2 PyProof.Rows
variable [Gr]
section
variable {X:Cx}{pos:Pos}{a b c e:Expr}{es:List Expr}{ta tb tc te:DE}{t:DA}
def newP (k:Kd) (ds:List D) (P:Kd->Prop):Prop:=(cO ds=true/\P .new)\/P (k.join .new)
theorem n8 {p:Pn}{H0 Hb H H2:Hp}{own:Addr->Option Nat} (A:At p H0 own Hb H) {k:Kd}{vs:List V}{ds:List D}{P:Kd->Prop}{l:Addr} (r:Rps (okK p H0 own Hb k) H2 vs ds) (nw:okK p H0 own Hb .new l) (hl:H2 l=some (.lst vs)) (h:newP k ds P):∃ k',P k'/\Rp (okK p H0 own Hb k') H2 (.ref l) (.list ds):=by
 rcases h with ⟨i,h⟩ | h
 ·exact⟨_,h,.lst nw hl ((Rps.imm r i).mono (fun _ o=>o.elim) (fun _ _ _ e=>e) fun _ _ e=>e)⟩
 ·exact⟨_,h,.lst (bM A (dM k .new).2 nw) hl (r.mono (fun a o=>bM A (dM k .new).1 o) (fun _ _ _ e=>e) fun _ _ e=>e)⟩
theorem iQ:∀ l:List Int,cO (l.map Ç)=true
 | []=>rfl
 | x::l=>by
  show (eF (.int x)&&cO (l.map Ç))=true
  rw [iQ l]
  rfl
theorem jh:∀ l:List Tie,cO (l.map pD)=true
 | []=>rfl
 | x::l=>by
  show (eF (pD x)&&cO (l.map pD))=true
  rw [jh l]
  rfl
def prD (p:D×D):D:=.tuple [p.1,p.2]
def Nx:GC:=fun ks P=>match ks with
 | [(k1,.list ds),(k2,.list es)]=>ds.length<=1000/\newP (k1.join k2) ((ds.zip es).map prD) fun k=>P k (.list ((ds.zip es).map prD))
 | _=>False
theorem Rps.zip {ok:Addr->Prop}{H H':Hp} (m:∀ {v:V}{d:D},Rp ok H v d->Rp ok H' v d):∀ {xs ys:List V}{ds es:List D}{ws:List V},Rps ok H xs ds->Rps ok H ys es->Paired (fun w (q:V×V)=>∃ t,w=.ref t/\H' t=some (.tup [q.1,q.2])) ws (xs.zip ys)->Rps ok H' ws ((ds.zip es).map prD)
 | _,_,_,_,_,.nil,_,p=>by cases p; exact .nil
 | _,_,_,_,_,.cons _ _,.nil,p=>by cases p; exact .nil
 | _,_,_,_,_,.cons h t,.cons h2 t2,p=>by
  cases p with
  | cons r q =>
   obtain⟨t',rfl,ht⟩:=r
   exact .cons (.tup ht (.cons (m h) (.cons (m h2) .nil))) (Rps.zip m t t2 q)
theorem jx {p1 p2 pos1 pos2:Pos} (hc:X.calm=true) (hml:X.mg "list"=none) (hmz:X.mg "zip"=none) (ha:PDA X [a,b] t) (hgl:Gl X "list":=by rfl) (hgz:Gl X "zip":=by rfl)
  (e1:starEach [.Call (.Name "zip" p2) [a,b] [] pos2] X.env=[(false,eval (.Call (.Name "zip" p2) [a,b] [] pos2) X.env)]:=by rfl) (e2:starEach [a,b] X.env=(false,eval a X.env)::starEach [b] X.env:=by rfl) (e3:(backTo pos2 (starEach [b] X.env)).any (·.1)=false:=by rfl) :
  PD X (.Call (.Name "list" p1) [.Call (.Name "zip" p2) [a,b] [] pos2] [] pos1) (tCl Nx t):=PE.wk (yx hc hgl hml hgz hmz ha e1 e2 e3) (by
 rintro σ H Q ⟨p,H0,own,ρ,P,E,t,q⟩
 refine⟨p,H0,own,ρ,_,E,t,fun ks vs H1 h A r=>?_⟩
 unfold Nx at h
 split at h
 ·rename_i k1 ds k2 es'
  obtain⟨v,w,rfl,r1,r2⟩:=Iz r
  obtain⟨x,xs,e1,o1,h1,rs1⟩:=Rp.bF r1
  obtain⟨y,ys,e2,o2,h2,rs2⟩:=Rp.bF r2
  subst e1 e2
  refine⟨x,y,xs,ys,rfl,SqL.of h1,SqL.of h2,by rw [rs1.length]; exact h.1,fun l ws H' sm hl hl' hp=>?_⟩
  have K:Kp p H1 H':=Kp.of sm
  have i2:p.PI H':=p.mono H1 H' A.pen fun b o _ e=>sm b o e
  have j2:=dM k1 k2
  have m1:∀ {k:Kd},k.le (k1.join k2)=true->∀ {vs ds},Rps (okK p H0 own H k) H1 vs ds->Rps (okK p H0 own H (k1.join k2)) H1 vs ds:=fun hk _ _ z=>z.mono (fun a o=>bM A hk o) (fun _ _ _ e=>e) fun _ _ e=>e
  obtain⟨k',hk',rk'⟩:=n8 A (Rps.zip (fun z=>nj A K z) (m1 j2.1 rs1) (m1 j2.2 rs2) hp) (A.free hl) hl' h.2
  exact q _ _ _ _ hk' (A.go K i2) rk'
 ·exact h.elim)
def tCh (f g:Int->Int->Bool) (ta tb tc:DE):DE:=fun ρ P=>ta ρ fun _ d1=>tb ρ fun _ d2=>match d1,d2 with
 | .int i,.int j=>if f i j=true then tc ρ fun _ d3=>(match d3 with
   | .int l=>P .imm (.bool (g j l))
   | _=>False) else P .imm (.bool false)
 | _,_=>False
theorem JK {f g:Int->Int->Bool}:∀ σ H Q,bH (tCh f g ta tb tc) σ H Q->Ew (rI0 fun i j=>.bl (f i j)) (rI0 fun i j=>.bl (g i j)) (bH ta) (bH tb) (bH tc) σ H Q:=by
 rintro σ H Q ⟨p,H0,own,ρ,P,E,t,q⟩
 refine⟨p,H0,own,ρ,_,E,t,fun k1 d1 v1 H1 t1 A1 r1=>?_⟩
 refine⟨p,H0,own,ρ,_,E.go A1.kp A1.pen,t1,fun k2 d2 v2 H2 t2 A2 r2=>?_⟩
 have A:=A1.base A2
 split at t2
 ·rename_i i j
  refine⟨i,j,r1.int',r2.int',_,rfl,?_⟩
  cases hf:f i j with
  | true =>
   rw [hf,if_pos rfl] at t2
   refine bJ ⟨p,H0,own,ρ,_,(E.go A1.kp A1.pen).go A2.kp A2.pen,t2,fun k3 d3 v3 H3 t3 A3 r3=>?_⟩
   cases d3 with
   | int l=>exact⟨j,l,r2.int',r3.int',q _ _ _ _ t3 (A.base A3) (.bl _)⟩
   | _=>exact t3.elim
  | false =>
   rw [hf,if_neg Ú] at t2
   exact aW (q _ _ _ _ t2 A (.bl _))
 ·exact t2.elim
theorem tY (ha:PD X a ta) (hb:PD X b tb) (hc:PD X c tc) (hm:lastMarks [.LtE,.Lt] [b,c]=false:=by with_unfolding_all rfl):PD X (.Compare a [.LtE,.Lt] [b,c] pos) (tCh (fun i j=>decide (i<=j)) (fun i j=>decide (i<j)) ta tb tc):=PE.wk (Gd Pz Gj ha hb hc hm) JK
def Km (ta:DE):DE:=fun ρ P=>ta ρ fun _ d=>match d with
 | .bool b=>P .imm (.bool (!b))
 | _=>False
theorem yE (ha:PD X a ta):PD X (.UnaryOp .Not a pos) (Km ta):=PE.wk (Mw ha) (by
 rintro σ H Q ⟨p,H0,own,ρ,P,E,t,q⟩
 refine⟨p,H0,own,ρ,_,E,t,fun k d v H' h A r=>?_⟩
 cases d with
 | bool b=>exact⟨b,r.bl',q _ _ _ _ h A (.bl _)⟩
 | _=>exact h.elim)
def Kr (ta tb:DE):DE:=fun ρ P=>ta ρ fun _ d=>match d with
 | .bool b=>if b=true then tb ρ P else P .imm (.bool false)
 | _=>False
theorem o9 {op} (h:PD X a ta):PD X (.BoolOp op [a] pos) ta:=Mv h
theorem pG {rest:List Expr} (ha:PD X a ta) (hb:PD X (.BoolOp .And (b::rest) pos) tb):PD X (.BoolOp .And (a::b::rest) pos) (Kr ta tb):=PE.wk (MF ha hb) (by
 rintro σ H Q ⟨p,H0,own,ρ,P,E,t,q⟩
 refine⟨p,H0,own,ρ,_,E,t,fun k d v H' h A r=>?_⟩
 cases d with
 | bool b =>
  refine⟨b,r.bl',?_⟩
  cases b with
  | true=>exact bJ ⟨p,H0,own,ρ,P,E.go A.kp A.pen,by simpa using h,fun k d v H2 h2 A2 r2=>q k d v H2 h2 (A.base A2) (nU A r2)⟩
  | false=>exact aW (q _ _ _ _ (by simpa using h) A (.bl _))
 | _=>exact h.elim)
def tyD:D->String
 | .none=>"NoneType"
 | .bool _=>"bool"
 | .int _=>"int"
 | .str _=>"str"
 | .list _=>"list"
 | .tuple _=>"tuple"
 | .dict _=>"dict"
def isT (c:String) (d:D):Bool:=tyD d == c || (c == "int"&&tyD d == "bool")
def tIs (c:String) (te:DE):DE:=fun ρ P=>te ρ fun _ d=>P .imm (.bool (isT c d))
theorem cg {T:String}{x:Str}{ps pt:Pos} (hk:∀ t:Value,(t=.type "NoneType"\/t=.type "bool"\/t=.type "int"\/t=.type "str"\/t=.type "list"\/t=.type "tuple"\/t=.type "dict")->∃ n,t=.type n/\W.kitOne X.K t (.type T)=some (n == T || (T == "int"&&n == "bool")))
  (hm:X.mg "isinstance"=none) (he:PD X e te) (hT:PE X (.Name x pt) (tC (.ty T))) (hg:Gl X "isinstance":=by rfl) (h1:starEach [e,.Name x pt] X.env=(false,eval e X.env)::starEach [.Name x pt] X.env:=by rfl) (h2:starEach [.Name x pt] X.env=(false,eval (.Name x pt) X.env)::starEach [] X.env:=by rfl) (hpl:(backTo pos (starEach [.Name x pt] X.env)).any (·.1)=false:=by rfl) :
  PD X (.Call (.Name "isinstance" ps) [e,.Name x pt] [] pos) (tIs T te):=PE.wk (cG uW hg hm boot_isinstance (bN he (bN hT dY h2) h1) (by decide) (by decide) h1 hpl) (by
 rintro σ H Q ⟨p,H0,own,ρ,P,E,t,q⟩
 refine⟨p,H0,own,ρ,_,E,t,fun k d v H' h A r=>?_⟩
 have fin:∀ n,TyOf X.K H' v (.type n)->n=tyD d->∃ x' c' t' b,[v,V.ty T]=[x',.ty c']/\TyOf X.K H' x' t'/\W.kitOne X.K t' (.type c')=some b/\Q (.bl b) H':=fun n ty en=>by
  obtain⟨n',e,hk'⟩:=hk (.type n) (by rw [en]; cases d <;> simp [tyD])
  cases e
  refine⟨v,T,.type n,_,rfl,ty,hk',?_⟩
  rw [en]
  exact q _ _ _ _ h A (.bl _)
 show ∃ x' c' t' b,_/\_
 cases r with
 | non=>exact fin _ .non rfl
 | bl b=>exact fin _ (.bl b) rfl
 | int i=>exact fin _ (.int i) rfl
 | str x=>exact fin _ (.str x) rfl
 | lst o hh rr=>exact fin _ (.lst hh) rfl
 | tup hh rr=>exact fin _ (.tup hh) rfl
 | dct o hh rr=>exact fin _ (.dK hh) rfl)
theorem Bx {K:â}:∀ t:Value,(t=.type "NoneType"\/t=.type "bool"\/t=.type "int"\/t=.type "str"\/t=.type "list"\/t=.type "tuple"\/t=.type "dict")->∃ n,t=.type n/\W.kitOne K t (.type "int")=some (n == "int" || ("int" == "int"&&n == "bool")):=by
 rintro t (rfl | rfl | rfl | rfl | rfl | rfl | rfl) <;> exact⟨_,rfl,rfl⟩
theorem wJ {K:â}:∀ t:Value,(t=.type "NoneType"\/t=.type "bool"\/t=.type "int"\/t=.type "str"\/t=.type "list"\/t=.type "tuple"\/t=.type "dict")->∃ n,t=.type n/\W.kitOne K t (.type "bool")=some (n == "bool" || ("bool" == "int"&&n == "bool")):=by
 rintro t (rfl | rfl | rfl | rfl | rfl | rfl | rfl) <;> exact⟨_,rfl,rfl⟩
theorem wI {K:â}:∀ t:Value,(t=.type "NoneType"\/t=.type "bool"\/t=.type "int"\/t=.type "str"\/t=.type "list"\/t=.type "tuple"\/t=.type "dict")->∃ n,t=.type n/\W.kitOne K t (.type "list")=some (n == "list" || ("list" == "int"&&n == "bool")):=by
 rintro t (rfl | rfl | rfl | rfl | rfl | rfl | rfl) <;> exact⟨_,rfl,rfl⟩
def Rq:GC:=fun ks P=>match ks with
 | [(_,.list ds)]=>∃ bs:List Bool,ds=bs.map PyData.bool/\P .imm (.bool (bs.all id))
 | _=>False
theorem Rps.bools {ok:Addr->Prop}{H:Hp}:∀ {vs:List V}{bs:List Bool},Rps ok H vs (bs.map PyData.bool)->vs=bs.map V.bl
 | [],[],_=>rfl
 | _,b::bs,.cons h t=>by
  have e:=h.bl'
  subst e
  rw [Rps.bools t]
  rfl
def gMM (f:Int->Int->Int):GC:=fun ks P=>match ks with
 | [(_,.int i),(_,.int j)]=>P .imm (.int (f i j))
 | _=>False
theorem tO {ps:Pos} (hc:X.calm=true) (hm:X.mg "max"=none) (ha:PDA X [a,b] t) (hg:Gl X "max":=by rfl) (he:starEach [a,b] X.env=(false,eval a X.env)::starEach [b] X.env:=by rfl) (hpl:(backTo pos (starEach [b] X.env)).any (·.1)=false:=by rfl):PD X (.Call (.Name "max" ps) [a,b] [] pos) (tCl (gMM fun i j=>if j > i then j else i) t) :=
 cH (Ed hc) (by
  intro p H0 own Hb H vs ks P Q A r t q
  unfold gMM at t
  split at t
  ·rename_i k i k' j
   obtain⟨v,w,rfl,r1,r2⟩:=Iz r
   rw [Rp.int' r1,Rp.int' r2]
   exact⟨i,j,rfl,q _ _ _ _ t Kp.refl A.pen (.int _)⟩
  ·exact t.elim) hg hm boot_max ha (by decide) (by decide) he hpl
def Ra:GC:=fun ks P=>match ks with
 | [(k,.list ds)]=>newP k ds fun k'=>P k' (.list ds)
 | [(k,.tuple ds)]=>newP k ds fun k'=>P k' (.list ds)
 | _=>False
def Hh:GC:=fun ks P=>match ks with
 | [(k,.list ds)]=>P (norm k (.tuple ds)) (.tuple ds)
 | [(k,.tuple ds)]=>P (norm k (.tuple ds)) (.tuple ds)
 | _=>False
theorem nY {ps:Pos} (hm:X.mg "tuple"=none) (ha:PDA X [a] t) (hg:Gl X "tuple":=by rfl) (he:zS X a []:=by rfl) (hpl:zP X pos []:=by rfl):PD X (.Call (.Name "tuple" ps) [a] [] pos) (tCl Hh t) :=
 pF qO (by
  intro p H0 own Hb H vs ks P Q A r t q
  unfold Hh at t
  split at t
  ·rename_i k ds
   obtain⟨v,rfl,r'⟩:=cD r
   obtain⟨x,xs,e1,o1,h1,rs1⟩:=Rp.bF r'
   subst e1
   refine⟨x,xs,rfl,.inl ⟨SqL.of h1,fun l hl=>?_⟩⟩
   obtain⟨k2,i2,nw⟩:=A.new hl (.tup xs)
   exact q _ _ _ _ t k2 i2 (bA (.tup ao (cC A k2 rs1)))
  ·rename_i k ds
   obtain⟨v,rfl,r'⟩:=cD r
   obtain⟨x,xs,e1,h1,rs1⟩:=Rp.cR r'
   subst e1
   exact⟨x,xs,rfl,.inr ⟨SqT.of h1,q _ _ _ _ t Kp.refl A.pen (bA r')⟩⟩
  ·exact t.elim) hg hm boot_tuple ha (by decide) (by decide) he hpl
def zm:GC:=fun ks P=>match ks with
 | [(_,.list ds)]=>∃ ns:List Int,ds=ns.map Ç/\ns.length<64/\∀ out:List Int,out.Perm ns->out.Pairwise (·<=·)->P .new (.list (out.map Ç))
 | _=>False
theorem j4 {ps:Pos} (hm:X.mg "sorted"=none) (ha:PDA X [a] t) (hg:Gl X "sorted":=by rfl) (he:zS X a []:=by rfl) (hpl:zP X pos []:=by rfl):PD X (.Call (.Name "sorted" ps) [a] [] pos) (tCl zm t) :=
 cH uU (by
  intro p H0 own Hb H vs ks P Q A r t q
  unfold zm at t
  split at t
  ·obtain⟨ns,rfl,hl,t⟩:=t
   obtain⟨v,rfl,r'⟩:=cD r
   obtain⟨x,xs,e1,o1,h1,rs1⟩:=Rp.bF r'
   subst e1
   have e2:=Rps.ints rs1
   subst e2
   refine⟨x,ns,rfl,SqL.of h1,hl,fun l out hl' hp hs=>?_⟩
   obtain⟨k2,i2,nw⟩:=A.new hl' (.lst (out.map V.int))
   exact q _ _ _ _ (t out hp hs) k2 i2 (.lst nw ao (Rps.ofMap (fun i=>.int i) out))
  ·exact t.elim) hg hm boot_sorted ha (by decide) (by decide) he hpl
def zf:GC:=fun ks P=>match ks with
 | [(_,d)]=>∃ ts:List Tie,(d=.list (ts.map pD)\/d=.tuple (ts.map pD))/\ts.length<64/\(∀ t∈ts,xK t)/\∀ us:List Tie,us.Perm ts->us.Pairwise (fun a b=>aZ a<=aZ b)->P .new (.list (us.map pD))
 | _=>False
theorem Rps.prs {ok:Addr->Prop}{H:Hp}:∀ {vs:List V}{ts:List Tie},Rps ok H vs (ts.map pD)->Prs H vs ts
 | [],[],_=>.nil
 | _,t::ts,.cons h r=>by
  obtain⟨x,xs,e,hx,rs⟩:=Rp.cR h
  obtain⟨v1,v2,e2,q1,q2⟩:=Rps.two rs
  subst e e2
  rw [q1.int',q2.int'] at hx
  exact .cons ⟨x,rfl,hx⟩ (Rps.prs r)
theorem Prs.rps {ok:Addr->Prop}{H:Hp}:∀ {vs:List V}{ts:List Tie},Prs H vs ts->Rps ok H vs (ts.map pD)
 | _,_,.nil=>.nil
 | _,_,.cons r t=>by
  obtain⟨x,e,hx⟩:=r
  subst e
  exact .cons (.tup hx (.cons (.int _) (.cons (.int _) .nil))) (Prs.rps t)
theorem o7 {ps:Pos} (hm:X.mg "sorted"=none) (ha:PDA X [a] t) (hg:Gl X "sorted":=by rfl) (he:zS X a []:=by rfl) (hpl:zP X pos []:=by rfl):PD X (.Call (.Name "sorted" ps) [a] [] pos) (tCl zf t) :=
 cH uR (by
  intro p H0 own Hb H vs ks P Q A r t q
  unfold zf at t
  split at t
  ·obtain⟨ts,hd,hl,hn,t⟩:=t
   obtain⟨v,rfl,r'⟩:=cD r
   have fin:∀ l ws us,H l=none->Prs H ws us->us.Perm ts->us.Pairwise (fun a b=>aZ a<=aZ b)->Q (.ref l) (upd H l (.lst ws)):=fun l ws us hl' pr hp hs=>by
    obtain⟨k2,i2,nw⟩:=A.new hl' (.lst ws)
    exact q _ _ _ _ (t us hp hs) k2 i2 (.lst nw ao (cC A k2 (Prs.rps pr)))
   rcases hd with rfl | rfl
   ·obtain⟨x,xs,e1,o1,h1,rs1⟩:=Rp.bF r'
    subst e1
    exact⟨x,xs,ts,rfl,.inl (SqL.of h1),Rps.prs rs1,hn,hl,fin⟩
   ·obtain⟨x,xs,e1,h1,rs1⟩:=Rp.cR r'
    subst e1
    exact⟨x,xs,ts,rfl,.inr (SqT.of h1),Rps.prs rs1,hn,hl,fin⟩
  ·exact t.elim) hg hm boot_sorted ha (by decide) (by decide) he hpl
end
variable [Gr]
section
variable {X:Cx}{pins:List (Addr×Obj)}{σ:L2.St}{H:Hp}{s:Shared}{ok:Addr->Prop}
mutual
theorem Rp.reads (I:Inv X pins σ H s):∀ {v:V}{d:D}{u:Value},Rp ok H v d->RelV v u->d.canLay0=true->∃ as,Reads s.heap u d as
 | _,_,_,.non,r,_=>by cases r; exact⟨_,.none⟩
 | _,_,_,.bl b,r,_=>by cases r; exact⟨_,.bool b⟩
 | _,_,_,.int i,r,_=>by obtain⟨t,rfl⟩:=r; exact⟨_,.int i t⟩
 | _,_,_,.str x,r,_=>by obtain⟨t,rfl⟩:=r; exact⟨_,.str x t⟩
 | _,_,_,.lst o h rs,r,c=>by
  cases r
  obtain⟨its,rv,pl,_⟩:=I.list (SqL.of h)
  obtain⟨as,ra⟩:=Rps.reads I rs rv (by simpa [PyData.canLay0] using c)
  obtain⟨ob,ho,hc,n,hd⟩:=pl.isList
  exact⟨_,.list ho hc hd (by simpa using ra)⟩
 | _,_,_,.tup h rs,r,c=>by
  cases r
  obtain⟨its,rv,pl,_⟩:=I.tuple (SqT.of h)
  obtain⟨as,ra⟩:=Rps.reads I rs rv (by simpa [PyData.canLay0] using c)
  obtain⟨ob,ho,hc,n,hd⟩:=pl
  exact⟨_,.tuple ho hc hd (by simpa using ra)⟩
 | _,_,_,.dct o h rs,r,c=>by simp [PyData.canLay0] at c
theorem Rps.reads (I:Inv X pins σ H s):∀ {v:List V}{d:List D}{u:List Value},Rps ok H v d->Vals v u->ģ d=true->∃ as,ReadsAll s.heap u d as
 | _,_,_,.nil,r,_=>by cases r; exact⟨[],.nil⟩
 | _,_,_,.cons h t,r,c=>by
  cases r with
  | cons a b =>
   simp only [ģ,Ü] at c
   obtain⟨as,ra⟩:=Rp.reads I h a c.1
   obtain⟨bs,rb⟩:=Rps.reads I t b c.2
   exact⟨_,.cons ra rb⟩
end
end
def okD (d:D):Bool:=d.canLay0&&decide (d.depth<=60)
section
variable {X:Cx}{pos:Pos}{a b e:Expr}{ta tb te:DE}
def Fq (K:â) (neg:Bool):R2:=fun x y H Q=>∃ ok ok' d e,Rp ok H x d/\Rp ok' H y e/\okD d=true/\okD e=true/\Q (.bl (if neg then !(î d e) else î d e)) H
theorem Gm (hu:X.A.units+64<cLine):OpR X (compareOp .Eq) (Fq X.K false):=by
 intro pins s σ H x y v u Q I rx ry h
 obtain⟨ok,ok',d,e,hd,he,cd,ce,q⟩:=h
 simp only [okD,Ü,decide_eq_true_eq] at cd ce
 obtain⟨as,ra⟩:=hd.reads I rx cd.1
 obtain⟨bs,rb⟩:=he.reads I ry ce.1
 exact SeqAt.compareEq_reads ra rb cd.1 ce.1 (by omega) ⟨.bl _,H,I,rfl,q⟩
theorem Gi (hu:X.A.units+64<cLine):OpR X (compareOp .NotEq) (Fq X.K true):=by
 intro pins s σ H x y v u Q I rx ry h
 obtain⟨ok,ok',d,e,hd,he,cd,ce,q⟩:=h
 simp only [okD,Ü,decide_eq_true_eq] at cd ce
 obtain⟨as,ra⟩:=hd.reads I rx cd.1
 obtain⟨bs,rb⟩:=he.reads I ry ce.1
 exact SeqAt.compareNe_reads ra rb cd.1 ce.1 (by omega) ⟨.bl _,H,I,rfl,q⟩
def Qh (neg:Bool):G2:=fun _ d1 _ d2 P=>okD d1=true/\okD d2=true/\P .imm (.bool (if neg then !(î d1 d2) else î d1 d2))
theorem KN {K:â} (neg:Bool):Ok2 (Qh neg) (Fq K neg):=by
 intro p H0 own Hb H x y k1 d1 k2 d2 P Q A r1 r2 t q
 exact⟨_,_,d1,d2,r1,r2,t.1,t.2.1,q _ _ _ _ t.2.2 Kp.refl A.pen (.bl _)⟩
def eqP (x:D) (h:Heap) (u:Value):Bool:=by
 classical
 exact decide (∃ d as,Reads h u d as/\î d x=true)
def LK (neg:Bool):R2:=fun x y H Q=>∃ ok ok' d es,Rp ok H x d/\(Rp ok' H y (.list es)\/Rp ok' H y (.tuple es))/\okD d=true/\(es.all okD)=true/\Q (.bl (if neg then !(es.any fun e=>î e d) else es.any fun e=>î e d)) H
theorem Hu {x:D}{h:Heap}{u:Value}{d:D}{as:List Addr} (r:Reads h u d as):eqP x h u=î d x:=by
 classical
 unfold eqP
 rw [ē,decide_eq_true_eq]
 constructor
 ·rintro ⟨d',as',r',e⟩
  rw [(r.unique d' as' r').1]
  exact e
 ·exact fun e=>⟨d,as,r,e⟩
theorem lK {x:D}{h:Heap}:∀ {us:List Value}{ds:List D}{as:List Addr},ReadsAll h us ds as->us.any (eqP x h)=ds.any fun e=>î e x
 | _,_,_,.nil=>rfl
 | _,_,_,.cons a b=>by
  rw [List.any_cons,List.any_cons,Hu a,lK b]
theorem kE {A:Around}{s:Shared}{x:D}{v:Value}{bs:List Addr} (rx:Reads s.heap v x bs) (cx:okD x=true) (hu:A.units+60<cLine):∀ {us:List Value}{ds:List D}{as:List Addr},ReadsAll s.heap us ds as->ds.all okD=true->∀ u∈us,SeqAt.EqAt A s u v (eqP x s.heap u)
 | _,_,_,.nil,_,u,hu'=>nomatch hu'
 | _,d::ds,_,.cons a b,c,u,hu'=>by
  simp only [List.all_cons,Ü] at c
  rcases Þ.mp hu' with rfl | hu'
  ·rw [Hu a]
   have c1:=c.1
   simp only [okD,Ü,decide_eq_true_eq] at c1 cx
   exact SeqAt.eqAt_reads _ _ A s _ _ _ _ a rx c1.1 cx.1 (by omega)
  ·exact kE rx cx hu b c.2 u hu'
theorem kZ {A:Around} (hu:A.units+64<cLine):A.in1.units+60<cLine:=by
 have:A.in1.units<=A.units+1:=by first | exact Ò _ | exact Ę _ | (unfold Around.in1; simp)
 omega
theorem kW:∀ {es:List D},es.all okD=true->ģ es=true
 | [],_=>rfl
 | e::es,h=>by
  simp only [List.all_cons,Ü,okD] at h
  simp only [ģ,Ü]
  exact⟨h.1.1,kW h.2⟩
theorem Gk (hu:X.A.units+64<cLine):OpR X (compareOp .In) (LK false):=by
 intro pins s σ H x y v u Q I rx ry h
 obtain⟨ok,ok',d,es,hd,hs,cd,ce,q⟩:=h
 have cd':=cd
 simp only [okD,Ü,decide_eq_true_eq] at cd'
 obtain⟨bs,rb⟩:=hd.reads I rx cd'.1
 rcases hs with hs | hs
 ·obtain⟨c,vs,rfl,o,hc,rs⟩:=hs.bF
  cases ry
  obtain⟨its,r,pl,hz⟩:=I.list (SqL.of hc)
  obtain⟨as,ra⟩:=rs.reads I r (kW ce)
  refine SeqAt.in_listAt (eqP d s.heap) pl.isList (fun w hw=>kE rb cd (kZ hu) ra ce w (by simpa using hw)) ⟨.bl _,H,I,rfl,?_⟩
  rw [show its.toArray.any (eqP d s.heap)=its.any (eqP d s.heap) by simp,lK ra]
  exact q
 ·obtain⟨c,vs,rfl,hc,rs⟩:=hs.cR
  cases ry
  obtain⟨its,r,pl,hz⟩:=I.tuple (SqT.of hc)
  obtain⟨as,ra⟩:=rs.reads I r (kW ce)
  refine SeqAt.in_tupleAt (eqP d s.heap) pl (fun w hw=>kE rb cd (kZ hu) ra ce w (by simpa using hw)) ⟨.bl _,H,I,rfl,?_⟩
  rw [show its.toArray.any (eqP d s.heap)=its.any (eqP d s.heap) by simp,lK ra]
  exact q
theorem CZ (hu:X.A.units+64<cLine):OpR X (compareOp .NotIn) (LK true):=by
 intro pins s σ H x y v u Q I rx ry h
 obtain⟨ok,ok',d,es,hd,hs,cd,ce,q⟩:=h
 have cd':=cd
 simp only [okD,Ü,decide_eq_true_eq] at cd'
 obtain⟨bs,rb⟩:=hd.reads I rx cd'.1
 rcases hs with hs | hs
 ·obtain⟨c,vs,rfl,o,hc,rs⟩:=hs.bF
  cases ry
  obtain⟨its,r,pl,hz⟩:=I.list (SqL.of hc)
  obtain⟨as,ra⟩:=rs.reads I r (kW ce)
  refine SeqAt.notIn_listAt (eqP d s.heap) pl.isList (fun w hw=>kE rb cd (kZ hu) ra ce w (by simpa using hw)) ⟨.bl _,H,I,rfl,?_⟩
  rw [show its.toArray.any (eqP d s.heap)=its.any (eqP d s.heap) by simp,lK ra]
  exact q
 ·obtain⟨c,vs,rfl,hc,rs⟩:=hs.cR
  cases ry
  obtain⟨its,r,pl,hz⟩:=I.tuple (SqT.of hc)
  obtain⟨as,ra⟩:=rs.reads I r (kW ce)
  refine SeqAt.notIn_tupleAt (eqP d s.heap) pl (fun w hw=>kE rb cd (kZ hu) ra ce w (by simpa using hw)) ⟨.bl _,H,I,rfl,?_⟩
  rw [show its.toArray.any (eqP d s.heap)=its.any (eqP d s.heap) by simp,lK ra]
  exact q
def gIn (neg:Bool):G2:=fun _ d1 _ d2 P=>match d2 with
 | .list es=>okD d1=true/\es.all okD=true/\P .imm (.bool (if neg then !(es.any fun e=>î e d1) else es.any fun e=>î e d1))
 | .tuple es=>okD d1=true/\es.all okD=true/\P .imm (.bool (if neg then !(es.any fun e=>î e d1) else es.any fun e=>î e d1))
 | _=>False
theorem okIn (neg:Bool):Ok2 (gIn neg) (LK neg):=by
 intro p H0 own Hb H x y k1 d1 k2 d2 P Q A r1 r2 t q
 cases d2 with
 | list es=>exact⟨_,_,d1,es,r1,.inl r2,t.1,t.2.1,q _ _ _ _ t.2.2 Kp.refl A.pen (.bl _)⟩
 | tuple es=>exact⟨_,_,d1,es,r1,.inr r2,t.1,t.2.1,q _ _ _ _ t.2.2 Kp.refl A.pen (.bl _)⟩
 | _=>exact t.elim
theorem Gg (hu:X.A.units+64<cLine) (ha:PD X a ta) (hb:PD X b tb) (hm:behindInMarks .In b=false:=by rfl):PD X (.Compare a [.In] [b] pos) (t2 (gIn false) ta tb):=tX (Gk hu) (okIn false) ha hb hm
theorem lY (hu:X.A.units+64<cLine) (ha:PD X a ta) (hb:PD X b tb) (hm:behindInMarks .In b=false:=by rfl):PDT X (.Compare a [.In] [b] pos) (eE (t2 (gIn false) ta tb)):=gj (Gk hu) (okIn false) ha hb hm
theorem bQ (hu:X.A.units+64<cLine) (ha:PD X a ta) (hb:PD X b tb) (hm:behindInMarks .NotIn b=false:=by rfl):PDT X (.Compare a [.NotIn] [b] pos) (eE (t2 (gIn true) ta tb)):=gj (CZ hu) (okIn true) ha hb hm
end
variable [Gr]
section
variable {X:Cx}{pos p2:Pos}{a b c e:Expr}{es:List Expr}{ta tb tc te:DE}{t:DA}{st:Stmt}
abbrev DO:=List Sl->(Option Int->Prop)->Prop
def wG (t:DO):TO:=fun σ H Q=>∃ p H0 own ρ P,EnvD p H0 own σ H ρ/\t ρ P/\∀ o H',P o->At p H0 own H H'->Q o H'
theorem PO.wk {e:Option Expr}{t t':TO} (h:PO X e t) (w:∀ σ H Q,t' σ H Q->t σ H Q):PO X e t':=fun pins s σ H Q I q=>h pins s σ H Q I (w σ H Q q)
def KZ:DO:=fun _ P=>P none
def KY (te:DE):DO:=fun ρ P=>te ρ fun _ d=>match d with
 | .int i=>P (some i)
 | _=>False
theorem lF:PO X none (wG KZ):=PO.wk Jg (by
 rintro σ H Q ⟨p,H0,own,ρ,P,E,t,q⟩
 exact q _ _ t E.at)
theorem lE (h:PD X e te):PO X (some e) (wG (KY te)):=PO.wk (Jf h) (by
 rintro σ H Q ⟨p,H0,own,ρ,P,E,t,q⟩
 refine⟨p,H0,own,ρ,_,E,t,fun k d v H' h A r=>?_⟩
 cases d with
 | int i=>exact⟨i,r.int',q _ _ h A⟩
 | _=>exact h.elim)
def fV {α:Type} (ds:List α) (lo hi:Option Int):List α:=(ds.drop (HT.sIx ds.length 0 lo)).take (HT.sIx ds.length ds.length hi - HT.sIx ds.length 0 lo)
theorem Rps.cut {ok:Addr->Prop}{H:Hp}{vs:List V}{ds:List D} (r:Rps ok H vs ds) (lo hi:Option Int):Rps ok H (qN vs lo hi) (fV ds lo hi):=by
 unfold qN fV
 rw [r.length]
 exact (r.drop _).take _
def Ro (te:DE) (tl th:DO):DE:=fun ρ P=>te ρ fun k d=>tl ρ fun lo=>th ρ fun hi=>match d with
 | .list ds=>newP k (fV ds lo hi) fun k'=>P k' (.list (fV ds lo hi))
 | _=>False
def NP:G2:=fun k1 d1 k2 d2 P=>match d1,d2 with
 | .list ds,.list es=>ds.length+es.length<=1000/\newP (k1.join k2) (ds++es) fun k=>P k (.list (ds++es))
 | _,_=>False
theorem PL:Ok2 NP Pa:=by
 intro p H0 own Hb H x y k1 d1 k2 d2 P Q A r1 r2 t q
 unfold NP at t
 split at t
 ·obtain⟨c1,xs,e1,o1,h1,rs1⟩:=r1.bF
  obtain⟨c2,ys,e2,o2,h2,rs2⟩:=r2.bF
  subst e1 e2
  have h24:=ç
  refine⟨c1,c2,xs,ys,rfl,rfl,h1,h2,by rw [rs1.length,rs2.length]; omega,fun l hl=>?_⟩
  obtain⟨k3,i3,nw⟩:=A.new hl (.lst (xs++ys))
  have j:=dM k1 k2
  have m:∀ {k vs ds},k.le (k1.join k2)=true->Rps (okK p H0 own Hb k) H vs ds->Rps (okK p H0 own Hb (k1.join k2)) H vs ds:=fun hk z=>z.mono (fun a o=>bM A hk o) (fun _ _ _ e=>e) fun _ _ e=>e
  obtain⟨k',hk',rk'⟩:=n8 A (cC A k3 ((m j.1 rs1).app (m j.2 rs2))) nw ao t.2
  exact q _ _ _ _ hk' k3 i3 rk'
 ·exact t.elim
def Ho:G2:=fun k1 d1 k2 d2 P=>match d1,d2 with
 | .tuple ds,.tuple es=>ds.length+es.length<=1000/\P (norm (k1.join k2) (.tuple (ds++es))) (.tuple (ds++es))
 | _,_=>False
theorem Nb:Ok2 Ho Kw:=by
 intro p H0 own Hb H x y k1 d1 k2 d2 P Q A r1 r2 t q
 unfold Ho at t
 split at t
 ·obtain⟨c1,xs,e1,h1,rs1⟩:=r1.cR
  obtain⟨c2,ys,e2,h2,rs2⟩:=r2.cR
  subst e1 e2
  have h24:=ç
  refine⟨c1,c2,xs,ys,rfl,rfl,h1,h2,by rw [rs1.length,rs2.length]; omega,fun l H' sm hl=>?_⟩
  have K:Kp p H H':=Kp.of sm
  have j:=dM k1 k2
  have m:∀ {k vs ds},k.le (k1.join k2)=true->Rps (okK p H0 own Hb k) H vs ds->Rps (okK p H0 own Hb (k1.join k2)) H vs ds:=fun hk z=>z.mono (fun a o=>bM A hk o) (fun _ _ _ e=>e) fun _ _ e=>e
  exact q _ _ _ _ t.2 K (p.mono H H' A.pen fun b o _ e=>sm b o e) (bA (.tup hl (cC A K ((m j.1 rs1).app (m j.2 rs2)))))
 ·exact t.elim
def Ox (ta:DE):DE:=fun ρ P=>ta ρ fun _ d=>match d with
 | .int i=>P .imm (.int (-i))
 | _=>False
theorem tG (ha:PD X a ta):PD X (.UnaryOp .USub a pos) (Ox ta):=PE.wk (Pq Le ha) (by
 rintro σ H Q ⟨p,H0,own,ρ,P,E,t,q⟩
 refine⟨p,H0,own,ρ,_,E,t,fun k d v H' h A r=>?_⟩
 cases d with
 | int i=>exact⟨i,r.int',q _ _ _ _ h A (.int _)⟩
 | _=>exact h.elim)
def Oe (i:Nat) (te:DE):DS:=fun P ρ=>match ρ[i]? with
 | some (.dw r (.list ds))=>te ρ fun k d=>match d with
  | .list es=>(k.le .new || cO es)=true/\ds.length+es.length<=1000/\P.nx ((forget r ρ).set i (.dw r (.list (ds++es))))
  | _=>False
 | _=>False
theorem gA {te:DE}{ρ:List Sl}{R:Kd->D->Prop} (t:te ρ R):aK te cB ρ (fun ks=>∃ k d,ks=[(k,d)]/\R k d):=by
 show te ρ fun k d=>∃ k' d',[((k,d):Kd×D)]=[(k',d')]/\R k' d'
 have e:(fun k d=>∃ k' d',[((k,d):Kd×D)]=[(k',d')]/\R k' d')=R:=by
  funext k d
  apply propext
  constructor
  ·rintro ⟨k',d',e,h⟩
   cases e
   exact h
  ·exact fun h=>⟨k,d,rfl,h⟩
 rw [e]
 exact t
theorem oU {ok ok':Addr->Prop}{H H2:Hp} (f:∀ {w:V}{d:D},Rp ok H w d->Rp ok' H2 w d):∀ {vs:List V}{ds:List D},Rps ok H vs ds->Rps ok' H2 vs ds
 | _,_,.nil=>.nil
 | _,_,.cons h t=>.cons (f h) (oU f t)
theorem mL {i:Nat} (h:PS X st (eN (tBM X.K "list" Bf (fj i) (cY (aK te cB))))):PDS X st (Oe i te):=PS.wk' h (by
 rintro Q σ H ⟨p,H0,own,ρ,P,E,t,w⟩
 unfold Oe at t
 split at t
 ·rename_i r ds hr
  obtain⟨v,hv,x⟩:=E.slot i _ hr
  obtain⟨l,vs,rfl,hl,ho,rs⟩:=x.bF
  refine⟨.ref l,hv,.inl ⟨rfl,vs,SqL.of ho⟩,p,H0,own,ρ,_,E,gA t,?_⟩
  rintro ks ws H1 ⟨k,d,rfl,hh⟩ A rk
  cases d with
  | list es =>
   obtain⟨hk,hlen,hn⟩:=hh
   obtain⟨y,rfl,ry⟩:=cD rk
   obtain⟨b,zs,e1,o1,hb,rz⟩:=Rp.bF ry
   subst e1
   have rz2:Rps (okK p H0 own H .new) H1 zs es:=by
    rcases Bool.or_eq_true_iff.mp hk with q | q
    ·exact rz.mono (fun a o=>bM A q o) (fun _ _ _ e=>e) fun _ _ e=>e
    ·exact (Rps.imm rz q).mono (fun a o=>o.elim) (fun _ _ _ e=>e) fun _ _ e=>e
   have h1:H1 l=some (.lst vs):=A.kp l _ ho (E.ow l r hl).2.1
   have h24:=ç
   have l1:=rs.length
   have l2:=rz.length
   refine⟨l,b,vs,zs,rfl,rfl,h1,hb,by omega,?_⟩
   obtain⟨E2,F2⟩:=E.sV (vs':=vs++zs) (ds':=ds++es) A hv hl ho rs fun H2 f g=>(jR f rs fun d hd=>fB hd).app (oU g rz2)
   exact w.nx _ σ _ _ E2 F2 hn
  | _=>exact hh.elim
 ·exact t.elim)
def Oc (i:Nat) (tj te:DE):DS:=fun P ρ=>match ρ[i]? with
 | some (.dw r (.list ds))=>tj ρ fun _ dj=>te ρ fun k d=>match dj with
  | .int j=>(norm k d).le .new=true/\0<=j/\j.toNat<=ds.length/\ds.length<1000/\P.nx ((forget r ρ).set i (.dw r (.list (ds.take j.toNat++d::ds.drop j.toNat))))
  | _=>False
 | _=>False
theorem mK {i:Nat}{tj:DE} (h:PS X st (eN (tBM X.K "list" Bd (fj i) (cY (aK tj (aK te cB)))))):PDS X st (Oc i tj te):=PS.wk' h (by
 rintro Q σ H ⟨p,H0,own,ρ,P,E,t,w⟩
 unfold Oc at t
 split at t
 ·rename_i r ds hr
  obtain⟨v,hv,x⟩:=E.slot i _ hr
  obtain⟨l,vs,rfl,hl,ho,rs⟩:=x.bF
  refine⟨.ref l,hv,.inl ⟨rfl,vs,SqL.of ho⟩,p,H0,own,ρ,fun ks=>∃ k1 dj k d,ks=[(k1,dj),(k,d)]/\(match dj with
   | .int j=>(norm k d).le .new=true/\0<=j/\j.toNat<=ds.length/\ds.length<1000/\P.nx ((forget r ρ).set i (.dw r (.list (ds.take j.toNat++d::ds.drop j.toNat))))
   | _=>False),E,?_,?_⟩
  ·show tj ρ fun k1 dj=>te ρ fun k d=>∃ k1' dj' k' d',[((k1,dj):Kd×D),(k,d)]=[(k1',dj'),(k',d')]/\_
   have e:∀ (k1:Kd) (dj:D),(fun k d=>∃ k1' dj' k' d',[((k1,dj):Kd×D),(k,d)]=[(k1',dj'),(k',d')]/\(match dj' with
    | .int j=>(norm k' d').le .new=true/\0<=j/\j.toNat<=ds.length/\ds.length<1000/\P.nx ((forget r ρ).set i (.dw r (.list (ds.take j.toNat++d'::ds.drop j.toNat))))
    | _=>False))=fun k d=>(match dj with
    | .int j=>(norm k d).le .new=true/\0<=j/\j.toNat<=ds.length/\ds.length<1000/\P.nx ((forget r ρ).set i (.dw r (.list (ds.take j.toNat++d::ds.drop j.toNat))))
    | _=>False):=fun k1 dj=>by
    funext k d
    apply propext
    constructor
    ·rintro ⟨k1',dj',k',d',e,h⟩
     cases e
     exact h
    ·exact fun h=>⟨k1,dj,k,d,rfl,h⟩
   simp only [e]
   exact t
  ·rintro ks ws H1 ⟨k1,dj,k,d,rfl,hh⟩ A rk
   cases dj with
   | int j =>
    obtain⟨hk,h0,hj,hlen,hn⟩:=hh
    obtain⟨y1,y,rfl,ry1,ry⟩:=Iz rk
    have ry:=jT A hk (bA ry)
    have e1:=Rp.int' ry1
    have h1:H1 l=some (.lst vs):=A.kp l _ ho (E.ow l r hl).2.1
    have h24:=ç
    have l1:=rs.length
    refine⟨l,vs,j.toNat,y,rfl,?_,h1,by omega,by omega,?_⟩
    ·rw [e1]
     have:((j.toNat:Nat):Int)=j:=by omega
     rw [this]
    obtain⟨E2,F2⟩:=E.sV (vs':=vs.take j.toNat++y::vs.drop j.toNat) (ds':=ds.take j.toNat++d::ds.drop j.toNat) A hv hl ho rs fun H2 f g=>by
     have m:=jR f rs fun d hd=>fB hd
     exact (m.take _).app (.cons (g ry) (m.drop _))
    exact w.nx _ σ _ _ E2 F2 hn
   | _=>exact hh.elim
 ·exact t.elim)
end
variable [Gr]
structure Cal (P:Program) (w:World) (K:â) (mg:Str->Option Value) (base:Heap) (k:Nat) (x:Str) (ps:List Str) (sp:Sp):Prop where
 ex:∃ f fd,FnOk P w K mg base CX0 k f fd ps sp/\Binds K fd ps []/\W.keepIn K (.ref f)=true/\mg x=some (.ref f)
section
variable {X:Cx}{k j:Nat}{x:Str}{ps:List Str}{e:Expr}{es:List Expr}{t:DA}{p pos pq:Pos}
theorem pcS {sp:Sp}{ta:TA} (C:Cal X.prog X.w X.K X.mg X.base k x ps sp) (hr:Room j X.A) (ha:PA X (e::es) ta) (hk:k<=j) (hg:Gl X x)
  (hdb:zB x) (he:zS X e es) (hpl:zP X pos es) :
  PE X (.Call (.Name x p) (e::es) [] pos) (Aj sp [] E0 ta):=by
 obtain⟨f,fd,F,b,kp,m⟩:=C.ex
 exact Jo F (hr.mono hk) hg m kp b .nil Py ha hdb he hpl
theorem dc {f:List D->(D->Prop)->Prop} (C:Cal X.prog X.w X.K X.mg X.base k x ps (spD f)) (hr:Room j X.A) (ha:PDA X (e::es) t) (hk:k<=j:=by decide) (hg:Gl X x:=by rfl)
  (hdb:zB x:=by decide) (he:zS X e es:=by rfl) (hpl:zP X pos es:=by rfl) :
  PD X (.Call (.Name x p) (e::es) [] pos) (tFn f t):=PE.wk (pcS C hr ha hk hg hdb he hpl) JH
theorem dcP {C:Pn->Prop}{i:Nat}{f:List D->(D->Prop)->Prop}{y:Str}{py:Pos} (CC:Cal X.prog X.w X.K X.mg X.base k x ps (spP C f)) (hr:Room j X.A) (hi:PE X (.Name y py) (fj i)) (ha:PDA X es t) (hk:k<=j:=by decide) (hg:Gl X x:=by rfl)
  (hdb:zB x:=by decide) (he:starEach (.Name y py::es) X.env=(false,eval (.Name y py) X.env)::starEach es X.env:=by rfl) (hpl:zP X pos es:=by rfl) :
  PD X (.Call (.Name x p) (.Name y py::es) [] pos) (Cp C f i t):=PE.wk (pcS CC hr (bN hi ha) hk hg hdb he hpl) GJ
theorem dv (i:Nat) {x:Str}{pos:Pos} (hN:X.N[i]?=some x:=by rfl) (hv:Vis X.env.scope x:=by first | exact Or.inl rfl | exact Or.inr (Or.inl rfl) | exact Or.inr (Or.inr rfl)) (hd:zB x:=by decide)
  (hcd:(x == ("__classdict__":Str))=false:=by decide):PD X (.Name x pos) (tV i):=MJ (pv i hN hv hd hcd)
end
structure Bn (mg:Str->Option Value):Prop where
 isinstance:mg "isinstance"=none
 int:mg "int"=none
 bool:mg "bool"=none
 tuple:mg "tuple"=none
 list:mg "list"=none
 len:mg "len"=none
 all:mg "all"=none
 min:mg "min"=none
 max:mg "max"=none
 sorted:mg "sorted"=none
 range:mg "range"=none
 abs:mg "abs"=none
theorem boot_abs:bootBuiltins "abs"=some (.builtin "abs"):=by decide +kernel
theorem JL {f:List D->(D->Prop)->Prop}{n:Nat} (hn:∀ ds P,f ds P->ds.length=n:=by intro _ _ h; repeat (first | (obtain⟨rfl,_⟩:=h; rfl) | obtain⟨_,h⟩:=h)):∀ vs H Q E,spD f vs H Q E->vs.length=n:=fun vs H Q E h=>by
 obtain⟨ds,P,r,t,_⟩:=h
 rw [r.length]
 exact hn ds P t
theorem aX {f:List D->(D->Prop)->Prop}{T:DS}{N:List Str}{vs:List V}{H:Hp}{Q:VK}{E:XK} (h:spD f vs H Q E)
  (body:∀ ds P,f ds P->∃ ρ,ds.map dz++Ó (N.length - ds.length) .any=ρ/\T { nx:=fun _=>P .none,rt:=P } ρ) (g:Gr.G nC H:=by trivial):fP T { nx:=fun _ H'=>Q .non H',rt:=Q } (L2.start N vs) H :=
 Oa h (fun ds P t=>by
  obtain⟨ρ,e,q⟩:=body ds P t
  rw [e]
  exact q) g
def aB (n:Int) (us:List Tie):D:=.tuple [.int n,.tuple (us.map pD)]
theorem oA (n:Int) (us:List Tie):eF (aB n us)=true:=by
 show (eF (.int n)&&(cO (us.map pD)&&true))=true
 rw [jh]
 rfl
theorem aY (n:Int) (us:List Tie):dz (aB n us)=.im (aB n us):=if_pos (oA n us)
theorem enterQ {C:Pn->Prop}{f:List D->(D->Prop)->Prop}{T:DS}{N:List Str}{vs:List V}{H:Hp}{Q:VK}{E:XK} (h:spP C f vs H Q E)
  (body:∀ ds P,f ds P->∃ ρ,ds.map dz++Ó (N.length - (ds.length+1)) .any=ρ/\T { nx:=fun _=>P .none,rt:=P } (.pen C::ρ)) (g:∀ p,Gr.G p H:=by intro _; trivial):fP T { nx:=fun _ H'=>Q .non H',rt:=Q } (L2.start N vs) H :=
 N7 h (fun ds P t=>by
  obtain⟨ρ,e,q⟩:=body ds P t
  rw [e]
  exact q) g
variable [Gr]
theorem eV {α β:Type}{l:List α}{g:α->β}{i:Nat}{d:β} (h:(l.map g)[i]?=some d):∃ x,l[i]?=some x/\g x=d:=by
 rw [Ö] at h
 cases e:l[i]? with
 | none=>rw [e] at h; cases h
 | some x=>rw [e] at h; exact⟨x,rfl,Ù h⟩
theorem dH:∀ l:List Int,(l.map Ç).all okD=true
 | []=>rfl
 | x::l=>by
  rw [ð,List.all_cons,dH l]
  rfl
theorem any_ints (x:Int):∀ l:List Int,((l.map Ç).any fun e=>î e (.int x))=decide (x∈l)
 | []=>rfl
 | y::l=>by
  rw [ð,List.any_cons,any_ints x l]
  have e:î (.int y) (.int x)=(y == x):=rfl
  rw [e,ē,Bool.or_eq_true,beq_iff_eq,decide_eq_true_eq,decide_eq_true_eq,Þ]
  constructor
  ·rintro (h | h)
   ·exact .inl h.symm
   ·exact .inr h
  ·rintro (h | h)
   ·exact .inl h.symm
   ·exact .inr h
theorem Dk (lo:Int) (n:Nat):(rG lo n).length=n:=by unfold rG; simp
theorem bC {lo:Int}{n i:Nat}{d:D} (h:(rG lo n)[i]?=some d):i<n/\d=.int (lo+((i:Nat):Int)):=by
 unfold rG at h
 obtain⟨x,hx,e⟩:=eV h
 obtain⟨h1,h2⟩:=É.mp hx
 have h3:i<n:=by simpa using h1
 have h4:x=i:=by simpa using h2.symm
 subst h4
 exact⟨h3,e.symm⟩
variable [Gr]
section
variable {X:Cx}{pos p2:Pos}{a b e:Expr}{ta tb te:DE}
theorem Rps.rep {ok:Addr->Prop}{H:Hp}{vs:List V}{ds:List D} (r:Rps ok H vs ds):∀ k:Nat,Rps ok H (Ó k vs).flatten (Ó k ds).flatten
 | 0=>.nil
 | k+1=>by
  rw [ľ,ľ,ţ,ţ]
  exact r.app (Rps.rep r k)
def Ny:G2:=fun k1 d1 _ d2 P=>match d1,d2 with
 | .list ds,.int k=>0<=k/\k<1000/\ds.length * k.toNat<=1000/\newP k1 (Ó k.toNat ds).flatten fun k'=>P k' (.list (Ó k.toNat ds).flatten)
 | _,_=>False
theorem PJ:Ok2 Ny O8:=by
 intro p H0 own Hb H x y k1 d1 k2 d2 P Q A r1 r2 t q
 unfold Ny at t
 split at t
 ·rename_i ds k
  obtain⟨c1,xs,e1,o1,h1,rs1⟩:=r1.bF
  subst e1
  have h24:=ç
  refine⟨c1,k,xs,rfl,r2.int',h1,by omega,by omega,by rw [rs1.length]; omega,fun l hl=>?_⟩
  obtain⟨k3,i3,nw⟩:=A.new hl (.lst (Ó k.toNat xs).flatten)
  obtain⟨k',hk',rk'⟩:=n8 A (cC A k3 (rs1.rep k.toNat)) nw ao t.2.2.2
  exact q _ _ _ _ hk' k3 i3 rk'
 ·exact t.elim
end
theorem jX (ns:List Int):∀ k,k<=ns.length->PySem.preSum (fun i=>ns.getD i 0) k=(ns.take k).sum
 | 0,_=>rfl
 | k+1,h=>by
  show PySem.preSum _ k+ns.getD k 0=_
  have hk:k<ns.length:=by omega
  have e:ns.take (k+1)=ns.take k++[ns[k]]:=by rw [ó,Ä hk]; rfl
  have e2:ns.getD k 0=ns[k]:=by rw [ö,Ä hk]; rfl
  rw [jX ns k (by omega),e,e2,List.sum_append,List.sum_cons,List.sum_nil,Int.add_zero]
theorem lQ:∀ (ns:List Int) (b:Int),(∀ x∈ns,-b<=x/\x<=b)->-(b * ns.length)<=ns.sum/\ns.sum<=b * ns.length
 | [],b,_=>by simp
 | x::ns,b,h=>by
  obtain⟨h1,h2⟩:=lQ ns b fun y hy=>h y (Í _ hy)
  have hx:=h x Ï
  have e:b * ((x::ns).length:Int)=b * ns.length+b:=by
   rw [õ]
   have:(((ns.length+1:Nat)):Int)=(ns.length:Int)+1:=by omega
   rw [this,Int.mul_add,Int.mul_one]
  rw [e,List.sum_cons]
  omega
section
variable {X:Cx}{pos:Pos}{a:Expr}{t:DA}
theorem DY (hc:X.calm=true):bx X (.builtin "sum") (fun xs H Q=>∃ (p:Addr) (ns:List Int),xs=[.ref p]/\SqL X.K H p (ns.map V.int)/\ns.length<=1000/\(∀ x∈ns,-1000000<=x/\x<=1000000)/\Q (.int ns.sum) H):=by
 intro pins s σ H xs us Q I r h
 obtain⟨p,ns,rfl,hp,hl,hs,q⟩:=h
 obtain⟨u,rfl,rx⟩:=vals1 r
 cases rx
 obtain⟨its,rv,pl,hz⟩:=I.list hp
 have hlen:its.length=ns.length:=by have:=rv.length; rw [Á] at this; exact this.symm
 have hlt:p≠s.heap.objs.size:=by obtain⟨o,ho,_⟩:=pl.isList; exact Õ (Ê ho)
 have hltp:p<s.heap.objs.size:=by obtain⟨o,ho,_⟩:=pl.isList; exact Ê ho
 have at':∀ i v,its[i]?=some v->∃ t,v=Ŝ (ns.getD i 0) t:=fun i v e=>by
  have hi:i<its.length:=(É.mp e).1
  have hv:(ns.map V.int)[i]?=some (V.int ns[i]):=by rw [Ö,Ä (show i<ns.length by omega)]; rfl
  obtain⟨u,eu,ru⟩:=rv.get hv
  rw [e] at eu
  cases eu
  obtain⟨t,rfl⟩:=ru
  exact⟨t,by rw [ö,Ä (show i<ns.length by omega)]; rfl⟩
 refine call_sum_walk (wpAny_pyIter_list pl.isList ?_)
 refine⟨_,_,_,_,_,_,fun i=>ns.getD i 0,rfl,Walks.list (A:=X.A.in1) (I.ok.hd hc) _ p hlt _,⟨⟨_,Ô _ rfl,rfl,rfl⟩,pl.isList.push _⟩,?_,fun i v e=>at' i v (by simpa using e),fun j hj=>?_,fun h' tk t' hk=>?_⟩
 ·intro b hb
  show b<(s.heap.push _).objs.size
  rw [ķ]
  simp at hb
  rcases hb with rfl | rfl
  ·exact ĳ _
  ·exact ô hltp
 ·have hj:j<ns.length:=by simpa [hlen] using hj
  have e:ns.getD j 0=ns[j]:=by rw [ö,Ä hj]; rfl
  have b1:=hs _ (į hj)
  have b2:=lQ (ns.take (j+1)) 1000000 fun x hx=>hs x (List.mem_of_mem_take hx)
  have b3:(ns.take (j+1)).length<=1000:=by rw [ć]; omega
  rw [jX ns (j+1) hj]
  refine⟨?_,?_⟩
  ·show -(2 ^ 63)<=ns.getD j 0/\ns.getD j 0<2 ^ 63
   rw [e]
   omega
  ·show -(2 ^ 63)<=(ns.take (j+1)).sum/\(ns.take (j+1)).sum<2 ^ 63
   omega
 ·have e:PySem.preSum (fun i=>ns.getD i 0) its.toArray.size=ns.sum:=by
   rw [Î,hlen,jX ns ns.length (Ò _),Ě]
  rw [e]
  refine⟨.int ns.sum,H,I.kept fun b o eb=>hk b o ?_ (È _ eb),⟨_,rfl⟩,q⟩
  intro hm
  have:b=s.heap.objs.size:=by simpa using hm
  exact absurd (this ▸ Ê eb) (ď _)
variable [Gr]
theorem boot_sum:bootBuiltins "sum"=some (.builtin "sum"):=by decide +kernel
end
variable [Gr]
section
variable {X:Cx}{pos:Pos}{a b e:Expr}{ta tb te:DE}
end
variable [Gr]
section
variable {X:Cx}{pos:Pos}{a b e:Expr}{ta tb te:DE}
end
variable [Gr]
section
variable {X:Cx}{pos:Pos}{st:Stmt}
end
@[reducible] def grX (H:Hp):Gr:=⟨fun p H0=>p=nC/\H0=H⟩
structure Cal1 (P:Program) (w:World) (K:â) (mg:Str->Option Value) (base:Heap) (k:Nat) (x:Str) (ps:List Str) (sp:Sp):Prop where
 ex:∃ f fd,FnOk P w K mg base (CX1 P w) k f fd ps sp/\Binds K fd ps []/\W.keepIn K (.ref f)=true/\mg x=some (.ref f)
section
variable {X:Cx}{E:XK}{k j:Nat}{x:Str}{ps:List Str}{e:Expr}{es:List Expr}{p pos:Pos}
end
variable [Gr]
section
variable {X:Cx}{pos:Pos}{a b e:Expr}{ta tb te:DE}{t:DA}
end
end Dl
namespace L2
open PySem PyProof.Rows
theorem wL:∀ {ns:List Int}{us:List Value},Vals (ns.map V.int) us->IntsAre us ns
 | [],_,.nil=>.nil
 | n::ns,_,.cons r t=>by
  obtain⟨k,rfl⟩:=r
  exact .cons n k (wL t)
def once (ns:List Int):List Int:=ns.foldl step_dedup []
theorem zy (ns:List Int) {m:Nat} (hm:m=ns.length):firstMet (fun i=>ns.getD i 0) m=once ns:=by
 subst hm
 unfold firstMet once
 congr 1
 refine List.ext_getElem (by simp) fun i h1 h2=>?_
 simp at h1
 simp [ö,h1]
section
variable {X:Cx}
end
end L2
namespace Dl
open PySem L2 PyProof.Rows
variable [Gr]
section
variable {X:Cx}{pos pos':Pos}{a:Expr}{t:DA}
theorem boot_set:bootBuiltins "set"=some (.type "set"):=by decide +kernel
end
variable [Gr]
section
variable {X:Cx}{pos p2:Pos}{a b c e:Expr}{es:List Expr}{ta tb tc te:DE}{t:DA}{st:Stmt}
theorem OpR.or {f:Value->Value->Sem Value}{r r':R2} (h:OpR X f r) (h':OpR X f r'):OpR X f (fun x y H Q=>r x y H Q\/r' x y H Q):=by
 intro pins s σ H x y v u Q I rx ry q
 rcases q with q | q
 ·exact h pins s σ H x y v u Q I rx ry q
 ·exact h' pins s σ H x y v u Q I rx ry q
theorem bx.or {f:Value}{r r':List V->Hp->VK->Prop} (h:bx X f r) (h':bx X f r'):bx X f (fun x H Q=>r x H Q\/r' x H Q):=by
 intro pins s σ H x v Q I rx q
 rcases q with q | q
 ·exact h pins s σ H x v Q I rx q
 ·exact h' pins s σ H x v Q I rx q
theorem Gf (ha:PD X a ta) (hb:PD X b tb) (hs:lN b:=by exact fun _ _=>rfl):PD X (.Subscript a b pos) (t2 gIx ta tb):=PE.wk (gM (IxR.or bU Nr) ha hb hs) (Bt (by
 intro p H0 own Hb H x y k1 d1 k2 d2 P Q A r1 r2 t q
 unfold gIx at t
 split at t
 ·rename_i ds i
  obtain⟨d,hd,t⟩:=t
  obtain⟨c,vs,rfl,o,hc,rs⟩:=r1.bF
  obtain⟨v,hv,rv⟩:=rs.atI hd
  exact .inl ⟨c,vs,i,v,rfl,r2.int',SqL.of hc,hv,q _ _ _ _ t Kp.refl A.pen (bA rv)⟩
 ·rename_i ds i
  obtain⟨d,hd,t⟩:=t
  obtain⟨c,vs,rfl,hc,rs⟩:=r1.cR
  obtain⟨v,hv,rv⟩:=rs.atI hd
  exact .inr ⟨c,vs,i,v,rfl,r2.int',SqT.of hc,hv,q _ _ _ _ t Kp.refl A.pen (bA rv)⟩
 ·exact t.elim))
def pY:G2:=fun k1 d1 k2 d2 P=>match d1 with
 | .int i=>(match d2 with
  | .int j=>P .imm (.int (i+j))
  | _=>False)
 | .list ds=>NP k1 (.list ds) k2 d2 P
 | .tuple ds=>Ho k1 (.tuple ds) k2 d2 P
 | _=>False
theorem dG (ha:PD X a ta) (hb:PD X b tb):PD X (.BinOp a .Add b pos) (t2 pY ta tb):=Bm (OpR.or iy (OpR.or M6 Jr)) (by
 intro p H0 own Hb H x y k1 d1 k2 d2 P Q A r1 r2 t q
 cases d1 with
 | int i =>
  cases d2 with
  | int j=>exact .inl ⟨i,j,r1.int',r2.int',q _ _ _ _ t Kp.refl A.pen (.int _)⟩
  | _=>exact t.elim
 | list ds=>exact .inr (.inl (PL p H0 own Hb H x y k1 _ k2 d2 P Q A r1 r2 t q))
 | tuple ds=>exact .inr (.inr (Nb p H0 own Hb H x y k1 _ k2 d2 P Q A r1 r2 t q))
 | _=>exact t.elim) ha hb
def Hi:G2:=fun k1 d1 k2 d2 P=>match d1 with
 | .int i=>(match d2 with
  | .int j=>Ii i j/\P .imm (.int (i * j))
  | _=>False)
 | .list ds=>Ny k1 (.list ds) k2 d2 P
 | _=>False
theorem jZ (ha:PD X a ta) (hb:PD X b tb):PD X (.BinOp a .Mult b pos) (t2 Hi ta tb):=Bm (OpR.or jy M4) (by
 intro p H0 own Hb H x y k1 d1 k2 d2 P Q A r1 r2 t q
 cases d1 with
 | int i =>
  cases d2 with
  | int j=>exact .inl ⟨i,j,r1.int',r2.int',t.1,q _ _ _ _ t.2 Kp.refl A.pen (.int _)⟩
  | _=>exact t.elim
 | list ds=>exact .inr (PJ p H0 own Hb H x y k1 _ k2 d2 P Q A r1 r2 t q)
 | _=>exact t.elim) ha hb
def jG (neg:Bool):G2:=fun k1 d1 k2 d2 P=>match scD d1 d2 with
 | some b=>P .imm (.bool (if neg then !b else b))
 | none=>Qh neg k1 d1 k2 d2 P
theorem KQ {K:â}:Ok2 (jG false) (fun x y H Q=>rEq x y H Q\/Fq K false x y H Q):=by
 intro p H0 own Hb H x y k1 d1 k2 d2 P Q A r1 r2 t q
 cases e:scD d1 d2 with
 | some b =>
  have t':gEq false k1 d1 k2 d2 P:=by
   unfold jG at t
   unfold gEq
   rw [e] at t ⊢
   exact t
  exact .inl (QV p H0 own Hb H x y k1 d1 k2 d2 P Q A r1 r2 t' q)
 | none =>
  unfold jG at t
  rw [e] at t
  exact .inr (KN false p H0 own Hb H x y k1 d1 k2 d2 P Q A r1 r2 t q)
theorem KJ {K:â}:Ok2 (jG true) (fun x y H Q=>rNe x y H Q\/Fq K true x y H Q):=by
 intro p H0 own Hb H x y k1 d1 k2 d2 P Q A r1 r2 t q
 cases e:scD d1 d2 with
 | some b =>
  have t':gEq true k1 d1 k2 d2 P:=by
   unfold jG at t
   unfold gEq
   rw [e] at t ⊢
   exact t
  exact .inl (QT p H0 own Hb H x y k1 d1 k2 d2 P Q A r1 r2 t' q)
 | none =>
  unfold jG at t
  rw [e] at t
  exact .inr (KN true p H0 own Hb H x y k1 d1 k2 d2 P Q A r1 r2 t q)
theorem tR (hu:X.A.units+64<cLine) (ha:PD X a ta) (hb:PD X b tb):PD X (.Compare a [.Eq] [b] pos) (t2 (jG false) ta tb):=tX (OpR.or KH (Gm hu)) KQ ha hb (dg _)
theorem tH (hu:X.A.units+64<cLine) (ha:PD X a ta) (hb:PD X b tb):PD X (.Compare a [.NotEq] [b] pos) (t2 (jG true) ta tb):=tX (OpR.or KC (Gi hu)) KJ ha hb (dg _)
theorem dF (hu:X.A.units+64<cLine) (ha:PD X a ta) (hb:PD X b tb):PDT X (.Compare a [.Eq] [b] pos) (eE (t2 (jG false) ta tb)):=gj (OpR.or KH (Gm hu)) KQ ha hb (dg _)
theorem cV (hu:X.A.units+64<cLine) (ha:PD X a ta) (hb:PD X b tb):PDT X (.Compare a [.NotEq] [b] pos) (eE (t2 (jG true) ta tb)):=gj (OpR.or KC (Gi hu)) KJ ha hb (dg _)
end
section
variable {n:Nat}{g:DG}{tt:DT}{te:DE}{ρ:List Sl}{k:Kd}{ds:List D}{R:Kd->List D->Prop}
theorem Jy {α β:Type} (f:α->β) {l:List α}{i:Nat}{x:α} (h:l[i]?=some x):(l.take (i+1)).map f=(l.take i).map f++[f x]:=by
 rw [ó,h]
 simp
theorem GR {α:Type} (xs:List α) (e f:α->D) (ke:Kd) (hd:ds=xs.map e) (hl:xs.length<=1000)
  (step:∀ x∈xs,∀ (A:D->Prop) (B:Prop),A (f x)->g (norm (elC k) (e x)) (e x) (Ó n .any++ρ) fun ρ'=>if true=true then te ρ' fun k' d'=>(norm k' d').le ke=true/\A d' else B)
  (q:R ke (xs.map f)) :
  ds.length<=1000/\∃ (ke:Kd) (Iv:Nat->List D->Prop),Iv 0 [] /\
   (∀ i d ys,ds[i]?=some d->Iv i ys->g (norm (elC k) d) d (Ó n .any++ρ) fun ρ'=>if true=true then te ρ' fun k' d'=>(norm k' d').le ke=true/\Iv (i+1) (ys++[d']) else Iv (i+1) ys) /\
   ∀ ys,Iv ds.length ys->R ke ys:=by
 subst hd
 refine⟨by rw [Á]; exact hl,ke,fun i ys=>ys=(xs.take i).map f,rfl,?_,?_⟩
 ·rintro i d ys hd rfl
  rw [Ö] at hd
  cases hx:xs[i]? with
  | none=>rw [hx] at hd; cases hd
  | some x =>
   rw [hx] at hd
   have hd:=Ù hd
   subst hd
   exact step x (Æ hx) (fun d'=>(xs.take i).map f++[d']=(xs.take (i+1)).map f) _ (Jy f hx).symm
 ·rintro ys rfl
  rw [Á,Ě]
  exact q
theorem eX {α:Type} (xs:List α) (e:α->D) (p:α->Bool) (f:α->D) (ke:Kd) (hd:ds=xs.map e) (hl:xs.length<=1000)
  (step:∀ x∈xs,∀ (A:D->Prop) (B:Prop),(p x=true->A (f x))->(p x=false->B)->g (norm (elC k) (e x)) (e x) (Ó n .any++ρ) fun ρ'=>tt ρ' fun b=>if b=true then te ρ' fun k' d'=>(norm k' d').le ke=true/\A d' else B)
  (q:R ke ((xs.filter p).map f)) :
  ds.length<=1000/\∃ (ke:Kd) (Iv:Nat->List D->Prop),Iv 0 [] /\
   (∀ i d ys,ds[i]?=some d->Iv i ys->g (norm (elC k) d) d (Ó n .any++ρ) fun ρ'=>tt ρ' fun b=>if b=true then te ρ' fun k' d'=>(norm k' d').le ke=true/\Iv (i+1) (ys++[d']) else Iv (i+1) ys) /\
   ∀ ys,Iv ds.length ys->R ke ys:=by
 subst hd
 refine⟨by rw [Á]; exact hl,ke,fun i ys=>ys=((xs.take i).filter p).map f,rfl,?_,?_⟩
 ·rintro i d ys hd rfl
  rw [Ö] at hd
  cases hx:xs[i]? with
  | none=>rw [hx] at hd; cases hd
  | some x =>
   rw [hx] at hd
   have hd:=Ù hd
   subst hd
   have sn:((xs.take (i+1)).filter p).map f=((xs.take i).filter p).map f++if p x=true then [f x] else []:=by
    rw [ó,hx,ř,ä]
    cases hp:p x <;> simp [hp]
   refine step x (Æ hx) (fun d'=>((xs.take i).filter p).map f++[d']=((xs.take (i+1)).filter p).map f) _ (fun h=>?_) (fun h=>?_)
   ·rw [sn,if_pos h]
   ·show _=_
    rw [sn,h,if_neg Ú,ğ]
 ·rintro ys rfl
  rw [Á,Ě]
  exact q
end
section
variable {g:DG}{tb:DS}{k:Kd}{ds:List D}{ρ:List Sl}{P:DEnds}
end
variable [Gr]
section
variable {X:Cx}{scope:Scope}{tg iter elt:Expr}{ifs:List Expr}{pos:Pos}{ti:DI}{g:DG}{tt:DT}{te:DE}
theorem Mh (own:List Str) {i:Nat}{y:Str}{py spos:Pos} (hc:X.calm=true) (hN:X.N.Nodup) (hiN:X.N[i]?=some y) (hx:Loc X.env.scope y) (hi:PDI X tg iter ti) (hg:∀ c,PDG (X.comp own scope c) tg g) (ht:∀ c,El (X.comp own scope c) ifs tt) (he:∀ c,PD (X.comp own scope c) elt te)
  (hsw:swapsWith (.ListComp elt [⟨tg,iter,ifs,0⟩] scope pos) (some (.Name y py)) spos.line X.env=pure true:=by rfl)
  (hk:d9 X.env scope X.N=true:=by rfl) (hs:zF X iter:=by intro _; rfl) (hf:zL X y:=by first | exact .inl rfl | exact .inr rfl | assumption) :
  PS X (.Assign [.Name y py] (.ListComp elt [⟨tg,iter,ifs,0⟩] scope pos) spos) (qJ (bH (dLC own.length ti g tt te)) (gQ i)):=PS.wk' (Ky own hc hN hiN hx hi hg ht he hsw hk hs hf) fun D σ H q=>uo σ H _ q
theorem Jb (own M:List Str) {i:Nat}{y:Str}{py spos:Pos} (hc:X.calm=true) (hN:X.N.Nodup) (hiN:X.N[i]?=some y) (hx:Loc X.env.scope y) (hi:PDI X tg iter ti) (hg:∀ c,PDG (X.aQ own M scope c) tg g) (ht:∀ c,El (X.aQ own M scope c) ifs tt) (he:∀ c,PD (X.aQ own M scope c) elt te)
  (hsw:swapsWith (.ListComp elt [⟨tg,iter,ifs,0⟩] scope pos) (some (.Name y py)) spos.line X.env=pure true:=by rfl)
  (hk:aL X.env scope X.N M=true:=by rfl) (hs:zF X iter:=by intro _; rfl) (hf:zL X y:=by first | exact .inl rfl | exact .inr rfl | assumption) :
  PS X (.Assign [.Name y py] (.ListComp elt [⟨tg,iter,ifs,0⟩] scope pos) spos) (qJ (bH (dLC own.length ti g tt te)) (gQ i)):=PS.wk' (FJ own M hc hN hiN hx hi hg ht he hsw hk hs hf) fun D σ H q=>uo σ H _ q
end
section
variable {n:Nat}{g:DG}{tt:DT}{te:DE}{ρ:List Sl}{k:Kd}{ds:List D}{R:Kd->List D->Prop}
end
variable [Gr]
section
variable {X:Cx}{pos:Pos}{st:Stmt}{rest:List Stmt}{te tj:DE}{ti:DI}{t:DS}
def Od (i:Nat) (t:DS):DS:=fun P ρ=>match ρ[i]? with
 | some (.dw r d)=>p8 r ρ i=true/\t P (ρ.set i (.sn d))
 | some (.rw r L)=>p8 r ρ i=true/\t P (ρ.set i (.sn (.list (L.map Ĺ))))
 | some (.sp r b ds)=>p8 r ρ i=true/\t P (ρ.set i (if b=true then .sn (.list ds) else .sh (.list ds)))
 | _=>False
theorem EnvD.freeze {p:Pn}{H0 H:Hp}{own:Addr->Option Nat}{σ:L2.St}{ρ:List Sl}{i r:Nat}{d:D}{v:V} (E:EnvD p H0 own σ H ρ) (hf:p8 r ρ i=true) (hv:σ[i]?=some (some v)) (x:Rp (fun a=>own a=some r) H v d) :
  EnvD p H0 (aM r own) σ H (ρ.set i (.sn d)):=by
 have E2:EnvD p H0 (aM r own) σ H (ρ.set i .any):=(E.drop (i:=i)).clear hf
 have E3:=E2.put (v:=v) (i:=i) (s:=.sn d) ⟨v,hv,x.mono (fun a o=>⟨(E.ow a r o).1,(E.ow a r o).2.1,by unfold aM; rw [if_pos o]⟩) (fun _ _ _ e=>e) fun _ _ e=>e⟩
 rw [List.set_set] at E3
 exact E3
theorem zJ (i:Nat) (h:jc X rest t):jc X rest (Od i t):=PSs.wk' h (by
 rintro Q σ H ⟨p,H0,own,ρ,P,E,q,w⟩
 unfold Od at q
 split at q
 ·rename_i r d e
  obtain⟨v,hv,x⟩:=E.slot i _ e
  exact⟨p,H0,_,_,P,E.freeze q.1 hv x,q.2,w.go fW⟩
 ·rename_i r L e
  obtain⟨st,as,hv,x⟩:=E.slot i _ e
  exact⟨p,H0,_,_,P,E.freeze q.1 hv x.rp,q.2,w.go fW⟩
 ·rename_i r b ds e
  obtain⟨l,vs,hv,o,h,z⟩:=E.slot i _ e
  have E2:EnvD p H0 (aM r own) σ H (ρ.set i .any):=(E.drop (i:=i)).clear q.1
  have c0:∀ a,own a=none->aM r own a=none:=fun a n=>by unfold aM; rw [n]; simp
  have cl:aM r own l=none:=by unfold aM; rw [if_pos o]
  have E3:EnvD p H0 (aM r own) σ H ((ρ.set i .any).set i (if b=true then .sn (.list ds) else .sh (.list ds))):=E2.put (v:=.ref l) (by
   cases b with
   | true=>exact⟨_,hv,.lst ⟨(E.ow l r o).1,(E.ow l r o).2.1,cl⟩ h (z.mono (fun c n=>⟨n.1 rfl,n.2.1,c0 c n.2.2⟩) (fun _ _ _ e=>e) fun _ _ e=>e)⟩
   | false=>exact⟨_,hv,.lst ⟨(E.ow l r o).2.1,cl⟩ h (z.mono (fun c n=>⟨n.2.1,c0 c n.2.2⟩) (fun _ _ _ e=>e) fun _ _ e=>e)⟩)
  rw [List.set_set] at E3
  exact⟨p,H0,_,_,P,E3,q.2,w.go fW⟩
 ·exact q.elim)
def dSp (i:Nat) (b:Bool) (t:DS):DS:=fun P ρ=>match ρ[i]? with
 | some (.dw r (.list ds))=>cO ds=true/\t P (ρ.set i (.sp r b ds))
 | _=>False
theorem wV (i:Nat) (b:Bool) (h:jc X rest t):jc X rest (dSp i b t):=PSs.wk' h (by
 rintro Q σ H ⟨p,H0,own,ρ,P,E,q,w⟩
 unfold dSp at q
 split at q
 ·rename_i r ds e
  obtain⟨v,hv,x⟩:=E.slot i _ e
  obtain⟨l,vs,rfl,o,h,z⟩:=x.bF
  exact⟨p,H0,own,_,P,E.put (v:=.ref l) (i:=i) (s:=.sp r b ds) ⟨l,vs,hv,o,h,(z.imm q.1).mono (fun _ o=>o.elim) (fun _ _ o=>o.elim) fun _ _ e=>e⟩,q.2,w⟩
 ·exact q.elim)
def spK (b:Bool):Kd:=if b=true then .snw else .shr
theorem M9 {p:Pn}{H0 Hb H:Hp}{own:Addr->Option Nat}{b:Bool} (A:At p H0 own Hb H) {k:Kd} (hk:k.le (spK b)=true) {v:V}{d:D}{H2:Hp} (r:Rp (okK p H0 own Hb k) H2 v d):Rp (okS p H0 own b) H2 v d:=by
 have r2:=jT A hk r
 cases b with
 | true=>exact r2.mono (fun a o=>⟨fun _=>o.1,o.2.1,o.2.2⟩) (fun _ _ _ e=>e) fun _ _ e=>e
 | false=>exact r2.mono (fun a o=>⟨fun z=>(nomatch z),o.1,o.2⟩) (fun _ _ _ e=>e) fun _ _ e=>e
theorem EnvD.IV {p:Pn}{H0 H:Hp}{own:Addr->Option Nat}{σ:L2.St}{ρ:List Sl}{i r:Nat}{b:Bool}{l:Addr}{vs vs':List V}{ds':List D} (E:EnvD p H0 own σ H ρ) (hv:σ[i]?=some (some (.ref l))) (o:own l=some r) (h:H l=some (.lst vs)) (z:Rps (okS p H0 own b) H vs' ds') :
  EnvD p H0 own σ (upd H l (.lst vs')) ((forget r ρ).set i (.sp r b ds'))/\FrS p own H own (upd H l (.lst vs')):=by
 refine⟨(E.write (o':=.lst vs') o h fun xs z=>nomatch z).put (v:=.ref l) ⟨l,vs',hv,o,ao,z.mono (fun _ o=>o) (fun c u n e=>?_) fun a xs e=>?_⟩,cQ o h fun xs z=>nomatch z⟩
 ·rw [aj]; exact e
  intro y; subst y; rw [n.2.2] at o; cases o
 ·rw [aj]; exact e
  intro y; subst y; rw [h] at e; cases e
def HW (i:Nat) (te:DE):DS:=fun P ρ=>match ρ[i]? with
 | some (.sp r b ds)=>te ρ fun k d=>(norm k d).le (spK b)=true/\ds.length<1000/\P.nx ((forget r ρ).set i (.sp r b (ds++[d])))
 | _=>False
theorem lC {i:Nat} (h:PS X st (eN (tBM X.K "list" cF (fj i) (cY (aK te cB))))):PDS X st (HW i te):=PS.wk' h (by
 rintro Q σ H ⟨p,H0,own,ρ,P,E,t,w⟩
 unfold HW at t
 split at t
 ·rename_i r b ds hr
  obtain⟨l,vs,hv,o,ho,rs⟩:=E.slot i _ hr
  refine⟨.ref l,hv,.inl ⟨rfl,vs,SqL.of ho⟩,p,H0,own,ρ,_,E,gA t,?_⟩
  rintro ks ws H1 ⟨k,d,rfl,hk,hlen,hn⟩ A rk
  obtain⟨y,rfl,ry⟩:=cD rk
  have E1:=E.go A.kp A.pen
  have h1:H1 l=some (.lst vs):=A.kp l _ ho (E.ow l r o).2.1
  have rs1:Rps (okS p H0 own b) H1 vs ds:=rs.mono (fun _ o=>o) (fun c u n e=>A.kp c u e n.2.1) A.tups
  have h24:=ç
  have hln:=rs.length
  refine⟨l,vs,y,rfl,rfl,h1,by omega,?_⟩
  obtain⟨E2,F2⟩:=E1.IV (b:=b) hv o h1 (rs1.snoc (M9 A hk (bA ry)))
  exact w.nx _ σ _ _ E2 (A.frs.trans F2) hn
 ·exact t.elim)
def Rm (i:Nat) (tj te:DE):DS:=fun P ρ=>match ρ[i]? with
 | some (.sp r b ds)=>tj ρ fun _ dj=>te ρ fun k d=>match dj with
  | .int j=>(norm k d).le (spK b)=true/\0<=j/\j.toNat<=ds.length/\ds.length<1000/\P.nx ((forget r ρ).set i (.sp r b (ds.take j.toNat++d::ds.drop j.toNat)))
  | _=>False
 | _=>False
theorem vJ:∀ {as bs:List Addr},as.map V.ref=bs.map V.ref->as=bs
 | [],[],_=>rfl
 | a::as,b::bs,e=>by
  rw [ð,ð] at e
  injection e with e1 e2
  rw [V.ref.inj e1,vJ e2]
 | [],_::_,e=>by cases e
 | _::_,[],e=>by cases e
def HS (js:List Nat) (t:DS):DS:=fun P ρ=>t P (js.foldl (fun ρ j=>ρ.set j .any) ρ)
theorem EnvD.drops {p:Pn}{H0 H:Hp}{own:Addr->Option Nat}{σ:L2.St}:∀ (js:List Nat) {ρ:List Sl},EnvD p H0 own σ H ρ->EnvD p H0 own σ H (js.foldl (fun ρ j=>ρ.set j .any) ρ)
 | [],_,E=>E
 | _::js,_,E=>EnvD.drops js E.drop
theorem ql (js:List Nat) (h:jc X rest t):jc X rest (HS js t):=PSs.wk' h (by
 rintro Q σ H ⟨p,H0,own,ρ,P,E,q,w⟩
 exact⟨p,H0,own,_,P,E.drops js,q,w⟩)
def uO (i:Nat) (tj te:DE):DS:=fun P ρ=>match ρ[i]? with
 | some (.rw r L)=>tj ρ fun _ dj=>match dj with
  | .int j=>∃ n l,ixN L.length j=some n/\L[n]?=some l/\te ρ fun _ d=>eF d=true/\l.length<1000/\P.nx ((forget r ρ).set i (.rw r (L.set n (l++[d]))))
  | _=>False
 | _=>False
theorem ji {i:Nat} (h:PS X st (eN (tBM X.K "list" cF (tOp (Fp X.K) (fj i) (bH tj)) (cY (aK te cB))))):PDS X st (uO i tj te):=PS.wk' h (by
 rintro Q σ H ⟨p,H0,own,ρ,P,E,q,w⟩
 unfold uO at q
 split at q
 ·rename_i r L hr
  obtain⟨st,as,hv,R0⟩:=E.slot i _ hr
  refine⟨.ref st,hv,p,H0,own,ρ,_,E,q,fun kj dj vj H1 q1 A1 rj=>?_⟩
  cases dj with
  | int j =>
   have E1:=E.go A1.kp A1.pen
   obtain⟨st',as',hv',R1⟩:=E1.slot i _ hr
   rw [hv] at hv'
   cases hv'
   have ej:=Rp.int' rj
   subst ej
   obtain⟨n,l,hn,hl,q1⟩:=q1
   have hnl:=(É.mp hl).1
   rw [Ä hnl] at hl
   cases hl
   have hna:n<as'.length:=by rw [R1.len]; exact hnl
   have eat:atI (as'.map V.ref) j=some (.ref as'[n]):=by
    unfold L2.atI
    rw [Á,R1.len,hn]
    show (as'.map V.ref)[n]?=_
    rw [Ö,Ä hna]
    rfl
   obtain⟨vs,hav,rv⟩:=R1.row n as'[n] L[n] (Ä hna) (Ä hnl)
   refine⟨st,_,j,.ref as'[n],rfl,rfl,SqL.of R1.top,eat,.inl ⟨rfl,vs,SqL.of hav⟩,p,H0,own,ρ,_,E1,gA q1,?_⟩
   rintro ks ws H2 ⟨k,d,rfl,im,len,nx⟩ A2 rk
   obtain⟨y,rfl,ry⟩:=cD rk
   have ry:Rp (fun _=>False) H2 y d:=Rp.imm ry im
   have E2:=E1.go A2.kp A2.pen
   obtain⟨st',as2,hv',R2⟩:=E2.slot i _ hr
   rw [hv] at hv'
   cases hv'
   -- the rows are those of before
   have eas:as2=as':=by
    have e1:=A2.kp st _ R1.top (E1.ow st r (R1.ow st Ï)).2.1
    rw [R2.top] at e1
    have e2:=(HO.lst.inj (Ù e1))
    exact vJ e2
   subst eas
   obtain⟨vs2,hav2,rv2⟩:=R2.row n as2[n] L[n] (Ä hna) (Ä hnl)
   have oa:=R2.ow as2[n] (Í _ (į hna))
   have h24:=ç
   have ln:=rv2.length
   refine⟨as2[n],vs2,y,rfl,rfl,hav2,by omega,?_⟩
   have tp:∀ a xs,H2 a=some (.tup xs)->upd H2 as2[n] (.lst (vs2++[y])) a=some (.tup xs):=fun a xs e=>by
    rw [aj]; exact e
    intro z; subst z; rw [hav2] at e; cases e
   have E3:=E2.write (o':=.lst (vs2++[y])) oa hav2 (fun xs z=>nomatch z)
   have nd1:=Š.mp R2.nd
   have E4:=E3.put (v:=.ref st) (i:=i) (s:=.rw r (L.set n (L[n]++[d]))) ⟨st,as2,hv,⟨?_,R2.nd,R2.ow,by rw [Ō]; exact R2.len,fun m a ds e1 e2=>?_⟩⟩
   ·exact w.nx _ σ _ _ E4 ((A1.frs.trans A2.frs).trans (cQ oa hav2 fun xs z=>nomatch z)) nx
   ·rw [aj]; exact R2.top
    intro z
    exact nd1.1 (by rw [z]; exact į hna)
   ·by_cases em:m=n
    ·subst em
     rw [đ hnl] at e2
     rw [Ä hna] at e1
     cases e1
     cases e2
     exact⟨_,ao,(rv2.mono (fun _ o=>o) (fun _ _ o=>o.elim) tp).snoc (ry.mono (fun _ o=>o) (fun _ _ o=>o.elim) tp)⟩
    ·rw [Ē (č em)] at e2
     obtain⟨vs3,h3,r3⟩:=R2.row m a ds e1 e2
     refine⟨vs3,?_,r3.mono (fun _ o=>o) (fun _ _ o=>o.elim) tp⟩
     rw [aj]; exact h3
     intro z
     have hm:=(É.mp e1).1
     have hz:as2[m]=as2[n]:=by rw [(É.mp e1).2]; exact z
     exact em ((List.getElem_inj nd1.2).mp hz)
  | _=>exact q1.elim
 ·exact q.elim)
def HB (i r:Nat) (ti:DI):DS:=fun P ρ=>ti ρ fun k ds=>ds.length<=1000/\p8 r ρ i=true/\P.nx (ρ.set i (.rw r (Ó ds.length [])))
theorem qg {i n j:Nat} (r:Nat) (h:PS X st (qJ (tLC n (GP ti) (fun _=>GQ (gNm j)) (fun _=>liftT fun _ P=>P true) (fun _=>Lp Lk)) (gQ i))):PDS X st (HB i r ti):=PS.wk' h (by
 rintro Q σ H ⟨p,H0,own,ρ,P,E,q,w⟩
 refine⟨p,H0,own,ρ,_,E,q,fun k ds J H1 Ok h A W o1=>?_⟩
 obtain⟨hlen,hf,nx⟩:=h
 have okS:∀ H',Kp p H1 H'->p.PI H'->Ok H':=fun H' K i=>W.stab H1 H' o1 (fun b o n e=>K b o e (j6 A n.1)) (iK A K)
 refine⟨fun i m ys H'=>m=ds.length - i/\i<=ds.length/\Kp p H1 H'/\p.PI H'/\∃ as:List Addr,ys=as.map V.ref/\as.Nodup/\as.length=i/\∀ a∈as,H a=none/\H' a=some (.lst []),⟨_,rfl,Č _,Kp.refl,A.pen,[],rfl,.nil,rfl,fun a ha=>nomatch ha⟩,?_⟩
 rintro c i' m ys H' ⟨rfl,hi,K',I',as,rfl,nd,la,hn⟩
 have oH:=okS H' K' I'
 have A':=A.go K' I'
 have h24:=ç
 by_cases hlt:i'<ds.length
 ·refine .inr ⟨W.go i' H' oH hlt,by rw [Á]; omega,fun ys' H2=>Kp p H1 H2/\p.PI H2/\∃ as:List Addr,ys'=as.map V.ref/\as.Nodup/\as.length=i'+1/\∀ a∈as,H a=none/\H2 a=some (.lst []),fun ys' H2 h=>⟨_,by omega,rfl,hlt,h⟩,fun x H2 y=>?_⟩
  obtain⟨sm,rx⟩:=W.yld i' H' x H2 oH y
  have rx:=rx ds[i'] (Ä hlt)
  have I2:p.PI H2:=p.mono H' H2 I' fun b o _ e=>sm b o e
  have K2:Kp p H1 H2:=K'.trans (Kp.of sm)
  have A2:=A.go K2 I2
  have E2:EnvD p H0 own σ H2 ρ:=E.go A2.kp A2.pen
  refine⟨p,H0,own,_,_,_,fun _=>True,E2.comp n,g8 (KR A rx),trivial,fun σ3 ρ3 E3 t3=>?_⟩
  refine⟨p,H0,own,ρ3,fun b=>b=true,E3,rfl,fun b H4 h4 A4=>?_⟩
  subst h4
  refine bJ ⟨(by show 0<=sizeLine; omega),fun l hl=>?_⟩
  have A5:At p H0 own H H4:=A2.base A4
  obtain⟨k7,i7,nw⟩:=A5.new hl (.lst [])
  refine⟨(K2.trans A4.kp).trans k7,i7,as++[l],by rw [ä]; rfl,?_,by rw [Ý,la]; rfl,fun a ha=>?_⟩
  ·refine List.nodup_append.mpr ⟨nd,by simp,fun a ha b hb=>?_⟩
   rw [Ì.mp hb]
   intro z
   subst z
   have e:=A4.kp a _ (sm a _ (hn a ha).2) (A.nfb (hn a ha).1)
   rw [hl] at e
   cases e
  ·rcases é.mp ha with z | z
   ·refine⟨(hn a z).1,?_⟩
    have e:=A4.kp a _ (sm a _ (hn a z).2) (A.nfb (hn a z).1)
    exact k7 a _ e (A.nfb (hn a z).1)
   ·rw [Ì.mp z]
    exact⟨nw,ao⟩
 ·have e:i'=ds.length:=by omega
  subst e
  refine .inl ⟨W.stop H' oH,fun l hl=>?_⟩
  obtain⟨k7,i7,nw⟩:=A'.new hl (.lst (as.map V.ref))
  have A7:=A'.go k7 i7
  show Q.nx (σ.set i (some (.ref l))) (upd H' l (.lst (as.map V.ref)))
  have E2:EnvD p H0 (aM r own) σ H (ρ.set i .any):=(E.drop (i:=i)).clear hf
  have A8:At p H0 (aM r own) H (upd H' l (.lst (as.map V.ref))):=⟨A7.k0,A7.kp,A7.penb,A7.pen,E2.ow⟩
  have E3:=E2.adopt r A8
  have lna:l∉as:=fun z=>by rw [(hn l z).2] at hl; cases hl
  have E4:=E3.set (i:=i) (v:=.ref l) (s:=.rw r (Ó ds.length [])) fun hli=>⟨l,as,đ hli,⟨ao,Š.mpr ⟨lna,nd⟩,fun a ha=>?_,by rw [la,Ņ],fun m a es e1 e2=>?_⟩⟩
  ·rw [List.set_set] at E4
   exact w.nx _ _ _ _ E4 (fW.trans (mW A8)) nx
  ·rcases Þ.mp ha with rfl | ha
   ·exact jm nw ao
   ·exact jm (hn a ha).1 (by rw [aj (fun z:a=l=>lna (by rw [← z]; exact ha))]; exact (hn a ha).2)
  ·have ha:=Æ e1
   have ees:es=[]:=by
    have:=Æ e2
    exact (Ĭ.mp this).2
   subst ees
   exact⟨[],by rw [aj (fun z:a=l=>lna (by rw [← z]; exact ha))]; exact (hn a ha).2,.nil⟩)
theorem tU:PD X (.Dict [] [] pos) (fun _ P=>P .new (.dict [])):=PE.wk Gb (by
 rintro σ H Q ⟨p,H0,own,ρ,P,E,t,q⟩
 have A:=E.at
 exact fun d hd=>let ⟨k2,i2,nw⟩:=A.new hd (.dK []); q _ _ _ _ t (A.go k2 i2) (.dct nw ao .nil))
end
@[reducible] def grL (K:â) (sc:Addr) (ns:List Int):Gr:=⟨fun p H0=>SqL K H0 sc (ns.map V.int)/\∀ b,p.fp b->H0 b=none⟩
def Al (K:â):Sp:=fun vs H Q _=>∃ (a:Addr) (ns:List Int),vs=[.ref a]/\SqL K H a (ns.map V.int)/\∀ H',Q (.bl true) H'
section
variable {X:Cx}{k1 k2 j:Nat}{x y z:Str}{ps1 ps2:List Str}{e:Expr}{es1 es2:List Expr}{p1 p2 p3 pos pos1:Pos}{K:â}{sc:Addr}{ns:List Int}{C:Pn->Prop}{pre:List D->Prop}{g:List D->(D->Prop)->Prop}{i:Nat}
end
variable [Gr]
section
variable {X:Cx}{pos pos':Pos}{a b:Expr}{t:DA}
end
variable [Gr]
mutual
inductive Tm where
 | int (i:Int)
 | neg (i:Int)
 | bl (b:Bool)
 | non
 | str (s:Str)
 | var (i:Nat)
 | lst (ts:Tms)
 | tup (ts:Tms)
 | dct
inductive Tms where
 | nil
 | cons (t:Tm) (ts:Tms)
end
def QD (sc:Scope) (x:Str):Bool:=sc.names.lookup x == some .local || sc.names.lookup x == some .cell || sc.names.lookup x == some .free
mutual
def okT (N:List Str) (sc:Scope):Tm->Expr->Bool
 | .int i,.Constant (.int j) _ _=>i == j
 | .neg i,.UnaryOp .USub (.Constant (.int j) _ _) _=>i == j
 | .bl b,.Constant (.bool c) _ _=>b == c
 | .non,.Constant .none _ _=>true
 | .str s,.Constant (.str u) _ _=>s == u
 | .var i,.Name x _=>N[i]? == some x&&(QD sc x&&(!(x == ("__debug__":Str))&&!(x == ("__classdict__":Str))))
 | .lst ts,.List es _=>M8 N sc ts es
 | .tup ts,.Tuple es _ _=>M8 N sc ts es
 | .dct,.Dict [] [] _=>true
 | _,_=>false
def M8 (N:List Str) (sc:Scope):Tms->List Expr->Bool
 | .nil,[]=>true
 | .cons t ts,e::es=>okT N sc t e&&M8 N sc ts es
 | _,_=>false
end
mutual
def evT (ρ:List Sl):Tm->Option (Kd×D)
 | .int i=>some (.imm,.int i)
 | .neg i=>some (.imm,.int (-i))
 | .bl b=>some (.imm,.bool b)
 | .non=>some (.imm,.none)
 | .str s=>some (.imm,.str s)
 | .var i=>match ρ[i]? with
  | some (.im d)=>some (.imm,d)
  | some (.sh d)=>some (.shr,d)
  | some (.sn d)=>some (.snw,d)
  | some (.dw r d)=>some (.reg r,d)
  | _=>none
 | .lst ts=>match N6 ρ ts with
  | some ks=>some ((joins ks).join .new,.list (ks.map (·.2)))
  | none=>none
 | .tup ts=>match N6 ρ ts with
  | some ks=>some (norm (joins ks) (.tuple (ks.map (·.2))),.tuple (ks.map (·.2)))
  | none=>none
 | .dct=>some (.new,.dict [])
def N6 (ρ:List Sl):Tms->Option (List (Kd×D))
 | .nil=>some []
 | .cons t ts=>match evT ρ t,N6 ρ ts with
  | some k,some ks=>some (k::ks)
  | _,_=>none
end
mutual
def smT:Tm->Bool
 | .lst ts=>Ls 1000 ts
 | .tup ts=>Ls 1000 ts
 | _=>true
def Ls:Nat->Tms->Bool
 | _,.nil=>true
 | n+1,.cons t ts=>smT t&&Ls n ts
 | 0,.cons _ _=>false
end
section
variable {X:Cx}{e:Expr}{es:List Expr}
section
variable {N:List Str}{sc:Scope}
end
end
end Dl
namespace L2
open PySem PySem.Spec PyProof.Rows HT
section
variable {X:Cx}{e:Expr}{te:TE}{p1 p2 p3 pos:Pos}
end
end L2
namespace Dl
open PySem L2 PyProof.Rows
variable [Gr]
section
variable {X:Cx}{pos p1 p2 p3:Pos}{a b e:Expr}{es:List Expr}{ta tb te:DE}{t:DA}
def Ou (te:DE) (tl th:DO):DE:=fun ρ P=>te ρ fun k d=>tl ρ fun lo=>th ρ fun hi=>match d with
 | .list ds=>newP k (fV ds lo hi) fun k'=>P k' (.list (fV ds lo hi))
 | .tuple ds=>¬ (HT.sIx ds.length 0 lo=0/\HT.sIx ds.length ds.length hi=ds.length)/\P (norm k (.tuple (fV ds lo hi))) (.tuple (fV ds lo hi))
 | _=>False
theorem vR {lo hi:Option Expr}{tl th:DO} (he:PD X e te) (hl:PO X lo (wG tl)) (hh:PO X hi (wG th)):PD X (.Subscript e (.Slice lo hi none p2) pos) (Ou te tl th):=PE.wk (FZ (SlR.or Ip Lw) he hl hh) (by
 rintro σ H Q ⟨p,H0,own,ρ,P,E,t,q⟩
 refine⟨p,H0,own,ρ,_,E,t,fun k d v H1 h A r=>?_⟩
 refine⟨p,H0,own,ρ,_,E.go A.kp A.pen,h,fun o1 H2 h2 A2=>?_⟩
 refine⟨p,H0,own,ρ,_,(E.go A.kp A.pen).go A2.kp A2.pen,h2,fun o2 H3 h3 A3=>?_⟩
 have A4:=(A.base A2).base A3
 have r3:=nj (A.base A2) A3.kp (nj A A2.kp r)
 cases d with
 | list ds =>
  obtain⟨x,xs,e1,o,h1,rs⟩:=Rp.bF r3
  subst e1
  refine .inl ⟨x,xs,rfl,SqL.of h1,fun l hl=>?_⟩
  obtain⟨k2,i2,nw⟩:=A4.new hl (.lst (qN xs o1 o2))
  obtain⟨k',hk',rk'⟩:=n8 A4 (cC A4 k2 (rs.cut o1 o2)) nw ao h3
  exact q _ _ _ _ hk' (A4.go k2 i2) rk'
 | tuple ds =>
  obtain⟨x,xs,e1,h1,rs⟩:=Rp.cR r3
  subst e1
  refine .inr ⟨x,xs,rfl,SqT.of h1,by rw [rs.length]; exact h3.1,fun l hl=>?_⟩
  obtain⟨k2,i2,nw⟩:=A4.new hl (.tup (qN xs o1 o2))
  exact q _ _ _ _ h3.2 (A4.go k2 i2) (bA (.tup ao (cC A4 k2 (rs.cut o1 o2))))
 | _=>exact h3.elim)
end
variable [Gr]
abbrev IM:=List (Int×D)
def kvD (m:IM):List (D×D):=m.map fun p=>(Ç p.1,p.2)
def eG (m:IM) (k:Int):Bool:=m.any fun p=>decide (p.1=k)
def Hg (m:IM) (k:Int):Option D:=(m.find? fun p=>decide (p.1=k)).map (·.2)
def iu (m:IM) (k:Int) (d:D):IM:=if eG m k=true then m.map (fun p=>if p.1=k then (p.1,d) else p) else m++[(k,d)]
def mH (m:IM):Bool:=m.all fun p=>eF p.2
theorem G4 {k:Key}{i:Int} (h:kD k=.int i):k=.inl i:=by
 cases k with
 | inl j=>cases h; rfl
 | inr x=>cases h
theorem Rkv.kv:∀ {ok:Addr->Prop}{H:Hp}{kvs:List (Key×V)}{m:IM},Rkv ok H kvs (kvD m)->∃ vs:List V,kvs=(m.map (·.1)).zipWith (fun i v=>(ë i,v)) vs/\Rps ok H vs (m.map (·.2))
 | _,_,_,[],h=>by cases h; exact⟨[],rfl,.nil⟩
 | _,_,_,p::m,h=>by
  unfold kvD at h
  rw [ð] at h
  generalize hk:Ç p.1=kk at h
  cases h with
  | cons h t =>
   rename_i k v vs0
   obtain⟨vs,rfl,r⟩:=Rkv.kv (m:=m) t
   have e:=G4 hk.symm
   subst e
   exact⟨v::vs,rfl,.cons h r⟩
theorem ux:∀ {m:IM}{vs:List V} (k:Int),vs.length=m.length->(((m.map (·.1)).zipWith (fun i v=>((ë i:Key),v)) vs).any fun kv=>decide (kv.1=ë k))=eG m k
 | [],[],_,_=>rfl
 | p::m,v::vs,k,h=>by
  have ih:=ux (m:=m) (vs:=vs) k (by simpa using h)
  have e:decide ((ë p.1:Key)=ë k)=decide (p.1=k):=by
   by_cases c:p.1=k <;> simp [c]
  show (decide ((ë p.1:Key)=ë k) || _)=(decide (p.1=k) || _)
  rw [e]
  exact congrArg _ ih
 | [],_::_,_,h=>by cases h
 | _::_,[],_,h=>by cases h
theorem Es {kvs:List (Key×V)}{k:Key}:(gU kvs k).isSome=kvs.any fun kv=>decide (kv.1=k):=by
 induction kvs with
 | nil=>rfl
 | cons p r ih =>
  unfold gU at ih ⊢
  rw [ō,List.any_cons]
  cases h:decide (p.1=k) with
  | true=>rfl
  | false=>exact ih
theorem Bw:∀ {ok:Addr->Prop}{H:Hp}{m:IM}{vs:List V}{k:Int}{d:D},Rps ok H vs (m.map (·.2))->Hg m k=some d->∃ v,gU ((m.map (·.1)).zipWith (fun i v=>((ë i:Key),v)) vs) (ë k)=some v/\Rp ok H v d
 | _,_,[],_,_,_,_,h=>by cases h
 | _,_,p::m,_,k,d,.cons r t,h=>by
  unfold Hg at h
  rw [ō] at h
  by_cases c:p.1=k
  ·rw [decide_eq_true c] at h
   cases h
   refine⟨_,?_,r⟩
   show gU ((ë p.1,_)::_) (ë k)=_
   rw [jM (by rw [c])]
  ·rw [decide_eq_false c] at h
   obtain⟨v,e,rv⟩:=Bw (m:=m) (k:=k) (d:=d) t h
   refine⟨v,?_,rv⟩
   show gU ((ë p.1,_)::_) (ë k)=_
   unfold gU at e ⊢
   rw [ō,decide_eq_false (fun z=>c (Sum.inl.inj z))]
   exact e
theorem JQ:∀ {m:IM}{vs:List V}{k:Int}{v:V}{ok:Addr->Prop}{H:Hp}{d:D},Rps ok H vs (m.map (·.2))->Rp ok H v d->Rkv ok H (putK ((m.map (·.1)).zipWith (fun i v=>((ë i:Key),v)) vs) (ë k) v) (kvD (iu m k d)):=by
 intro m vs k v ok H d rs rv
 have hl:vs.length=m.length:=by rw [rs.length,Á]
 have all:∀ {m:IM}{vs:List V},Rps ok H vs (m.map (·.2))->Rkv ok H ((m.map (·.1)).zipWith (fun i v=>((ë i:Key),v)) vs) (kvD m):=by
  intro m
  induction m with
  | nil=>intro vs r; cases r; exact .nil
  | cons p m ih =>
   intro vs r
   cases r with
   | cons h t=>exact .cons (k:=ë p.1) h (ih t)
 unfold putK iu
 rw [ux k hl]
 by_cases c:eG m k=true
 ·rw [if_pos c,if_pos c]
  clear c hl
  induction m generalizing vs with
  | nil=>cases rs; exact .nil
  | cons p m ih =>
   cases rs with
   | cons h t =>
    have:=ih t
    by_cases cp:p.1=k
    ·have e1:(ë p.1:Key)=ë k:=by rw [cp]
     show Rkv ok H ((if (ë p.1:Key)=ë k then ((ë p.1:Key),v) else (ë p.1,_))::_) (kvD ((if p.1=k then (p.1,d) else p)::_))
     rw [if_pos e1,if_pos cp]
     exact .cons (k:=ë p.1) rv this
    ·have e1:¬ ((ë p.1:Key)=ë k):=fun z=>cp (Sum.inl.inj z)
     show Rkv ok H ((if (ë p.1:Key)=ë k then ((ë p.1:Key),v) else (ë p.1,_))::_) (kvD ((if p.1=k then (p.1,d) else p)::_))
     rw [if_neg e1,if_neg cp]
     exact .cons (k:=ë p.1) h this
 ·rw [if_neg c,if_neg c]
  have app:∀ {a b:List (Key×V)}{x y:List (D×D)},Rkv ok H a x->Rkv ok H b y->Rkv ok H (a++b) (x++y):=by
   intro a b x y h1 h2
   induction a generalizing x with
   | nil=>cases h1; exact h2
   | cons p a ih=>cases h1 with | cons h t=>exact .cons h (ih t)
  unfold kvD
  rw [ä]
  exact app (all rs) (.cons (k:=ë k) rv .nil)
section
variable {X:Cx}{pos pos' p2:Pos}{a b e:Expr}{ta tb te tj tm:DE}{st st2:Stmt}{rest:List Stmt}{ti:DI}{g:DG}{t:DS}
def tD1 (ta tb:DE):DE:=fun ρ P=>ta ρ fun _ d1=>tb ρ fun k2 d2=>match d1 with
 | .int i=>(norm k2 d2).le .new=true/\P .new (.dict (kvD [(i,d2)]))
 | _=>False
theorem pB (ha:PD X a ta) (hb:PD X b tb):PD X (.Dict [some a] [b] pos) (tD1 ta tb):=PE.wk (Jk (FN ha hb Je) rfl rfl (by intro z; cases z) (by show 1<=15; decide)) (by
 rintro σ H Q ⟨p,H0,own,ρ,P,E,t,q⟩
 intro c hc
 have A0:=E.at
 obtain⟨k0,i0,nw⟩:=A0.new hc (.dK [])
 have nf:=A0.nfb hc
 refine⟨p,H0,own,ρ,_,E.go k0 i0,t,fun k1 d1 v1 H1 t1 A1 r1=>?_⟩
 refine⟨p,H0,own,ρ,_,(E.go k0 i0).go A1.kp A1.pen,t1,fun k2 d2 v2 H2 t2 A2 r2=>?_⟩
 have h1:H1 c=some (.dK []):=A1.kp c _ ao nf
 have h2:H2 c=some (.dK []):=A2.kp c _ h1 nf
 refine⟨h2,?_⟩
 cases d1 with
 | int i =>
  have e1:=Rp.int' r1
  subst e1
  refine⟨[(ë i,v2)],rfl,(by show 1<=15; decide),?_⟩
  show Q (.ref c) (upd H2 c (.dK [(ë i,v2)]))
  have K:Kp p H (upd H2 c (.dK [(ë i,v2)])):=fun x o ex nx=>by
   rw [aj (ak ex hc)]
   exact A2.kp x o (A1.kp x o (by rw [aj (ak ex hc)]; exact ex) nx) nx
  have PIf:p.PI (upd H2 c (.dK [(ë i,v2)])):=p.mono H2 _ A2.pen fun x o fx ex=>by
   rw [aj (fun z:x=c=>nf (by rw [← z]; exact fx))]; exact ex
  refine q _ _ _ _ t2.2 ⟨A0.k0,K,A0.penb,PIf,A0.ow⟩ (.dct nw ao (.cons (k:=ë i) ?_ .nil))
  have rn:Rp (okK p H0 own H1 .new) H2 v2 d2:=jT A2 t2.1 (bA r2)
  refine rn.bR (fun x o n ex=>⟨?_,?_⟩) fun x xs ex=>?_
  ·have n:H1 x=none:=n
   cases hx:H x with
   | none=>exact hx
   | some u =>
    have:=A1.kp x u (by rw [aj (ak hx hc)]; exact hx) (A2.nfb n)
    rw [n] at this
    cases this
  ·have n:H1 x=none:=n
   rw [aj (fun z=>by rw [z,h1] at n; cases n)]
   exact ex
  ·rw [aj (fun z=>by rw [z,h2] at ex; cases ex)]
   exact ex
 | _=>exact t2.elim)
def JW (neg:Bool):G2:=fun _ d1 _ d2 P=>match d1,d2 with
 | .int k,.dict ds=>∃ m:IM,ds=kvD m/\P .imm (.bool (if neg then !(eG m k) else eG m k))
 | _,_=>False
theorem Rp.J1 {ok:Addr->Prop}{H:Hp}{v:V}{ds:List (D×D)} (r:Rp ok H v (.dict ds)):∃ a kvs,v=.ref a/\ok a/\H a=some (.dK kvs)/\Rkv ok H kvs ds:=by
 cases r with
 | dct o h r=>exact⟨_,_,rfl,o,h,r⟩
theorem wF:∀ σ H Q,bH (t2 (JW true) ta tb) σ H Q->Ai (bH ta) (bH tb) σ H Q:=by
 rintro σ H Q ⟨p,H0,own,ρ,P,E,t,q⟩
 refine⟨p,H0,own,ρ,_,E,t,fun k1 d1 v1 H1 t1 A1 r1=>?_⟩
 refine⟨p,H0,own,ρ,_,E.go A1.kp A1.pen,t1,fun k2 d2 v2 H2 t2 A2 r2=>?_⟩
 have A:=A1.base A2
 unfold JW at t2
 split at t2
 ·rename_i k ds
  obtain⟨m,rfl,t2⟩:=t2
  have e1:=Rp.int' r1
  subst e1
  obtain⟨c,kvs,rfl,o,hc,rk⟩:=Rp.J1 r2
  obtain⟨vs,rfl,rs⟩:=rk.kv
  refine⟨c,_,rfl,u5.k (k:=ë k) hc,?_⟩
  rw [Es,ux k (by rw [rs.length,Á])]
  exact q _ _ _ _ t2 A (.bl _)
 ·exact t2.elim
theorem hu1 (hu:X.A.units+64<cLine):X.A.units+1<cLine:=by omega
theorem fY (hu:X.A.units+64<cLine) (ha:PD X a ta) (hb:PD X b tb) (hm:behindInMarks .NotIn b=false:=by rfl):PDT X (.Compare a [.NotIn] [b] pos) (eE (t2 (JW true) ta tb)):=PT.wk (Mg (CW (hu1 hu) ha hb) hm) fun σ H Q q=>wF σ H _ (by
 obtain⟨p,H0,own,ρ,P,E,t,q⟩:=q
 refine⟨p,H0,own,ρ,_,E,t,fun k d v H' h A r=>?_⟩
 cases d with
 | bool b=>exact⟨b,Rp.bl' r,q b H' h A⟩
 | _=>exact h.elim)
def Hl:G2:=fun k1 d1 _ d2 P=>match d1,d2 with
 | .dict ds,.int k=>∃ (m:IM) (d:D),ds=kvD m/\Hg m k=some d/\P (norm k1 d) d
 | _,_=>False
theorem tW (hu:X.A.units+64<cLine) (ha:PD X a ta) (hb:PD X b tb) (hs:Kh b:=by exact fun _ _=>rfl):PD X (.Subscript a b pos) (t2 Hl ta tb):=PE.wk (Jl (hu1 hu) ha hb hs) (by
 rintro σ H Q ⟨p,H0,own,ρ,P,E,t,q⟩
 refine⟨p,H0,own,ρ,_,E,t,fun k1 d1 v1 H1 t1 A1 r1=>?_⟩
 refine⟨p,H0,own,ρ,_,E.go A1.kp A1.pen,t1,fun k2 d2 v2 H2 t2 A2 r2=>?_⟩
 have A:=A1.base A2
 unfold Hl at t2
 split at t2
 ·rename_i ds k
  obtain⟨m,d,rfl,hg,t2⟩:=t2
  have e2:=Rp.int' r2
  subst e2
  obtain⟨c,kvs,rfl,o,hc,rk⟩:=Rp.J1 (nj A1 A2.kp r1)
  obtain⟨vs,rfl,rs⟩:=rk.kv
  obtain⟨v,ev,rv⟩:=Bw rs hg
  refine⟨c,v,rfl,?_,q _ _ _ _ t2 A (bA rv)⟩
  rw [← ev]
  exact u5.k (k:=ë k) hc
 ·exact t2.elim)
def HF (i:Nat) (tk tv:DE):DS:=fun P ρ=>match ρ[i]? with
 | some (.dw r (.dict ds))=>tv ρ fun _ dv=>tk ρ fun _ dk=>match dk with
  | .int k=>∃ m:IM,ds=kvD m/\eF dv=true/\mH m=true/\m.length<1000/\P.nx ((forget r ρ).set i (.dw r (.dict (kvD (iu m k dv)))))
  | _=>False
 | _=>False
theorem wO {ok:Addr->Prop}{H:Hp}:∀ {m:IM}{vs:List V},mH m=true->Rps ok H vs (m.map (·.2))->Rps (fun _=>False) H vs (m.map (·.2))
 | [],_,_,.nil=>.nil
 | p::m,_,h,.cons r t=>by
  unfold mH at h
  rw [List.all_cons,Ü] at h
  exact .cons (r.imm h.1) (wO (m:=m) h.2 t)
theorem oF {i:Nat}{tk tv:DE} (h:PS X st (Ku (fj i) (bH tk) (bH tv))):PDS X st (HF i tk tv):=PS.wk' h (by
 rintro Q σ H ⟨p,H0,own,ρ,P,E,t,w⟩
 unfold HF at t
 split at t
 ·rename_i r ds hr
  obtain⟨v,hv,_⟩:=E.slot i _ hr
  refine⟨p,H0,own,ρ,_,E,t,fun kv dv vv H1 t1 A1 r1=>?_⟩
  have E1:=E.go A1.kp A1.pen
  refine⟨v,hv,p,H0,own,ρ,_,E1,t1,fun kk dk vk H2 t2 A2 r2=>?_⟩
  have E2:=E1.go A2.kp A2.pen
  cases dk with
  | int k =>
   obtain⟨m,rfl,im,imm,hlen,nx⟩:=t2
   obtain⟨v',hv',x⟩:=E2.slot i _ hr
   rw [hv] at hv'
   cases hv'
   obtain⟨l,kvs,rfl,o,hl,rk⟩:=Rp.J1 x
   obtain⟨vs,rfl,rs⟩:=rk.kv
   have ek:=Rp.int' r2
   subst ek
   have h24:=ç
   have rs0:=wO imm rs
   have rv0:Rp (fun _=>False) H2 vv dv:=(nj A1 A2.kp r1).imm im
   have ln:((m.map (·.1)).zipWith (fun i v=>((ë i:Key),v)) vs).length=m.length:=by
    rw [List.length_zipWith,Á,rs.length,Á,Nat.min_self]
   refine⟨l,_,rfl,Ih.k (k:=ë k) hl (by rw [ln]; omega),?_⟩
   have rp:=JQ (k:=k) rs0 rv0
   generalize putK ((m.map (·.1)).zipWith (fun i v=>((ë i:Key),v)) vs) (ë k) vv=kvs' at rp
   have tp:∀ a xs,H2 a=some (.tup xs)->upd H2 l (.dK kvs') a=some (.tup xs):=fun a xs e=>by
    rw [aj (fun z=>by rw [z,hl] at e; cases e)]; exact e
   have E3:=(E2.write (o':=.dK kvs') o hl fun xs z=>nomatch z).put (v:=.ref l) (i:=i) (s:=.dw r (.dict (kvD (iu m k dv)))) ⟨_,hv,.dct o ao (rp.mono (fun _ o=>o.elim) (fun _ _ o=>o.elim) tp)⟩
   exact w.nx _ σ _ _ E3 ((A1.frs.trans A2.frs).trans (cQ o hl fun xs z=>nomatch z)) nx
  | _=>exact t2.elim
 ·exact t.elim)
def Oq (te:DE):DT:=fun ρ P=>te ρ fun _ d=>match d with
 | .list ds=>P (!ds.isEmpty)
 | .tuple ds=>P (!ds.isEmpty)
 | .bool b=>P b
 | _=>False
theorem Hv {ok:Addr->Prop}{H:Hp}{vs:List V}{ds:List D} (r:Rps ok H vs ds):(!vs.isEmpty)=!ds.isEmpty:=by
 cases r <;> rfl
theorem sZ (h:PD X e te) (he:∀ whole,isTrue e X.env whole=(do let v ← whole; standAt e.pos; holding [v] (truthy v)):=by intro _; rfl):PDT X e (Oq te):=PT.wk (Fx h he) (by
 rintro σ H Q ⟨p,H0,own,ρ,P,E,t,q⟩
 refine⟨p,H0,own,ρ,_,E,t,fun k d v H' h A r=>?_⟩
 cases d with
 | list ds =>
  obtain⟨c,vs,rfl,o,hc,rs⟩:=Rp.bF r
  exact⟨_,.inl ⟨vs,SqL.of hc,rfl⟩,by rw [Hv rs]; exact q _ _ h A⟩
 | tuple ds =>
  obtain⟨c,vs,rfl,hc,rs⟩:=Rp.cR r
  exact⟨_,.inr (.inl ⟨vs,SqT.of hc,rfl⟩),by rw [Hv rs]; exact q _ _ h A⟩
 | bool b =>
  have e:=Rp.bl' r
  subst e
  exact⟨b,rfl,q _ _ h A⟩
 | _=>exact h.elim)
end
variable [Gr]
theorem zx (r:Nat) (ρ:List Sl):forget r (forget r ρ)=forget r ρ:=by
 unfold forget
 rw [ě]
 refine List.map_congr_left fun s _=>?_
 show (if (if s.region=some r then Sl.any else s).region=some r then Sl.any else (if s.region=some r then Sl.any else s))=_
 by_cases h:s.region=some r
 ·rw [if_pos h]; rfl
 ·rw [if_neg h,if_neg h]
section
variable {X:Cx}{te te1 te2 tj tm:DE}{st st2:Stmt}{rest:List Stmt}{t:DS}
def QC (i:Nat) (tj tm te:DE):DS:=fun P ρ=>match ρ[i]? with
 | some (.rw r L)=>te ρ fun _ d=>tj ρ fun _ dj=>match dj with
  | .int j=>∃ n l,ixN L.length j=some n/\L[n]?=some l/\tm ρ fun _ dm=>match dm with
   | .int m=>∃ q,ixN l.length m=some q/\eF d=true/\P.nx ((forget r ρ).set i (.rw r (L.set n (l.set q d))))
   | _=>False
  | _=>False
 | _=>False
def uN (i:Nat) (tj te1 te2:DE) (t:DS):DS:=fun P ρ=>match ρ[i]? with
 | some (.dw r (.list ds))=>tj ρ fun _ dj=>match dj with
  | .int j=>∃ es,atI ds j=some (.list es)/\es.length<1000/\ds.length<1000/\te1 ρ fun _ _=>te2 (forget r ρ) fun _ _=>t P (forget r ρ)
  | _=>False
 | _=>False
end
variable [Gr]
section
variable {X:Cx}{te tj:DE}{st:Stmt}{t:DS}
end
end Dl
namespace L2
open PySem PySem.Spec PyProof.Rows
def Kl (K:â) (a:Addr):It :=
 ⟨fun i H=>∃ xs x,SqL K H a xs/\xs[i]?=some x,fun i H x H'=>∃ t v,x=.ref t/\H t=none/\H'=upd H t (.tup [.int i,v])/\∀ xs,SqL K H a xs->xs[i]?=some v,fun i H=>∃ xs,SqL K H a xs/\xs.length<=i⟩
theorem xU {P:Program}{w:World}{K:â}{elts:List Expr}{kk:Nat}{pos:Pos} (a e it:Addr) (hei:e≠it) :
  Turn P w K (.Tuple elts kk pos) (Kl K a) [e,it] e (fun i h=>(∃ old,IsEnum h e it i old)/\h.IsListIter it a i) where
 mem:=by simp
 obj:=fun i h st b hb=>by
  obtain⟨⟨old,he⟩,o,ho,hc,hd⟩:=st
  rcases Þ.mp hb with rfl | hb
  ·exact⟨_,he,fun v z=>nomatch z⟩
  ·have e1:b=it:=by simpa using hb
   subst e1
   exact⟨o,ho,fun v z=>by rw [hd] at z; cases z⟩
 keep:=fun i h h' st k=>by
  obtain⟨⟨old,he⟩,o,ho,r⟩:=st
  exact⟨⟨old,k e (by simp) _ he⟩,o,k it (by simp) _ ho,r⟩
 item:=by
  intro X hP hw hK hc i pins s σ H E I hf st hg
  subst hP hw hK
  obtain⟨xs,x,hq,hx⟩:=hg
  obtain⟨its,rv,p,hz⟩:=I.list hq
  obtain⟨u,hu,ru⟩:=rv.get hx
  obtain⟨⟨old,he⟩,hit⟩:=st
  have hai:a≠it:=fun z=>by
   obtain⟨o,_,ho,hc1,_⟩:=p
   obtain⟨o',ho',hc2,_⟩:=hit
   rw [z,ho'] at ho
   cases ho
   rw [hc2] at hc1
   injection hc1 with z2
   exact absurd z2 (by decide)
  have hae:e≠a:=fun z=>by
   obtain⟨o,_,ho,hc1,_⟩:=p
   have he':s.heap.get? e=some _:=he
   rw [z,ho] at he'
   cases he'
   have z1:Ă "enumerate"=Ă "list":=hc1
   injection z1 with z2
   exact absurd z2 (by decide)
  have hlt:i<its.toArray.size:=by have:=(É.mp hu).1; simpa using this
  obtain⟨e0,e1,e2,e3,e4,e5⟩:=hf e (by simp)
  obtain⟨f0,f1,f2,f3,f4,f5⟩:=hf it (by simp)
  have D:=Draws.list (prog:=X.prog) (w:=X.w) (A:=X.A.in1) (I.ok.hd hc) it a hai its.toArray
  refine wpAny_pyNext_enum_itemD D he ⟨hit,p.isList⟩ hlt hei (by simp [hei,hae]) fun x' h' tk hP ho hs' hT hsz hk=>⟨_,rfl,?_⟩
  have ex:x'=u:=by
   have hP':its[i]?=some x':=by simpa using hP
   rw [hu] at hP'
   exact (Ù hP').symm
  subst ex
  refine wpAny_letOwnedTupleGo_enum ho fun h2 he2 hs2=>?_
  have hTn:H s.heap.objs.size=none:=I.hok.fresh (Ò _)
  have keep2:∀ b o,b≠e->b≠it->s.heap.get? b=some o->h2.get? b=some o:=fun b o hb1 hb2 q=>(hs2.2 b hb1).trans (hk b o hb1 hb2 q)
  have hTe:s.heap.objs.size≠e:=ħ (Ê he)
  have hTup:h2.get? s.heap.objs.size=some { cls:=.type "tuple",data:=.seq #[.int i tk,x'] }:=(hs2.2 _ hTe).trans hT
  have J:Inv X pins σ (upd H s.heap.objs.size (.tup [.int i,x])) { s with heap:=h2,toks:=tk+1 }:=by
   refine I.step (g':=s.gens) (d':=s.drawn) (t':=tk+1) (ch:=[e,it]) (fun b hb=>?_) (fun b o _ _ hcb q _=>keep2 b o (fun z=>hcb (by simp [z])) (fun z=>hcb (by simp [z])) q)
    (fun b o _ _ hcb q _=>⟨o.slots,keep2 b o (fun z=>hcb (by simp [z])) (fun z=>hcb (by simp [z])) q⟩) (fun b o _ q n=>by rw [aj (Õ (Ê q))]; exact n)
    (fun b o hcb q=>⟨o,keep2 b o (fun z=>hcb (by simp [z])) (fun z=>hcb (by simp [z])) q⟩) (fun b ys q=>by rw [aj (ak q hTn)]; exact q) (fun b o y q=>by rw [aj (ak q hTn)]; exact q)
    (fun b ps q=>⟨#[],by rw [aj (ak q hTn),q]; simp⟩) (fun m hm=>?_) ?_ I.bare
   ·rcases Þ.mp hb with rfl | hb
    ·exact⟨e3,e1,e4,e5⟩
    ·have z:b=it:=by simpa using hb
     subst z
     exact⟨f3,f1,f4,f5⟩
   ·obtain⟨o,es,ep,ho',r⟩:=hm
    exact⟨o,es,ep,keep2 _ o (č e1) (č f1) ho',r⟩
   ·intro b u' q
    have nT:∀ {c y},H c=some y->c≠e/\c≠it:=fun {c y} z=>⟨fun v=>(by rw [v,e0] at z; exact nomatch z),fun v=>(by rw [v,f0] at z; exact nomatch z)⟩
    by_cases hb:b=s.heap.objs.size
    ·subst hb
     rw [ao] at q
     cases q
     exact⟨(by show 2<=sizeLine; decide),[.int i tk,x'],.cons ⟨_,rfl⟩ (.cons ru .nil),_,hTup,rfl,_,rfl⟩
    ·rw [aj hb] at q
     refine (I.hok b u' q).stay (fun c v hcv y=>keep2 c v ?_ ?_ y) (fun c y=>by rw [aj (ak y hTn)]; exact y) fun c ys y=>by rw [aj (ak y hTn)]; exact y
     ·rcases hcv with rfl | z
      ·exact (nT q).1
      ·exact (nT z).1
     ·rcases hcv with rfl | z
      ·exact (nT q).2
      ·exact (nT z).2
  refine⟨.ref s.heap.objs.size,_,J,rfl,⟨_,x,rfl,hTn,rfl,fun ys hy=>by rw [I.wC hy hq]; exact hx⟩,⟨⟨x',?_⟩,?_⟩,fun b hb=>?_⟩
  ·have he3:IsEnum h2 e it ((i:Int)+1) x':=by simpa using he2
   have ec:((i+1:Nat):Int)=(i:Int)+1:=by omega
   rw [ec]
   exact he3
  ·obtain⟨o,ho2,r⟩:=hs'.1
   exact⟨o,(hs2.2 it (č hei)).trans ho2,r⟩
  ·rw [aj]
   ·exact (hf b hb).1
   ·rcases Þ.mp hb with rfl | hb
    ·exact č hTe
    ·have z:b=it:=by simpa using hb
     subst z
     obtain⟨o,ho2,_⟩:=hit
     exact Õ (Ê ho2)
 done:=by
  intro X hP hw hK hc i pins s σ H E I hf st hg
  subst hP hw hK
  obtain⟨xs,hq,hx⟩:=hg
  obtain⟨its,rv,p,hz⟩:=I.list hq
  obtain⟨⟨old,he⟩,hit⟩:=st
  obtain⟨f0,f1,f2,f3,f4,f5⟩:=hf it (by simp)
  have hl:=rv.length
  have hT:s.TypeIs (.ref e) "enumerate":=⟨_,he,rfl⟩
  unfold pyNext
  refine À (wpAny_attempt (Đ (name:=ŋ "__next__") hT ĺ
   (ü ĺ hT PySem.F.entry_enumerate_next ?_ (PySem.F.args_enumerate_next_1 _))))
  show wpAny _ _ (field (.ref e) 2 >>= _) _ _ _
  refine À (ŧ he rfl (x:=.ref it) rfl ?_)
  refine À (wpAny_nextOf_list_end (I.ok.hd hc) hit p.isList (by simp; omega) fun h' x he' hx'=>?_)
  obtain⟨o,ho,hc'⟩:=hx'
  refine À (wpAny_isInstance (T:="StopIteration") (b:=true) ⟨o,ho,hc'⟩ isSubtype_stop ?_)
  exact Å ⟨rfl,I.turned (t':=s.toks) (fun b o hb e=>he' b o hb e) f0 f1 f3 f4 f5⟩
 self:=fun A i s Q E st h=>by
  obtain⟨⟨old,he⟩,_⟩:=st
  have hT:s.TypeIs (.ref e) "enumerate":=⟨_,he,rfl⟩
  refine wpAny_pyIter_slot hT ű (ü ű hT PySem.F.entry_enumerate_iter ?_ (PySem.F.args_enumerate_iter_1 _))
  show wpAny _ _ (ret (.ref e)) _ _ s
  exact Å ⟨_,rfl,"enumerate",_,hT,ĺ.lookup,h⟩
end L2
namespace Dl
open PySem L2 PyProof.Rows
variable [Gr]
section
variable {X:Cx}{tg:Expr}{pos:Pos}{ta:DA}
theorem xQ {K:â}{ok:Addr->Prop}{a:Addr}{ds:List D}:Wlk (fun H=>Rp ok H (.ref a) (.list ds)) (Kl K a) (jt ds) ok where
 go:=fun i H r hi=>by
  obtain⟨b,vs,e,_,h,rs⟩:=r.bF
  cases e
  have:i<vs.length:=by rw [rs.length]; rw [cj] at hi; exact hi
  exact⟨vs,vs[i],SqL.of h,by simp [this]⟩
 stop:=fun H r=>by
  obtain⟨b,vs,e,_,h,rs⟩:=r.bF
  cases e
  exact⟨vs,SqL.of h,by rw [rs.length,cj]; exact Ò _⟩
 yld:=fun i H x H' r y=>by
  obtain⟨t,v,rfl,ht,rfl,y⟩:=y
  have sm:Same H (upd H t (.tup [.int i,v])):=fun b u q=>by rw [aj (ak q ht)]; exact q
  refine⟨sm,fun d hd=>?_⟩
  obtain⟨b,vs,e,_,h,rs⟩:=r.bF
  cases e
  rw [cT] at hd
  cases he:ds[i]? with
  | none=>rw [he] at hd; cases hd
  | some d0 =>
   rw [he] at hd
   have e:=Ù hd
   subst e
   obtain⟨v',hv,rv⟩:=rs.getD he
   have:=y vs (SqL.of h)
   rw [hv] at this
   cases this
   exact .tup ao (.cons (.int _) (.cons (rv.mono (fun _ o=>o) (fun a o _ e=>sm a o e) fun a xs e=>sm a _ e) .nil))
 stab:=fun H H' r f t=>r.bR (fun a o n e=>⟨n,f a o n e⟩) t
end
section
variable {X:Cx}
theorem Ec (hc:X.calm=true):bx X (.builtin "min") (fun xs H Q=>∃ (p:Addr) (ns:List Int),xs=[.ref p]/\SqL X.K H p (ns.map V.int)/\ns≠[]/\∀ M,M∈ns->(∀ a∈ns,M<=a)->Q (.int M) H):=by
 intro pins s σ H xs us Q I r h
 obtain⟨p,ns,rfl,hp,hne,q⟩:=h
 obtain⟨u,rfl,rx⟩:=vals1 r
 cases rx
 obtain⟨its,rv,pl,hz⟩:=I.list hp
 have hi:IntsAre its ns:=intsAre_of rv
 obtain⟨zs,e⟩:=hi.allInts.items
 have hns:ns=zs.toList.map (·.1):=by rw [← hi.numsOf,← nums_intItems,← e]
 have hsz:0<zs.size:=by
  have h3:=List.length_pos_iff.mpr hne
  rw [hns,Á,ñ] at h3; exact h3
 have hl:=pl.isList
 rw [e] at hl
 refine min_intList (I.ok.hd hc) hl hsz fun v h' tk hv hk=>?_
 obtain⟨t,rfl⟩:=intItems_at hv
 obtain⟨h1,h2⟩:=argBest_lt (numAt zs) (zs.size - 1)
 refine⟨.int _,H,I.kept fun b o eb=>hk b o eb,⟨_,rfl⟩,q _ ?_ fun a ha=>?_⟩
 ·rw [hns,numAt_eq]; refine getD_mem ?_; rw [Á,ñ]; omega
 ·rw [hns] at ha
  obtain⟨j,hj,rfl⟩:=mem_getD ha
  rw [Á,ñ] at hj
  have h3:=h2 j (by omega)
  rw [← numAt_eq]; exact h3
theorem DX (hc:X.calm=true):bx X (.builtin "sum") (fun xs H Q=>∃ (p:Addr) (ns:List Int),xs=[.ref p]/\SqT X.K H p (ns.map V.int)/\ns.length<=1000/\(∀ x∈ns,-1000000<=x/\x<=1000000)/\Q (.int ns.sum) H):=by
 intro pins s σ H xs us Q I r h
 obtain⟨p,ns,rfl,hp,hl,hs,q⟩:=h
 obtain⟨u,rfl,rx⟩:=vals1 r
 cases rx
 obtain⟨its,rv,pl,hz⟩:=I.tuple hp
 have hlen:its.length=ns.length:=by have:=rv.length; rw [Á] at this; exact this.symm
 have hltp:p<s.heap.objs.size:=by obtain⟨o,ho,_⟩:=pl; exact Ê ho
 have at':∀ i v,its[i]?=some v->∃ t,v=Ŝ (ns.getD i 0) t:=fun i v e=>by
  have hi:i<its.length:=(É.mp e).1
  have hv:(ns.map V.int)[i]?=some (V.int ns[i]):=by rw [Ö,Ä (show i<ns.length by omega)]; rfl
  obtain⟨u,eu,ru⟩:=rv.get hv
  rw [e] at eu
  cases eu
  obtain⟨t,rfl⟩:=ru
  exact⟨t,by rw [ö,Ä (show i<ns.length by omega)]; rfl⟩
 refine call_sum_walk (ż pl ?_)
 refine⟨_,_,_,_,_,_,fun i=>ns.getD i 0,rfl,Walks.tuple (A:=X.A.in1) (I.ok.hd hc) _ p (Õ hltp) _,⟨⟨_,Ô _ rfl,rfl,rfl⟩,pl.push _⟩,?_,fun i v e=>at' i v (by simpa using e),fun j hj=>?_,fun h' tk t' hk=>?_⟩
 ·intro b hb
  show b<(s.heap.push _).objs.size
  rw [ķ]
  simp at hb
  rcases hb with rfl | rfl
  ·exact ĳ _
  ·exact ô hltp
 ·have hj:j<ns.length:=by simpa [hlen] using hj
  have e:ns.getD j 0=ns[j]:=by rw [ö,Ä hj]; rfl
  have b1:=hs _ (į hj)
  have b2:=lQ (ns.take (j+1)) 1000000 fun x hx=>hs x (List.mem_of_mem_take hx)
  have b3:(ns.take (j+1)).length<=1000:=by rw [ć]; omega
  rw [jX ns (j+1) hj]
  refine⟨?_,?_⟩
  ·show -(2 ^ 63)<=ns.getD j 0/\ns.getD j 0<2 ^ 63
   rw [e]
   omega
  ·show -(2 ^ 63)<=(ns.take (j+1)).sum/\(ns.take (j+1)).sum<2 ^ 63
   omega
 ·have e:PySem.preSum (fun i=>ns.getD i 0) its.toArray.size=ns.sum:=by
   rw [Î,hlen,jX ns ns.length (Ò _),Ě]
  rw [e]
  refine⟨.int ns.sum,H,I.kept fun b o eb=>hk b o ?_ (È _ eb),⟨_,rfl⟩,q⟩
  intro hm
  have:b=s.heap.objs.size:=by simpa using hm
  exact absurd (this ▸ Ê eb) (ď _)
end
section
variable {prog:Program}{w:World}{A:Around}{E:Value->Shared->Prop}
theorem wW {it l:Addr}{items:Array Value} (hne:l≠it):∀ (n i:Nat) (s:Shared) (Q:List Value->Shared->Prop),s.heap.IsListIter it l i->s.heap.IsList l items->i+n<=items.size ->
  (∀ h',h'.IsListIter it l (i+n)->Œ it s.heap h'->Q ((items.toList.drop i).take n) { s with heap:=h' })->wpAny (model prog w) A (draw (.ref it) n) Q E s
 | 0,i,s,Q,hit,_,_,hQ=>by
  show wpAny _ _ (pure []) Q E s
  exact Å (by simpa using hQ s.heap hit (Heap.SameBut.refl ..))
 | n+1,i,s,Q,hit,hl,hle,hQ=>by
  have hlt:i<items.size:=by omega
  show wpAny _ _ (pyNext (.ref it) >>= _) Q E s
  refine À (wpAny_pyNext_list_item hit hl (x:=items[i]) (by simp [hlt]) fun h₁ hit₁ hs₁=>?_)
  refine À (ò (wW hne n (i+1) _ _ hit₁ (hl.extBut hs₁.extBut hne) (by omega) fun h₂ hit₂ hs₂=>Å ?_))
  have hd:items.toList.drop i=items[i]::items.toList.drop (i+1):=by simp [ŝ,hlt]
  have z:=hQ h₂ (by rw [show i+(n+1)=i+1+n by omega]; exact hit₂) (hs₁.trans hs₂)
  rw [hd,List.take_succ_cons] at z
  exact z
theorem nG {s:Shared}{l:Addr}{items:Array Value}{Q:List Value->Shared->Prop} (hh:A.handled=none) (hl:s.heap.IsList l items)
  (hQ:∀ h',Heap.ExtBut s.heap.objs.size s.heap h'->Q items.toList { s with heap:=h' }):wpAny (model prog w) A (unpackItems (.ref l) items.size none) Q E s:=by
 have hlt:l≠s.heap.objs.size:=by obtain⟨o,ho,_⟩:=hl; exact Õ (Ê ho)
 unfold unpackItems
 refine À ?_
 unfold notIterableAtAll
 refine À (wpAny_specialOf hl.typeIs slot_list_iter.lookup ?_)
 refine Å ?_
 simp only [if_false,ì]
 refine À (ò (wpAny_pyIter_list hl ?_))
 refine À (ò (wW hlt items.size 0 _ _ ⟨_,Ô _ rfl,rfl,rfl⟩ (hl.push _) (by omega) fun h₁ hit₁ hs₁=>?_))
 have hall:List.take items.size (List.drop 0 items.toList)=items.toList:=by rw [List.drop_zero]; refine Į ?_; simp
 rw [hall,if_neg (by simp)]
 have hl₁:h₁.IsList l items:=(hl.push _).extBut hs₁.extBut hlt
 refine À (ò (wpAny_pyNext_list_end hh hit₁ hl₁ (by simp) fun h₂ he₂=>?_))
 simp only [if_false,Option.isSome_none,ì]
 exact Å (hQ h₂ fun b o hb e=>he₂ b o hb (hs₁.extBut b o hb (È _ e)))
theorem mV {s:Shared}{env:Env}{elts:List Expr}{x1}{pos:Pos}{l:Addr}{items:Array Value}{Q:Unit->Shared->Prop} (hh:A.handled=none) (hl:s.heap.IsList l items)
  (hn:(assignEach elts env).length=items.size) (hstar:(assignEach elts env).findIdx? (·.1)=none)
  (h:∀ h',Heap.ExtBut s.heap.objs.size s.heap h'->wpAny (model prog w) A (assignInOrder ((assignEach elts env).map (·.2)) items.toList) Q E { s with heap:=h' }) :
  wpAny (model prog w) A (assign (.Tuple elts x1 pos) env (.ref l)) Q E s:=by
 rw [assign_Tuple]
 refine À (wpAny_standAt ?_)
 unfold unpack
 rw [hn,hstar]
 exact À (ò (nG hh hl h))
end
section
variable {X:Cx}{pos:Pos}
def Rb (K:â) (n:Nat) (t:TGs):TG:=fun v σ H Q=>∃ a xs,v=.ref a/\SqL K H a xs/\xs.length=n/\t xs σ H Q
theorem Mr {es:List Expr}{k:Nat}{t:TGs}{n:Nat} (hc:X.calm=true) (h:PGs X es t)
  (hn:(assignEach es X.env).length=n:=by rfl) (hst:(assignEach es X.env).findIdx? (·.1)=none:=by rfl):PG X (.Tuple es k pos) (Rb X.K n t):=by
 intro pins s σ H v u Q I r hw
 obtain⟨a,xs,e1,hq,hl,hw⟩:=hw
 subst e1
 cases r
 obtain⟨its,rv,pl,hz⟩:=I.list hq
 refine mV (I.ok.hd hc) pl.isList (by simp [hn,← hl,rv.length]) hst fun h' hx=>?_
 have I1:Inv X pins σ H { s with heap:=h' }:=I.kept (t':=s.toks) fun b o e=>hx b o (Õ (Ê e)) e
 exact h pins _ σ H xs _ Q I1 (by simpa using rv) hw
variable [Gr]
def gTL (n:Nat) (gs:DGs):DG:=fun k d ρ P=>match d with
 | .list ds=>ds.length=n/\gs k ds ρ P
 | _=>False
theorem zR {es:List Expr}{gs:DGs}{k n:Nat} (hc:X.calm=true) (h:PGs X es (mD gs)) (hn:(assignEach es X.env).length=n:=by rfl) (hst:(assignEach es X.env).findIdx? (·.1)=none:=by rfl):PDG X (.Tuple es k pos) (gTL n gs):=PG.wk (Mr hc h hn hst) (by
 rintro v σ H Q ⟨p,H0,own,ρ,k,d,P,E,r,t,q⟩
 cases d with
 | list ds =>
  obtain⟨a,vs,rfl,_,ha,rs⟩:=r.bF
  exact⟨a,vs,rfl,SqL.of ha,by rw [rs.length]; exact t.1,p,H0,own,ρ,k,ds,P,E,rs,t.2,q⟩
 | _=>exact t.elim)
end
section
variable {X:Cx}{pos:Pos}{a:Expr}{t:DA} [Gr]
def Nz (f:Int->Int->Int) (le:Int->Int->Prop):GC:=fun ks P=>match ks with
 | [(_,.tuple [.int i,.int j])]=>P .imm (.int (f i j))
 | [(_,.list ds)]=>∃ ns:List Int,ds=ns.map Ç/\ns≠[]/\∀ M,M∈ns->(∀ a∈ns,le M a)->P .imm (.int M)
 | _=>False
theorem tM {ps:Pos} (hc:X.calm=true) (hm:X.mg "min"=none) (ha:PDA X [a] t) (hg:Gl X "min":=by rfl) (he:zS X a []:=by rfl) (hpl:zP X pos []:=by rfl):PD X (.Call (.Name "min" ps) [a] [] pos) (tCl (Nz (fun i j=>if j<i then j else i) (fun M a=>M<=a)) t) :=
 cH (bx.or (Eb hc) (Ec hc)) (by
  intro p H0 own Hb H vs ks P Q A r t q
  unfold Nz at t
  split at t
  ·rename_i k i j
   obtain⟨v,rfl,r'⟩:=cD r
   obtain⟨x,xs,e1,h1,rs1⟩:=Rp.cR r'
   obtain⟨v1,v2,e2,q1,q2⟩:=Rps.two rs1
   subst e1 e2
   rw [q1.int',q2.int'] at h1
   exact .inl ⟨x,i,j,rfl,SqT.of h1,q _ _ _ _ t Kp.refl A.pen (.int _)⟩
  ·obtain⟨ns,rfl,hne,t⟩:=t
   obtain⟨v,rfl,r'⟩:=cD r
   obtain⟨x,xs,e1,o1,h1,rs1⟩:=Rp.bF r'
   subst e1
   have e2:=Rps.ints rs1
   subst e2
   exact .inr ⟨x,ns,rfl,SqL.of h1,hne,fun M h1 h2=>q _ _ _ _ (t M h1 h2) Kp.refl A.pen (.int _)⟩
  ·exact t.elim) hg hm boot_min ha (by decide) (by decide) he hpl
def Hj:GC:=fun ks P=>match ks with
 | [(_,.list ds)]=>∃ ns:List Int,ds=ns.map Ç/\ns.length<=1000/\(∀ x∈ns,-1000000<=x/\x<=1000000)/\P .imm (.int ns.sum)
 | [(_,.tuple ds)]=>∃ ns:List Int,ds=ns.map Ç/\ns.length<=1000/\(∀ x∈ns,-1000000<=x/\x<=1000000)/\P .imm (.int ns.sum)
 | _=>False
theorem tE {ps:Pos} (hc:X.calm=true) (hm:X.mg "sum"=none) (ha:PDA X [a] t) (hg:Gl X "sum":=by rfl) (he:zS X a []:=by rfl) (hpl:zP X pos []:=by rfl):PD X (.Call (.Name "sum" ps) [a] [] pos) (tCl Hj t) :=
 cH (bx.or (DY hc) (DX hc)) (by
  intro p H0 own Hb H vs ks P Q A r t q
  unfold Hj at t
  split at t
  ·obtain⟨ns,rfl,hl,hb,t⟩:=t
   obtain⟨v,rfl,r'⟩:=cD r
   obtain⟨x,xs,e1,o1,h1,rs1⟩:=Rp.bF r'
   subst e1
   have e2:=Rps.ints rs1
   subst e2
   exact .inl ⟨x,ns,rfl,SqL.of h1,hl,hb,q _ _ _ _ t Kp.refl A.pen (.int _)⟩
  ·obtain⟨ns,rfl,hl,hb,t⟩:=t
   obtain⟨v,rfl,r'⟩:=cD r
   obtain⟨x,xs,e1,h1,rs1⟩:=Rp.cR r'
   subst e1
   have e2:=Rps.ints rs1
   subst e2
   exact .inr ⟨x,ns,rfl,SqT.of h1,hl,hb,q _ _ _ _ t Kp.refl A.pen (.int _)⟩
  ·exact t.elim) hg hm boot_sum ha (by decide) (by decide) he hpl
def zq:GC:=fun ks P=>match ks with
 | [(_,.dict ds)]=>∃ m:IM,ds=kvD m/\m.length<64/\∀ out:List Int,out.Perm (m.map (·.1))->out.Pairwise (·<=·)->P .new (.list (out.map Ç))
 | _=>False
theorem vH {ok:Addr->Prop}{H:Hp}:∀ {kvs:List (Key×V)}{ds:List (D×D)}{m:IM},Rkv ok H kvs ds->ds=kvD m->kvs.map (·.1)=(m.map (·.1)).map ë
 | _,_,[],.nil,_=>rfl
 | _,_,p::m,.cons h t,e=>by
  have e1:kD _=Ç p.1:=congrArg Prod.fst (List.cons.inj e).1
  have e2:=G4 e1
  rw [ð,ð,ð,vH (m:=m) t (List.cons.inj e).2,← e2]
 | _,_,[],.cons _ _,e=>nomatch e
 | _,_,_::_,.nil,e=>nomatch e
theorem o8 {ps:Pos} (hc:X.calm=true) (hm:X.mg "sorted"=none) (ha:PDA X [a] t) (hg:Gl X "sorted":=by rfl) (he:zS X a []:=by rfl) (hpl:zP X pos []:=by rfl):PD X (.Call (.Name "sorted" ps) [a] [] pos) (tCl zq t) :=
 cH (uV hc) (by
  intro p H0 own Hb H vs ks P Q A r t q
  unfold zq at t
  split at t
  ·obtain⟨m,rfl,hl,t⟩:=t
   obtain⟨v,rfl,r'⟩:=cD r
   obtain⟨x,kvs,e1,o1,h1,rs1⟩:=Rp.J1 r'
   subst e1
   refine⟨x,kvs,m.map (·.1),rfl,h1,vH rs1 rfl,by rw [Á]; exact hl,fun l out hl' hp hs=>?_⟩
   obtain⟨k2,i2,nw⟩:=A.new hl' (.lst (out.map V.int))
   exact q _ _ _ _ (t out hp hs) k2 i2 (.lst nw ao (Rps.ofMap (fun i=>.int i) out))
  ·exact t.elim) hg hm boot_sorted ha (by decide) (by decide) he hpl
variable {b:Expr}{ta tb:DE}
end
section
variable {X:Cx}
theorem Eh (hc:X.calm=true):bx X (.builtin "any") (fun xs H Q=>∃ (p:Addr) (bs:List Bool),xs=[.ref p]/\SqL X.K H p (bs.map V.bl)/\Q (.bl (bs.any id)) H):=by
 intro pins s σ H xs us Q I r h
 obtain⟨p,bs,rfl,hp,q⟩:=h
 obtain⟨u,rfl,rx⟩:=vals1 r
 cases rx
 obtain⟨its,rv,pl,hz⟩:=I.list hp
 have e:=Af rv
 subst e
 have hlt:p≠s.heap.objs.size:=by obtain⟨o,ho,_⟩:=pl.isList; exact Õ (Ê ho)
 refine call_any_walk (wpAny_pyIter_list pl.isList ?_)
 refine⟨_,_,_,_,_,_,fun i=>bs.getD i false,rfl,Walks.list (A:=X.A.in1) (I.ok.hd hc) _ p hlt _,⟨⟨_,Ô _ rfl,rfl,rfl⟩,pl.isList.push _⟩,?_,fun h' tk hk=>?_⟩
 ·intro i v s Q E hP hQ
  have hP':(bs.map Value.bool)[i]?=some v:=by simpa using hP
  rw [Ö] at hP'
  cases hb:bs[i]? with
  | none=>rw [hb] at hP'; cases hP'
  | some b =>
   rw [hb] at hP'
   cases hP'
   refine Ń ?_
   have e:bs.getD i false=b:=by rw [ö,hb]; rfl
   have hQ':Q (bs.getD i false) s:=hQ
   rw [e] at hQ'
   exact hQ'
 ·have e:(Ë (bs.map Value.bool).toArray.size).any (fun i=>bs.getD i false)=bs.any id:=by
   rw [Î,Á,ē]
   simp only [List.any_eq_true,ã]
   constructor
   ·rintro ⟨i,hi,h⟩
    simp [hi] at h
    exact⟨bs[i],į hi,h⟩
   ·rintro ⟨x,hx,h⟩
    obtain⟨i,hi,e⟩:=List.mem_iff_getElem.mp hx
    exact⟨i,hi,by simp [hi,e]; exact h⟩
  rw [e]
  refine⟨.bl (bs.any id),H,I.kept fun b o eb=>hk b o ?_ (È _ eb),rfl,q⟩
  intro hm
  have:b=s.heap.objs.size:=by simpa using hm
  exact absurd (Ê eb) (by rw [this]; exact ď _)
end
section
variable {X:Cx}{pos:Pos}{a e:Expr}{te ta:DE}{t:DA}{st st2:Stmt}{rest:List Stmt} [Gr]
theorem boot_any:bootBuiltins "any"=some (.builtin "any"):=by decide +kernel
def NQ:GC:=fun ks P=>match ks with
 | [(_,.list ds)]=>∃ bs:List Bool,ds=bs.map PyData.bool/\P .imm (.bool (bs.any id))
 | _=>False
theorem yI {ps:Pos} (hc:X.calm=true) (hm:X.mg "any"=none) (ha:PDA X [a] t) (hg:Gl X "any":=by rfl) (he:zS X a []:=by rfl) (hpl:zP X pos []:=by rfl):PD X (.Call (.Name "any" ps) [a] [] pos) (tCl NQ t) :=
 cH (Eh hc) (by
  intro p H0 own Hb H vs ks P Q A r t q
  unfold NQ at t
  split at t
  ·obtain⟨bs,rfl,t⟩:=t
   obtain⟨v,rfl,r'⟩:=cD r
   obtain⟨x,xs,e1,o1,h1,rs1⟩:=Rp.bF r'
   subst e1
   have e2:=Rps.bools rs1
   subst e2
   exact⟨x,bs,rfl,SqL.of h1,q _ _ _ _ t Kp.refl A.pen (.bl _)⟩
  ·exact t.elim) hg hm boot_any ha (by decide) (by decide) he hpl
end
section
variable {X:Cx}{tg iter c:Expr}{pos pos1:Pos}{ret:Stmt}{ti:DI}{g:DG}{tc:DT} [Gr]
end
end Dl
namespace L2
open PySem PySem.Spec PyProof.Rows
end L2
set_option autoImplicit true
set_option relaxedAutoImplicit true
namespace Wr
open PySem L2 PyProof.Rows Dl
structure WD [Gr] (X:Cx) (e:Expr) (t:DE):Prop where
 h:PD X e t
structure WDT [Gr] (X:Cx) (e:Expr) (t:DT):Prop where
 h:PDT X e t
structure WDW [Gr] (X:Cx) (e:Expr) (t:DT):Prop where
 h:PDW X e t
structure WDA [Gr] (X:Cx) (e:List Expr) (t:DA):Prop where
 h:PDA X e t
structure WDS [Gr] (X:Cx) (e:Stmt) (t:DS):Prop where
 h:PDS X e t
structure WDSs [Gr] (X:Cx) (e:List Stmt) (t:DS):Prop where
 h:jc X e t
structure WDI [Gr] (X:Cx) (tg e:Expr) (t:DI):Prop where
 h:PDI X tg e t
structure WDG [Gr] (X:Cx) (e:Expr) (t:DG):Prop where
 h:PDG X e t
structure WDGs [Gr] (X:Cx) (e:List Expr) (t:DGs):Prop where
 h:PGs X e (mD t)
structure WDTs [Gr] (X:Cx) (e:List Expr) (t:DT):Prop where
 h:El X e t
structure WDO [Gr] (X:Cx) (e:Option Expr) (t:DO):Prop where
 h:PO X e (wG t)
structure WV (X:Cx) (e:Expr) (i:Nat):Prop where
 h:PE X e (fj i)
structure WC (X:Cx) (e:Expr) (v:V):Prop where
 h:PE X e (tC v)
section
variable [Gr]
theorem wv (i:Nat) {x:Str}{pos:Pos} (hN:X.N[i]?=some x:=by rfl) (hv:Vis X.env.scope x:=by first | exact Or.inl rfl | exact Or.inr (Or.inl rfl) | exact Or.inr (Or.inr rfl)) (hd:zB x:=by decide)
  (hcd:(x == ("__classdict__":Str))=false:=by decide):WV X (.Name x pos) i:=⟨pv i hN hv hd hcd⟩
theorem wpt {t:DT} (h:WDW X e t):WDT X e t:=⟨PDW.pt h.h⟩
theorem wty {x:Str}{T:String} (hg:Gl X x) (hm:X.mg x=none) (hv:bootBuiltins x=some (.type T)) (hn:x≠"__name__":=by decide) (hd:zB x:=by decide):WC X (.Name x ps) (.ty T):=⟨Jp hg hm hv rfl hn hd⟩
theorem qe {i:Nat}{x:Str}{e:Expr}{te:DE}{pos' pos:Pos} (rg:Option Nat) (hN:X.N.Nodup) (hi:X.N[i]?=some x) (hx:Loc X.env.scope x) (he:WD X e te) (hs:swapsWith e (some (.Name x pos')) pos.line X.env=pure false:=by rfl) (hf:zL X x:=by first | exact .inl rfl | exact .inr rfl | assumption) :
  WDS X (.Assign [.Name x pos'] e pos) (DN i rg te):=⟨Dl.qe rg (fX hN hi hx he.h hs hf)⟩
theorem iT (rg:Option Nat) (own:List Str) {i:Nat}{y:Str}{py spos:Pos} (hc:X.calm=true) (hN:X.N.Nodup) (hiN:X.N[i]?=some y) (hx:Loc X.env.scope y) (hi:WDI X tg iter ti) (hg:∀ c,WDG (X.comp own scope c) tg g) (ht:∀ c,WDTs (X.comp own scope c) ifs tt) (he:∀ c,WD (X.comp own scope c) elt te)
  (hsw:swapsWith (.ListComp elt [⟨tg,iter,ifs,0⟩] scope pos) (some (.Name y py)) spos.line X.env=pure true:=by rfl)
  (hk:d9 X.env scope X.N=true:=by rfl) (hs:zF X iter:=by intro _; rfl) (hf:zL X y:=by first | exact .inl rfl | exact .inr rfl | assumption) :
  WDS X (.Assign [.Name y py] (.ListComp elt [⟨tg,iter,ifs,0⟩] scope pos) spos) (DN i rg (dLC own.length ti g tt te)):=⟨Dl.qe rg (Mh own hc hN hiN hx hi.h (fun c=>(hg c).h) (fun c=>(ht c).h) (fun c=>(he c).h) hsw hk hs hf)⟩
theorem Dv (rg:Option Nat) (own M:List Str) {i:Nat}{y:Str}{py spos:Pos} (hc:X.calm=true) (hN:X.N.Nodup) (hiN:X.N[i]?=some y) (hx:Loc X.env.scope y) (hi:WDI X tg iter ti) (hg:∀ c,WDG (X.aQ own M scope c) tg g) (ht:∀ c,WDTs (X.aQ own M scope c) ifs tt) (he:∀ c,WD (X.aQ own M scope c) elt te)
  (hsw:swapsWith (.ListComp elt [⟨tg,iter,ifs,0⟩] scope pos) (some (.Name y py)) spos.line X.env=pure true:=by rfl)
  (hk:aL X.env scope X.N M=true:=by rfl) (hs:zF X iter:=by intro _; rfl) (hf:zL X y:=by first | exact .inl rfl | exact .inr rfl | assumption) :
  WDS X (.Assign [.Name y py] (.ListComp elt [⟨tg,iter,ifs,0⟩] scope pos) spos) (DN i rg (dLC own.length ti g tt te)):=⟨Dl.qe rg (Jb own M hc hN hiN hx hi.h (fun c=>(hg c).h) (fun c=>(ht c).h) (fun c=>(he c).h) hsw hk hs hf)⟩
theorem qg (r:Nat) (own:List Str) {i j:Nat}{y z:Str}{py spos zp lp:Pos} (hc:X.calm=true) (hN:X.N.Nodup) (hiN:X.N[i]?=some y) (hx:Loc X.env.scope y) (hi:WDI X (.Name z zp) iter ti) (hg:∀ c,WDG (X.comp own scope c) (.Name z zp) (gNm j))
  (hsw:swapsWith (.ListComp (.List [] lp) [⟨.Name z zp,iter,[],0⟩] scope pos) (some (.Name y py)) spos.line X.env=pure true:=by rfl)
  (hk:d9 X.env scope X.N=true:=by rfl) (hs:zF X iter:=by intro _; rfl) (hf:zL X y:=by first | exact .inl rfl | exact .inr rfl | assumption) :
  WDS X (.Assign [.Name y py] (.ListComp (.List [] lp) [⟨.Name z zp,iter,[],0⟩] scope pos) spos) (HB i r ti):=⟨Dl.qg r (Ky own hc hN hiN hx hi.h (fun c=>(hg c).h) (fun c=>dN) (fun c=>yu dY) hsw hk hs hf)⟩
theorem bL {i:Nat}{x:Str}{e:Expr}{es:List Expr}{apos cpos np pos:Pos} (hv:WV X (.Name x np) i) (ha:WDA X (e::es) (aK te cB))
  (hbase:attributeBase (.Name x np) "append" X.env (eval (.Name x np) X.env)=eval (.Name x np) X.env:=by rfl)
  (hfew:zW X cpos (e::es):=by rfl)
  (hline:(apos.endLine == cpos.line)=true:=by rfl) (hst:zS X e es:=by rfl) (hplain:zP X cpos es:=by rfl)
  (hs:swapsWith (.Call (.Attribute (.Name x np) "append" apos) (e::es) [] cpos) none pos.line X.env=pure false:=by rfl) :
  WDS X (.Expr (.Call (.Attribute (.Name x np) "append" apos) (e::es) [] cpos) pos) (Og i te):=⟨Dl.bL (dD (nA Ī ş Ş fO hv.h ha.h hbase hfew hline hst hplain) hs)⟩
theorem mL {i:Nat}{x:Str}{e:Expr}{es:List Expr}{apos cpos np pos:Pos} (hv:WV X (.Name x np) i) (ha:WDA X (e::es) (aK te cB))
  (hbase:attributeBase (.Name x np) "extend" X.env (eval (.Name x np) X.env)=eval (.Name x np) X.env:=by rfl)
  (hfew:zW X cpos (e::es):=by rfl)
  (hline:(apos.endLine == cpos.line)=true:=by rfl) (hst:zS X e es:=by rfl) (hplain:zP X cpos es:=by rfl)
  (hs:swapsWith (.Call (.Attribute (.Name x np) "extend" apos) (e::es) [] cpos) none pos.line X.env=pure false:=by rfl) :
  WDS X (.Expr (.Call (.Attribute (.Name x np) "extend" apos) (e::es) [] cpos) pos) (Oe i te):=⟨Dl.mL (dD (nA Ī PySem.F.slot_list_extend PySem.F.type_list_extend Dh hv.h ha.h hbase hfew hline hst hplain) hs)⟩
theorem mK {i:Nat}{x:Str}{e:Expr}{es:List Expr}{apos cpos np pos:Pos} (hv:WV X (.Name x np) i) (ha:WDA X (e::es) (aK tj (aK te cB)))
  (hbase:attributeBase (.Name x np) "insert" X.env (eval (.Name x np) X.env)=eval (.Name x np) X.env:=by rfl)
  (hfew:zW X cpos (e::es):=by rfl)
  (hline:(apos.endLine == cpos.line)=true:=by rfl) (hst:zS X e es:=by rfl) (hplain:zP X cpos es:=by rfl)
  (hs:swapsWith (.Call (.Attribute (.Name x np) "insert" apos) (e::es) [] cpos) none pos.line X.env=pure false:=by rfl) :
  WDS X (.Expr (.Call (.Attribute (.Name x np) "insert" apos) (e::es) [] cpos) pos) (Oc i tj te):=⟨Dl.mK (dD (nA Ī PySem.F.slot_list_insert PySem.F.type_list_insert Dg hv.h ha.h hbase hfew hline hst hplain) hs)⟩
theorem lC {i:Nat}{x:Str}{e:Expr}{es:List Expr}{apos cpos np pos:Pos} (hv:WV X (.Name x np) i) (ha:WDA X (e::es) (aK te cB))
  (hbase:attributeBase (.Name x np) "append" X.env (eval (.Name x np) X.env)=eval (.Name x np) X.env:=by rfl)
  (hfew:zW X cpos (e::es):=by rfl)
  (hline:(apos.endLine == cpos.line)=true:=by rfl) (hst:zS X e es:=by rfl) (hplain:zP X cpos es:=by rfl)
  (hs:swapsWith (.Call (.Attribute (.Name x np) "append" apos) (e::es) [] cpos) none pos.line X.env=pure false:=by rfl) :
  WDS X (.Expr (.Call (.Attribute (.Name x np) "append" apos) (e::es) [] cpos) pos) (HW i te):=⟨Dl.lC (dD (nA Ī ş Ş fO hv.h ha.h hbase hfew hline hst hplain) hs)⟩
theorem ji {i:Nat}{x:Str}{e ej:Expr}{es:List Expr}{apos cpos np sp pos:Pos} (hv:WV X (.Name x np) i) (hj:WD X ej tj) (ha:WDA X (e::es) (aK te cB)) (hpx:lN ej:=by exact fun _ _=>rfl)
  (hbase:attributeBase (.Subscript (.Name x np) ej sp) "append" X.env (eval (.Subscript (.Name x np) ej sp) X.env)=eval (.Subscript (.Name x np) ej sp) X.env:=by rfl)
  (hfew:zW X cpos (e::es):=by rfl)
  (hline:(apos.endLine == cpos.line)=true:=by rfl) (hst:zS X e es:=by rfl) (hplain:zP X cpos es:=by rfl)
  (hs:swapsWith (.Call (.Attribute (.Subscript (.Name x np) ej sp) "append" apos) (e::es) [] cpos) none pos.line X.env=pure false:=by rfl) :
  WDS X (.Expr (.Call (.Attribute (.Subscript (.Name x np) ej sp) "append" apos) (e::es) [] cpos) pos) (uO i tj te):=⟨Dl.ji (dD (nA Ī ş Ş fO (gM bU hv.h hj.h hpx) ha.h hbase hfew hline hst hplain) hs)⟩
theorem oF {i:Nat}{x:Str}{ek e:Expr}{np pos' pos:Pos} (hu:X.A.units+64<cLine) (hv:WV X (.Name x np) i) (hk:WD X ek tk) (he:WD X e tv) (hs:swapsWith e (some (.Subscript (.Name x np) ek pos')) pos.line X.env=pure false:=by rfl) :
  WDS X (.Assign [.Subscript (.Name x np) ek pos'] e pos) (HF i tk tv):=⟨Dl.oF (Jc (hu1 hu) hv.h hk.h he.h hs)⟩
theorem uL {i:Nat}{x:Str} (hN:X.N.Nodup) (hi:X.N[i]?=some x) (hx:Loc X.env.scope x) (hf:zL X x:=by first | exact .inl rfl | exact .inr rfl | assumption):WDG X (.Name x pos) (gNm i):=⟨Dl.uL (Jj hN hi hx hf)⟩
theorem yH {i:Int}{j:Nat}:WD X (.Constant (.int i) j pos) (tK (.int i)):=⟨Dl.yH ⟩
theorem rC {i:Bool}{j:Nat}:WD X (.Constant (.bool i) j pos) (tK (.bool i)):=⟨Dl.rC ⟩
theorem yF {j:Nat}:WD X (.Constant .none j pos) (tK .none):=⟨Dl.yF ⟩
theorem cU {e:Expr}{t:DE} (h:WD X e t) (he:∀ whole,isTrue e X.env whole=(do let v ← whole; standAt e.pos; holding [v] (truthy v)):=by intro _; rfl):WDT X e (eE t):=⟨Dl.cU (h:=h.h) (he:=he)⟩
theorem fZ {t:DT} (ha:WDT X a t):WDT X (.UnaryOp .Not a pos) (Qv t):=⟨Dl.fZ (ha:=ha.h)⟩
theorem fJ (ha:WDT X a t):WDW X (.BoolOp .And [a] pos) t:=⟨Dl.fJ (ha:=ha.h)⟩
theorem jY (ha:WDT X a t):WDW X (.BoolOp .Or [a] pos) t:=⟨Dl.jY (ha:=ha.h)⟩
theorem eU {rest:List Expr} (ha:WDT X a t) (hb:WDW X (.BoolOp .And (b::rest) pos) u):WDW X (.BoolOp .And (a::b::rest) pos) (J5 t u):=⟨Dl.eU (ha:=ha.h) (hb:=hb.h)⟩
theorem lX {rest:List Expr} (ha:WDT X a t) (hb:WDW X (.BoolOp .Or (b::rest) pos) u):WDW X (.BoolOp .Or (a::b::rest) pos) (dOr t u):=⟨Dl.lX (ha:=ha.h) (hb:=hb.h)⟩
theorem tD :WDA X [] cB:=⟨Dl.tD ⟩
theorem oY (ha:WD X e te) (hr:WDA X es t) (hs:zS X e es:=by rfl):WDA X (e::es) (aK te t):=⟨Dl.oY (ha:=ha.h) (hr:=hr.h) (hs:=hs)⟩
theorem tQ (h:WDA X es t):WD X (.List es pos) (Kq t):=⟨Dl.tQ (h:=h.h)⟩
theorem oZ {x1} (h:WDA X es t):WD X (.Tuple es x1 pos) (oJ t):=⟨Dl.oZ (h:=h.h)⟩
theorem gk (ha:WD X a ta) (hb:WD X b tb):WD X (.BinOp a .Sub b pos) (t2 (gI0 fun i j=>.int (i - j)) ta tb):=⟨Dl.gk (ha:=ha.h) (hb:=hb.h)⟩
theorem tL (ha:WD X a ta) (hb:WD X b tb):WD X (.BinOp a .Mod b pos) (t2 (gI (fun _ j=>0<j) fun i j=>.int (i % j)) ta tb):=⟨Dl.tL (ha:=ha.h) (hb:=hb.h)⟩
theorem Gh (ha:WD X a ta) (hb:WD X b tb):WD X (.Compare a [.Gt] [b] pos) (t2 (gI0 fun i j=>.bool (decide (j<i))) ta tb):=⟨Dl.Gh (ha:=ha.h) (hb:=hb.h)⟩
theorem yC (ha:WD X a ta) (hb:WD X b tb):WDT X (.Compare a [.Lt] [b] pos) (eE (t2 (gI0 fun i j=>.bool (decide (i<j))) ta tb)):=⟨Dl.yC (ha:=ha.h) (hb:=hb.h)⟩
theorem tu (ha:WD X a ta) (hb:WD X b tb):WDT X (.Compare a [.Gt] [b] pos) (eE (t2 (gI0 fun i j=>.bool (decide (j<i))) ta tb)):=⟨Dl.tu (ha:=ha.h) (hb:=hb.h)⟩
theorem yD (ha:WD X a ta) (hb:WD X b tb):WDT X (.Compare a [.GtE] [b] pos) (eE (t2 (gI0 fun i j=>.bool (decide (j<=i))) ta tb)):=⟨Dl.yD (ha:=ha.h) (hb:=hb.h)⟩
theorem yG {ps:Pos} (hm:X.mg "len"=none) (ha:WDA X [a] t) (hg:Gl X "len":=by rfl) (he:zS X a []:=by rfl) (hpl:zP X pos []:=by rfl):WD X (.Call (.Name "len" ps) [a] [] pos) (tCl JV t):=⟨Dl.yG (hm:=hm) (ha:=ha.h) (hg:=hg) (he:=he) (hpl:=hpl)⟩
theorem nZ {ps:Pos} (hm:X.mg "int"=none) (hv:bootBuiltins "int"=some (.type "int")) (ha:WDA X [a] t) (hg:Gl X "int":=by rfl) (he:zS X a []:=by rfl) (hpl:zP X pos []:=by rfl):WD X (.Call (.Name "int" ps) [a] [] pos) (tCl NK t):=⟨Dl.nZ (hm:=hm) (hv:=hv) (ha:=ha.h) (hg:=hg) (he:=he) (hpl:=hpl)⟩
theorem zH :WDSs X [] HJ:=⟨Dl.zH ⟩
theorem uK {st:Stmt}{rest:List Stmt} (h1:WDS X st t) (h2:WDSs X rest u):WDSs X (st::rest) (J3 t u):=⟨Dl.uK (h1:=h1.h) (h2:=h2.h)⟩
theorem zG {st:Stmt} (h1:WDS X st t):WDSs X [st] t:=⟨Dl.zG (h1:=h1.h)⟩
theorem qj {st:Stmt}:WDS X st (fun _ _=>False):=⟨Dl.qj ⟩
theorem zE (he:WD X e te):WDS X (.Return (some e) pos) (HD te):=⟨Dl.zE (he:=he.h)⟩
theorem Hw {c:Expr}{a b:List Stmt}{tc:DT} (hc:WDT X c tc) (ha:WDSs X a t) (hb:WDSs X b u):WDS X (.If c a b pos) (dIf tc t u):=⟨Dl.Hw (hc:=hc.h) (ha:=ha.h) (hb:=hb.h)⟩
theorem uJ (he:WD X e te) (hs:swapsWith e none pos.line X.env=pure false:=by rfl):WDS X (.Expr e pos) (La te):=⟨Dl.uJ (he:=he.h) (hs:=hs)⟩
theorem eY :WDGs X [] K4:=⟨Dl.eY ⟩
theorem qt {g:DG}{gs:DGs} (h1:WDG X e g) (h2:WDGs X es gs) (hs:(assignEach (e::es) X.env).map (·.2)=assign e X.env::(assignEach es X.env).map (·.2):=by rfl):WDGs X (e::es) (G9 g gs):=⟨Dl.qt (h1:=h1.h) (h2:=h2.h) (hs:=hs)⟩
theorem jK {gs:DGs}{k n:Nat} (hc:X.calm=true) (h:WDGs X es gs) (hn:(assignEach es X.env).length=n:=by rfl) (hst:(assignEach es X.env).findIdx? (·.1)=none:=by rfl):WDG X (.Tuple es k pos) (gTp n gs):=⟨Dl.jK (hc:=hc) (h:=h.h) (hn:=hn) (hst:=hst)⟩
theorem zO (hl:WD X l tl):WDI X tg l (iSq tl):=⟨Dl.zO (hl:=hl.h)⟩
theorem mR {a:Expr}{ps:Pos} (hm:X.mg "range"=none) (ha:WDA X [a] ta) (hg:Gl X "range":=by rfl) (hs:starEach [a] X.env=[(false,eval a X.env)]:=by rfl):WDI X tg (.Call (.Name "range" ps) [a] [] pos) (iR1 ta):=⟨Dl.mR (hm:=hm) (ha:=ha.h) (hg:=hg) (hs:=hs)⟩
theorem mQ {a b:Expr}{ps:Pos} (hm:X.mg "range"=none) (ha:WDA X [a,b] ta) (hg:Gl X "range":=by rfl) (hs:starEach [a,b] X.env=[(false,eval a X.env),(false,eval b X.env)]:=by rfl) (hs2:starEach [b] X.env=[(false,eval b X.env)]:=by rfl):WDI X tg (.Call (.Name "range" ps) [a,b] [] pos) (iR2 ta):=⟨Dl.mQ (hm:=hm) (ha:=ha.h) (hg:=hg) (hs:=hs) (hs2:=hs2)⟩
theorem lG {elts:List Expr}{kk:Nat}{tpos:Pos}{a:Expr}{ps:Pos} (hm:X.mg "enumerate"=none) (ha:WDA X [a] ta) (hg:Gl X "enumerate":=by rfl) (hs:starEach [a] X.env=[(false,eval a X.env)]:=by rfl):WDI X (.Tuple elts kk tpos) (.Call (.Name "enumerate" ps) [a] [] pos) (iEn ta):=⟨Dl.lG (hm:=hm) (ha:=ha.h) (hg:=hg) (hs:=hs)⟩
theorem zM {body:List Stmt} (hp:PassesOwn (model X.prog X.w) X.A X.env X.xe) (hc:X.calm=true) (hi:WDI X tg iter ti) (hg:WDG X tg g) (hb:WDSs X body tb) (hs:zF X iter:=by intro _; rfl):WDS X (.For tg iter body [] pos) (Qw ti g tb):=⟨Dl.zM (hp:=hp) (hc:=hc) (hi:=hi.h) (hg:=hg.h) (hb:=hb.h) (hs:=hs)⟩
theorem lB {body:List Stmt}{c:Expr}{tc:DT} (hp:PassesOwn (model X.prog X.w) X.A X.env X.xe) (hc:WDT X c tc) (hb:WDSs X body tb):WDS X (.While c body [] pos) (Hz tc tb):=⟨Dl.lB (hp:=hp) (hc:=hc.h) (hb:=hb.h)⟩
theorem dN {X:Cx}:WDTs X [] (fun _ P=>P true):=⟨Dl.dN ⟩
theorem uI {X:Cx}{c:Expr}{t:DT} (hc:WDT X c t):WDTs X [c] t:=⟨Dl.uI (hc:=hc.h)⟩
theorem Ge (own:List Str) (hc:X.calm=true) (hi:WDI X tg iter ti) (hg:∀ c,WDG (X.comp own scope c) tg g) (ht:∀ c,WDTs (X.comp own scope c) ifs tt) (he:∀ c,WD (X.comp own scope c) elt te) (hk:d9 X.env scope X.N=true:=by rfl) (hs:zF X iter:=by intro _; rfl):WD X (.ListComp elt [⟨tg,iter,ifs,0⟩] scope pos) (dLC own.length ti g tt te):=⟨Dl.Ge (own:=own) (hc:=hc) (hi:=hi.h) (hg:=fun c=>(hg c).h) (ht:=fun c=>(ht c).h) (he:=fun c=>(he c).h) (hk:=hk) (hs:=hs)⟩
theorem jx {p1 p2 pos1 pos2:Pos} (hc:X.calm=true) (hml:X.mg "list"=none) (hmz:X.mg "zip"=none) (ha:WDA X [a,b] t) (hgl:Gl X "list":=by rfl) (hgz:Gl X "zip":=by rfl) (e1:starEach [.Call (.Name "zip" p2) [a,b] [] pos2] X.env=[(false,eval (.Call (.Name "zip" p2) [a,b] [] pos2) X.env)]:=by rfl) (e2:starEach [a,b] X.env=(false,eval a X.env)::starEach [b] X.env:=by rfl) (e3:(backTo pos2 (starEach [b] X.env)).any (·.1)=false:=by rfl):WD X (.Call (.Name "list" p1) [.Call (.Name "zip" p2) [a,b] [] pos2] [] pos1) (tCl Nx t):=⟨Dl.jx (hc:=hc) (hml:=hml) (hmz:=hmz) (ha:=ha.h) (hgl:=hgl) (hgz:=hgz) (e1:=e1) (e2:=e2) (e3:=e3)⟩
theorem tY (ha:WD X a ta) (hb:WD X b tb) (hc:WD X c tc) (hm:lastMarks [.LtE,.Lt] [b,c]=false:=by with_unfolding_all rfl):WD X (.Compare a [.LtE,.Lt] [b,c] pos) (tCh (fun i j=>decide (i<=j)) (fun i j=>decide (i<j)) ta tb tc):=⟨Dl.tY (ha:=ha.h) (hb:=hb.h) (hc:=hc.h) (hm:=hm)⟩
theorem yE (ha:WD X a ta):WD X (.UnaryOp .Not a pos) (Km ta):=⟨Dl.yE (ha:=ha.h)⟩
theorem o9 {op} (h:WD X a ta):WD X (.BoolOp op [a] pos) ta:=⟨Dl.o9 (h:=h.h)⟩
theorem pG {rest:List Expr} (ha:WD X a ta) (hb:WD X (.BoolOp .And (b::rest) pos) tb):WD X (.BoolOp .And (a::b::rest) pos) (Kr ta tb):=⟨Dl.pG (ha:=ha.h) (hb:=hb.h)⟩
theorem tO {ps:Pos} (hc:X.calm=true) (hm:X.mg "max"=none) (ha:WDA X [a,b] t) (hg:Gl X "max":=by rfl) (he:starEach [a,b] X.env=(false,eval a X.env)::starEach [b] X.env:=by rfl) (hpl:(backTo pos (starEach [b] X.env)).any (·.1)=false:=by rfl):WD X (.Call (.Name "max" ps) [a,b] [] pos) (tCl (gMM fun i j=>if j > i then j else i) t):=⟨Dl.tO (hc:=hc) (hm:=hm) (ha:=ha.h) (hg:=hg) (he:=he) (hpl:=hpl)⟩
theorem nY {ps:Pos} (hm:X.mg "tuple"=none) (ha:WDA X [a] t) (hg:Gl X "tuple":=by rfl) (he:zS X a []:=by rfl) (hpl:zP X pos []:=by rfl):WD X (.Call (.Name "tuple" ps) [a] [] pos) (tCl Hh t):=⟨Dl.nY (hm:=hm) (ha:=ha.h) (hg:=hg) (he:=he) (hpl:=hpl)⟩
theorem j4 {ps:Pos} (hm:X.mg "sorted"=none) (ha:WDA X [a] t) (hg:Gl X "sorted":=by rfl) (he:zS X a []:=by rfl) (hpl:zP X pos []:=by rfl):WD X (.Call (.Name "sorted" ps) [a] [] pos) (tCl zm t):=⟨Dl.j4 (hm:=hm) (ha:=ha.h) (hg:=hg) (he:=he) (hpl:=hpl)⟩
theorem o7 {ps:Pos} (hm:X.mg "sorted"=none) (ha:WDA X [a] t) (hg:Gl X "sorted":=by rfl) (he:zS X a []:=by rfl) (hpl:zP X pos []:=by rfl):WD X (.Call (.Name "sorted" ps) [a] [] pos) (tCl zf t):=⟨Dl.o7 (hm:=hm) (ha:=ha.h) (hg:=hg) (he:=he) (hpl:=hpl)⟩
theorem Gg (hu:X.A.units+64<cLine) (ha:WD X a ta) (hb:WD X b tb) (hm:behindInMarks .In b=false:=by rfl):WD X (.Compare a [.In] [b] pos) (t2 (gIn false) ta tb):=⟨Dl.Gg (hu:=hu) (ha:=ha.h) (hb:=hb.h) (hm:=hm)⟩
theorem lY (hu:X.A.units+64<cLine) (ha:WD X a ta) (hb:WD X b tb) (hm:behindInMarks .In b=false:=by rfl):WDT X (.Compare a [.In] [b] pos) (eE (t2 (gIn false) ta tb)):=⟨Dl.lY (hu:=hu) (ha:=ha.h) (hb:=hb.h) (hm:=hm)⟩
theorem bQ (hu:X.A.units+64<cLine) (ha:WD X a ta) (hb:WD X b tb) (hm:behindInMarks .NotIn b=false:=by rfl):WDT X (.Compare a [.NotIn] [b] pos) (eE (t2 (gIn true) ta tb)):=⟨Dl.bQ (hu:=hu) (ha:=ha.h) (hb:=hb.h) (hm:=hm)⟩
theorem lF :WDO X none KZ:=⟨Dl.lF ⟩
theorem lE (h:WD X e te):WDO X (some e) (KY te):=⟨Dl.lE (h:=h.h)⟩
theorem tG (ha:WD X a ta):WD X (.UnaryOp .USub a pos) (Ox ta):=⟨Dl.tG (ha:=ha.h)⟩
theorem dc {f:List D->(D->Prop)->Prop} (C:Cal X.prog X.w X.K X.mg X.base k x ps (spD f)) (hr:Room j X.A) (ha:WDA X (e::es) t) (hk:k<=j:=by decide) (hg:Gl X x:=by rfl) (hdb:zB x:=by decide) (he:zS X e es:=by rfl) (hpl:zP X pos es:=by rfl):WD X (.Call (.Name x p) (e::es) [] pos) (tFn f t):=⟨Dl.dc (C:=C) (hr:=hr) (ha:=ha.h) (hk:=hk) (hg:=hg) (hdb:=hdb) (he:=he) (hpl:=hpl)⟩
theorem dcP {C:Pn->Prop}{i:Nat}{f:List D->(D->Prop)->Prop}{y:Str}{py:Pos} (CC:Cal X.prog X.w X.K X.mg X.base k x ps (spP C f)) (hr:Room j X.A) (hi:WV X (.Name y py) i) (ha:WDA X es t) (hk:k<=j:=by decide) (hg:Gl X x:=by rfl) (hdb:zB x:=by decide) (he:starEach (.Name y py::es) X.env=(false,eval (.Name y py) X.env)::starEach es X.env:=by rfl) (hpl:zP X pos es:=by rfl):WD X (.Call (.Name x p) (.Name y py::es) [] pos) (Cp C f i t):=⟨Dl.dcP (CC:=CC) (hr:=hr) (hi:=hi.h) (ha:=ha.h) (hk:=hk) (hg:=hg) (hdb:=hdb) (he:=he) (hpl:=hpl)⟩
theorem dv (i:Nat) {x:Str}{pos:Pos} (hN:X.N[i]?=some x:=by rfl) (hv:Vis X.env.scope x:=by first | exact Or.inl rfl | exact Or.inr (Or.inl rfl) | exact Or.inr (Or.inr rfl)) (hd:zB x:=by decide) (hcd:(x == ("__classdict__":Str))=false:=by decide):WD X (.Name x pos) (tV i):=⟨Dl.dv (i:=i) (hN:=hN) (hv:=hv) (hd:=hd) (hcd:=hcd)⟩
theorem Gf (ha:WD X a ta) (hb:WD X b tb) (hs:lN b:=by exact fun _ _=>rfl):WD X (.Subscript a b pos) (t2 gIx ta tb):=⟨Dl.Gf (ha:=ha.h) (hb:=hb.h) (hs:=hs)⟩
theorem dG (ha:WD X a ta) (hb:WD X b tb):WD X (.BinOp a .Add b pos) (t2 pY ta tb):=⟨Dl.dG (ha:=ha.h) (hb:=hb.h)⟩
theorem jZ (ha:WD X a ta) (hb:WD X b tb):WD X (.BinOp a .Mult b pos) (t2 Hi ta tb):=⟨Dl.jZ (ha:=ha.h) (hb:=hb.h)⟩
theorem tR (hu:X.A.units+64<cLine) (ha:WD X a ta) (hb:WD X b tb):WD X (.Compare a [.Eq] [b] pos) (t2 (jG false) ta tb):=⟨Dl.tR (hu:=hu) (ha:=ha.h) (hb:=hb.h)⟩
theorem tH (hu:X.A.units+64<cLine) (ha:WD X a ta) (hb:WD X b tb):WD X (.Compare a [.NotEq] [b] pos) (t2 (jG true) ta tb):=⟨Dl.tH (hu:=hu) (ha:=ha.h) (hb:=hb.h)⟩
theorem dF (hu:X.A.units+64<cLine) (ha:WD X a ta) (hb:WD X b tb):WDT X (.Compare a [.Eq] [b] pos) (eE (t2 (jG false) ta tb)):=⟨Dl.dF (hu:=hu) (ha:=ha.h) (hb:=hb.h)⟩
theorem cV (hu:X.A.units+64<cLine) (ha:WD X a ta) (hb:WD X b tb):WDT X (.Compare a [.NotEq] [b] pos) (eE (t2 (jG true) ta tb)):=⟨Dl.cV (hu:=hu) (ha:=ha.h) (hb:=hb.h)⟩
theorem zJ {rest:List Stmt} (i:Nat) (h:WDSs X rest t):WDSs X rest (Od i t):=⟨Dl.zJ (i:=i) (h:=h.h)⟩
theorem wV {rest:List Stmt} (i:Nat) (b:Bool) (h:WDSs X rest t):WDSs X rest (dSp i b t):=⟨Dl.wV (i:=i) (b:=b) (h:=h.h)⟩
theorem ql {rest:List Stmt} (js:List Nat) (h:WDSs X rest t):WDSs X rest (HS js t):=⟨Dl.ql (js:=js) (h:=h.h)⟩
theorem tU :WD X (.Dict [] [] pos) (fun _ P=>P .new (.dict [])):=⟨Dl.tU ⟩
theorem vR {lo hi:Option Expr}{tl th:DO} (he:WD X e te) (hl:WDO X lo tl) (hh:WDO X hi th):WD X (.Subscript e (.Slice lo hi none p2) pos) (Ou te tl th):=⟨Dl.vR (he:=he.h) (hl:=hl.h) (hh:=hh.h)⟩
theorem pB (ha:WD X a ta) (hb:WD X b tb):WD X (.Dict [some a] [b] pos) (tD1 ta tb):=⟨Dl.pB (ha:=ha.h) (hb:=hb.h)⟩
theorem fY (hu:X.A.units+64<cLine) (ha:WD X a ta) (hb:WD X b tb) (hm:behindInMarks .NotIn b=false:=by rfl):WDT X (.Compare a [.NotIn] [b] pos) (eE (t2 (JW true) ta tb)):=⟨Dl.fY (hu:=hu) (ha:=ha.h) (hb:=hb.h) (hm:=hm)⟩
theorem tW (hu:X.A.units+64<cLine) (ha:WD X a ta) (hb:WD X b tb) (hs:Kh b:=by exact fun _ _=>rfl):WD X (.Subscript a b pos) (t2 Hl ta tb):=⟨Dl.tW (hu:=hu) (ha:=ha.h) (hb:=hb.h) (hs:=hs)⟩
theorem sZ (h:WD X e te) (he:∀ whole,isTrue e X.env whole=(do let v ← whole; standAt e.pos; holding [v] (truthy v)):=by intro _; rfl):WDT X e (Oq te):=⟨Dl.sZ (h:=h.h) (he:=he)⟩
theorem zR {es:List Expr}{gs:DGs}{k n:Nat} (hc:X.calm=true) (h:WDGs X es gs) (hn:(assignEach es X.env).length=n:=by rfl) (hst:(assignEach es X.env).findIdx? (·.1)=none:=by rfl):WDG X (.Tuple es k pos) (gTL n gs):=⟨Dl.zR (hc:=hc) (h:=h.h) (hn:=hn) (hst:=hst)⟩
theorem tM {ps:Pos} (hc:X.calm=true) (hm:X.mg "min"=none) (ha:WDA X [a] t) (hg:Gl X "min":=by rfl) (he:zS X a []:=by rfl) (hpl:zP X pos []:=by rfl):WD X (.Call (.Name "min" ps) [a] [] pos) (tCl (Nz (fun i j=>if j<i then j else i) (fun M a=>M<=a)) t):=⟨Dl.tM (hc:=hc) (hm:=hm) (ha:=ha.h) (hg:=hg) (he:=he) (hpl:=hpl)⟩
theorem tE {ps:Pos} (hc:X.calm=true) (hm:X.mg "sum"=none) (ha:WDA X [a] t) (hg:Gl X "sum":=by rfl) (he:zS X a []:=by rfl) (hpl:zP X pos []:=by rfl):WD X (.Call (.Name "sum" ps) [a] [] pos) (tCl Hj t):=⟨Dl.tE (hc:=hc) (hm:=hm) (ha:=ha.h) (hg:=hg) (he:=he) (hpl:=hpl)⟩
theorem o8 {ps:Pos} (hc:X.calm=true) (hm:X.mg "sorted"=none) (ha:WDA X [a] t) (hg:Gl X "sorted":=by rfl) (he:zS X a []:=by rfl) (hpl:zP X pos []:=by rfl):WD X (.Call (.Name "sorted" ps) [a] [] pos) (tCl zq t):=⟨Dl.o8 (hc:=hc) (hm:=hm) (ha:=ha.h) (hg:=hg) (he:=he) (hpl:=hpl)⟩
theorem yI {ps:Pos} (hc:X.calm=true) (hm:X.mg "any"=none) (ha:WDA X [a] t) (hg:Gl X "any":=by rfl) (he:zS X a []:=by rfl) (hpl:zP X pos []:=by rfl):WD X (.Call (.Name "any" ps) [a] [] pos) (tCl NQ t):=⟨Dl.yI (hc:=hc) (hm:=hm) (ha:=ha.h) (hg:=hg) (he:=he) (hpl:=hpl)⟩
end
section
theorem cg [Gr] {T:String}{x:Str}{e:Expr}{te:DE}{ps pt pos:Pos} (hk:∀ t:Value,(t=.type "NoneType"\/t=.type "bool"\/t=.type "int"\/t=.type "str"\/t=.type "list"\/t=.type "tuple"\/t=.type "dict")->∃ n,t=.type n/\W.kitOne X.K t (.type T)=some (n == T || (T == "int"&&n == "bool")))
  (hm:X.mg "isinstance"=none) (he:WD X e te) (hT:WC X (.Name x pt) (.ty T)) (hg:Gl X "isinstance":=by rfl) (h1:starEach [e,.Name x pt] X.env=(false,eval e X.env)::starEach [.Name x pt] X.env:=by rfl) (h2:starEach [.Name x pt] X.env=(false,eval (.Name x pt) X.env)::starEach [] X.env:=by rfl) (hpl:(backTo pos (starEach [.Name x pt] X.env)).any (·.1)=false:=by rfl) :
  WD X (.Call (.Name "isinstance" ps) [e,.Name x pt] [] pos) (tIs T te):=⟨Dl.cg hk hm he.h hT.h hg h1 h2 hpl⟩
end
end Wr
set_option autoImplicit false
set_option autoImplicit true
namespace Wr
open PySem L2 PyProof.Rows Dl
section
variable [Gr] {X:Cx}{tj te:DE}
end
section
variable [Gr] {X:Cx}{tj te te1 te2 ta:DE}{t:DS}
end
end Wr
namespace Dl
open PySem L2 PyProof.Rows
section
variable {X:Cx}{pins:List (Addr×Obj)}{σ:L2.St}{H:Hp}{s:Shared}{ok ok':Addr->Prop}
end
section
variable {X:Cx}{pos:Pos}{a e:Expr}{te:DE}{t:DA} [Gr]
end
section
variable [Gr]
abbrev DR:=(D->Prop)->List Sl->Prop
structure WishR (p:Pn) (own:Addr->Option Nat) (H:Hp) (P:D->Prop) (Q:Ends):Prop where
 rt:∀ d v H',P d->p.PI H'->(∀ b o,H b=some o->¬ p.fp b->own b=none->H' b=some o)->Rp (fun a=>¬ p.fp a) H' v d->Q.rt v H'
def Qc (t:DR):TS:=fun Q σ H=>∃ p H0 own ρ P,EnvD p H0 own σ H ρ/\t P ρ/\WishR p own H P Q
structure WR (X:Cx) (ss:List Stmt) (t:DR):Prop where
 h:PSs X ss (Qc t)
variable {X:Cx}{pos:Pos}{e:Expr}{te:DE}{st:Stmt}{rest:List Stmt}{t:DS}{u:DR}
variable {k j:Nat}{x:Str}{ps:List Str}{es:List Expr}{ta:DA}{p:Pos}
end
end Dl
namespace Wr
open PySem L2 PyProof.Rows Dl
variable [Gr] {X:Cx}{pos:Pos}{a:Expr}{t:DA}
end Wr
namespace L2
open PySem PySem.Spec PyProof.Rows
end L2
namespace Dl
open PySem L2 PyProof.Rows
variable [Gr]
section
variable {X:Cx}{tg:Expr}{pos:Pos}{ta:DA}
end
end Dl
namespace Wr
open PySem L2 PyProof.Rows Dl
variable [Gr] {X:Cx}{pos:Pos}{ta:DA}
end Wr
namespace Dl
open PySem L2 PyProof.Rows
variable [Gr]
section
variable {X:Cx}{pos:Pos}{st:Stmt}{rest:List Stmt}{t u:DS}{te tj t1 t2:DE}
end
end Dl
namespace Wr
open PySem L2 PyProof.Rows Dl
section
variable [Gr] {X:Cx}{tj te t1 t2:DE}{t u:DS}
end
end Wr
set_option autoImplicit false
namespace L2
open PySem PySem.Spec PyProof.Rows
section
variable {X:Cx}{k:Nat}{f CF:Addr}{fd:FuncData}{ps:List Str}{sp:Sp}{E:XK}{x hx n:Str}{p np cpos epos hpos pos:Pos}{e:Expr}{es:List Expr}{t:TA}{b₀:Stmt}{suite:List Stmt}{ts:TS}{j:Nat}
end
section
variable {X:Cx}{k:Nat}{f CF:Addr}{fd:FuncData}{ps:List Str}{sp:Sp}{E:XK}{x hx n:Str}{p np cpos epos hpos pos:Pos}{e:Expr}{es:List Expr}{t:TA}{b₀:Stmt}{suite:List Stmt}{ts:TS}{j:Nat}
end
end L2
namespace Dl
open PySem L2 PyProof.Rows
section
variable [Gr] {X:Cx}{pos:Pos}{a:Expr}{t:DA}
end
end Dl
namespace Wr
open PySem L2 PyProof.Rows Dl
section
variable [Gr] {X:Cx}{pos:Pos}{a:Expr}{t:DA}
end
end Wr
namespace Dl
open PySem L2 PyProof.Rows
structure Ext (p q:Pn):Prop where
 pv:q.pv=p.pv
 fp:∀ a,p.fp a->q.fp a
 pi:∀ H,q.PI H->p.PI H
 go:∀ H H',q.PI H->Kp p H H'->p.PI H'->q.PI H'
def CE (C:Pn->Prop) (q:Pn):Prop:=∃ p,C p/\Ext p q
section
variable [Gr]
variable {X:Cx}{pos:Pos}{c:Expr}{a rest:List Stmt}{tc:DT}{t u:DR}
variable {k j i:Nat}{x y:Str}{ps:List Str}{es:List Expr}{ta:DA}{pp py:Pos}
end
end Dl
namespace L2
open PySem PySem.Spec PyProof.Rows Builtin
section
variable {X:Cx}
end
end L2
namespace Dl
open PySem L2 PyProof.Rows
section
variable [Gr]
variable {X:Cx}{pos:Pos}{a b e:Expr}{ta tb te:DE}{p1 p2 p3:Pos}
end
end Dl
namespace Wr
open PySem L2 PyProof.Rows Dl
section
variable [Gr] {X:Cx}{pos:Pos}{a b e:Expr}{ta tb te:DE}{p1 p2 p3:Pos}
end
end Wr
namespace L2
open PySem PySem.Spec PyProof.Rows Builtin
section
variable {X:Cx}
end
end L2
namespace Dl
open PySem L2 PyProof.Rows
section
variable [Gr] {X:Cx}{pos p2:Pos}{a b e:Expr}{t:DA}{ta tb te:DE}
end
end Dl
namespace Wr
open PySem L2 PyProof.Rows Dl
section
variable [Gr] {X:Cx}{pos p2:Pos}{a b e:Expr}{t:DA}{ta tb te:DE}
end
end Wr
namespace Dl
open PySem L2 PyProof.Rows
variable [Gr]
section
variable {X:Cx}{st st2:Stmt}{rest:List Stmt}{te1 te2:DE}{tt:DT}{tr:TS}{t:DS}
end
section
variable {X:Cx}{own:List Str}{scope:Scope}{tg iter elt:Expr}{ifs:List Expr}{pos:Pos}{g:DG}{tt:DT}{te:DE}
end
end Dl
namespace Wr
open PySem L2 PyProof.Rows Dl
variable [Gr]
section
variable {X:Cx}{te1 te2:DE}{tt:DT}{tr:TS}{t:DS}
end
end Wr
namespace PySem
open PySem.W PyProof.Rows PySem.Spec
section
variable {prog:Program}{w:World}{A:Around}{E:Value->Shared->Prop}{s:Shared}{it l:Addr}{items:Array Value}
end
end PySem
namespace L2
open PySem PySem.Spec PyProof.Rows
section
variable {X:Cx}
end
end L2
namespace Dl
open PySem L2 PyProof.Rows
section
variable [Gr] {X:Cx}{a:Expr}{t:DA}
end
end Dl
namespace Wr
open PySem L2 PyProof.Rows Dl
section
variable [Gr] {X:Cx}{a:Expr}{t:DA}
end
end Wr
namespace L2
open PySem PyProof.Rows
def Asc (xs:Array Nat):Prop:=xs.toList.Pairwise (·<·)
theorem Asc.lt {xs:Array Nat} (h:Asc xs) {i j:Nat} (hi:i<xs.size) (hj:j<xs.size) (e:i<j):xs[i]<xs[j]:=by
 have:=List.pairwise_iff_getElem.mp h i j (by simpa using hi) (by simpa using hj) e
 simpa using this
theorem qG {xs:Array Nat} (h:Asc xs) (j:Nat):∀ (f lo hi:Nat),hi - lo<=f->lo<=hi->hi<=xs.size->(∀ i (q:i<xs.size),i<lo->xs[i]<j)->(∀ i (q:i<xs.size),hi<=i->j<=xs[i]) ->
  SetTable.below.go xs j f lo hi<=xs.size/\(∀ i (q:i<xs.size),i<SetTable.below.go xs j f lo hi->xs[i]<j)/\(∀ i (q:i<xs.size),SetTable.below.go xs j f lo hi<=i->j<=xs[i])
 | 0,lo,hi,h1,h2,h3,a,b=>by
  unfold SetTable.below.go
  exact⟨by omega,a,fun i q z=>b i q (by omega)⟩
 | f+1,lo,hi,h1,h2,h3,a,b=>by
  unfold SetTable.below.go
  by_cases c:lo<hi
  ·have hm:(lo+hi) / 2<xs.size:=by omega
   have e:xs.getD ((lo+hi) / 2) j=xs[(lo+hi) / 2]:=by simp [hm]
   rw [if_pos c]
   dsimp only
   rw [e]
   by_cases d:xs[(lo+hi) / 2]<j
   ·rw [if_pos d]
    refine qG h j f _ _ (by omega) (by omega) h3 (fun i q z=>?_) b
    by_cases k:i=(lo+hi) / 2
    ·subst k; exact d
    ·have:=h.lt q hm (by omega); omega
   ·rw [if_neg d]
    refine qG h j f _ _ (by omega) (by omega) (by omega) a fun i q z=>?_
    by_cases k:i=(lo+hi) / 2
    ·subst k; omega
    ·have:=h.lt hm q (by omega); omega
  ·rw [if_neg c]
   exact⟨by omega,a,fun i q z=>b i q (by omega)⟩
theorem qF {xs:Array Nat} (h:Asc xs) (j:Nat):ĝ xs j<=xs.size/\(∀ i (q:i<xs.size),i<ĝ xs j->xs[i]<j)/\(∀ i (q:i<xs.size),ĝ xs j<=i->j<=xs[i]) :=
 qG h j xs.size 0 xs.size (by omega) (by omega) (by omega) (fun i q z=>by omega) fun i q z=>by omega
theorem Aa {xs:Array Nat} (h:Asc xs):ĝ xs 0=0:=by
 obtain⟨h1,h2,h3⟩:=qF h 0
 by_cases c:ĝ xs 0=0
 ·exact c
 ·have:=h2 0 (by omega) (by omega); omega
theorem Ab {xs:Array Nat} (h:Asc xs) {i:Nat} (hi:i<xs.size):ĝ xs (xs[i]+1)=i+1:=by
 obtain⟨h1,h2,h3⟩:=qF h (xs[i]+1)
 rcases Nat.lt_trichotomy (ĝ xs (xs[i]+1)) (i+1) with c | c | c
 ·have:=h3 i hi (by omega); omega
 ·exact c
 ·have q:i+1<xs.size:=by omega
  have:=h2 (i+1) q c
  have:=h.lt hi q (by omega)
  omega
theorem Ek {xs:Array Nat} (h:Asc xs) {j:Nat} (n:xs[ĝ xs j]?≠some j):Asc (SetTable.insertAt xs (ĝ xs j) j):=by
 obtain⟨h1,h2,h3⟩:=qF h j
 generalize ĝ xs j=p at *
 unfold Asc
 rw [SetTable.toList_insertAt]
 have ha:∀ a∈xs.toList.take p,a<j:=fun a ha=>by
  obtain⟨i,hi,rfl⟩:=List.getElem_of_mem ha
  rw [ć] at hi
  rw [List.getElem_take]
  have:=h2 i (by simp at hi; omega) (by omega)
  simpa using this
 have hb:∀ b∈xs.toList.drop p,j<b:=fun b hb=>by
  obtain⟨i,hi,rfl⟩:=List.getElem_of_mem hb
  rw [ŕ] at hi
  rw [List.getElem_drop]
  have q:p+i<xs.size:=by simp at hi; omega
  have k:=h3 (p+i) q (by omega)
  have m:j≠xs[p+i]:=fun e=>by
   by_cases z:i=0
   ·subst z
    exact n (by rw [ĥ (by omega)]; simp only [Nat.add_zero] at e; rw [← e])
   ·have:=h.lt (i:=p) (j:=p+i) (by omega) q (by omega)
    have:=h3 p (by omega) (Ò _)
    omega
  have:j<xs[p+i]:=by omega
  simpa using this
 have pw:(xs.toList.take p++xs.toList.drop p).Pairwise (·<·):=by rw [Ź]; exact h
 rw [List.pairwise_append] at pw ⊢
 refine⟨pw.1,List.pairwise_cons.mpr ⟨fun b z=>hb b z,pw.2.1⟩,fun a z b y=>?_⟩
 rcases Þ.mp y with rfl | y
 ·exact ha a z
 ·exact pw.2.2 a z b y
structure Good (w:World) (t:SetTable):Prop where
 asc:Asc t.place
 dum:t.dummies=#[]
 led:t.led=!w.params.followText "set-order"
section
variable {w:World}{t:SetTable}
theorem Good.plain (h:Good w t):Good w { t with plain:=false }:=⟨h.asc,h.dum,h.led⟩
theorem Good.stand (h:Good w t) (n:Nat):Good w (t.standIn n):=⟨by
 show Asc (Array.range n)
 unfold Asc
 rw [Array.toList_range]
 exact Ľ,rfl,h.led⟩
theorem Cu {t:SetTable}{j:Nat} (h:t.slot j=.empty):t.place[ĝ t.place j]?≠some j:=fun e=>by
 unfold SetTable.slot at h
 dsimp only at h
 rw [e] at h
 simp at h
theorem Ez {t:SetTable} (hd:t.dummies=#[]) {j:Nat}:t.slot j≠.dummy:=fun h=>by
 unfold SetTable.slot SetTable.has at h
 rw [hd] at h
 dsimp only at h
 split at h
 ·cases h
 ·simp at h
theorem vP {t:SetTable} (hd:t.dummies=#[]) (f:Nat->Int) (h:Int):∀ (n:Nat) (p:SetTable.Probe) {m:SetTable.Met},p.dummy=none->SetTable.probe.go t f h n p=some m->∀ j d,m=.empty j d->d=none/\t.slot j=.empty
 | 0,p,m,hp,e,j,d,em=>by
  unfold SetTable.probe.go at e
  cases e
 | n+1,p,m,hp,e,j,d,em=>by
  have adv:(t.advance p).dummy=none:=by
   unfold SetTable.advance
   split
   ·exact hp
   ·exact hp
  unfold SetTable.probe.go at e
  cases hs:t.slot p.j with
  | empty =>
   rw [hs] at e
   cases e
   cases em
   exact⟨hp,hs⟩
  | dummy=>exact absurd hs (Ez hd)
  | live i =>
   rw [hs] at e
   dsimp only at e
   by_cases c:(f i == h)=true
   ·rw [if_pos c] at e
    cases e
    cases em
   ·rw [if_neg c] at e
    exact vP hd f h n _ adv e j d em
theorem Good.new (h:Good w t) (es:Array (Int×Value)) (k:Int) (x:Value):Good w (layNew t es k x).2.1:=by
 unfold layNew
 cases e:t.freeSlot k with
 | none=>exact h.stand _
 | some q =>
  obtain⟨j,b⟩:=q
  dsimp only
  have fr:t.place[ĝ t.place j]?≠some j:=by
   unfold SetTable.freeSlot SetTable.probe at e
   cases e2:SetTable.probe.go t (fun _=>k+1) k (10 * SetTable.turns t.mask) (t.probeStart k) with
   | none=>rw [e2] at e; cases e
   | some m =>
    rw [e2] at e
    cases m with
    | candidate a b c=>cases e
    | empty a d =>
     obtain⟨rfl,hs⟩:=vP h.dum _ _ _ _ rfl e2 a d rfl
     cases e
     exact Cu hs
  have g:Good w (t.put j).1:=by
   refine⟨Ek h.asc fr,?_,h.led⟩
   show (if SetTable.has t.dummies j=true then _ else t.dummies)=#[]
   rw [h.dum]
   rfl
  unfold SetTable.orStandIn
  split
  ·exact g
  ·exact g.stand _
theorem Good.O6 (h:Good w t) (es:Array (Int×Value)) (n:Nat):Good w (relayAll t es n).2.1:=by
 unfold relayAll
 cases e:t.relaid (es.map (·.1)) n with
 | none=>exact h.stand _
 | some q =>
  obtain⟨t',o⟩:=q
  dsimp only
  split
  ·unfold SetTable.relaid SetTable.laid at e
   cases ec:SetTable.layClean (SetTable.sizeAbove n - 1) (es.map (·.1)) with
   | none=>rw [ec] at e; cases e
   | some ow =>
    rw [ec] at e
    cases e
    refine⟨?_,rfl,h.led⟩
    show Asc (List.map _ _).toArray
    unfold Asc
    rw [List.toList_toArray,List.map_filterMap]
    refine List.Pairwise.filterMap _ (fun a b hab a' ha b' hb=>?_) Ľ
    cases ea:ow.getD a none with
    | none=>rw [ea] at ha; cases ha
    | some x =>
     cases eb:ow.getD b none with
     | none=>rw [eb] at hb; cases hb
     | some y =>
      rw [ea] at ha
      rw [eb] at hb
      cases ha
      cases hb
      exact hab
  ·exact h.stand _
end
def dB (P:Program) (w:World) (h:Heap) (a:Addr) (S:Int->Bool) (n:Nat):Prop :=
 ∃ o es ep t,h.get? a=some o/\o.ExactSet/\o.data=.set es ep t/\ElemsOf (intKind P w) es.toList/\(∀ k,S k=true↔∃ e∈es.toList,(intKind P w).is k e.2=true)/\es.size<scanBound/\t.fits es.size=true/\es.size=n/\Good w t
section
variable {P:Program}{w:World}{A:Around}{E:Value->Shared->Prop}{s:Shared}
theorem dB.at {h h':Heap}{a:Addr}{S:Int->Bool}{n:Nat} (x:dB P w h a S n) (k:∀ o,h.get? a=some o->h'.get? a=some o):dB P w h' a S n :=
 let ⟨o,es,ep,t,ho,r⟩:=x; ⟨o,es,ep,t,k o ho,r⟩
theorem dB.put {h:Heap}{a:Addr}{o:Obj}{es:Array (Int×Value)}{ep:Nat}{t:SetTable} (ho:h.get? a=some o) (hx:o.ExactSet) (hd:o.data=.set es ep t) {es':Array (Int×Value)}{t':SetTable}{S:Int->Bool}
  (hel:ElemsOf (intKind P w) es'.toList) (hm:∀ k,S k=true↔∃ e∈es'.toList,(intKind P w).is k e.2=true) (hb:es'.size<scanBound) (hf:t'.fits es'.size=true) (g:Good w t') :
  (h.update a (Obj.putSet es' t')).get? a=some { o with data:=.set es' (ep+1) t' }/\dB P w (h.update a (Obj.putSet es' t')) a S es'.size:=by
 have q:=(SetOf_store (knd:=intKind P w) ho hx hd hel hm hb hf).1
 exact⟨q,_,es',ep+1,t',q,hx,rfl,hel,hm,hb,hf,rfl,g⟩
theorem qX {gv:Bool->Sem Unit} (hg:∀ (b:Bool) (s₁:Shared) (Q':Unit->Shared->Prop),Q' () s₁->wpAny (model P w) A (gv b) Q' E s₁) {a:Addr}{o:Obj}{es:Array (Int×Value)}{ep:Nat}{t:SetTable}
  (ho:s.heap.get? a=some o) (hx:o.ExactSet) (hd:o.data=.set es ep t) {es1:Array (Int×Value)}{t2:SetTable}{S:Int->Bool} (hel:ElemsOf (intKind P w) es1.toList) (hm:∀ k,S k=true↔∃ e∈es1.toList,(intKind P w).is k e.2=true)
  (hb:es1.size<scanBound) (hf:t2.fits es1.size=true) (g:Good w t2) {dm:Bool}{R:Option Bool->Shared->Prop} (q:∀ h',Œ a s.heap h'->dB P w h' a S es1.size->R (some true) { s with heap:=h' }) :
  wpAny (model P w) A (do
    storeSet a es1 t2
    if (!dm&&t2.tooFull)=true then do
      gv (relayAll t2 es1 (Ÿ es1.size)).2.2
      storeSet a (relayAll t2 es1 (Ÿ es1.size)).1 (relayAll t2 es1 (Ÿ es1.size)).2.1
      pure (some true)
     else pure (some true)) R E s:=by
 refine À (wpAny_storeSet_of ho hd ?_ (fits_of_scanBound hb))
 obtain⟨o1,S1⟩:=dB.put ho hx hd hel hm hb hf g
 have u1:=Ŋ s.heap a (Obj.putSet es1 t2)
 split
 ·have pm:=relayAll_perm t2 es1 (Ÿ es1.size)
  have fr:=relayAll_fits t2 es1 (Ÿ es1.size)
  have gr:=g.O6 es1 (Ÿ es1.size)
  generalize relayAll t2 es1 (Ÿ es1.size)=Z at pm fr gr ⊢
  obtain⟨es2,t3,gave⟩:=Z
  dsimp only at pm fr gr ⊢
  have sz:es2.size=es1.size:=by rw [← ñ,pm.length_eq,ñ]
  refine À (hg _ _ _ (À (wpAny_storeSet_of o1 rfl ?_ (fits_of_scanBound (sz ▸ hb)))))
  have z:=(dB.put (S:=S) o1 hx rfl (hel.perm pm) (fun k=>(hm k).trans ⟨fun ⟨e,he,y⟩=>⟨e,pm.mem_iff.mpr he,y⟩,fun ⟨e,he,y⟩=>⟨e,pm.mem_iff.mp he,y⟩⟩) (sz ▸ hb) fr gr).2
  rw [sz] at z
  exact Å (q _ (u1.trans (Ŋ _ a _)) z)
 ·exact Å (q _ u1 S1)
theorem Fg {a:Addr}{S:Int->Bool}{n:Nat}{k:Int}{x:Value}{Q:Bool->Shared->Prop} (hk:(intKind P w).is k x=true) (hsc:x.scannable=true) (hS:dB P w s.heap a S n) (hr:n+1<scanBound)
  (q:∀ h',Œ a s.heap h'->dB P w h' a (fun j=>S j || decide (j=k)) (if S k then n else n+1)->∀ b,Q b { s with heap:=h' }):wpAny (model P w) A (setAddHashed a x ((intKind P w).hash k)) Q E s:=by
 obtain⟨o,es,ep,t,ho,hx,hd,hel,hm,hb,hf,rfl,g⟩:=hS
 unfold setAddHashed setAddHashedIn
 refine ò (À (wpAny_setState_of ho hd hf ?_))
 dsimp only
 rw [byScan_of hsc hb hel]
 simp only [↓reduceIte]
 unfold setAddByScan
 refine À (À (wpAny_rule (À (wpAny_setScan_of hk ho hd hf hel ?_))))
 cases hi:List.findIdx? (fun e=>(intKind P w).is k e.2) es.toList with
 | some j =>
  dsimp only
  obtain⟨hj,pj,_⟩:=List.findIdx?_eq_some_iff_getElem.mp hi
  have sk:S k=true:=(hm k).mpr ⟨es.toList[j],į hj,pj⟩
  have z:=q s.heap (Heap.SameBut.refl a s.heap) ⟨o,es,ep,t,ho,hx,hd,hel,fun j=>by
   rw [Bool.or_eq_true,decide_eq_true_eq,← hm j]
   exact⟨fun y=>y.elim id (fun e=>e ▸ sk),.inl⟩,hb,hf,by rw [sk]; rfl,g⟩
  exact Å (Å (z _))
 | none =>
  dsimp only
  have sk:S k=false:=by
   cases c:S k with
   | false=>rfl
   | true =>
    obtain⟨e,he,y⟩:=(hm k).mp c
    have:=List.findIdx?_eq_none_iff.mp hi e he
    rw [y] at this
    cases this
  have pm:=layNew_perm t es ((intKind P w).hash k) x
  have ft:=layNew_fits t es ((intKind P w).hash k) x
  have gn:=g.new es ((intKind P w).hash k) x
  generalize layNew t es ((intKind P w).hash k) x=Z at pm ft gn ⊢
  obtain⟨es1,t1,dm,gave⟩:=Z
  dsimp only at pm ft gn ⊢
  rw [Array.toList_push] at pm
  have sz:es1.size=es.size+1:=by rw [← ñ,pm.length_eq,Ý,ñ]; rfl
  have gw:∀ (b:Bool) (s₁:Shared) (Q':Unit->Shared->Prop),Q' () s₁->wpAny (model P w) A (match b with | true=>rule "set.scan.the-table-gave-way" | false=>pure ()) Q' E s₁:=fun b s₁ Q' y=>by
   cases b
   ·exact Å y
   ·exact wpAny_rule y
  have fin:∀ h',Œ a s.heap h'->dB P w h' a (fun j=>S j || decide (j=k)) es1.size->∀ b,Q b { s with heap:=h' }:=fun h' sb z b=>by
   have:=q h' sb
   rw [sk] at this
   rw [sz] at z
   exact this z b
  refine À (gw _ _ _ ?_)
  split
  ·refine À ?_
   rw [hashByValue_scannable 8 hsc]
   refine Å (qX (fun b s₁ Q' y=>gw b s₁ Q' y) ho hx hd ((hel.push hk hsc).perm pm) (mem_push_iff hk hm pm) (by rw [sz]; exact hr) ?_ ?_ ?_)
   ·split
    ·exact ft
    ·exact SetTable.fits_plain_off ft
   ·split
    ·exact gn
    ·exact gn.plain
   ·intro h' sb z
    exact Å (fin h' sb z _)
  ·refine À (Å ?_)
   simp only [↓reduceIte]
   exact qX (fun b s₁ Q' y=>gw b s₁ Q' y) ho hx hd ((hel.push hk hsc).perm pm) (mem_push_iff hk hm pm) (by rw [sz]; exact hr) ft gn fun h' sb z=>Å (fin h' sb z _)
end
section
variable {P:Program}{w:World}{A:Around}{R:Result->Shared->Prop}{I:Addr}{fp wr:List Addr}{G:Array GenState->Array GenState->Prop}{n:Nat}{W:Nat->Value->Prop}{St:Nat->Shared->Prop}
theorem Cw (V:WalksS P w A.in1 I fp wr G n W St) (S:Addr) (hS:S∉fp) (val:Nat->Int) (hv:∀ i v,W i v->∃ t,v=.int (val i) t) (hb:n+1<scanBound):∀ (k i:Nat) (s:Shared),n - i=k->i<=n->St i s ->
   dB P w s.heap S (fun j=>(firstMet val i).any (· == j)) (firstMet val i).length ->
   (∀ s',Moved (S::wr) G s s'->dB P w s'.heap S (fun j=>(firstMet val n).any (· == j)) (firstMet val n).length->R (.ok (.ret .none)) s') ->
   codeAny (model P w) A (.builtin "set.update.loop" ⟨[.ref S,.ref I],[]⟩) R s:=by
 have nw:S∉wr:=fun h=>hS (V.sub _ h)
 have up:∀ b∈wr,b∈S::wr:=fun b z=>Í _ z
 intro k
 induction k with
 | zero =>
  intro i s hk hi st h q
  obtain rfl:i=n:=by omega
  refine Ė F.entry_set_update_loop ?_
  rw [ĉ F.plain_set_update_loop _]
  refine À (m:=pyNext (.ref I)) (V.done s _ _ st fun s' m=>?_)
  exact Å (q s' (m.mono up) (h.at fun o e=>m.heap S _ nw e))
 | succ k ih =>
  intro i s hk hi st h q
  have lt:i<n:=by omega
  refine Ė F.entry_set_update_loop ?_
  rw [ĉ F.plain_set_update_loop _]
  refine À (m:=pyNext (.ref I)) (V.item i s _ _ lt st fun v s' hw st' m=>?_)
  obtain⟨t,rfl⟩:=hv i v hw
  refine À (m:=holding [Ŝ (val i) t] (setAdd S (.int (val i) t))) (ò ?_)
  unfold setAdd
  refine ò (À ((intKind P w).pyHash (k:=val i) (intKind_is _ _ _ _) ?_))
  have few:=firstMet_length_le val i
  refine Fg (s:={ s' with toks:=s'.toks+1 }) (intKind_is _ _ _ _) rfl (h.at fun o e=>m.heap S _ nw e) (by omega) fun h' sb z b=>?_
  have z':dB P w h' S (fun j=>(firstMet val (i+1)).any (· == j)) (firstMet val (i+1)).length:=by
   have e1:(fun j=>(firstMet val (i+1)).any (· == j))=fun j=>((firstMet val i).any (· == j) || decide (j=val i)):=funext fun j=>by rw [firstMet_succ,step_any]
   rw [e1,firstMet_succ,step_length]
   exact z
  refine Å ⟨ł F.plain_set_update_loop _,ih (i+1) _ (by omega) lt (V.frame _ s' _ _ st' (Ę _) fun c hc o e=>?_) z' fun s'' m'' h''=>?_⟩
  ·rw [sb.2 c (fun y=>hS (y ▸ hc))]
   exact e
  ·refine q s'' (Moved.trans V.gtrans ((m.mono up).then_heap (Ę _) fun c o hc e=>?_) m'') h''
   rw [sb.2 c (fun y=>hc (by rw [y]; exact Ï))]
   exact e
end
def bO (w:World):Obj:={ cls:=.type "set",dict:=none,data:=.set #[] 0 (.fresh 0 0 (!w.params.followText "set-order")) }
section
variable {P:Program}{w:World}{A:Around}{E:Value->Shared->Prop}{s:Shared}
theorem Fe (a:Value) {Q:Value->Shared->Prop} (h:Q (.ref s.heap.objs.size) { s with heap:=s.heap.push (bO w) }):codeAny (model P w) A (.call (.builtin "set.__new__") ⟨[.type "set",a],[]⟩) (wants Q E) s:=by
 refine codeAny_of_tree ?_
 refine À (m:=checkBuiltinCall "set.__new__" ⟨[.type "set",a],[]⟩) (wpAny_of_eq (PySem.F.newCall_set_1 a) (Å ⟨ł PySem.F.plain_set_new _,Ė PySem.F.entry_set_new ?_⟩))
 rw [ĉ PySem.F.plain_set_new _]
 unfold Builtin.«set.__new__» Builtin.Frozenset.newClass
 have sub:=sub_set_self
 obtain⟨hp,g,d,tk,os⟩:=s
 dsimp only
 wp_walk
 refine wpAny_askSetting (Å ?_)
 dsimp only
 simp only [newObj]
 exact À (wpAny_alloc (Å (Å h)))
set_option maxHeartbeats 3200000 in
theorem Cz {l:Addr}{its:Array Value}{ns:List Int}{Q:Value->Shared->Prop} (hh:A.handled=none) (hl:s.heap.IsList l its) (hi:IntsAre its.toList ns) (hb:its.size+1<scanBound)
  (q:∀ (h':Heap) (tk:Nat),dB P w h' s.heap.objs.size (fun j=>(firstMet (fun i=>ns.getD i 0) its.size).any (· == j)) (firstMet (fun i=>ns.getD i 0) its.size).length ->
   (∀ b o,b<s.heap.objs.size->s.heap.get? b=some o->h'.get? b=some o)->Q (.ref s.heap.objs.size) { s with heap:=h',toks:=tk }):wpAny (model P w) A (call (.type "set") [.ref l]) Q E s:=by
 obtain⟨c,tl,mr⟩:=PySem.F.called_set.mro
 have mk:=PySem.F.called_set.made
 have sb:=PySem.F.called_set.sub
 refine wpAny_call (codeAny_of_tree ?_)
 refine Å ⟨Code.quiet_builtin _ (by decide +kernel),Ė PySem.F.entry_type_call ?_⟩
 rw [Around.under_plain (weight_type_call_type "set" [.ref l] []) rfl]
 have n1:=PySem.F.called_set.notType
 have n2:=PySem.F.called_set.canCreate
 have n3:=PySem.F.typeCall_set_1 (.ref l)
 repeat (any_goals (first | assumption | wp_step))
 refine codeAny_mono (Fe (.ref l) (E:=E) (Q:=fun x s₁=>x=.ref s.heap.objs.size/\s₁={ s with heap:=s.heap.push (bO w) }) ⟨rfl,rfl⟩) fun r s₁ hr=>?_
 cases r with
 | error e=>exact hr
 | ok fl =>
  cases fl with
  | ret x =>
   obtain⟨rfl,rfl⟩:=hr
   have hS:(s.heap.push (bO w)).get? s.heap.objs.size=some (bO w):=Ô _ rfl
   have hT:Shared.TypeIs { s with heap:=s.heap.push (bO w) } (.ref s.heap.objs.size) "set":=⟨_,hS,rfl⟩
   have hli:=PySem.F.called_set.init.lookup
   have hbi:=PySem.F.called_set.init.bind (.ref s.heap.objs.size)
   repeat (any_goals (first | assumption | wp_step))
   refine codeAny_mono (codeAny_call_builtin (R:=wants (fun r s₂=>r=.none/\∃ h' tk,s₂={ s with heap:=h',toks:=tk } /\
     dB P w h' s.heap.objs.size (fun j=>(firstMet (fun i=>ns.getD i 0) its.size).any (· == j)) (firstMet (fun i=>ns.getD i 0) its.size).length /\
     (∀ b o,b<s.heap.objs.size->s.heap.get? b=some o->h'.get? b=some o)) E) PySem.F.called_set.init.plain PySem.F.entry_set_init (check_set_init_1 hT ?_)) fun r₂ s₂ hr₂=>?_
   ·obtain⟨ol,hol,hcl,nl,hdl⟩:=hl
    obtain⟨oc,od,ot,os⟩:=ol
    simp only at hcl hdl
    subst hcl; subst hdl
    have hol':(s.heap.push (bO w)).get? l=some { cls:=.type "list",dict:=od,data:=.seq its nl,slots:=os }:=È _ hol
    have k1:=PySem.F.sub_list_set
    have k2:=PySem.F.sub_list_frozenset
    have k3:(Ă "list" == Ă "dict")=false:=by decide
    have hl1:(s.heap.push (bO w)).IsList l its:=⟨_,hol',rfl,nl,rfl⟩
    unfold Builtin.«set.__init__» noKeywords Builtin.Frozenset.updateFrom
    generalize hPI:pyIter=PI
    wp_walk
    subst hPI
    refine wpAny_pyIter_list hl1 (À (wpAny_runValue ?_))
    have lS:l<s.heap.objs.size:=Ê hol
    have hh3:A.in1.in1.in1.handled=none:=by simp [hh]
    have sz:=ķ s.heap (bO w)
    have ne:l≠(s.heap.push (bO w)).objs.size:=by rw [sz]; exact Õ (ô lS)
    refine Cw ((Walks.list hh3 _ l ne its).toS) s.heap.objs.size (by
     simp only [Þ,Ì,ă,or_false,not_or,sz]
     exact⟨Õ (ĳ _),ħ lS⟩) (fun i=>ns.getD i 0) (fun i v hv=>IntsAre.int_at hi i v (by rw [Ŵ]; exact hv)) hb (its.size - 0) 0 _ (by omega) (Č _)
     ⟨⟨_,Ô _ rfl,rfl,rfl⟩,(hl1.push _)⟩ ?_ ?_
    ·have hg:((s.heap.push (bO w)).push { cls:=.type "list_iterator",data:=.fields #[.ref l,.int 0 0] }).get? s.heap.objs.size=some (bO w):=È _ hS
     exact⟨_,#[],0,_,hg,⟨rfl,rfl,rfl⟩,rfl,(fun e he=>nomatch he),(fun j=>⟨(fun z=>by cases z),(fun ⟨e,he,_⟩=>nomatch he)⟩),by decide,rfl,rfl,List.Pairwise.nil,rfl,rfl⟩
    ·intro s' hm hS'
     obtain⟨h',g',d',tk',os'⟩:=s'
     have eg:g'=s.gens:=hm.gens
     have ed:d'=s.drawn:=hm.drawn
     have eo:os'=s.os:=hm.os
     subst eg; subst ed; subst eo
     refine Å (Å ⟨rfl,h',tk',rfl,hS',fun b o hb e=>hm.heap b o ?_ (È _ (È _ e))⟩)
     simp only [Þ,Ì,ă,or_false,not_or,sz]
     exact⟨Õ hb,Õ (ô hb)⟩
   ·cases r₂ with
    | error e=>exact hr₂
    | ok fl₂ =>
     cases fl₂ with
     | ret r =>
      obtain⟨rfl,h',tk,rfl,hS',hk'⟩:=hr₂
      repeat (any_goals (first | assumption | wp_step))
      exact q _ _ hS' hk'
     | _=>exact hr₂.elim
  | _=>exact hr.elim
end
theorem aJ:Slot "set_iterator" "__next__" "set_iterator.__next__" :=
 .of (owner:="set_iterator") (n:="__next__") (by rw [typeLookup_type,builtinLookup_eq_fast]; kernel_rfl) (by decide +kernel) (by decide +kernel) (by decide +kernel) (by first | exact .inl (by decide +kernel) | exact .inr (by decide +kernel)) (by rw [isSubtype_type]; kernel_rfl)
theorem cW:entryFor table "set_iterator.__next__"=some Builtin.«set_iterator.__next__»:=entryFor_of_tree (by kernel_rfl)
theorem Fb (n:List Char) (id:String) (h:((id.toList.map fun c=>if c.isAlphanum || c == '_' || c == '.' then c else '_').reverse.span (· != '.'))=(n,'.'::"set_iterator".toList.reverse)):Manifest.signature? id=Manifest.sig_set_iterator.lookup (String.ofList n.reverse) :=
 PySem.signature?_of h (by kernel_rfl)
theorem dU (a:Value):argsOk "set_iterator.__next__" ⟨[a],[]⟩:=by
 unfold argsOk
 rw [Fb "__txen__".toList _ (by kernel_rfl)]
 kernel_rfl
theorem uY (a:Value):argsOk "set_iterator.__iter__" ⟨[a],[]⟩:=by
 unfold argsOk
 rw [Fb "__reti__".toList _ (by kernel_rfl)]
 kernel_rfl
theorem jO:Slot "set_iterator" "__iter__" "set_iterator.__iter__" :=
 .of (owner:="set_iterator") (n:="__iter__") (by rw [typeLookup_type,builtinLookup_eq_fast]; kernel_rfl) (by decide +kernel) (by decide +kernel) (by decide +kernel) (by first | exact .inl (by decide +kernel) | exact .inr (by decide +kernel)) (by rw [isSubtype_type]; kernel_rfl)
theorem uH:entryFor table "set.__iter__"=some Builtin.«frozenset.__iter__» :=
 entryFor_alias (id':="frozenset.__iter__") (by kernel_rfl) rfl (by decide +kernel) (by kernel_rfl)
theorem qM:entryFor table "set_iterator.__iter__"=some Builtin.«dict_keyiterator.__iter__» :=
 entryFor_alias (id':="dict_keyiterator.__iter__") (by kernel_rfl) rfl (by decide +kernel) (by kernel_rfl)
def jL (h:Heap) (I a:Addr) (f:Value) (i n ep:Nat):Prop:=∃ o,h.get? I=some o/\o.cls=.type "set_iterator"/\o.data=.fields #[f,.int i 0,.ref a,.int n 0,.int ep 0]
section
variable {P:Program}{w:World}{A:Around}{E:Value->Shared->Prop}{s:Shared}{I a:Addr}{f:Value}{i n ep:Nat}{o:Obj}{es:Array (Int×Value)}{t:SetTable}
theorem jL.ty (h:jL s.heap I a f i n ep):s.TypeIs (.ref I) "set_iterator":=let ⟨o,ho,hc,_⟩:=h; ⟨o,ho,hc⟩
theorem jL.at {h h':Heap} (x:jL h I a f i n ep) (k:∀ o,h.get? I=some o->h'.get? I=some o):jL h' I a f i n ep:=let ⟨o,ho,r⟩:=x; ⟨o,k o ho,r⟩
theorem Aw {Q:Value->Shared->Prop} (hit:jL s.heap I a f i n ep) (h:Q (.ref I) s):wpAny (model P w) A (pyIter (.ref I)) Q E s:=by
 refine wpAny_pyIter_slot hit.ty jO (ü jO hit.ty qM ?_ (uY _))
 exact Å ⟨_,rfl,"set_iterator",_,hit.ty,aJ.lookup,h⟩
theorem Av {Q:Option Value->Shared->Prop} (hh:A.handled=none) (q:∀ h':Heap,(∀ b o,s.heap.get? b=some o->h'.get? b=some o)->Q none { s with heap:=h' }) :
  wpAny (model P w) A.in1 (newExc (.type "StopIteration") [] >>= fun e=>raiseNew (α:=Fin) e) (fun fin s'=>∃ r,fin=.done (.ret r)/\Q (some r) s') (fun e s'=>wpAny (model P w) A (do
   if ← isInstance e (.type "StopIteration") then return none else throw e) Q E s') s:=by
 refine À ?_
 simp only [newExc,newTuple]
 refine À (ĕ ?_ (by size_fits))
 refine À (m:=firstArgMember _ _) (wpAny_of_eq (a:=Ą) (by first | rfl | (simp only [firstArgMember]; rfl)) ?_)
 refine ĕ ?_ (by size_fits)
 simp only [raiseNew]
 refine À (wpAny_handled ?_)
 rw [show A.in1.handled=none from hh]
 refine À (Å (wpAny_throw ?_))
 refine À (wpAny_isInstance (T:="StopIteration") (b:=true) ⟨_,Ô _ rfl,rfl⟩ isSubtype_stop ?_)
 exact Å (q _ fun b o e=>È _ (È _ e))
theorem Ir {Q:Option Value->Shared->Prop}{sl nx:Nat}{x:Value} (hit:jL s.heap I a (.int sl 0) i es.size ep) (ho:s.heap.get? a=some o) (hd:o.data=.set es ep t) (hf:t.fits es.size=true)
  (hn:∀ (A:Around) (E:Value->Shared->Prop) (Q:Option (Value×Nat)->Shared->Prop),Q (some (x,nx)) s->wpAny (model P w) A (setNext a sl i ep) Q E s)
  (q:∀ h',jL h' I a (.int nx 0) (i+1) es.size ep->Œ I s.heap h'->Q (some x) { s with heap:=h' }):wpAny (model P w) A (pyNext (.ref I)) Q E s:=by
 obtain⟨oI,hI,hc,hdI⟩:=id hit
 unfold pyNext
 refine À (wpAny_attempt (Đ (name:=ŋ "__next__") hit.ty aJ (ü aJ hit.ty cW ?_ (dU _))))
 unfold Builtin.«set_iterator.__next__» slotArgs
 simp only [List.isEmpty_nil,Bool.not_true,ì,↓reduceIte,bind_assoc,š,bne_self_eq_false]
 refine À (Å ?_)
 refine À (wpAny_fieldsOf hI hdI ?_)
 dsimp only
 refine À (wpAny_setEntries_of ho hd hf ?_)
 rw [if_neg (by simp)]
 dsimp only [á]
 refine À (hn _ _ _ ?_)
 dsimp only
 refine À (Ů hI hdI (by simp) ?_)
 have h2:=Ď (Obj.mapFields (·.setIfInBounds 0 (rawInt nx))) hI (Ž (ĭ hdI _))
 have d2:=ĭ hdI (·.setIfInBounds 0 (rawInt nx))
 refine À (Ů h2 d2 (by simp) (Å ⟨x,rfl,Å (q _ ?_ ((Ŋ ..).trans (Ŋ ..)))⟩))
 refine⟨_,Ď _ h2 (Ž (ĭ d2 _)),(Obj.cls_mapFields ..).trans ((Obj.cls_mapFields ..).trans hc),?_⟩
 rw [ĭ d2]
 simp [rawInt]
theorem Lx {Q:Option Value->Shared->Prop}{sl:Nat} (hh:A.handled=none) (hit:jL s.heap I a (.int sl 0) i es.size ep) (ho:s.heap.get? a=some o) (hd:o.data=.set es ep t) (hf:t.fits es.size=true)
  (hn:∀ (A:Around) (E:Value->Shared->Prop) (Q:Option (Value×Nat)->Shared->Prop),Q none s->wpAny (model P w) A (setNext a sl i ep) Q E s)
  (q:∀ h',(∀ b o,b≠I->s.heap.get? b=some o->h'.get? b=some o)->Q none { s with heap:=h' }):wpAny (model P w) A (pyNext (.ref I)) Q E s:=by
 obtain⟨oI,hI,hc,hdI⟩:=id hit
 unfold pyNext
 refine À (wpAny_attempt (Đ (name:=ŋ "__next__") hit.ty aJ (ü aJ hit.ty cW ?_ (dU _))))
 unfold Builtin.«set_iterator.__next__» slotArgs
 simp only [List.isEmpty_nil,Bool.not_true,ì,↓reduceIte,bind_assoc,š,bne_self_eq_false]
 refine À (Å ?_)
 refine À (wpAny_fieldsOf hI hdI ?_)
 dsimp only
 refine À (wpAny_setEntries_of ho hd hf ?_)
 rw [if_neg (by simp)]
 dsimp only [á]
 refine À (hn _ _ _ ?_)
 dsimp only
 refine À (Ů hI hdI (by simp) (Ĳ (Av (Q:=Q) (E:=E) hh fun h' k=>q h' fun b o hb e=>k b o ?_) (fun fin s' ⟨r,e,z⟩=>⟨r,e,Å z⟩) fun e s' z=>z))
 exact (Ĉ _ _ (č hb)).trans e
theorem Iu {Q:Option Value->Shared->Prop}{T:Addr}{oT:Obj}{ps:Array Value}{c:Nat}{p:Nat}{e:Int×Value} (hit:jL s.heap I a (.ref T) i es.size ep) (ho:s.heap.get? a=some o) (hd:o.data=.set es ep t) (hf:t.fits es.size=true)
  (hT:s.heap.get? T=some oT) (hdT:oT.data=.seq ps c) (hp:ps[i]?=some (.int p 0)) (hx:es[p]?=some e)
  (q:∀ h',jL h' I a (.ref T) (i+1) es.size ep->Œ I s.heap h'->Q (some e.2) { s with heap:=h' }):wpAny (model P w) A (pyNext (.ref I)) Q E s:=by
 obtain⟨oI,hI,hc,hdI⟩:=id hit
 unfold pyNext
 refine À (wpAny_attempt (Đ (name:=ŋ "__next__") hit.ty aJ (ü aJ hit.ty cW ?_ (dU _))))
 unfold Builtin.«set_iterator.__next__» slotArgs
 simp only [List.isEmpty_nil,Bool.not_true,ì,↓reduceIte,bind_assoc,š,bne_self_eq_false]
 refine À (Å ?_)
 refine À (wpAny_fieldsOf hI hdI ?_)
 dsimp only
 refine À (wpAny_setEntries_of ho hd hf ?_)
 rw [if_neg (by simp)]
 refine À (wpAny_seqItems hT hdT ?_)
 dsimp only [á]
 rw [hp]
 dsimp only [á]
 refine À ?_
 unfold setNextDrawn
 refine À (wpAny_setState_of ho hd hf ?_)
 dsimp only
 simp only [bne_self_eq_false,ì,↓reduceIte]
 rw [hx]
 refine Å ?_
 refine À (Ů hI hdI (by simp) (Å ⟨e.2,rfl,Å (q _ ?_ (Ŋ ..))⟩))
 refine⟨_,Ď _ hI (Ž (ĭ hdI _)),(Obj.cls_mapFields ..).trans hc,?_⟩
 rw [ĭ hdI]
 simp [rawInt]
theorem Ly {Q:Option Value->Shared->Prop}{T:Addr}{oT:Obj}{ps:Array Value}{c:Nat} (hh:A.handled=none) (hit:jL s.heap I a (.ref T) i es.size ep) (ho:s.heap.get? a=some o) (hd:o.data=.set es ep t) (hf:t.fits es.size=true)
  (hT:s.heap.get? T=some oT) (hdT:oT.data=.seq ps c) (hp:ps[i]?=none)
  (q:∀ h',(∀ b o,b≠I->s.heap.get? b=some o->h'.get? b=some o)->Q none { s with heap:=h' }):wpAny (model P w) A (pyNext (.ref I)) Q E s:=by
 obtain⟨oI,hI,hc,hdI⟩:=id hit
 unfold pyNext
 refine À (wpAny_attempt (Đ (name:=ŋ "__next__") hit.ty aJ (ü aJ hit.ty cW ?_ (dU _))))
 unfold Builtin.«set_iterator.__next__» slotArgs
 simp only [List.isEmpty_nil,Bool.not_true,ì,↓reduceIte,bind_assoc,š,bne_self_eq_false]
 refine À (Å ?_)
 refine À (wpAny_fieldsOf hI hdI ?_)
 dsimp only
 refine À (wpAny_setEntries_of ho hd hf ?_)
 rw [if_neg (by simp)]
 refine À (wpAny_seqItems hT hdT ?_)
 dsimp only [á]
 rw [hp]
 dsimp only
 refine À (Ů hI hdI (by simp) ?_)
 have h2:=Ď (Obj.mapFields (·.setIfInBounds 0 (rawInt 0))) hI (Ž (ĭ hdI _))
 have d2:=ĭ hdI (·.setIfInBounds 0 (rawInt 0))
 refine À (Ů h2 d2 (by simp) (Ĳ (Av (Q:=Q) (E:=E) hh fun h' k=>q h' fun b o hb e=>k b o ?_) (fun fin s' ⟨r,e,z⟩=>⟨r,e,Å z⟩) fun e s' z=>z))
 exact (Ĉ _ _ (č hb)).trans ((Ĉ _ _ (č hb)).trans e)
end
theorem uG {α:Type}:∀ {l:List α}{i:Nat} (h:i<l.length),(l[i]::l.eraseIdx i).Perm l
 | x::l,0,_=>List.Perm.refl _
 | x::l,i+1,h=>(List.Perm.swap x (l[i]'(Nat.lt_of_succ_lt_succ h)) (l.eraseIdx i)).trans ((uG (Nat.lt_of_succ_lt_succ h)).cons x)
theorem Bk {α:Type} (nx:Nat->Nat):∀ (n k:Nat) (l:List α) (out:Array α),l.length=n->(pickOrder.go nx n k l out).toList.Perm (out.toList++l)
 | 0,k,l,out,h=>by
  have e:l=[]:=ū h
  subst e
  unfold pickOrder.go
  rw [ğ]
 | n+1,k,l,out,h=>by
  have hp:0<l.length:=by omega
  have hm:=Nat.mod_lt (nx k) hp
  unfold pickOrder.go
  rw [Ä hm]
  dsimp only
  refine (Bk nx n (k+1) _ _ (by rw [List.length_eraseIdx]; split <;> omega)).trans ?_
  rw [Array.toList_push,List.append_assoc]
  exact List.Perm.append_left _ (uG hm)
theorem CQ {α:Type} (nx:Nat->Nat) (xs:Array α):(pickOrder nx xs).toList.Perm xs.toList:=Bk nx xs.size 0 xs.toList #[] (by simp)
section
variable {P:Program}{w:World}{A:Around}{E:Value->Shared->Prop}{s:Shared}
theorem xO {src:Source}{n:Nat}{Q:Nat->Shared->Prop} (hn:n≠0) (h:∀ i d,i<n->Q i { s with drawn:=d }):wpAny (model P w) A (choose src n) Q E s :=
 fun Γ p _=>⟨hn,h _ _ (Nat.mod_lt _ (Nat.pos_of_ne_zero hn))⟩
theorem rN {α:Type}:∀ (n:Nat) (xs:List α) (s:Shared) {Q:List α->Shared->Prop},xs.length=n->(∀ l d,l.Perm xs->Q l { s with drawn:=d })->wpAny (model P w) A (drawOrder n xs) Q E s
 | 0,xs,s,Q,h,q=>by
  have e:xs=[]:=ū h
  subst e
  unfold drawOrder
  exact Å (q [] s.drawn (List.Perm.refl _))
 | n+1,xs,s,Q,h,q=>by
  cases xs with
  | nil=>cases h
  | cons y ys =>
   unfold drawOrder
   refine À (xO (by rw [h]; omega) fun i d hi=>?_)
   rw [Ä hi]
   dsimp only
   refine À (rN n _ _ (by rw [List.length_eraseIdx]; split <;> omega) fun l d' hp=>?_)
   exact Å (q _ d' ((hp.cons _).trans (uG hi)))
variable {a:Addr}{i ep:Nat}{o:Obj}{es:Array (Int×Value)}{t:SetTable}
theorem Ao (ho:s.heap.get? a=some o) (hd:o.data=.set es ep t) (hf:t.fits es.size=true) (hw:w.params.followText "set-order"=true) {sl:Nat}{Q:Option (Value×Nat)->Shared->Prop} (q:Q (((pickOrder (w.params.setOrder a ep) es)[i]?).map fun e=>(e.2,sl)) s) :
  wpAny (model P w) A (setNext a sl i ep) Q E s:=by
 unfold setNext setsByText
 refine À (wpAny_setState_of ho hd hf ?_)
 dsimp only
 refine À (À (wpAny_askSetting (Å ?_)))
 rw [if_pos (show (model P w).w.params.followText "set-order"=true from hw)]
 simp only [bne_self_eq_false,ì,↓reduceIte]
 unfold setWalk setsByText
 refine À (À (wpAny_setState_of ho hd hf ?_))
 dsimp only
 refine À (À (wpAny_askSetting (Å ?_)))
 rw [if_pos (show (model P w).w.params.followText "set-order"=true from hw)]
 refine À (wpAny_askSetting (Å (Å ?_)))
 exact q
theorem Aq (ho:s.heap.get? a=some o) (hd:o.data=.set es ep t) (hf:t.fits es.size=true) (hw:w.params.followText "set-order"=false) (np:(!t.plain&&decide (es.size > 1))=false) (g:Good w t) {sl:Nat}{Q:Option (Value×Nat)->Shared->Prop}
  (q:Q (match es[ĝ t.place sl]?,t.place[ĝ t.place sl]? with | some (_,x),some j=>some (x,j+1) | _,_=>none) s):wpAny (model P w) A (setNext a sl i ep) Q E s:=by
 unfold setNext setsByText
 refine À (wpAny_setState_of ho hd hf ?_)
 dsimp only
 refine À (À (wpAny_askSetting (Å ?_)))
 rw [if_neg (show ¬ (model P w).w.params.followText "set-order"=true from fun z=>by
  have z:w.params.followText "set-order"=true:=z
  rw [hw] at z
  cases z)]
 refine wpAny_ite_split (fun z=>?_) fun _=>?_
 ·have z:(!t.plain&&decide (es.size > 1))=true:=z
  rw [np] at z
  cases z
 ·have gl:t.led=true:=by rw [g.led,hw]; rfl
  refine À ?_
  refine wpAny_ite_split (fun z=>?_) fun _=>Å (Å q)
  have z:(!t.led&&!es.isEmpty)=true:=z
  rw [gl] at z
  cases z
end
section
variable {P:Program}{w:World}{A:Around}{E:Value->Shared->Prop}{s:Shared}{I a:Addr}{ep:Nat}{o:Obj}{es:Array (Int×Value)}{t:SetTable}
theorem gG:∀ {l:List (Int×Value)},ElemsOf (intKind P w) l->∃ ns,IntsAre (l.map (·.2)) ns/\ns.length=l.length/\∀ k,(∃ e∈l,(intKind P w).is k e.2=true)↔k∈ns
 | [],_=>⟨[],.nil,rfl,fun k=>⟨(fun ⟨e,he,_⟩=>nomatch he),(fun h=>nomatch h)⟩⟩
 | e::l,h=>by
  obtain⟨⟨k0,hk,_⟩,_⟩:=h.head
  obtain⟨c,hc⟩:=Value.isInt_shape hk
  obtain⟨ns,a1,a2,a3⟩:=gG h.tail
  refine⟨k0::ns,?_,by rw [õ,a2]; rfl,fun k=>?_⟩
  ·show IntsAre (e.2::l.map (·.2)) _
   rw [hc]
   exact .cons _ _ a1
  ·rw [Þ,← a3 k]
   constructor
   ·rintro ⟨x,hx,y⟩
    rcases Þ.mp hx with rfl | hx
    ·exact .inl ((intKind P w).inj _ _ _ y hk)
    ·exact .inr ⟨x,hx,y⟩
   ·rintro (rfl | ⟨x,hx,y⟩)
    ·exact⟨e,Ï,hk⟩
    ·exact⟨x,Í _ hx,y⟩
theorem qP {sl:Nat->Nat}{vs:List Value} (hh:A.handled=none) (ne:a≠I) (hd:o.data=.set es ep t) (hf:t.fits es.size=true) (hl:vs.length=es.size)
  (hi:∀ (i:Nat) (v:Value) (s:Shared),vs[i]?=some v->s.heap.get? a=some o->∀ (A:Around) (E:Value->Shared->Prop) (Q:Option (Value×Nat)->Shared->Prop),Q (some (v,sl (i+1))) s->wpAny (model P w) A (setNext a (sl i) i ep) Q E s)
  (he:∀ s:Shared,s.heap.get? a=some o->∀ (A:Around) (E:Value->Shared->Prop) (Q:Option (Value×Nat)->Shared->Prop),Q none s->wpAny (model P w) A (setNext a (sl es.size) es.size ep) Q E s) :
  Walks P w A I [I,a] [I] es.size (fun i v=>vs[i]?=some v) (fun i h=>jL h I a (.int (sl i) 0) i es.size ep/\h.get? a=some o) where
 sub:=fun b hb=>by simp at hb; simp [hb]
 frame:=fun _ _ _ st hk=>⟨st.1.at fun o e=>hk I (by simp) o e,hk a (by simp) _ st.2⟩
 item:=fun i s Q E h st q=>by
  have hv:vs[i]?=some (vs[i]'(by omega)):=Ä _
  refine Ir st.1 st.2 hd hf (hi i _ s hv st.2) fun h' hs sb=>q _ h' s.toks hv ⟨hs,?_⟩ fun b o hb e=>?_
  ·rw [sb.2 a ne]; exact st.2
  ·rw [sb.2 b fun z=>hb (by simp [z])]; exact e
 done:=fun s Q E st q=>Lx hh st.1 st.2 hd hf (he s st.2) fun h' k=>q h' s.toks fun b o hb e=>k b o (fun z=>hb (by simp [z])) e
 self:=fun _ _ _ _ st q=>Aw st.1 q
theorem vf {T:Addr}{oT:Obj}{ps:List Nat}{c:Nat} (hh:A.handled=none) (ne:a≠I) (nT:T≠I) (hd:o.data=.set es ep t) (hf:t.fits es.size=true) (hdT:oT.data=.seq (ps.map fun p:Nat=>(Ŝ p 0)).toArray c) (hp:ps.Perm (Ë es.size)) :
  Walks P w A I [I,a,T] [I] es.size (fun i v=>(ps.filterMap fun p=>es[p]?.map (·.2))[i]?=some v) (fun i h=>jL h I a (.ref T) i es.size ep/\h.get? a=some o/\h.get? T=some oT) where
 sub:=fun b hb=>by simp at hb; simp [hb]
 frame:=fun _ _ _ st hk=>⟨st.1.at fun o e=>hk I (by simp) o e,hk a (by simp) _ st.2.1,hk T (by simp) _ st.2.2⟩
 item:=fun i s Q E h st q=>by
  have lp:=hp.length_eq
  rw [à] at lp
  have hi:i<ps.length:=by omega
  have lt:ps[i]<es.size:=ã.mp (hp.mem_iff.mp (į hi))
  have all:∀ p∈ps,es[p]?.map (·.2)=some ((es.getD p (0,.none)).2):=fun p z=>by
   have:p<es.size:=ã.mp (hp.mem_iff.mp z)
   rw [ĥ this]
   simp [this]
  have fm:∀ l:List Nat,(∀ p∈l,es[p]?.map (·.2)=some ((es.getD p (0,.none)).2))->l.filterMap (fun p=>es[p]?.map (·.2))=l.map fun p=>(es.getD p (0,.none)).2:=fun l=>by
   induction l with
   | nil=>intro _; rfl
   | cons p l ih =>
    intro z
    rw [List.filterMap_cons,z p Ï]
    show _::_=_
    rw [ih fun p y=>z p (Í _ y)]
    rfl
  have hx:es[ps[i]]?=some es[ps[i]]:=ĥ lt
  refine Iu st.1 st.2.1 hd hf st.2.2 hdT (p:=ps[i]) (e:=es[ps[i]]) (by simp [hi]) hx fun h' hs sb=>q _ h' s.toks ?_ ⟨hs,?_,?_⟩ fun b o hb e=>?_
  ·rw [fm ps all,Ö,Ä hi]
   simp [lt]
  ·rw [sb.2 a ne]; exact st.2.1
  ·rw [sb.2 T nT]; exact st.2.2
  ·rw [sb.2 b fun z=>hb (by simp [z])]; exact e
 done:=fun s Q E st q=>by
  have lp:=hp.length_eq
  rw [à] at lp
  exact Ly hh st.1 st.2.1 hd hf st.2.2 hdT (by simp [lp]) fun h' k=>q h' s.toks fun b o hb e=>k b o (fun z=>hb (by simp [z])) e
 self:=fun _ _ _ _ st q=>Aw st.1 q
theorem Cy {S:Int->Bool}{n:Nat} (hS:dB P w s.heap a S n) (hh:A.handled=none) {Q:Value->Shared->Prop}
  (q:∀ (h1:Heap) (d1:_) (I:Addr) (fp:List Addr) (vs:List Value) (ns:List Int) (St:Nat->Heap->Prop),s.heap.objs.size<=I->(∀ b∈fp,b=a\/s.heap.objs.size<=b)->(∀ b o,s.heap.get? b=some o->h1.get? b=some o)->Walks P w A I fp [I] n (fun i v=>vs[i]?=some v) St->St 0 h1->IntsAre vs ns->ns.length=n->(∀ k,S k=true↔k∈ns)->Q (.ref I) { s with heap:=h1,drawn:=d1 }) :
  wpAny (model P w) A (pyIter (.ref a)) Q E s:=by
 obtain⟨o,es,ep,t,ho,hx,hd,hel,hm,hb,hf,rfl,g⟩:=hS
 have hT:s.TypeIs (.ref a) "set":=⟨o,ho,hx.1⟩
 have la:=Ê ho
 have fits:=hf
 simp only [SetTable.fits,Ü,beq_iff_eq] at fits
 refine wpAny_pyIter_slot hT PySem.F.slot_set_iter (ü PySem.F.slot_set_iter hT uH ?_ (PySem.F.args_set_iter_1 _))
 unfold Builtin.«frozenset.__iter__» Builtin.Frozenset.slot0 slotArgs
 simp only [List.isEmpty_nil,Bool.not_true,ì,↓reduceIte,bind_assoc,š,bne_self_eq_false]
 unfold Builtin.Frozenset.addrOf Builtin.Frozenset.sizeOf setDrawn setsByText
 refine À (Å ?_)
 try dsimp only
 refine À (Å ?_)
 refine À (À (wpAny_setEntries_of ho hd hf (Å ?_)))
 refine À (À (wpAny_setState_of ho hd hf ?_))
 dsimp only
 refine À (À (wpAny_askSetting (Å (Å ?_))))
 refine wpAny_ite_split (fun z=>?_) fun z=>?_
 ·have z:(!w.params.followText "set-order"&&(!t.plain&&decide (es.size > 1)))=true:=z
  refine À (rN es.size _ s (à) fun ps d hp=>?_)
  simp only [newTuple]
  refine À (ĕ ?_ (show (List.map (fun i:Nat=>rawInt i) ps).toArray.size<=sizeLine by rw [Î,Á,hp.length_eq,à]; exact fits_of_scanBound hb))
  refine À (wpAny_setEpoch_of (È _ ho) hd hf ?_)
  refine À (ĕ (Å ⟨_,rfl,"set_iterator",_,⟨_,Ô _ rfl,rfl⟩,aJ.lookup,?_⟩))
  have sz:=ķ s.heap { cls:=.type "tuple",data:=.seq (ps.map fun i:Nat=>rawInt i).toArray }
  have pm:(ps.filterMap fun p=>es[p]?).Perm es.toList:=by
   have:=hp.filterMap fun p=>es[p]?
   rwa [filterMap_getElem?_range] at this
  obtain⟨ns,a1,a2,a3⟩:=gG (hel.perm pm)
  rw [List.map_filterMap] at a1
  have lT:=ĳ s.heap.objs.size
  refine q _ d _ [_,a,s.heap.objs.size] _ ns _ (by rw [sz]; exact Ę _) (fun b hb=>?_) (fun b o e=>È _ (È _ e)) (vf (oT:={ cls:=.type "tuple",data:=.seq (ps.map fun i:Nat=>rawInt i).toArray }) hh (by rw [sz]; exact Õ (ô la)) (by rw [sz]; exact Õ lT) hd hf rfl hp)
   ⟨⟨_,Ô _ rfl,rfl,rfl⟩,È _ (È _ ho),È _ (Ô _ rfl)⟩ a1 (a2.trans (by rw [pm.length_eq,ñ])) fun k=>?_
  ·simp only [Þ,ă,or_false] at hb
   rcases hb with rfl | rfl | rfl
   ·exact .inr (by rw [sz]; exact Ę _)
   ·exact .inl rfl
   ·exact .inr (Ò _)
  ·rw [hm k,← a3 k]
   exact⟨fun ⟨e,he,y⟩=>⟨e,pm.mem_iff.mpr he,y⟩,fun ⟨e,he,y⟩=>⟨e,pm.mem_iff.mp he,y⟩⟩
 ·have z:¬ (!w.params.followText "set-order"&&(!t.plain&&decide (es.size > 1)))=true:=z
  refine À (Å ?_)
  refine À (wpAny_setEpoch_of ho hd hf ?_)
  refine À (ĕ (Å ⟨_,rfl,"set_iterator",_,⟨_,Ô _ rfl,rfl⟩,aJ.lookup,?_⟩))
  have ne:a≠s.heap.objs.size:=Õ la
  have st0:∀ sl:Nat->Nat,sl 0=0->jL (s.heap.push { cls:=.type "set_iterator",data:=.fields [rawInt 0,rawInt 0,ė a,rawInt es.size,rawInt ep].toArray }) s.heap.objs.size a (.int (sl 0) 0) 0 es.size ep/\(s.heap.push { cls:=.type "set_iterator",data:=.fields [rawInt 0,rawInt 0,ė a,rawInt es.size,rawInt ep].toArray }).get? a=some o:=fun sl e=>by
   rw [e]
   exact⟨⟨_,Ô _ rfl,rfl,rfl⟩,È _ ho⟩
  have two:∀ b∈[s.heap.objs.size,a],b=a\/s.heap.objs.size<=b:=fun b hb=>by
   simp only [Þ,ă,or_false] at hb
   rcases hb with rfl | rfl
   ·exact .inr (Ò _)
   ·exact .inl rfl
  by_cases hw:w.params.followText "set-order"=true
  ·have pm:=CQ (w.params.setOrder a ep) es
   have pl:(pickOrder (w.params.setOrder a ep) es).toList.length=es.size:=by rw [pm.length_eq,ñ]
   obtain⟨ns,a1,a2,a3⟩:=gG (hel.perm pm)
   refine q _ s.drawn s.heap.objs.size [s.heap.objs.size,a] ((pickOrder (w.params.setOrder a ep) es).toList.map (·.2)) ns _ (Ò _) two (fun b o e=>È _ e) (qP (sl:=fun _=>0) hh ne hd hf (by rw [Á,pl]) (fun i v s hv ho A E Q q=>Ao ho hd hf hw ?_) (fun s ho A E Q q=>Ao ho hd hf hw ?_)) (st0 (fun _=>0) rfl) a1 (a2.trans pl) fun k=>?_
   ·rw [Ö,Ŵ] at hv
    cases e:(pickOrder (w.params.setOrder a ep) es)[i]? with
    | none=>rw [e] at hv; cases hv
    | some x=>rw [e] at hv; cases hv; exact q
   ·rw [Array.getElem?_eq_none (by rw [← ñ,pl]; exact Ò _)]
    exact q
   ·rw [hm k,← a3 k]
    exact⟨fun ⟨e,he,y⟩=>⟨e,pm.mem_iff.mpr he,y⟩,fun ⟨e,he,y⟩=>⟨e,pm.mem_iff.mp he,y⟩⟩
  ·have hw:w.params.followText "set-order"=false:=by simpa using hw
   have np:(!t.plain&&decide (es.size > 1))=false:=by
    rw [hw] at z
    simpa using z
   obtain⟨ns,a1,a2,a3⟩:=gG hel
   have bl:∀ i,i<=es.size->ĝ t.place (if i=0 then 0 else t.place.getD (i - 1) 0+1)=i:=fun i hi=>by
    by_cases c:i=0
    ·rw [if_pos c,Aa g.asc,c]
    ·rw [if_neg c]
     have h1:i - 1<t.place.size:=by omega
     have e:t.place.getD (i - 1) 0=t.place[i - 1]:=by simp [h1]
     rw [e,Ab g.asc h1]
     omega
   refine q _ s.drawn s.heap.objs.size [s.heap.objs.size,a] (es.toList.map (·.2)) ns _ (Ò _) two (fun b o e=>È _ e) (qP (sl:=fun i=>if i=0 then 0 else t.place.getD (i - 1) 0+1) hh ne hd hf (by simp) (fun i v s hv ho A E Q q=>Aq ho hd hf hw np g ?_) (fun s ho A E Q q=>Aq ho hd hf hw np g ?_)) (st0 (fun i=>if i=0 then 0 else t.place.getD (i - 1) 0+1) rfl) a1 (by simpa using a2) fun k=>(hm k).trans (a3 k)
   ·have hi:i<es.size:=by
     have:=(É.mp hv).1
     simpa using this
    have h1:i<t.place.size:=by omega
    rw [bl i (by omega),ĥ hi,ĥ h1]
    have ev:v=es[i].2:=by
     rw [Ö,Ŵ,ĥ hi] at hv
     cases hv
     rfl
    subst ev
    have e2:t.place.getD (i+1 - 1) 0=t.place[i]:=by simp [h1]
    rw [if_neg (by omega),e2] at q
    exact q
   ·rw [bl es.size (by omega),Array.getElem?_eq_none (Ò _)]
    exact q
end
end L2
namespace L2
open PySem PySem.Spec PyProof.Rows
section
variable {P:Program}{w:World}{A:Around}{E:Value->Shared->Prop}{s:Shared}{a:Addr}{S:Int->Bool}{n:Nat}
theorem dB.ty (h:dB P w s.heap a S n):s.TypeIs (.ref a) "set":=let ⟨o,_,_,_,ho,hx,_⟩:=h; ⟨o,ho,hx.1⟩
theorem dB.lt {h:Heap} (x:dB P w h a S n):a<h.objs.size:=let ⟨_,_,_,_,ho,_⟩:=x; Ê ho
theorem G7 {Q:Bool->Shared->Prop} (hT:s.TypeIs (.ref a) "set") (h:Q false s):wpAny (model P w) A (Builtin.List.listLengthHint (.ref a)) Q E s:=by
 unfold Builtin.List.listLengthHint
 refine À (wpAny_specialOf hT PySem.F.slot_set_len.lookup ?_)
 generalize hid:("set.__len__":String)=d0
 wp_delta
 rw [show splitId d0=some ("set","__len__") from by subst hid; decide +kernel]
 subst hid
 refine À (wpAny_isInstance (T:="set") (b:=true) hT sub_set_self ?_)
 refine wpAny_ite_split (fun z=>absurd z (by decide)) (fun _=>?_)
 refine wpAny_ite_split (fun _=>?_) (fun z=>absurd (by decide +kernel) z)
 exact À (wpAny_typeOf hT (Å h))
theorem JZ {R:Result->Shared->Prop} (hS:dB P w s.heap a S n) (hh:A.handled=none) (D:Addr) (hD:D≠a) (res:Value) (c0:Nat) (hl:s.heap.get? D=some { cls:=.type "list",data:=.seq #[] c0 }) (hn:n<=sizeLine)
  (q:∀ (h':Heap) (d:_) (tk:Nat) (acc:Array Value) (c:Nat) (vs:List Value) (ns:List Int),(∀ b o,b≠D->s.heap.get? b=some o->h'.get? b=some o)->h'.get? D=some { cls:=.type "list",dict:=none,data:=.seq acc c,slots:=#[] }->ItemsOf (fun i v=>vs[i]?=some v) acc n->IntsAre vs ns->ns.length=n->(∀ k,S k=true↔k∈ns)->R (.ok (.ret res)) { s with heap:=h',drawn:=d,toks:=tk }) :
  wpAny (model P w) A.in1 (Ĩ (.ref D) (.ref a) res) (fun fin s'=>match fin with | .done f=>R (.ok f) s' | .again c'=>c'.quiet=true/\codeAny (model P w) A c' R s') (fun e s'=>R (.error e) s') s:=by
 have lD:=Ê hl
 unfold Ĩ
 refine À (wpAny_typeOf (T:="set") hS.ty ?_)
 have h1:Builtin.List.listSameRef (.ref D) (.ref a)=false:=by simp [Builtin.List.listSameRef,hD]
 simp only [h1,show (Ă "set" == Ă "list")=false by decide,show (Ă "set" == Ă "tuple")=false by decide,Bool.or_false,ì,if_false]
 refine À (Cy (A:=A.in1) hS hh fun h1 d1 I fp vs ns St hI hf hk W st a1 a2 a3=>?_)
 have nf:D∉fp:=fun z=>(hf D z).elim hD fun y=>ď _ (è lD y)
 have lp:∀ (h:Heap) (c1 tk:Nat),St 0 h->(∀ b o,b≠D->s.heap.get? b=some o->h.get? b=some o)->h.get? D=some { cls:=.type "list",data:=.seq #[] c1 }->codeAny (model P w) A (.builtin "list.extend.loop" ⟨[.ref D,.ref I,res],[]⟩) R { s with heap:=h,drawn:=d1,toks:=tk }:=by
  intro h c1 tk st kp hD1
  refine codeAny_extend_loopS W.toS hn D nf res n 0 _ #[] c1 rfl (Č _) st hD1 (ItemsOf.nil _) fun s' acc c m hS' ha=>?_
  rw [Moved.eq_with m]
  refine q s'.heap d1 s'.toks acc c vs ns (fun b o hb e=>m.heap b o (fun z=>?_) (kp b o hb e)) hS' ha a1 a2 a3
  rcases Þ.mp z with y | y
  ·exact hb y
  ·rw [Ì.mp y] at e
   exact absurd (Ê e) (Nat.not_lt.mpr hI)
 have hS1:=hS.at (h':=h1) fun o e=>hk a o e
 have hl1:=hk _ _ hl
 refine À (ò (G7 hS1.ty ?_))
 refine wpAny_ite_split (fun _=>?_) (fun _=>Å ⟨ł ś _,lp _ c0 _ st (fun b o _ e=>hk b o e) hl1⟩)
 refine À (wpAny_rule (À ?_))
 refine À (m:=updateSeq D (·.push .none)) (wpAny_updateSeq hl1 rfl ?_)
 have hl2:=Ď (ß (·.push Ą)) hl1 rfl
 refine wpAny_updateSeq (hz:=by seq_fits) hl2 rfl ?_
 have hl3:=Ď (ß (·.pop)) hl2 rfl
 have ot:∀ b o,b≠D->h1.get? b=some o->((h1.update D (ß (·.push Ą))).update D (ß (·.pop))).get? b=some o:=fun b o hb e=>(Ĉ _ _ (č hb)).trans ((Ĉ _ _ (č hb)).trans e)
 exact Å ⟨ł ś _,lp _ _ _ (W.frame 0 _ _ st fun b hb o e=>ot b o (fun z=>nf (z ▸ hb)) e) (fun b o hb e=>ot b o hb (hk b o e)) hl3⟩
theorem w6 {R:List Value->Shared->Prop} (hS:dB P w s.heap a S n) (hh:A.handled=none) (hn:n<=sizeLine)
  (q:∀ (h':Heap) (d:_) (tk:Nat) (acc:Array Value) (vs:List Value) (ns:List Int),s.heap.objs.size<h'.objs.size->(∀ b o,s.heap.get? b=some o->h'.get? b=some o)->ItemsOf (fun i v=>vs[i]?=some v) acc n->IntsAre vs ns->ns.length=n->(∀ k,S k=true↔k∈ns)->R acc.toList { s with heap:=h',drawn:=d,toks:=tk }) :
  wpAny (model P w) A (collect (.ref a)) R E s:=by
 unfold collect
 refine À (wpAny_runValue (Ė entry_proto_collect' ?_))
 rw [ĉ PySem.F.plain_proto_collect _]
 refine À (m:=newList []) (ĕ ?_)
 refine Å ⟨ł PySem.F.plain_list_iadd _,Ė entry_list_iadd' ?_⟩
 rw [ĉ PySem.F.plain_list_iadd _]
 have hD:(s.heap.push { cls:=.type "list",data:=.seq ([]:List Value).toArray }).get? s.heap.objs.size=some { cls:=.type "list",data:=.seq #[] }:=Ô _ rfl
 have key:=JZ (A:=A) (s:={ s with heap:=s.heap.push { cls:=.type "list",data:=.seq ([]:List Value).toArray } }) (R:=fun (r:Result) (s':Shared)=>∃ (h':Heap) (d:_) (tk:Nat) (acc:Array Value) (c:Nat) (vs:List Value) (ns:List Int),r=.ok (.ret (.ref s.heap.objs.size))/\s'={ s with heap:=h',drawn:=d,toks:=tk } /\
   (∀ b o,s.heap.get? b=some o->h'.get? b=some o)/\h'.get? s.heap.objs.size=some { cls:=.type "list",dict:=none,data:=.seq acc c,slots:=#[] }/\ItemsOf (fun i v=>vs[i]?=some v) acc n/\IntsAre vs ns/\ns.length=n/\∀ k,S k=true↔k∈ns)
  (hS.at fun o e=>È _ e) hh s.heap.objs.size (ħ hS.lt) (.ref s.heap.objs.size) 0 hD hn
  (fun h' d tk acc c vs ns hk hS' ha a1 a2 a3=>⟨h',d,tk,acc,c,vs,ns,rfl,rfl,fun b o e=>hk b o (Õ (Ê e)) (È _ e),hS',ha,a1,a2,a3⟩)
 refine Ĳ key (fun fin s' x=>?_) fun e s' x=>?_
 ·cases fin with
  | done f =>
   obtain⟨h',d,tk,acc,c,vs,ns,e,rfl,hk,hS',ha,a1,a2,a3⟩:=x
   cases e
   refine À (m:=load s.heap.objs.size) (wpAny_load hS' ?_)
   exact Å (q h' d tk acc vs ns (Ê hS') hk ha a1 a2 a3)
  | again c1 =>
   refine⟨x.1,codeAny_mono x.2 fun r s2 y=>?_⟩
   obtain⟨h',d,tk,acc,c,vs,ns,rfl,rfl,hk,hS',ha,a1,a2,a3⟩:=y
   refine À (m:=load s.heap.objs.size) (wpAny_load hS' ?_)
   exact Å (q h' d tk acc vs ns (Ê hS') hk ha a1 a2 a3)
 ·obtain⟨_,_,_,_,_,_,_,e',_⟩:=x
  cases e'
theorem yc {Q:Value->Shared->Prop} (hS:dB P w s.heap a S n) (hh:A.handled=none) (hn:n<64)
  (q:∀ (h':Heap) (d:_) (tk:Nat) (D:Addr) (e:Nat) (out:Array Value) (ns ns':List Int),s.heap.objs.size<=D->(∀ b o,s.heap.get? b=some o->h'.get? b=some o)->h'.get? D=some { cls:=.type "list",data:=.seq out e }->IntsAre out.toList ns'->ns'.Perm ns->ns'.Pairwise (·<=·)->ns.length=n->(∀ k,S k=true↔k∈ns)->Q (.ref D) { s with heap:=h',drawn:=d,toks:=tk }) :
  wpAny (model P w) A (call (.builtin "sorted") [.ref a]) Q E s:=by
 have h24:=ç
 refine Calls.call_function_entry kind_sorted plain_sorted entry_sorted (args_sorted1 _) ?_
 unfold Builtin.«sorted»
 refine À (m:=checkCount "sorted" 1 1 _) (Å ?_)
 refine À (w6 (A:=A.in1) hS hh (by omega) fun h1 d tk acc vs ns hsz hk hacc a1 b1 b2=>?_)
 have la:acc.toList.length=n:=by rw [ñ]; exact hacc.1
 have lv:vs.length=n:=by rw [IntsAre.length a1,b1]
 have ev:acc.toList=vs:=List.ext_getElem? fun j=>by
  by_cases c:j<n
  ·have e:acc.toList[j]?=some (acc.toList[j]'(by omega)):=Ä _
   rw [e]
   exact (hacc.2 j _ (by rw [← Ŵ]; exact e)).symm
  ·rw [List.getElem?_eq_none (by omega),List.getElem?_eq_none (by omega)]
 rw [← ev] at a1
 have hz:s.heap.objs.size<=h1.objs.size:=Nat.le_of_lt hsz
 refine À (wpAny_newList ?_ (by omega))
 have hoL:(h1.push (seqObj "list" acc.toList.toArray 0)).get? h1.objs.size=some (seqObj "list" acc.toList.toArray 0):=Ô _ rfl
 refine À (ò (ü slot_list_sort ⟨_,hoL,rfl⟩ entry_list_sort (list_sort_tree hoL a1 (by omega) fun out ns' c1 c2 c3=>⟨_,rfl,?_⟩) (args_list_sort _)))
 obtain⟨e,he⟩:=sortedHeap_at (out:=out) hoL
 refine Å ⟨_,rfl,q _ d tk h1.objs.size e out ns ns' hz (fun b o z=>?_) he c1 c2 c3 b1 b2⟩
 have z1:=hk b o z
 have lt:b<h1.objs.size:=Ê z1
 rw [sortedHeap_old (Õ lt) (by rw [size_push']; exact ô lt)]
 exact È _ z1
end
end L2
namespace L2
open PySem PyProof.Rows
theorem Bl:∀ {l m:List Int},l.Nodup->(∀ x∈l,x∈m)->m.length<=l.length->l.Perm m
 | [],m,_,_,h=>by rw [ū (Nat.le_zero.mp h)]
 | x::l,m,nd,sub,h=>by
  have hx:=sub x Ï
  have hp:=List.perm_cons_erase hx
  have hl:=hp.length_eq
  rw [õ] at hl h
  rw [List.nodup_cons] at nd
  refine (List.Perm.cons x (Bl nd.2 (fun y hy=>?_) (by omega))).trans hp.symm
  exact (List.mem_erase_of_ne (show y≠x from fun z=>nd.1 (z ▸ hy))).mpr (sub y (Í _ hy))
theorem n6:∀ (ns acc:List Int),acc.Nodup->(ns.foldl step_dedup acc).Nodup/\∀ x,x∈ns.foldl step_dedup acc↔x∈acc\/x∈ns
 | [],acc,h=>⟨h,fun x=>by simp⟩
 | n::ns,acc,h=>by
  rw [List.foldl_cons]
  by_cases hn:n∈acc
  ·have e:step_dedup acc n=acc:=by
    unfold step_dedup
    rw [if_pos (List.any_eq_true.mpr ⟨n,hn,by simp⟩)]
   rw [e]
   obtain⟨a,b⟩:=n6 ns acc h
   refine⟨a,fun x=>(b x).trans ?_⟩
   rw [Þ]
   exact⟨fun z=>z.imp id .inr,fun z=>z.elim .inl fun y=>y.elim (fun y=>.inl (y ▸ hn)) .inr⟩
  ·have e:step_dedup acc n=acc++[n]:=by
    unfold step_dedup
    rw [if_neg (fun z=>by
     obtain⟨x,hx,ex⟩:=List.any_eq_true.mp z
     have:x=n:=by simpa using ex
     exact hn (this ▸ hx))]
   rw [e]
   obtain⟨a,b⟩:=n6 ns (acc++[n]) (List.nodup_append.mpr ⟨h,by simp,fun x hx y hy=>by rw [Ì.mp hy]; exact fun z=>hn (z ▸ hx)⟩)
   refine⟨a,fun x=>(b x).trans ?_⟩
   rw [é,Ì,Þ,or_assoc]
theorem yR {l m:List Int} (nd:l.Nodup) (p:m.Perm l) (h:m.Pairwise (·<=·)):m.Pairwise (·<·):=by
 have nm:=p.nodup_iff.mpr nd
 exact (List.pairwise_and_iff.mpr ⟨h,nm⟩).imp fun {x y} ⟨a,b⟩=>by omega
section
variable {X:Cx}{pins:List (Addr×Obj)}{σ:List (Option V)}{H:Hp}{s:Shared}
theorem Inv.drew (I:Inv X pins σ H s) (d:Drawn):Inv X pins σ H { s with drawn:=d }:=⟨I.ok,I.os,I.bare,I.base,I.loc,I.cell,I.free,I.freeC,I.pin,I.hok,I.len⟩
def Kf (P:Program) (w:World) (a:Addr) (ns:List Int):HO:=.ext fun h=>dB P w h a (fun j=>(once ns).any (· == j)) (once ns).length
theorem Ea (hc:X.calm=true):bx X (.type "set") (fun xs H Q=>∃ p ns,xs=[.ref p]/\SqL X.K H p (ns.map V.int)/\ns.length<=1000/\∀ l,H l=none->Q (.ref l) (upd H l (Kf X.prog X.w l ns))):=by
 intro pins s σ H xs us Q I r h
 obtain⟨p,ns,rfl,hq,hl,q⟩:=h
 obtain⟨u,rfl,rx⟩:=vals1 r
 cases rx
 obtain⟨its,r',pl,hz⟩:=I.list hq
 have hlen:=r'.length
 rw [Á] at hlen
 refine Cz (its:=its.toArray) (ns:=ns) (I.ok.hd hc) pl.isList (by simpa using wL r') ?_ fun h' tk st k=>?_
 ·show its.toArray.size+1<scanBound
  rw [Î,← hlen]
  exact Nat.lt_of_le_of_lt (Nat.add_le_add_right hl 1) (by decide)
 ·rw [zy ns (by rw [Î,← hlen])] at st
  exact⟨.ref s.heap.objs.size,_,I.laid (o:=Kf X.prog X.w s.heap.objs.size ns) (t':=tk) (fun b o e=>k b o (Ê e) e) (Ò _) ⟨st,(let ⟨o,_,_,_,ho,_⟩:=st; ⟨o,ho⟩),fun h1 h2 x k=>x.at k⟩,rfl,q _ (I.hok.fresh (Ò _))⟩
theorem uQ (hc:X.calm=true):bx X (.builtin "sorted") (fun xs H Q=>∃ (p:Addr) (ns:List Int),xs=[.ref p]/\H p=some (Kf X.prog X.w p ns)/\(once ns).length<64 /\
  ∀ (l:Addr) (out:List Int),H l=none->out.Pairwise (·<·)->(∀ x,x∈out↔x∈ns)->Q (.ref l) (upd H l (.lst (out.map V.int)))):=by
 intro pins s σ H xs us Q I r h
 obtain⟨p,ns,rfl,hp,h64,q⟩:=h
 obtain⟨u,rfl,rx⟩:=vals1 r
 cases rx
 obtain⟨sw,_,_⟩:=I.hok p _ hp
 obtain⟨nd,mm⟩:=n6 ns [] List.nodup_nil
 refine yc sw (I.ok.hd hc) h64 fun h' d tk D e out ns1 ns' hD hk he a1 a2 a3 a4 a5=>?_
 have pm:(once ns).Perm ns1:=Bl nd (fun x hx=>(a5 x).mp (List.any_eq_true.mpr ⟨x,hx,by simp⟩)) (Nat.le_of_eq a4)
 have hv:=fu a1
 have hpl:=a2.length_eq
 have h24:=ç
 have hlt:=yR (pm.nodup_iff.mp nd) a2 a3
 refine⟨.ref D,upd H D (.lst (ns'.map V.int)),(I.drew d).laid (fun b o eb=>hk b o eb) hD ⟨?_,out.toList,e,hv,by simpa using he⟩,rfl,q _ _ (I.hok.fresh hD) hlt fun x=>?_⟩
 ·rw [Á]
  omega
 ·rw [a2.mem_iff,← pm.mem_iff]
  exact (mm x).trans ⟨fun z=>z.elim (fun y=>nomatch y) id,.inr⟩
end
theorem Gn (ns:List Int) {n:Nat} (h:∀ x∈ns,0<=x/\x<(n:Int)):(once ns).length<=n:=by
 obtain⟨nd,mm⟩:=n6 ns [] List.nodup_nil
 have h1:((once ns).map Int.toNat).Nodup:=Ţ.mpr (List.Pairwise.imp_of_mem (fun {a b} ha hb ne=>by
  have q1:=h a (((mm a).mp ha).elim (fun z=>nomatch z) id)
  have q2:=h b (((mm b).mp hb).elim (fun z=>nomatch z) id)
  omega) nd)
 have h2:((once ns).map Int.toNat).length<=(Ë n).length:=by
  refine List.Nodup.length_le_of_subset h1 fun x hx=>?_
  obtain⟨y,hy,rfl⟩:=ą.mp hx
  have q1:=h y (((mm y).mp hy).elim (fun z=>nomatch z) id)
  exact ã.mpr (by omega)
 rwa [Á,à] at h2
end L2
namespace Dl
open PySem L2 PyProof.Rows
variable [Gr]
section
variable {X:Cx}{pos pos':Pos}{a:Expr}{t:DA}
def wQ:GC:=fun ks P=>∃ k ns,ks=[(k,.list (ns.map Ç))]/\ns.length<=1000/\(once ns).length<64/\∀ out:List Int,out.Pairwise (·<·)->(∀ x,x∈out↔x∈ns)->P .new (.list (out.map Ç))
theorem jw {ps ps':Pos} (hc:X.calm=true) (hs:X.mg "set"=none) (hl:X.mg "sorted"=none) (ha:PDA X [a] t) (hgs:Gl X "set":=by rfl) (hgl:Gl X "sorted":=by rfl)
  (he:zS X a []:=by rfl) (hpl:zP X pos []:=by rfl)
  (he':starEach [Expr.Call (.Name "set" ps) [a] [] pos] X.env=(false,eval (Expr.Call (.Name "set" ps) [a] [] pos) X.env)::starEach [] X.env:=by rfl) (hpl':(backTo pos' (starEach [] X.env)).any (·.1)=false:=by rfl) :
  PD X (.Call (.Name "sorted" ps') [.Call (.Name "set" ps) [a] [] pos] [] pos') (tCl wQ t) :=
 PE.wk (cG (uQ hc) hgl hl boot_sorted (bN (rB (Ea hc) hgs hs boot_set ha (by decide) (by decide) he hpl) dY he') (by decide) (by decide) he' hpl') (by
  rintro σ H Q ⟨p,H0,own,ρ,P,E,t,q⟩
  refine⟨p,H0,own,ρ,_,E,t,fun ks vs H1 h A r=>?_⟩
  obtain⟨k,ns,rfl,hn,hf,h⟩:=h
  obtain⟨v,rfl,r'⟩:=cD r
  obtain⟨c,ws,rfl,o,hc',rs⟩:=r'.bF
  have ew:=rs.ints
  subst ew
  refine⟨c,ns,rfl,SqL.of hc',hn,fun l hl'=>?_⟩
  obtain⟨k2,i2,nw⟩:=A.new hl' (Kf X.prog X.w l ns)
  refine⟨l,ns,rfl,ao,hf,fun l2 out h2 h3 h4=>?_⟩
  obtain⟨k3,i3,nw3⟩:=(A.go k2 i2).new h2 (.lst (out.map V.int))
  exact q _ _ _ _ (h out h3 h4) ((A.go k2 i2).go k3 i3) (.lst nw3 ao (Rps.ofMap (fun i=>.int i) out)))
end
end Dl
namespace Wr
open PySem L2 PyProof.Rows Dl
section
variable [Gr] {X:Cx}{pos pos':Pos}{a:Expr}{t:DA}
theorem jw {ps ps':Pos} (hc:X.calm=true) (hs:X.mg "set"=none) (hl:X.mg "sorted"=none) (ha:WDA X [a] t) (hgs:Gl X "set":=by rfl) (hgl:Gl X "sorted":=by rfl)
  (he:zS X a []:=by rfl) (hpl:zP X pos []:=by rfl)
  (he':starEach [Expr.Call (.Name "set" ps) [a] [] pos] X.env=(false,eval (Expr.Call (.Name "set" ps) [a] [] pos) X.env)::starEach [] X.env:=by rfl) (hpl':(backTo pos' (starEach [] X.env)).any (·.1)=false:=by rfl) :
  WD X (.Call (.Name "sorted" ps') [.Call (.Name "set" ps) [a] [] pos] [] pos') (tCl wQ t):=⟨Dl.jw hc hs hl ha.h hgs hgl he hpl he' hpl'⟩
end
end Wr
namespace L2
open PySem PySem.Spec PyProof.Rows
open PySem.AutoSeq1 (wpAny_loadPart')
open PySem.MeetsSeq PySem.MeetsSeq3
def pR:List Int->List Int->Bool
 | [],[]=>false
 | [],_::_=>true
 | _::_,[]=>false
 | x::a,y::b=>if x=y then pR a b else decide (x<y)
theorem lex_nil (b:List Int):pR [] b=decide (0<b.length):=by cases b <;> rfl
theorem ints_get:∀ {vs:List Value}{ns:List Int},IntsAre vs ns->∀ {i:Nat}{x:Int},ns[i]?=some x->∃ t,vs[i]?=some (.int x t)
 | _,_,.nil,i,x,e=>by simp at e
 | _,_,.cons y t r,0,x,e=>by
  have e:some y=some x:=e
  cases e
  exact⟨t,rfl⟩
 | _,_,.cons y t r,i+1,x,e=>by
  obtain⟨t',h⟩:=ints_get r (i:=i) (x:=x) (by simpa using e)
  exact⟨t',by simpa using h⟩
theorem BK {items:Array Value}{ns:List Int} (h:IntsAre items.toList ns) {i:Nat}{x:Int} (hx:ns[i]?=some x):∃ t,items[((i:Nat):Int).toNat]?=some (.int x t):=by
 obtain⟨t,e⟩:=ints_get h hx
 exact⟨t,by simpa using e⟩
theorem Jz (l b:Addr) (items items2:Array Value) (n n2:Nat) (dd dd2:Option Addr) (sl sl2:Array (Option Value)) (ns ms:List Int) (h1:IntsAre items.toList ns) (h2:IntsAre items2.toList ms) (k:Nat) :
  ∀ i:Nat,i<=ns.length->i<=ms.length->ns.length - i=k->Meets (Builtin.«list.__eq__.loop» ⟨[.ref l,.ref b,rawInt i,rawInt 0],[]⟩)
   (fun _ R s=>s.heap.get? l=some { cls:=.type "list",dict:=dd,data:=.seq items n,slots:=sl }/\s.heap.get? b=some { cls:=.type "list",dict:=dd2,data:=.seq items2 n2,slots:=sl2 } /\
    R (.ok (.ret (.bool (pR (ns.drop i) (ms.drop i))))) s):=by
 have s1:items.size=ns.length:=by have:=h1.length; simpa using this
 have s2:items2.size=ms.length:=by have:=h2.length; simpa using this
 induction k with
 | zero =>
  intro i i1 i2 hk prog w A R s h
  obtain⟨hp,g,d,tk,os⟩:=s; obtain⟨hl,hb,h⟩:=h
  wp_walk using Ċ hl,Ċ hb
  have hi1:items[((i:Nat):Int).toNat]?=none:=by simp; omega
  rw [hi1]
  have hd:ns.drop i=[]:=List.drop_eq_nil_of_le (by omega)
  rw [hd,lex_nil] at h
  wp_walk using Ċ hl,Ċ hb
  show R (.ok (.ret (.bool (decide (items.size<items2.size))))) _
  have e:decide (items.size<items2.size)=decide (0<(ms.drop i).length):=by
   rw [ŕ]
   exact decide_eq_decide.mpr (by omega)
  rw [e]
  exact h
 | succ k ih =>
  intro i i1 i2 hk prog w A R s h
  obtain⟨hp,g,d,tk,os⟩:=s; obtain⟨hl,hb,h⟩:=h
  wp_walk using Ċ hl,Ċ hb
  have hlt:i<ns.length:=by omega
  have hx:=Ä hlt
  have dx:ns.drop i=ns[i]::ns.drop (i+1):=ŝ hlt
  rw [dx] at h
  generalize ns[i]=x at hx h
  obtain⟨t,ex⟩:=BK h1 hx
  rw [ex]
  by_cases hlt2:i<ms.length
  ·have hy:=Ä hlt2
   have dy:ms.drop i=ms[i]::ms.drop (i+1):=ŝ hlt2
   rw [dy] at h
   generalize ms[i]=y at hy h
   obtain⟨u,ey⟩:=BK h2 hy
   rw [ey]
   have hc:((i:Int)+1)=((i+1:Nat):Int):=by push_cast; rfl
   have h:R (.ok (.ret (.bool (if x=y then pR (ns.drop (i+1)) (ms.drop (i+1)) else decide (x<y))))) _:=h
   refine À (wpAny_eqBool_int ?_)
   by_cases exy:x=y
   ·subst exy
    rw [if_pos rfl] at h
    rw [beq_self_eq_true]
    wp_walk
    rw [hc]
    exact⟨ł plain_eq_loop _,Ė entry_eq_loop (by
     rw [ĉ plain_eq_loop _]
     exact ih (i+1) (by omega) (by omega) (by omega) prog w A R _ ⟨hl,hb,h⟩)⟩
   ·rw [if_neg exy] at h
    rw [beq_eq_false_iff_ne.mpr exy]
    wp_walk using Ċ hl,Ċ hb
    rw [ex,ey]
    refine À ?_
    show wpAny _ _ (compareOp .Lt (.int x t) (.int y u)) _ _ _
    exact PyProof.Rows.lt_int (Å h)
  ·have hi2:items2[((i:Nat):Int).toNat]?=none:=by simp; omega
   rw [hi2]
   have hd:ms.drop i=[]:=List.drop_eq_nil_of_le (by omega)
   rw [hd] at h
   have h:R (.ok (.ret (.bool false))) _:=h
   wp_walk using Ċ hl,Ċ hb
   show R (.ok (.ret (.bool (decide (items.size<items2.size))))) _
   rw [decide_eq_false (by omega)]
   exact h
theorem JF (l b:Addr) (items items2:Array Value) (n n2:Nat) (dd dd2:Option Addr) (sl sl2:Array (Option Value)) (ns ms:List Int) (h1:IntsAre items.toList ns) (h2:IntsAre items2.toList ms) :
  Meets (Builtin.«list.__lt__» ⟨[.ref l,.ref b],[]⟩)
   (fun _ R s=>s.heap.get? l=some { cls:=.type "list",dict:=dd,data:=.seq items n,slots:=sl }/\s.heap.get? b=some { cls:=.type "list",dict:=dd2,data:=.seq items2 n2,slots:=sl2 } /\
    R (.ok (.ret (.bool (pR ns ms)))) s):=by
 intro prog w A R s h
 obtain⟨hp,g,d,tk,os⟩:=s; obtain⟨hl,hb,h⟩:=h
 have f3:=AutoSeq1.sub_list_list
 wp_walk using Ċ hl,Ċ hb
 exact⟨ł plain_eq_loop _,Ė entry_eq_loop (by
  rw [ĉ plain_eq_loop _]
  exact Jz l b items items2 n n2 dd dd2 sl sl2 ns ms h1 h2 _ 0 (Č _) (Č _) rfl prog w A R _ ⟨hl,hb,h⟩)⟩
def aG:Nat->List Int->Int
 | 0,_=>0
 | _+1,[]=>0
 | k+1,x::l=>(x+1) * 64 ^ k+aG k l
def cP (l:List Int):Prop:=l.length<=40/\∀ x∈l,0<=x/\x<62
theorem fH (k:Nat):(0:Int)<64 ^ k:=Int.pow_pos (by decide)
theorem iJ:∀ (k:Nat) (l:List Int),(∀ x∈l,0<=x/\x<62)->0<=aG k l/\aG k l<64 ^ k
 | 0,l,_=>⟨ŭ _,by show (0:Int)<64 ^ 0; decide⟩
 | k+1,[],_=>⟨ŭ _,fH _⟩
 | k+1,x::l,h=>by
  obtain⟨h1,h2⟩:=iJ k l fun y hy=>h y (Í _ hy)
  have hx:=h x Ï
  have p:=fH k
  have e:(64:Int) ^ (k+1)=64 ^ k * 64:=Int.pow_succ ..
  show 0<=(x+1) * 64 ^ k+aG k l/\(x+1) * 64 ^ k+aG k l<64 ^ (k+1)
  rw [e]
  generalize (64:Int) ^ k=M at *
  have a1:0<=(x+1) * M:=Int.mul_nonneg (by omega) (by omega)
  have a2:(x+1) * M<=62 * M:=Int.mul_le_mul_of_nonneg_right (by omega) (by omega)
  omega
theorem kO:∀ (k:Nat) (a b:List Int),a.length<=k->b.length<=k->(∀ x∈a,0<=x/\x<62)->(∀ x∈b,0<=x/\x<62)->pR a b=decide (aG k a<aG k b)
 | 0,[],[],_,_,_,_=>rfl
 | k+1,[],[],_,_,_,_=>rfl
 | k+1,[],y::b,_,_,_,hb=>by
  have h1:=(iJ k b fun z hz=>hb z (Í _ hz)).1
  have hy:=hb y Ï
  have p:=fH k
  have e:(0:Int)<(y+1) * 64 ^ k+aG k b:=by
   have:0<(y+1) * 64 ^ k:=Int.mul_pos (by omega) p
   omega
  exact (decide_eq_true e).symm
 | k+1,x::a,[],_,_,ha,_=>by
  have h1:=(iJ k a fun z hz=>ha z (Í _ hz)).1
  have hx:=ha x Ï
  have p:=fH k
  have e:¬ (x+1) * 64 ^ k+aG k a<0:=by
   have:0<(x+1) * 64 ^ k:=Int.mul_pos (by omega) p
   omega
  exact (decide_eq_false e).symm
 | k+1,x::a,y::b,la,lb,ha,hb=>by
  have ih:=kO k a b (by simpa using la) (by simpa using lb) (fun z hz=>ha z (Í _ hz)) fun z hz=>hb z (Í _ hz)
  have h1:=iJ k a fun z hz=>ha z (Í _ hz)
  have h2:=iJ k b fun z hz=>hb z (Í _ hz)
  have p:=fH k
  show (if x=y then pR a b else decide (x<y))=decide ((x+1) * 64 ^ k+aG k a<(y+1) * 64 ^ k+aG k b)
  generalize (64:Int) ^ k=M at *
  by_cases e:x=y
  ·subst e
   rw [if_pos rfl,ih]
   exact decide_eq_decide.mpr (by omega)
  ·rw [if_neg e]
   refine decide_eq_decide.mpr ⟨fun h=>?_,fun h=>?_⟩
   ·have a2:(x+1+1) * M<=(y+1) * M:=Int.mul_le_mul_of_nonneg_right (by omega) (by omega)
    have a3:(x+1+1) * M=(x+1) * M+M:=by rw [Int.add_mul (x+1) 1 M,Int.one_mul]
    omega
   ·by_cases hlt:x<y
    ·exact hlt
    ·have a2:(y+1+1) * M<=(x+1) * M:=Int.mul_le_mul_of_nonneg_right (by omega) (by omega)
     have a3:(y+1+1) * M=(y+1) * M+M:=by rw [Int.add_mul (y+1) 1 M,Int.one_mul]
     omega
 | 0,_::_,_,h,_,_,_=>absurd h (Nat.not_succ_le_zero _)
 | 0,[],_::_,_,h,_,_=>absurd h (Nat.not_succ_le_zero _)
theorem Bu:∀ {a b:List Int},pR a b=false->pR b a=false->a=b
 | [],[],_,_=>rfl
 | [],_::_,h,_=>by cases h
 | _::_,[],_,h=>by cases h
 | x::a,y::b,h1,h2=>by
  have h1:(if x=y then pR a b else decide (x<y))=false:=h1
  have h2:(if y=x then pR b a else decide (y<x))=false:=h2
  by_cases e:x=y
  ·subst e
   rw [if_pos rfl] at h1 h2
   rw [Bu h1 h2]
  ·rw [if_neg e] at h1
   rw [if_neg (fun z=>e z.symm)] at h2
   have:=of_decide_eq_false h1
   have:=of_decide_eq_false h2
   omega
theorem Dm {a b:List Int} (ha:cP a) (hb:cP b) (h:aG 40 a=aG 40 b):a=b:=by
 refine Bu ?_ ?_
 ·rw [kO 40 a b ha.1 hb.1 ha.2 hb.2,h]
  exact decide_eq_false (Int.lt_irrefl _)
 ·rw [kO 40 b a hb.1 ha.1 hb.2 ha.2,h]
  exact decide_eq_false (Int.lt_irrefl _)
theorem DW {us vs:List (List Int)} (hp:us.Perm vs) (h1:us.Pairwise fun a b=>aG 40 a<=aG 40 b) (h2:vs.Pairwise fun a b=>aG 40 a<=aG 40 b) (hn:∀ l∈us,cP l):us=vs:=by
 have e:us.map (aG 40)=vs.map (aG 40):=W.ksm_same (hp.map _) (by rw [Ţ]; exact h1) (by rw [Ţ]; exact h2)
 have hn2:∀ l∈vs,cP l:=fun l hl=>hn l (hp.mem_iff.mpr hl)
 clear hp h1 h2
 induction us generalizing vs with
 | nil=>cases vs with
  | nil=>rfl
  | cons=>cases e
 | cons a us ih=>cases vs with
  | nil=>cases e
  | cons b vs =>
   rw [ð,ð] at e
   injection e with e1 e2
   rw [Dm (hn a Ï) (hn2 b Ï) e1,ih (fun l hl=>hn l (Í _ hl)) e2 fun l hl=>hn2 l (Í _ hl)]
def gR (h:Heap) (u:Value) (l:List Int):Prop:=∃ a o its n,u=.ref a/\h.get? a=some o/\o.cls=.type "list"/\o.data=.seq its n/\IntsAre its.toList l
theorem gR.keep {h h':Heap}{u:Value}{l:List Int} (x:gR h u l) (k:∀ a o,u=.ref a->h.get? a=some o->h'.get? a=some o):gR h' u l:=by
 obtain⟨a,o,its,n,e,ho,hc,hd,hi⟩:=x
 exact⟨a,o,its,n,e,k a o e ho,hc,hd,hi⟩
theorem Pk {α β:Type}{F G:α->β->Prop}{l₁:List α}{l₂:List β} (h:Paired F l₁ l₂) (f:∀ a b,a∈l₁->F a b->G a b):Paired G l₁ l₂:=by
 induction h with
 | nil=>exact .nil
 | cons r t ih=>exact .cons (f _ _ Ï r) (ih fun a b ha x=>f a b (Í _ ha) x)
theorem Pj {α β:Type}{F:α->β->Prop}{l₁:List α}{l₂:List β} (h:Paired F l₁ l₂):∀ {a:α},a∈l₁->∃ b,b∈l₂/\F a b:=by
 induction h with
 | nil=>intro a ha; cases ha
 | cons r t ih =>
  intro a ha
  rcases Þ.mp ha with rfl | ha
  ·exact⟨_,Ï,r⟩
  ·obtain⟨b,hb,x⟩:=ih ha
   exact⟨b,Í _ hb,x⟩
section
variable {prog:Program}{w:World}{A:Around}{E:Value->Shared->Prop}{s:Shared}
theorem yU {M:Model}{us:List Value}{ts:List (List Int)} (hp:Paired (gR s.heap) us ts) (v:Value) (hv:v∈us):W.Looks M s.heap (typeOf v) (.type "list"):=by
 obtain⟨l,_,a,o,its,n,rfl,ho,hc,_⟩:=Pj hp hv
 exact W.kitAt_ty M _ ⟨o,ho,hc⟩
theorem GF {us:List Value}{ts:List (List Int)} (hp:Paired (gR s.heap) us ts) {u:Value} (hv:u∈us):u≠.ref (s.heap.objs.size+1):=by
 obtain⟨l,_,a,o,its,n,rfl,ho,hc,_⟩:=Pj hp hv
 intro z
 have z:a=s.heap.objs.size+1:=by injection z
 rw [z] at ho
 exact absurd (Ê ho) (Nat.not_lt.mpr (Ę _))
theorem GD {x y:Value}{a b:List Int}{Q:Bool->Shared->Prop} (hu:A.units<cLine) (hx:gR s.heap x a) (hy:gR s.heap y b) (na:cP a) (nb:cP b) (h:Q (decide (aG 40 a<aG 40 b)) s):wpAny (model prog w) A (keyLt' oneType' x y) Q E s:=by
 obtain⟨p,⟨c1,d1,e1,f1⟩,its,n,rfl,ho,hc,hd,hi⟩:=hx
 obtain⟨p',⟨c2,d2,e2,f2⟩,its',n',rfl,ho',hc',hd',hi'⟩:=hy
 simp only at hc hd hc' hd'
 subst hc hd hc' hd'
 rw [← kO 40 a b na.1 nb.1 na.2 nb.2] at h
 rw [keyLt'_oneType,oneLt'_eq]
 simp only [if_true]
 refine À (wpAny_cRoomFor hu ?_)
 refine À (wpAny_callSpecialIfBound?_slot ⟨_,ho,rfl⟩ PySem.F.slot_list_lt (call_meets PySem.F.slot_list_lt ⟨_,ho,rfl⟩ PySem.F.entry_list_lt (PySem.F.args_list_lt_2 _ _) (JF p p' its its' n n' d1 d2 f1 f2 a b hi hi') ⟨ho,ho',?_⟩))
 exact Ń h
theorem yd {a:Addr}{us:List Value}{ts:List (List Int)}{n:Nat}{P:PySem.Fin->Shared->Prop} (ho:s.heap.get? a=some (seqObj "list" us.toArray n))
  (hp:Paired (gR s.heap) us ts) (hna:∀ u∈us,u≠.ref a) (hu:A.units<cLine) (hn:∀ t∈ts,cP t) (h64:us.length<64)
  (h:∀ p:List Nat,p.Perm (Ë us.length)->(∀ i j,i<=j->j<us.length->aG 40 (ts.getD (p.getD i 0) [])<=aG 40 (ts.getD (p.getD j 0) [])) ->
   P (.done (.ret .none)) { s with heap:=sortedHeap s.heap a us (p.map fun i=>us.getD i Ą).toArray }) :
  wpAny (model prog w) A (Builtin.«list.sort» ⟨[.ref a],[]⟩) P E s:=by
 have hlen:=hp.length
 have h24:=ç
 rw [list_sort_plain]
 have ha:a<s.heap.objs.size:=Ê ho
 refine À (listItems_at ho rfl ?_)
 refine À (listUpdate_at ho rfl ?_ (by rw [Î,ç]; omega) (Č _))
 obtain⟨e1,ho1⟩:∃ e1,(s.heap.update a (ß fun _=>(#[]:Array Value))).get? a=some (seqObj "list" #[] e1):=⟨_,get?_update_seq ho (fun _=>#[])⟩
 refine À (seqEpoch_at ho1 rfl ?_)
 refine À (wpAny_newTuple ?_ (by show us.length<=_; rw [ç]; omega))
 refine À (wpAny_newList ?_ (Č _))
 refine ò ?_
 have ho6:(((s.heap.update a (ß fun _=>(#[]:Array Value))).push (seqObj "tuple" us.toArray 0)).push (seqObj "list" #[] 0)).get? a=some (seqObj "list" #[] e1):=by
  rw [Ĥ _ _ _ (by rw [size_push',Ġ]; exact Õ (ô ha)),Ĥ _ _ _ (by rw [Ġ]; exact Õ ha)]
  exact ho1
 have kept:∀ b o,s.heap.get? b=some o->b≠a->(((s.heap.update a (ß fun _=>(#[]:Array Value))).push (seqObj "tuple" us.toArray 0)).push (seqObj "list" #[] 0)).get? b=some o:=fun b o q hne=>by
  have hlt:b<s.heap.objs.size:=Ê q
  rw [Ĥ _ _ _ (by rw [size_push',Ġ]; exact Õ (ô hlt)),Ĥ _ _ _ (by rw [Ġ]; exact Õ hlt),Heap.get?_update_ne _ _ _ _ hne]
  exact q
 show wpAny (model prog w) A _ P E { s with heap:=((s.heap.update a (ß fun _=>(#[]:Array Value))).push (seqObj "tuple" us.toArray 0)).push (seqObj "list" #[] 0) }
 dsimp only
 have hsz:us.toArray.size=us.length:=by simp
 have hp6:Paired (gR (((s.heap.update a (ß fun _=>(#[]:Array Value))).push (seqObj "tuple" us.toArray 0)).push (seqObj "list" #[] 0))) us ts:=Pk hp fun u t hm x=>x.keep fun b o ub q=>kept b o q fun z=>hna u hm (by rw [ub,z])
 by_cases h2:us.toArray.size<2
 ·rw [if_pos h2,if_pos h2]
  refine À (Å ?_)
  rw [StateT.run_pure]
  refine À (Å ?_)
  dsimp only
  have eout:(arrOf (SortSt.mk' general' (us.toArray.zip us.toArray) #[] 7 none)).map (·.2)=((Ë us.length).map fun i=>us.getD i Ą).toArray:=by
   rw [cJ]
   show (us.toArray.zip us.toArray).map (·.2)=us.toArray
   apply Array.toList_inj.mp
   simp
   exact Lr us
  rw [eout]
  refine À (seqEpoch_at ho6 rfl ?_)
  refine À (listUpdate_at ho6 rfl ?_ (Č _) (by rw [Î,Á,à,ç]; omega))
  simp only [bne_self_eq_false,ì,if_false]
  refine Å (h _ (List.Perm.refl _) fun i j hij hj=>?_)
  have:i=j:=by omega
  subst this
  exact ŭ _
 ·rw [if_neg h2,if_neg h2]
  have h2':2<=us.length:=by omega
  refine À (W.kas_kind (T:=.type "list") h2' (fun v hv=>yU (s:={ s with heap:=((s.heap.update a (ß fun _=>(#[]:Array Value))).push (seqObj "tuple" us.toArray 0)).push (seqObj "list" #[] 0) }) hp6 v hv) rfl rfl ?_)
  have hcmp:∀ i j C,i<us.length->j<us.length->C (decide (aG 40 (ts.getD i [])<aG 40 (ts.getD j []))) { s with heap:=((s.heap.update a (ß fun _=>(#[]:Array Value))).push (seqObj "tuple" us.toArray 0)).push (seqObj "list" #[] 0) } ->
    W.kas_cmp prog w A (oneType') (us.toArray.zip us.toArray) i j C { s with heap:=((s.heap.update a (ß fun _=>(#[]:Array Value))).push (seqObj "tuple" us.toArray 0)).push (seqObj "list" #[] 0) }:=fun i j C hi hj hC=>by
   unfold W.kas_cmp
   rw [W.kat_item rfl,W.kat_item rfl]
   have key:∀ k,k<us.length->gR (((s.heap.update a (ß fun _=>(#[]:Array Value))).push (seqObj "tuple" us.toArray 0)).push (seqObj "list" #[] 0)) (us.getD k Ą) (ts.getD k [])/\cP (ts.getD k []):=fun k hk=>by
    have hk':k<ts.length:=by omega
    have ek:ts.getD k []=ts[k]:=by simp [hk']
    obtain⟨u,eu,pu⟩:=Mp hp6 (i:=k) (b:=ts[k]) (by simp [hk'])
    have eu':us.getD k Ą=u:=by rw [ö,eu]; rfl
    rw [ek,eu']
    exact⟨pu,hn _ (į hk')⟩
   exact GD hu (key i hi).1 (key j hj).1 (key i hi).2 (key j hj).2 hC
  have G:=W.kas_runs (prog:=prog) (w:=w) (A:=A) (E:=E) (κ:=oneType') (it:=us.toArray.zip us.toArray) (n:=us.length) (s:={ s with heap:=((s.heap.update a (ß fun _=>(#[]:Array Value))).push (seqObj "tuple" us.toArray 0)).push (seqObj "list" #[] 0) })
   (Q:=fun _ st' s'=>∃ p:Array Nat,s'={ s with heap:=((s.heap.update a (ß fun _=>(#[]:Array Value))).push (seqObj "tuple" us.toArray 0)).push (seqObj "list" #[] 0) }/\arrOf st'=p.map (W.kas_item (us.toArray.zip us.toArray))/\failedOf st'=none/\NfSort.Pm us.length p/\NfSort.Up (fun i=>aG 40 (ts.getD i [])) p us.length)
   (G:=fun p s'=>s'={ s with heap:=((s.heap.update a (ß fun _=>(#[]:Array Value))).push (seqObj "tuple" us.toArray 0)).push (seqObj "list" #[] 0) }/\NfSort.Pm us.length p/\NfSort.Up (fun i=>aG 40 (ts.getD i [])) p us.length) h2' h64 (fun p' st' s' a1 a2 a3 a4=>⟨p',a4.1,a2,a3,a4.2⟩)
   (NfSort.uw hcmp (NfSort.bK (fun p hp=>⟨rfl,hp⟩) (NfSort.Am (by omega))))
  have est:SortSt.mk' (oneType') (us.toArray.zip us.toArray) #[] 7 none=W.kas_st (oneType') (us.toArray.zip us.toArray) (List.toArray (Ë us.length)):=by
   have e:=W.kas_range (us.toArray.zip us.toArray)
   rw [show (us.toArray.zip us.toArray).size=us.length by simp] at e
   show SortSt.mk' (oneType') (us.toArray.zip us.toArray) #[] 7 none=SortSt.mk' (oneType') ((List.toArray (Ë us.length)).map (W.kas_item (us.toArray.zip us.toArray))) #[] 7 none
   rw [e]
  rw [est]
  refine À (Ĳ G ?_ fun _ _ e=>e)
  rintro ⟨⟨⟩,st'⟩ s' ⟨p,rfl,har,hf,hpm,hup⟩
  dsimp only
  have hout:=W.kat_snds (ks:=us) (vs:=us) rfl har
  rw [hout]
  have hsz2:p.size=us.length:=hpm.size
  refine À (seqEpoch_at ho6 rfl ?_)
  refine À (listUpdate_at ho6 rfl ?_ (Č _) (by rw [Î,Á,ñ,hsz2,ç]; omega))
  rw [hf]
  simp only [bne_self_eq_false,ì,if_false]
  refine Å (h p.toList ?_ fun i j hij hj=>?_)
  ·have:=Array.perm_iff_toList_perm.mp hpm
   simpa using this
  ·have q:=hup i j hij hj
   unfold NfSort.kk at q
   have eg:∀ k,p.toList.getD k 0=p.getD k 0:=fun k=>by
    rw [NfSort.getD_eq,ö]
    simp
   rw [eg,eg]
   exact q
theorem sO {l:Addr}{us:List Value}{ts:List (List Int)}{Q:Value->Shared->Prop} (hl:s.heap.IsList l us.toArray\/IsTup s.heap l us.toArray) (hu:A.units+8<cLine) (hp:Paired (gR s.heap) us ts) (hn:∀ t∈ts,cP t) (h64:us.length<64)
  (h:∀ p:List Nat,p.Perm (Ë us.length)->(∀ i j,i<=j->j<us.length->aG 40 (ts.getD (p.getD i 0) [])<=aG 40 (ts.getD (p.getD j 0) [])) ->
   Q (.ref (s.heap.objs.size+1)) { s with heap:=sortedAll s.heap us (p.map fun i=>us.getD i Ą).toArray }) :
  wpAny (model prog w) A (call (.builtin "sorted") [.ref l]) Q E s:=by
 have h24:=ç
 refine Calls.call_function_entry kind_sorted plain_sorted entry_sorted (args_sorted1 _) ?_
 unfold Builtin.«sorted»
 refine À (m:=checkCount "sorted" 1 1 _) (Å ?_)
 have hsz:((s.heap.push (seqObj "list" #[] 0)).update s.heap.objs.size (ß (·++us.toArray))).objs.size=s.heap.objs.size+1:=by
  rw [Ġ,size_push']
 have hoL:(((s.heap.push (seqObj "list" #[] 0)).update s.heap.objs.size (ß (·++us.toArray))).push (seqObj "list" us.toArray 0)).get? (s.heap.objs.size+1)=some (seqObj "list" us.toArray 0):=by
  rw [← hsz]; exact Ô _ rfl
 have keep:∀ b o,s.heap.get? b=some o->(((s.heap.push (seqObj "list" #[] 0)).update s.heap.objs.size (ß (·++us.toArray))).push (seqObj "list" us.toArray 0)).get? b=some o:=fun b o q=>by
  have hlt:b<s.heap.objs.size:=Ê q
  rw [Ĥ _ _ _ (by rw [hsz]; exact Õ (ô hlt)),Heap.get?_update_ne _ _ _ _ (Õ hlt),Ĥ _ _ _ (Õ hlt)]
  exact q
 have go:∀ {Q':List Value->Shared->Prop},Q' us { s with heap:=(s.heap.push (seqObj "list" #[] 0)).update s.heap.objs.size (ß (·++us.toArray)) }->wpAny (model prog w) A.in1 (collect (.ref l)) Q' (fun e s'=>E e s') s:=fun {Q'} hq=>by
  rcases hl with hl | hl
  ·exact collect_list hl hq (by omega)
  ·exact iV hl hq (by omega)
 refine À (go ?_)
 refine À (wpAny_newList ?_ (by omega))
 show wpAny _ _ _ _ _ { s with heap:=((s.heap.push (seqObj "list" #[] 0)).update s.heap.objs.size (ß (·++us.toArray))).push (seqObj "list" us.toArray 0) }
 rw [hsz]
 refine À (ò (ü slot_list_sort ⟨_,hoL,rfl⟩ entry_list_sort (yd hoL (Paired.yQ hp fun u t x=>x.keep fun a o _ e=>keep a o e) (fun u hm=>GF hp hm) (by simp only [Around.in1_units]; omega) hn h64 fun p a1 a2=>⟨_,rfl,?_⟩) (args_list_sort _)))
 exact Å ⟨_,rfl,h p a1 a2⟩
end
section
variable {X:Cx}
theorem sI {ts:List (List Int)}{p:List Nat} (hp:p.Perm (Ë ts.length)) (h:∀ i j,i<=j->j<ts.length->aG 40 (ts.getD (p.getD i 0) [])<=aG 40 (ts.getD (p.getD j 0) [])) :
  (p.map fun i=>ts.getD i []).Perm ts/\(p.map fun i=>ts.getD i []).Pairwise (fun a b=>aG 40 a<=aG 40 b):=by
 refine⟨?_,?_⟩
 ·have q:=hp.map fun i=>ts.getD i []
  rw [cJ] at q
  exact q
 ·have hl:p.length=ts.length:=by simpa using hp.length_eq
  rw [List.pairwise_iff_getElem]
  intro i j hi hj hij
  rw [Á] at hi hj
  have q:=h i j (by omega) (by omega)
  have ei:p.getD i 0=p[i]:=by simp [hi]
  have ej:p.getD j 0=p[j]:=by simp [hj]
  rw [ei,ej] at q
  simpa using q
theorem uT (hu:X.A.units+64<cLine):bx X (.builtin "sorted") (fun xs H Q=>∃ (p:Addr) (vs:List V) (ts:List (List Int)) (F:V->List Int->Prop),xs=[.ref p]/\SqL X.K H p vs/\Paired F vs ts/\(∀ v l,F v l->∃ a,v=.ref a/\H a=some (.lst (l.map V.int)))/\(∀ t∈ts,cP t)/\ts.length<64 /\
  ∀ l ws us,H l=none->Paired F ws us->us.Perm ts->us.Pairwise (fun a b=>aG 40 a<=aG 40 b)->Q (.ref l) (upd H l (.lst ws))):=by
 intro pins s σ H xs us Q I r h
 obtain⟨p,vs,ts,F,rfl,hp,hpr,hF,hn,h64,q⟩:=h
 obtain⟨u,rfl,rx⟩:=vals1 r
 cases rx
 have h24:=ç
 have lists:∀ {vs:List V}{ts:List (List Int)}{us:List Value},Paired F vs ts->Vals vs us->Paired (gR s.heap) us ts:=by
  intro vs ts us h
  induction h generalizing us with
  | nil=>intro r; cases r; exact .nil
  | cons x t ih =>
   intro r
   cases r with
   | cons r1 r2 =>
    refine .cons ?_ (ih r2)
    obtain⟨a,rfl,ha⟩:=hF _ _ x
    cases r1
    obtain⟨its,rv,pl,hz⟩:=I.list (SqL.of ha)
    obtain⟨o,ho,hc,n,hd⟩:=pl.isList
    exact⟨a,o,its.toArray,n,rfl,ho,hc,hd,intsAre_of rv⟩
 obtain⟨its,rv,pl,hz⟩:=I.list hp
 have hpv:=lists hpr rv
 have hlen:=hpr.length
 have hlen2:=rv.length
 refine sO (.inl pl.isList) (by omega) hpv hn (by omega) fun pp hpp hord=>?_
 have eits:its.length=ts.length:=by omega
 rw [eits] at hpp hord
 obtain⟨hperm,hpw⟩:=sI hpp hord
 have hlt:∀ i∈pp,i<ts.length:=fun i hi=>ã.mp (hpp.mem_iff.mp hi)
 have hw:=vQ hpr V.non [] pp hlt
 have hvv:Vals (pp.map fun i=>vs.getD i V.non) (pp.map fun i=>its.getD i Ą):=vQ rv V.non Ą pp fun i hi=>by have:=hlt i hi; omega
 obtain⟨e,he⟩:=sortedAll_at s.heap its (pp.map fun i=>its.getD i Ą).toArray
 refine⟨.ref (s.heap.objs.size+1),upd H (s.heap.objs.size+1) (.lst (pp.map fun i=>vs.getD i V.non)),I.laid (t':=s.toks) (fun b o eb=>sortedAll_old eb) (Ę _) ?_,rfl,q _ _ _ (I.hok.fresh (Ę _)) hw hperm hpw⟩
 refine⟨?_,_,e,hvv,he⟩
 have hl3:pp.length=ts.length:=by simpa using hpp.length_eq
 rw [Á]
 omega
end
end L2
namespace Dl
open PySem L2 PyProof.Rows
section
variable {X:Cx}{pos:Pos}{a:Expr}{t:DA} [Gr]
def zj:GC:=fun ks P=>match ks with
 | [(k,.list ds)]=>∃ ls:List (List Int),ds=ls.map iD/\ls.length<64/\(∀ l∈ls,cP l)/\∀ out:List (List Int),out.Perm ls->out.Pairwise (fun a b=>aG 40 a<=aG 40 b)->P (k.join .new) (.list (out.map iD))
 | _=>False
theorem vG {ok:Addr->Prop}{H:Hp}:∀ {vs:List V}{ls:List (List Int)},Rps ok H vs (ls.map iD)->Paired (fun v l=>Rp ok H v (iD l)) vs ls
 | [],[],_=>.nil
 | _,l::ls,.cons h r=>.cons h (vG r)
theorem vU {ok:Addr->Prop}{H:Hp}:∀ {vs:List V}{ls:List (List Int)},Paired (fun v l=>Rp ok H v (iD l)) vs ls->Rps ok H vs (ls.map iD)
 | _,_,.nil=>.nil
 | _,_,.cons h r=>.cons h (vU r)
theorem fK {ps:Pos} (hu:X.A.units+64<cLine) (hm:X.mg "sorted"=none) (ha:PDA X [a] t) (hg:Gl X "sorted":=by rfl) (he:zS X a []:=by rfl) (hpl:zP X pos []:=by rfl):PD X (.Call (.Name "sorted" ps) [a] [] pos) (tCl zj t) :=
 cH (uT hu) (by
  intro p H0 own Hb H vs ks P Q A r t q
  unfold zj at t
  split at t
  ·rename_i k ds
   obtain⟨ls,rfl,hl,hn,t⟩:=t
   obtain⟨v,rfl,r'⟩:=cD r
   obtain⟨x,xs,e1,o1,h1,rs1⟩:=Rp.bF r'
   subst e1
   refine⟨x,xs,ls,fun v l=>Rp (okK p H0 own Hb k) H v (iD l),rfl,SqL.of h1,vG rs1,fun v l h=>?_,hn,hl,fun l ws us hl' hw hp hs=>?_⟩
   ·obtain⟨b,zs,rfl,_,hb,rz⟩:=Rp.bF h
    have e:=Rps.ints rz
    subst e
    exact⟨b,rfl,hb⟩
   ·obtain⟨k2,i2,nw⟩:=A.new hl' (.lst ws)
    have j:=dM k .new
    exact q _ _ _ _ (t us hp hs) k2 i2 (.lst (bM A j.2 nw) ao ((cC A k2 (vU hw)).mono (fun a o=>bM A j.1 o) (fun _ _ _ e=>e) fun _ _ e=>e))
  ·exact t.elim) hg hm boot_sorted ha (by decide) (by decide) he hpl
end
end Dl
namespace L2
open PySem PySem.Spec PyProof.Rows
section
variable {prog:Program}{w:World}{A:Around}{E:Value->Shared->Prop}{s:Shared}
theorem Di:typeLookup (.type "list") "keys"=pure none:=am_miss_of_fast (by kernel_rfl)
theorem uX {a:Addr}{xs:Array Value}{Q:Option Value->Shared->Prop} (hx:PlainL s.heap a xs) (hA:A.handled=none)
  (h:∀ h' tk,(∀ b o,s.heap.get? b=some o->h'.get? b=some o)->Q none { s with heap:=h',toks:=tk }) :
  wpAny (model prog w) A (getAttr? (.ref a) "keys") Q E s:=by
 obtain⟨o,k,hx,hc,hd,hdat⟩:=hx
 obtain⟨c,dct,dat,sl⟩:=o
 simp only at hc hdat hd
 subst hc hdat hd
 obtain⟨hp,g,d,tk,os⟩:=s
 have hT:∀ tk',(⟨hp,g,d,tk',os⟩:Shared).TypeIs (.ref a) "list":=fun _=>⟨_,hx,rfl⟩
 have f1:=sub_AttributeError
 have f3:=F.slot_list_getattribute.lookup
 have f4:=F.slot_list_getattribute.bind (.ref a)
 have f5:=am_list_getattr_none
 unfold getAttr? getAttrBy? getAttrBy
 repeat (any_goals (first | assumption | exact hT _ | ((with_reducible show wpAny _ _ (call (Value.builtin "list.__getattribute__") _ _) _ _ _); refine call_meets F.slot_list_getattribute (hT _) am_entry_list_getattribute (F.args_list_getattribute_2 _ _) (meets_getattribute_miss_list a xs k sl "keys" _ Di (by decide) (by decide)) ⟨hx,hA,fun h' tk' e hx'=>?_⟩) | wp_step))
 obtain⟨t',u',he⟩:=hx'.there
 show wpAny _ _ (getattributeRaised _ _ _ _ _ _ _) _ _ _
 unfold getattributeRaised
 repeat (any_goals (first | assumption | wp_step))
 exact h _ _ hx'.keeps
theorem rM:entryFor table "dict.update.loop"=some Builtin.«dict.update.loop»:=entryFor_of_tree (by kernel_rfl)
theorem jg:plainId "dict.update.loop"=true:=by decide +kernel
theorem pair_items {t:Addr}{its:Array Value}{Q:List Value->Shared->Prop} (ht:IsTup s.heap t its) (h:Q its.toList s):wpAny (model prog w) A (Builtin.Dict.pairItems (.ref t)) Q E s:=by
 obtain⟨o,ho,hc,n,hd⟩:=ht
 obtain⟨c,dct,dat,sl⟩:=o
 simp only at hc hd
 subst hc hd
 obtain⟨hp,g,d,tk,os⟩:=s
 have hT:(⟨hp,g,d,tk,os⟩:Shared).TypeIs (.ref t) "tuple":=⟨_,ho,rfl⟩
 unfold Builtin.Dict.pairItems
 repeat (any_goals (first | assumption | wp_step))
def Kg (P:Program) (w:World) (h:Heap) (items:Array Value) (kvs:List (Key×Value)) (d it:Addr):Prop :=
 ∀ (i:Nat) (kv:Key×Value),kvs[i]?=some kv->∃ t key,items[i]?=some (.ref t)/\t≠d/\t≠it/\gO kv.1 key=true/\IsTup h t #[key,kv.2]
theorem Dw {d it l:Addr}{items:Array Value}{kvs:List (Key×Value)} (hdi:d≠it) (hdl:d≠l) (hli:l≠it) (hA:A.in1.handled=none) (hn:items.size=kvs.length) {R:Result->Shared->Prop}:∀ (k i:Nat) (s:Shared) (acc:List (Key×Value)),kvs.length - i=k->i<=kvs.length->s.heap.IsListIter it l i->s.heap.IsList l items->s.heap.DictOf (aF prog w) d acc->Kg prog w s.heap items kvs d it->acc.length+(kvs.length - i)<=sizeLine ->
  (∀ h' tk,h'.DictOf (aF prog w) d (merged acc (kvs.drop i))->(∀ b o,b≠d->b≠it->s.heap.get? b=some o->h'.get? b=some o)->R (.ok (.ret .none)) { s with heap:=h',toks:=tk }) ->
  codeAny (model prog w) A (.builtin "dict.update.loop" ⟨[.ref d,.ref it,rawInt i,.none],[]⟩) R s:=by
 have W:=Walks.list (prog:=prog) (w:=w) (A:=A.in1) hA it l hli items
 rw [hn] at W
 intro k
 induction k with
 | zero =>
  intro i s acc hk hi hit hl hm hp hz hR
  have e:i=kvs.length:=by omega
  subst e
  refine Ė rM ?_
  rw [ĉ jg _]
  show wpAny _ A.in1 (pyNext (.ref it) >>= _) _ _ s
  refine À (W.done s _ _ ⟨hit,hl⟩ fun h' tk hk'=>?_)
  show wpAny _ _ (Builtin.Dict.addKeywords d [] >>= _) _ _ _
  refine À (Å (Å ?_))
  have:=hR h' tk
  rw [List.drop_of_length_le (Ò _)] at this
  exact this (hm.at fun o e=>hk' _ o (by simpa using hdi) e) fun b o _ hb e=>hk' b o (by simpa using hb) e
 | succ k ih =>
  intro i s acc hk hi hit hl hm hp hz hR
  have hlt:i<kvs.length:=by omega
  have hkv:=Ä hlt
  have hd:kvs.drop i=kvs[i]::kvs.drop (i+1):=ŝ hlt
  generalize kvs[i]=kv at hkv hd
  refine Ė rM ?_
  rw [ĉ jg _]
  show wpAny _ A.in1 (pyNext (.ref it) >>= _) _ _ s
  refine À (W.item i s _ _ hlt ⟨hit,hl⟩ fun v h' tk hP hst' hk'=>?_)
  obtain⟨t,key,ht,htd,hti,hkey,htup⟩:=hp i kv hkv
  have ev:v=.ref t:=by rw [ht] at hP; exact (Ù hP).symm
  subst ev
  have cR:IsTup h' t #[key,kv.2]:=by
   obtain⟨o,e,r⟩:=htup
   exact⟨o,hk' t o (by simpa using hti) e,r⟩
  refine À (ò ?_)
  refine À (wpAny_tryCatch (pair_items (its:=#[key,kv.2]) (cR) ?_))
  have hm':h'.DictOf (aF prog w) d acc:=hm.at fun o e=>hk' _ o (by simpa using hdi) e
  refine ò (wpAny_dictSet_pairs (knd:=aF prog w) (k:=kv.1) (hsz:=by omega) hkey hm' fun h2 hm2 hs2=>?_)
  have hc:((i:Int)+1)=((i+1:Nat):Int):=by push_cast; rfl
  refine Å ⟨ł jg _,?_⟩
  rw [hc]
  have keep2:∀ b o,b≠d->b≠it->s.heap.get? b=some o->h2.get? b=some o:=fun b o hb hb' e=>(hs2.2 b hb).trans (hk' b o (by simpa using hb') e)
  refine ih (i+1) _ (stored acc kv.1 kv.2) (by omega) (by omega) ?_ ?_ hm2 ?_ ?_ fun h3 tk3 hm3 hk3=>?_
  ·obtain⟨o,ho,r⟩:=hst'.1
   exact⟨o,(hs2.2 it (č hdi)).trans ho,r⟩
  ·obtain⟨o,ho,r⟩:=hst'.2
   exact⟨o,(hs2.2 l (č hdl)).trans ho,r⟩
  ·intro j kv' hj
   obtain⟨t,key,e1,e2,e3,e4,o,e5,r⟩:=hp j kv' hj
   exact⟨t,key,e1,e2,e3,e4,o,keep2 t o e2 e3 e5,r⟩
  ·have:=stored_length_le acc kv.1 kv.2
   omega
  ·have:=hR h3 tk3
   rw [hd] at this
   exact this hm3 fun b o hb hb' e=>hk3 b o hb hb' (keep2 b o hb hb' e)
theorem nP {l:Addr}{items:Array Value}{kvs:List (Key×Value)}{Q:Value->Shared->Prop} (hA:A.handled=none) (hl:PlainL s.heap l items) (hn:items.size=kvs.length) (hz:kvs.length<=sizeLine)
  (hp:∀ (i:Nat) (kv:Key×Value),kvs[i]?=some kv->∃ t key,items[i]?=some (.ref t)/\gO kv.1 key=true/\IsTup s.heap t #[key,kv.2]) (nd:(kvs.map (·.1)).Nodup)
  (h:∀ h' tk,h'.DictOf (aF prog w) s.heap.objs.size kvs->(∀ b o,s.heap.get? b=some o->h'.get? b=some o)->Q (.ref s.heap.objs.size) { s with heap:=h',toks:=tk }) :
  wpAny (model prog w) A (call (.type "dict") [.ref l]) Q E s:=by
 refine callType_codes (Q₁:=fun obj s₁=>obj=.ref s.heap.objs.size/\s₁={ s with heap:=s.heap.push { cls:=.type "dict",data:=.dict #[] } }) F.kt_called_dict (F.kt_typeCall_dict_1 _) F.entry_dict_init (kt_code_dict_new _ ⟨rfl,rfl⟩) ?_
 rintro obj s₁ ⟨rfl,rfl⟩
 have hnew:(s.heap.push { cls:=.type "dict",data:=.dict #[] }).DictOf (aF prog w) s.heap.objs.size []:=Heap.DictOf.new s.heap
 have hl':PlainL (s.heap.push { cls:=.type "dict",data:=.dict #[] }) l items:=hl.keeps fun b o e=>È _ e
 refine⟨hnew.typeIs,F.args_dict_init_2 _ _,?_⟩
 unfold Builtin.«dict.__init__»
 refine À ?_
 unfold Builtin.Dict.selfAndRest
 refine À (wpAny_notOrdered_dict hnew.typeIs ?_)
 show wpAny _ _ (pure (s.heap.objs.size,[ė l])) _ _ _
 refine Å ?_
 show wpAny _ _ (Builtin.Dict.updateFrom "dict.__init__" s.heap.objs.size (.ref l) [] .none) _ _ _
 unfold Builtin.Dict.updateFrom
 refine À (wpAny_typeOf hl'.isList.typeIs ?_)
 rw [if_pos (by decide)]
 refine À (uX hl' hA fun h1 tk1 k1=>?_)
 have hl1:PlainL h1 l items:=hl'.keeps k1
 have hd1:h1.DictOf (aF prog w) s.heap.objs.size []:=hnew.at fun o e=>k1 _ o e
 rw [if_pos (show (none:Option Value).isNone=true from rfl)]
 refine À (wpAny_rule ?_)
 refine À (wpAny_pyIter_list hl1.isList ?_)
 have i0:s.heap.objs.size≠h1.objs.size:=by
  obtain⟨o,_,_,ho,_⟩:=hd1
  exact Õ (Ê ho)
 refine Å ⟨ł jg _,?_⟩
 refine Dw (A:=A.in1) (prog:=prog) (w:=w) (d:=s.heap.objs.size) (it:=h1.objs.size) (l:=l) (kvs:=kvs) i0 (ħ hl.lt) (Õ hl1.lt) hA hn kvs.length 0 _ [] rfl (Č _) ?_ ?_ ?_ ?_ ?_ ?_
 ·exact⟨_,Ô _ rfl,rfl,rfl⟩
 ·exact hl1.isList.push _
 ·exact hd1.push _
 ·intro i kv hi
  obtain⟨t,key,e1,e2,o,e3,r⟩:=hp i kv hi
  have e4:=È { cls:=.type "dict",data:=.dict #[] } e3
  exact⟨t,key,e1,Õ (Ê e3),Õ (Ê (k1 _ _ e4)),e2,o,È _ (k1 _ _ e4),r⟩
 ·simpa using hz
 ·intro h3 tk3 hm hk
  rw [List.drop_zero,merged_nil_of_nodup kvs nd] at hm
  refine⟨rfl,h h3 tk3 hm fun b o e=>?_⟩
  have e4:=È { cls:=.type "dict",data:=.dict #[] } e
  exact hk b o (Õ (Ê e)) (Õ (Ê (k1 _ _ e4))) (È _ (k1 _ _ e4))
end
section
variable {X:Cx}
def kI (p:Int×Int):Key×V:=(ë p.1,.int p.2)
theorem vm:∀ {ts:List Addr}{us:List Value},Vals (ts.map V.ref) us->us=ts.map ė
 | [],_,.nil=>rfl
 | t::ts,_,.cons r k=>by
  cases r
  rw [vm k]
  rfl
theorem zY (hc:X.calm=true):bx X (.type "dict") (fun xs H Q=>∃ (p:Addr) (m:List (Int×Int)) (ts:List Addr),xs=[.ref p]/\SqL X.K H p (ts.map V.ref)/\Paired (fun t (q:Int×Int)=>SqT X.K H t [.int q.1,.int q.2]) ts m/\(m.map (·.1)).Nodup/\∀ l,H l=none->Q (.ref l) (upd H l (.dK (m.map kI)))):=by
 intro pins s σ H xs us Q I r h
 obtain⟨p,m,ts,rfl,hq,hp,nd,q⟩:=h
 obtain⟨u,rfl,rx⟩:=vals1 r
 cases rx
 obtain⟨its,r',pl,hz⟩:=I.list hq
 have e:=vm r'
 subst e
 have hl:ts.length=m.length:=by
  have:∀ {ts:List Addr}{m:List (Int×Int)},Paired (fun t (q:Int×Int)=>SqT X.K H t [.int q.1,.int q.2]) ts m->ts.length=m.length:=fun h=>by
   induction h with
   | nil=>rfl
   | cons _ _ ih=>rw [õ,õ,ih]
  exact this hp
 rw [Á] at hz
 have ex:∃ kvs:List (Key×Value),KV (m.map kI) kvs/\kvs.length=m.length/\kvs.map (·.1)=m.map (fun p=>ë p.1)/\∀ (i:Nat) (kv:Key×Value),kvs[i]?=some kv->∃ t key,(ts.map ė)[i]?=some (.ref t)/\gO kv.1 key=true/\IsTup s.heap t #[key,kv.2]:=by
  clear hq r' pl hz nd q hl r
  induction hp with
  | nil=>exact⟨[],.nil,rfl,rfl,fun i kv h=>by simp at h⟩
  | cons h _ ih =>
   obtain⟨kvs,k1,k2,k3,k4⟩:=ih
   obtain⟨us,rv,it,_⟩:=I.tuple h
   cases rv with
   | cons a b =>
    cases b with
    | cons b c =>
     cases c
     obtain⟨t1,rfl⟩:=a
     obtain⟨t2,rfl⟩:=b
     refine⟨(_,.int _ t2)::kvs,.cons ⟨rfl,⟨_,rfl⟩⟩ k1,by rw [õ,õ,k2],?_,fun i kv hi=>?_⟩
     ·rw [ð,ð,k3]
      rfl
     ·cases i with
      | zero =>
       have hi:=Ù hi
       subst hi
       exact⟨_,_,rfl,by show gO (ë _) (.int _ t1)=true; unfold gO; simp [Value.isInt],it⟩
      | succ i=>exact k4 i kv (by simpa using hi)
 obtain⟨kvs,k1,k2,k3,k4⟩:=ex
 refine nP (kvs:=kvs) (I.ok.hd hc) pl (by rw [Î,Á,k2,hl]) (by omega) ?_ ?_ fun h' tk hd hk=>?_
 ·intro i kv hi
  obtain⟨t,key,e1,e2,e3⟩:=k4 i kv hi
  exact⟨t,key,by simpa using e1,e2,e3⟩
 ·rw [k3]
  have:m.map (fun p=>(ë p.1:Key))=(m.map (·.1)).map ë:=by rw [ě]; rfl
  rw [this]
  exact List.Pairwise.map _ (fun a b h z=>h (Sum.inl.inj z)) nd
 ·have big:=I.big
  refine⟨.ref s.heap.objs.size,_,I.laid (t':=tk) hk (Ò _) (zN (by rw [Á]; omega) (beq_eq_false_iff_ne.mpr (ħ big)) k1 hd),rfl,q _ (I.hok.fresh (Ò _))⟩
end
end L2
namespace Dl
open PySem L2 PyProof.Rows
section
variable {X:Cx}{pos:Pos}{a e:Expr}{t:DA} [Gr]
def tD2 (q:Int×Int):D:=.tuple [.int q.1,.int q.2]
def zu:GC:=fun ks P=>match ks with
 | [(_,.list ds)]=>∃ m:List (Int×Int),ds=m.map tD2/\(m.map (·.1)).Nodup/\P .new (.dict (kvD (m.map fun q=>(q.1,Ç q.2))))
 | _=>False
theorem zZ:bootBuiltins "dict"=some (.type "dict"):=by decide +kernel
theorem rm {K:â}{ok:Addr->Prop}{H:Hp}:∀ {vs:List V}{m:List (Int×Int)},Rps ok H vs (m.map tD2)->∃ ts:List Addr,vs=ts.map V.ref/\Paired (fun t (q:Int×Int)=>SqT K H t [.int q.1,.int q.2]) ts m
 | [],[],_=>⟨[],rfl,.nil⟩
 | _,q::m,.cons h r=>by
  obtain⟨ts,rfl,pr⟩:=rm r
  obtain⟨a,vs,rfl,ha,rs⟩:=Rp.cR (show Rp ok H _ (.tuple [.int q.1,.int q.2]) from h)
  have e:=Rps.ints (ns:=[q.1,q.2]) rs
  subst e
  exact⟨a::ts,rfl,.cons (SqT.of ha) pr⟩
theorem vI {ok:Addr->Prop}{H:Hp}:∀ m:List (Int×Int),Rkv ok H (m.map kI) (kvD (m.map fun q=>(q.1,Ç q.2)))
 | []=>.nil
 | q::m=>.cons (k:=ë q.1) (.int _) (vI m)
theorem pA {ps:Pos} (hc:X.calm=true) (hm:X.mg "dict"=none) (ha:PDA X [a] t) (hg:Gl X "dict":=by rfl) (he:zS X a []:=by rfl) (hpl:zP X pos []:=by rfl):PD X (.Call (.Name "dict" ps) [a] [] pos) (tCl zu t) :=
 pF (zY hc) (by
  intro p H0 own Hb H vs ks P Q A r t q
  unfold zu at t
  split at t
  ·obtain⟨m,rfl,nd,t⟩:=t
   obtain⟨v,rfl,r'⟩:=cD r
   obtain⟨x,xs,e1,o1,h1,rs1⟩:=Rp.bF r'
   subst e1
   obtain⟨ts,rfl,pr⟩:=rm (K:=X.K) rs1
   refine⟨x,m,ts,rfl,SqL.of h1,pr,nd,fun l hl=>?_⟩
   obtain⟨k2,i2,nw⟩:=A.new hl (.dK (m.map kI))
   exact q _ _ _ _ t k2 i2 (.dct nw ao (vI m))
  ·exact t.elim) hg hm zZ ha (by decide) (by decide) he hpl
end
end Dl
namespace L2
open PySem PySem.Spec PyProof.Rows
def Nu (K:â) (ta:TA):TI:=fun σ H R=>ta σ H fun vs H1=>∃ a,vs=[.ref a]/\(((∃ xs,SqT K H1 a xs)/\R (Ite K a) H1)\/((∃ xs,SqL K H1 a xs)/\R (Kl K a) H1))
theorem FQ {X:Cx}{elts:List Expr}{kk:Nat}{tpos:Pos}{a:Expr}{ta:TA}{p pos:Pos} (hg:Gl X "enumerate") (hm:X.mg "enumerate"=none) (ha:PA X [a] ta) (hs:starEach [a] X.env=[(false,eval a X.env)]:=by rfl):PI X (.Tuple elts kk tpos) (.Call (.Name "enumerate" p) [a] [] pos) (Nu X.K ta):=by
 intro pins s σ H R I h
 refine Call_ (gF I hg hm boot_enumerate (ĩ (thn (ha pos pins s σ H _ I h) fun us s1 ⟨vs,H1,I1,r1,q1⟩=>?_) hs rfl))
 obtain⟨b,e,q1⟩:=q1
 subst e
 obtain⟨u,rfl,rx⟩:=vals1 r1
 cases rx
 rcases q1 with ⟨⟨xs,hq⟩,q⟩ | ⟨⟨xs,hq⟩,q⟩
 ·obtain⟨its,rv,pt,hz⟩:=I1.tuple hq
  refine cZ (show s1.heap.IsTuple b its.toArray from pt) fun h' he hit hsz hk=>?_
  have I2:Inv X pins σ H1 { s1 with heap:=h' }:=I1.kept (t':=s1.toks) hk
  have T:Turn X.prog X.w X.K (.Tuple elts kk tpos) (Ite X.K b) [s1.heap.objs.size+1,s1.heap.objs.size] (s1.heap.objs.size+1) (fun i h=>(∃ old,IsEnum h (s1.heap.objs.size+1) s1.heap.objs.size i old)/\h.IsTupleIter s1.heap.objs.size b i):=qR b _ _ (ħ (ĳ _))
  exact T.self _ 0 _ _ _ ⟨⟨_,he⟩,hit⟩ ⟨_,_,_,_,H1,rfl,I2,T,⟨⟨_,he⟩,hit⟩,fun c hc=>by
   rcases Þ.mp hc with rfl | hc
   ·exact I1.uF (Ę _) (I1.hok.fresh (Ę _))
   ·have z:c=s1.heap.objs.size:=by simpa using hc
    subst z
    exact I1.uF (Ò _) (I1.hok.fresh (Ò _)),q⟩
 ·obtain⟨its,rv,pt,hz⟩:=I1.list hq
  refine call_enumerate_list pt.isList fun h' he hit hsz hk=>?_
  have I2:Inv X pins σ H1 { s1 with heap:=h' }:=I1.kept (t':=s1.toks) hk
  have T:Turn X.prog X.w X.K (.Tuple elts kk tpos) (Kl X.K b) [s1.heap.objs.size+1,s1.heap.objs.size] (s1.heap.objs.size+1) (fun i h=>(∃ old,IsEnum h (s1.heap.objs.size+1) s1.heap.objs.size i old)/\h.IsListIter s1.heap.objs.size b i):=xU b _ _ (ħ (ĳ _))
  exact T.self _ 0 _ _ _ ⟨⟨_,he⟩,hit⟩ ⟨_,_,_,_,H1,rfl,I2,T,⟨⟨_,he⟩,hit⟩,fun c hc=>by
   rcases Þ.mp hc with rfl | hc
   ·exact I1.uF (Ę _) (I1.hok.fresh (Ę _))
   ·have z:c=s1.heap.objs.size:=by simpa using hc
    subst z
    exact I1.uF (Ò _) (I1.hok.fresh (Ò _)),q⟩
open AutoSeq1 in
theorem zA (l:Addr) (its:Array Value) (n:Nat) (b:Addr) (jts:Array Value) (m:Nat) (od:Option Addr) (os:_) (h0:¬(!its.isEmpty&&ŀ (its.size+jts.size))=true) (h1:its.size<=sizeLine) (h2:its.size+jts.size<=sizeLine+1) :
  Meets (Builtin.«list.extend» ⟨[.ref l,.ref b],[]⟩) (fun _ R s=>s.heap.get? l=some { cls:=.type "list",data:=.seq its n }/\s.heap.get? b=some { cls:=.type "tuple",dict:=od,data:=.seq jts m,slots:=os }/\R (.ok (.ret Ą)) { s with heap:=s.heap.update l (ß fun x=>x++jts),toks:=s.toks }) :=
 .of_wp fun prog w A R s h=>by
  obtain⟨hp,g,d,tk,os⟩:=s
  obtain⟨hl,hb,h⟩:=h
  have f1:=idx_int
  have f2:=AutoSeq1.sub_tuple_tuple
  have f3:=AutoSeq1.sub_list_list
  have f4:=AutoSeq1.sub_tuple_list
  have f5:=AutoSeq1.sub_list_tuple
  have hz:(its++jts).size<=sizeLine+1:=by rw [Array.size_append]; exact h2
  wp_walk using (wpAny_updateSeq hl rfl (hz:=h1) (_hz':=hz)),Ċ hl,Ċ hb
  exact⟨_,rfl,h⟩
section
variable {X:Cx}
def vL (K:â):V->List V->Hp->VK->Prop:=fun x vs H Q=>∃ l b xs zs,x=.ref l/\vs=[.ref b]/\H l=some (.lst xs)/\SqT K H b zs/\xs.length+zs.length<=sizeLine/\Q .non (upd H l (.lst (xs++zs)))
theorem yO:MtM X "list.extend" (vL X.K):=by
 intro pins s σ H x vs v us Q I rx rv h
 obtain⟨l,b,xs,zs,rfl,rfl,hH,hB,hz,q⟩:=h
 cases rx
 obtain⟨u,rfl,ru⟩:=rv.one
 cases ru
 obtain⟨z,its,n,r,hl,e⟩:=I.wA hH
 obtain⟨its2,r2,e2,z2⟩:=I.tuple hB
 have hl2:=r2.length
 have big:¬ (!its.toArray.isEmpty&&ŀ (its.toArray.size+its2.toArray.size))=true:=by
  rw [pK (by rw [Î,Î]; omega),Bool.and_false]
  exact Ú
 obtain⟨⟨oc,od,ot,os⟩,e2,hc2,n2,hd2⟩:=e2
 dsimp only at hc2 hd2
 subst hc2 hd2
 refine call_meets F.slot_list_extend ⟨_,e,rfl⟩ F.entry_list_extend (F.args_list_extend_2 _ _) (zA l its.toArray n b its2.toArray n2 od os big (by rw [Î]; omega) (by rw [Î,Î]; omega)) ⟨e,e2,?_⟩
 refine⟨.non,_,I.JC (its':=its++its2) hH e (by simp) (r.append r2) ?_,rfl,q⟩
 rw [Ý]
 omega
end
end L2
namespace Dl
open PySem L2 PyProof.Rows
variable [Gr]
section
variable {X:Cx}{st:Stmt}{te:DE}{pos:Pos}{ta:DA}
def Qg (ta:DA):DI:=fun ρ P=>ta ρ fun ks=>match ks with
 | [(k,.tuple ds)]=>P k (jt ds)
 | [(k,.list ds)]=>P k (jt ds)
 | _=>False
theorem qp {elts:List Expr}{kk:Nat}{tpos:Pos}{a:Expr}{ps:Pos} (hm:X.mg "enumerate"=none) (ha:PDA X [a] ta) (hg:Gl X "enumerate":=by rfl) (hs:starEach [a] X.env=[(false,eval a X.env)]:=by rfl):PDI X (.Tuple elts kk tpos) (.Call (.Name "enumerate" ps) [a] [] pos) (Qg ta):=PI.wk (FQ hg hm ha hs) (by
 rintro σ H R ⟨p,H0,own,ρ,P,E,t,q⟩
 refine⟨p,H0,own,ρ,_,E,t,fun ks vs H1 h A r=>?_⟩
 split at h
 ·rename_i k ds
  obtain⟨v,rfl,r'⟩:=cD r
  obtain⟨a,vs,e,ha,rs⟩:=Rp.cR r'
  subst e
  exact⟨a,rfl,.inl ⟨⟨vs,SqT.of ha⟩,q k _ _ H1 _ h A qQ (rpA r')⟩⟩
 ·rename_i k ds
  obtain⟨v,rfl,r'⟩:=cD r
  obtain⟨a,vs,e,_,ha,rs⟩:=Rp.bF r'
  subst e
  exact⟨a,rfl,.inr ⟨⟨vs,SqL.of ha⟩,q k _ _ H1 _ h A xQ (rpA r')⟩⟩
 ·exact h.elim)
def HN (i:Nat) (te:DE):DS:=fun P ρ=>match ρ[i]? with
 | some (.dw r (.list ds))=>te ρ fun k d=>match d with
  | .tuple es=>(k.le .new || cO es)=true/\ds.length+es.length<=1000/\P.nx ((forget r ρ).set i (.dw r (.list (ds++es))))
  | _=>False
 | _=>False
theorem jJ {i:Nat} (h:PS X st (eN (tBM X.K "list" (vL X.K) (fj i) (cY (aK te cB))))):PDS X st (HN i te):=PS.wk' h (by
 rintro Q σ H ⟨p,H0,own,ρ,P,E,t,w⟩
 unfold HN at t
 split at t
 ·rename_i r ds hr
  obtain⟨v,hv,x⟩:=E.slot i _ hr
  obtain⟨l,vs,rfl,hl,ho,rs⟩:=x.bF
  refine⟨.ref l,hv,.inl ⟨rfl,vs,SqL.of ho⟩,p,H0,own,ρ,_,E,gA t,?_⟩
  rintro ks ws H1 ⟨k,d,rfl,hh⟩ A rk
  cases d with
  | tuple es =>
   obtain⟨hk,hlen,hn⟩:=hh
   obtain⟨y,rfl,ry⟩:=cD rk
   obtain⟨b,zs,e1,hb,rz⟩:=Rp.cR ry
   subst e1
   have rz2:Rps (okK p H0 own H .new) H1 zs es:=by
    rcases Bool.or_eq_true_iff.mp hk with q | q
    ·exact rz.mono (fun a o=>bM A q o) (fun _ _ _ e=>e) fun _ _ e=>e
    ·exact (Rps.imm rz q).mono (fun a o=>o.elim) (fun _ _ _ e=>e) fun _ _ e=>e
   have h1:H1 l=some (.lst vs):=A.kp l _ ho (E.ow l r hl).2.1
   have h24:=ç
   have l1:=rs.length
   have l2:=rz.length
   refine⟨l,b,vs,zs,rfl,rfl,h1,SqT.of hb,by omega,?_⟩
   obtain⟨E2,F2⟩:=E.sV (vs':=vs++zs) (ds':=ds++es) A hv hl ho rs fun H2 f g=>(jR f rs fun d hd=>fB hd).app (oU g rz2)
   exact w.nx _ σ _ _ E2 F2 hn
  | _=>exact hh.elim
 ·exact t.elim)
end
end Dl
namespace Wr
open PySem L2 PyProof.Rows Dl
section
variable [Gr] {X:Cx}{pos:Pos}{a:Expr}{ta t:DA}{te:DE}
theorem qp {elts:List Expr}{kk:Nat}{tpos pos:Pos}{a:Expr}{ps:Pos} (hm:X.mg "enumerate"=none) (ha:WDA X [a] ta) (hg:Gl X "enumerate":=by rfl) (hs:starEach [a] X.env=[(false,eval a X.env)]:=by rfl):WDI X (.Tuple elts kk tpos) (.Call (.Name "enumerate" ps) [a] [] pos) (Qg ta):=⟨Dl.qp hm ha.h hg hs⟩
theorem jJ {i:Nat}{x:Str}{e:Expr}{es:List Expr}{apos cpos np pos:Pos} (hv:WV X (.Name x np) i) (ha:WDA X (e::es) (aK te cB))
  (hbase:attributeBase (.Name x np) "extend" X.env (eval (.Name x np) X.env)=eval (.Name x np) X.env:=by rfl)
  (hfew:zW X cpos (e::es):=by rfl)
  (hline:(apos.endLine == cpos.line)=true:=by rfl) (hst:zS X e es:=by rfl) (hplain:zP X cpos es:=by rfl)
  (hs:swapsWith (.Call (.Attribute (.Name x np) "extend" apos) (e::es) [] cpos) none pos.line X.env=pure false:=by rfl) :
  WDS X (.Expr (.Call (.Attribute (.Name x np) "extend" apos) (e::es) [] cpos) pos) (HN i te):=⟨Dl.jJ (dD (nA Ī PySem.F.slot_list_extend PySem.F.type_list_extend yO hv.h ha.h hbase hfew hline hst hplain) hs)⟩
theorem pA {ps:Pos} (hc:X.calm=true) (hm:X.mg "dict"=none) (ha:WDA X [a] t) (hg:Gl X "dict":=by rfl) (he:zS X a []:=by rfl) (hpl:zP X pos []:=by rfl):WD X (.Call (.Name "dict" ps) [a] [] pos) (tCl zu t):=⟨Dl.pA hc hm ha.h hg he hpl⟩
theorem fK {ps:Pos} (hu:X.A.units+64<cLine) (hm:X.mg "sorted"=none) (ha:WDA X [a] t) (hg:Gl X "sorted":=by rfl) (he:zS X a []:=by rfl) (hpl:zP X pos []:=by rfl):WD X (.Call (.Name "sorted" ps) [a] [] pos) (tCl zj t):=⟨Dl.fK hu hm ha.h hg he hpl⟩
end
end Wr
namespace Dl
open PySem L2 PyProof.Rows
variable [Gr]
section
variable {X:Cx}{st st2:Stmt}{rest:List Stmt}{tj te1 te2:DE}{tt:DT}{t:DS}{K:â}
theorem Io {i:Nat}:∀ (Q:_) (σ:L2.St) (H:Hp),fP (uN i tj te1 te2 t) Q σ H->xV (eN (tBM K "list" cF (tOp (Fp K) (fj i) (bH tj)) (cY (aK te1 cB)))) (xV (eN (tBM K "list" cF (fj i) (cY (aK te2 cB)))) (fP t)) Q σ H:=by
 rintro Q σ H ⟨p,H0,own,ρ,P,E,q,w⟩
 unfold uN at q
 split at q
 ·rename_i r ds hr
  obtain⟨v,hv,x⟩:=E.slot i _ hr
  obtain⟨l,vs,rfl,ol,hl,rs⟩:=Rp.bF x
  refine⟨.ref l,hv,p,H0,own,ρ,_,E,q,fun kj dj vj H1 q1 A1 rj=>?_⟩
  have E1:=E.go A1.kp A1.pen
  cases dj with
  | int j =>
   obtain⟨es,hes,le,ld,q1⟩:=q1
   have ej:=Rp.int' rj
   subst ej
   have hl1:H1 l=some (.lst vs):=A1.kp l _ hl (E.ow l r ol).2.1
   obtain⟨v',hv',x1⟩:=E1.slot i _ hr
   rw [hv] at hv'
   cases hv'
   obtain⟨l',vs',el,_,hl',rs1⟩:=Rp.bF x1
   cases el
   rw [hl1] at hl'
   cases hl'
   obtain⟨v1,ev1,rv1⟩:=rs1.atI hes
   have mem:Ĺ es∈ds:=by
    unfold L2.atI at hes
    cases hx:ixN ds.length j with
    | none=>rw [hx] at hes; cases hes
    | some n=>rw [hx] at hes; exact Æ hes
   have rv2:=Rp.avoid x1 rv1 (fB mem)
   obtain⟨a,ws,rfl,⟨oa,al⟩,ha,rws⟩:=Rp.bF rv2
   refine⟨l,vs,j,.ref a,rfl,rfl,SqL.of hl1,ev1,.inl ⟨rfl,ws,SqL.of ha⟩,p,H0,own,ρ,_,E1,gA q1,?_⟩
   rintro ks us H2 ⟨k1,d1,rfl,q2⟩ A2 rk
   obtain⟨y,rfl,ry⟩:=cD rk
   have E2:=E1.go A2.kp A2.pen
   have ha2:H2 a=some (.lst ws):=A2.kp a _ ha (E1.ow a r oa).2.1
   have h24:=ç
   have lw:=rws.length
   refine⟨a,ws,y,rfl,rfl,ha2,by omega,?_⟩
   have E3:=E2.write (o':=.lst (ws++[y])) oa ha2 (fun xs z=>nomatch z)
   have hl3:upd H2 a (.lst (ws++[y])) l=some (.lst vs):=by
    rw [aj (č al)]
    exact A2.kp l _ hl1 (E1.ow l r ol).2.1
   refine⟨.ref l,hv,.inl ⟨rfl,vs,SqL.of hl3⟩,p,H0,own,_,_,E3,gA q2,?_⟩
   rintro ks us H4 ⟨k2,d2,rfl,q3⟩ A4 rk2
   obtain⟨y2,rfl,ry2⟩:=cD rk2
   have E4:=E3.go A4.kp A4.pen
   have hl4:H4 l=some (.lst vs):=A4.kp l _ hl3 (E3.ow l r ol).2.1
   have lv:=rs.length
   refine⟨l,vs,y2,rfl,rfl,hl4,by omega,?_⟩
   have E5:=E4.write (o':=.lst (vs++[y2])) ol hl4 (fun xs z=>nomatch z)
   rw [zx] at E5
   exact⟨p,H0,own,_,P,E5,q3,w.go ((((A1.frs.trans A2.frs).trans (cQ oa ha2 fun xs z=>nomatch z)).trans A4.frs).trans (cQ ol hl4 fun xs z=>nomatch z))⟩
  | _=>exact q1.elim
 ·exact q.elim
def qu (i:Nat) (tt:DT) (tj te1 te2:DE) (t:DS):DS:=fun P ρ=>match ρ[i]? with
 | some (.dw r (.list ds))=>tt ρ fun b=>if b=true then uN i tj te1 te2 t P ρ else (ds.length<1000/\te2 ρ fun _ _=>t P (forget r ρ))
 | _=>False
theorem jH {i:Nat} (h1:PS X st (Oz (liftT tt) (eN (tBM X.K "list" cF (tOp (Fp X.K) (fj i) (bH tj)) (cY (aK te1 cB)))) Ko)) (h2:PS X st2 (eN (tBM X.K "list" cF (fj i) (cY (aK te2 cB))))) (h3:jc X rest t):jc X (st::st2::rest) (qu i tt tj te1 te2 t):=PSs.wk' (aO h1 (aO h2 h3)) (by
 rintro Q σ H ⟨p,H0,own,ρ,P,E,q,w⟩
 unfold qu at q
 split at q
 ·rename_i r ds hr
  refine⟨p,H0,own,ρ,_,E,q,fun b H1 q1 A1=>?_⟩
  have E1:=E.go A1.kp A1.pen
  cases b with
  | true =>
   rw [if_pos rfl] at q1
   show xV (eN (tBM X.K "list" cF (tOp (Fp X.K) (fj i) (bH tj)) (cY (aK te1 cB)))) (xV (eN (tBM X.K "list" cF (fj i) (cY (aK te2 cB)))) (fP t)) Q σ H1
   exact Io Q σ H1 ⟨p,H0,own,ρ,P,E1,q1,w.go A1.frs⟩
  | false =>
   rw [if_neg Ú] at q1
   show xV (eN (tBM X.K "list" cF (fj i) (cY (aK te2 cB)))) (fP t) Q σ H1
   obtain⟨ld,q1⟩:=q1
   obtain⟨v,hv,x⟩:=E1.slot i _ hr
   obtain⟨l,vs,rfl,ol,hl,rs⟩:=Rp.bF x
   refine⟨.ref l,hv,.inl ⟨rfl,vs,SqL.of hl⟩,p,H0,own,_,_,E1,gA q1,?_⟩
   rintro ks us H4 ⟨k2,d2,rfl,q3⟩ A4 rk2
   obtain⟨y2,rfl,ry2⟩:=cD rk2
   have E4:=E1.go A4.kp A4.pen
   have hl4:H4 l=some (.lst vs):=A4.kp l _ hl (E1.ow l r ol).2.1
   have lv:=rs.length
   have h24:=ç
   refine⟨l,vs,y2,rfl,rfl,hl4,by omega,?_⟩
   have E5:=E4.write (o':=.lst (vs++[y2])) ol hl4 (fun xs z=>nomatch z)
   exact⟨p,H0,own,_,P,E5,q3,w.go ((A1.frs.trans A4.frs).trans (cQ ol hl4 fun xs z=>nomatch z))⟩
 ·exact q.elim)
end
end Dl
namespace Wr
open PySem L2 PyProof.Rows Dl
section
variable [Gr] {X:Cx}{tj te1 te2:DE}
theorem jH {i:Nat}{x:Str}{e1 e2 ej:Expr}{es1 es2:List Expr}{rest:List Stmt}{a1 c1 a2 c2 np nq sp pos1 pos2:Pos}{ct:Expr}{ifp:Pos}{tt:DT}{t:DS} (hc:WDT X ct tt) (hv:WV X (.Name x np) i) (hj:WD X ej tj) (ha1:WDA X (e1::es1) (aK te1 cB)) (hv2:WV X (.Name x nq) i) (ha2:WDA X (e2::es2) (aK te2 cB)) (h3:WDSs X rest t) (hpx:lN ej:=by exact fun _ _=>rfl)
  (hbase1:attributeBase (.Subscript (.Name x np) ej sp) "append" X.env (eval (.Subscript (.Name x np) ej sp) X.env)=eval (.Subscript (.Name x np) ej sp) X.env:=by rfl)
  (hfew1:zW X c1 (e1::es1):=by rfl)
  (hline1:(a1.endLine == c1.line)=true:=by rfl) (hst1:zS X e1 es1:=by rfl) (hplain1:zP X c1 es1:=by rfl)
  (hs1:swapsWith (.Call (.Attribute (.Subscript (.Name x np) ej sp) "append" a1) (e1::es1) [] c1) none pos1.line X.env=pure false:=by rfl) 
  (hbase2:attributeBase (.Name x nq) "append" X.env (eval (.Name x nq) X.env)=eval (.Name x nq) X.env:=by rfl)
  (hfew2:zW X c2 (e2::es2):=by rfl)
  (hline2:(a2.endLine == c2.line)=true:=by rfl) (hst2:zS X e2 es2:=by rfl) (hplain2:zP X c2 es2:=by rfl)
  (hs2:swapsWith (.Call (.Attribute (.Name x nq) "append" a2) (e2::es2) [] c2) none pos2.line X.env=pure false:=by rfl) :
  WDSs X (.If ct [.Expr (.Call (.Attribute (.Subscript (.Name x np) ej sp) "append" a1) (e1::es1) [] c1) pos1] [] ifp::.Expr (.Call (.Attribute (.Name x nq) "append" a2) (e2::es2) [] c2) pos2::rest) (qu i tt tj te1 te2 t):=⟨Dl.jH (vO hc.h (jf (dD (nA Ī ş Ş fO (gM bU hv.h hj.h hpx) ha1.h hbase1 hfew1 hline1 hst1 hplain1) hs1)) jW) (dD (nA Ī ş Ş fO hv2.h ha2.h hbase2 hfew2 hline2 hst2 hplain2) hs2) h3.h⟩
end
end Wr
open Wr renaming oY → Â,tD → Ã,uK → Ð,dv → Ñ,yH → Ø,uL → å,ql → æ,Gf → í,zG → ù,zH → û,tQ → þ,qe → ā,zE → ę,zO → Ĵ,mR → ĵ,zM → ĸ,wv → Ŏ,uI → Ő,qt → ŗ,oZ → ť,Ge → ŵ,Hw → Ŷ,dc → ŷ,yG → Ż
open Wr.WDSs renaming h → Ğ
open Dl renaming Cal → Ł,JL → œ,Dk → Ű,Bn → ź
open L2 renaming Ga → ň,NT → Ś
namespace Nf
open PySem PySem.W PyProof.Rows
def nR (tb:String->Option Builtin) (p:Program) (w:World) (m:Nat) (ann:Option Value):Nat->SharedT->Thread->Option SharedT
 | 0,_,_=>none
 | n+1,s,t=>match through t with
  | true=>some s
  | false=>match stepOk m ann t with
   | false=>none
   | true=>match stepT (denote tb) p w s t with
    | none=>none
    | some r=>nR tb p w m ann n r.1 r.2
theorem qU {tb:String->Option Builtin}{p:Program}{w:World}{m:Nat}{ann:Option Value}:∀ {n:Nat}{s s':SharedT}{t:Thread},nR tb p w m ann n s t=some s'->topRun tb p w m ann n s.abs t=some s'.abs
 | 0,_,_,_,h=>by cases h
 | n+1,s,s',t,h=>by
  unfold nR at h
  unfold topRun
  cases he:through t with
  | true=>rw [he] at h; cases h; rfl
  | false =>
   rw [he] at h
   cases hk:stepOk m ann t with
   | false=>rw [hk] at h; cases h
   | true =>
    rw [hk] at h
    cases hs:stepT (denote tb) p w s t with
    | none=>rw [hs] at h; cases h
    | some r=>obtain⟨s2,t2⟩:=r; rw [hs] at h; rw [stepT_spec hs]; exact qU h
def qd (P:Params):List DictEntry:=match (boot_o_0 P).data with | .dict es _=>es.toList | _=>[]
def fU (P:Params) (i:Nat):List DictEntry:=((qd P).drop i).take 16
def b0 (P:Params):List DictEntry:=by
 refine (?f:(l:List DictEntry)->l=fU P 0->List DictEntry) ?l ?h
 case f=>exact fun l _=>l
 case h=>unfold fU qd boot_o_0; dsimp only [List.drop,List.take]; exact rfl
def b1 (P:Params):List DictEntry:=by
 refine (?f:(l:List DictEntry)->l=fU P 16->List DictEntry) ?l ?h
 case f=>exact fun l _=>l
 case h=>unfold fU qd boot_o_0; dsimp only [List.drop,List.take]; exact rfl
def b2 (P:Params):List DictEntry:=by
 refine (?f:(l:List DictEntry)->l=fU P 32->List DictEntry) ?l ?h
 case f=>exact fun l _=>l
 case h=>unfold fU qd boot_o_0; dsimp only [List.drop,List.take]; exact rfl
def b3 (P:Params):List DictEntry:=by
 refine (?f:(l:List DictEntry)->l=fU P 48->List DictEntry) ?l ?h
 case f=>exact fun l _=>l
 case h=>unfold fU qd boot_o_0; dsimp only [List.drop,List.take]; exact rfl
def b4 (P:Params):List DictEntry:=by
 refine (?f:(l:List DictEntry)->l=fU P 64->List DictEntry) ?l ?h
 case f=>exact fun l _=>l
 case h=>unfold fU qd boot_o_0; dsimp only [List.drop,List.take]; exact rfl
def b5 (P:Params):List DictEntry:=by
 refine (?f:(l:List DictEntry)->l=fU P 80->List DictEntry) ?l ?h
 case f=>exact fun l _=>l
 case h=>unfold fU qd boot_o_0; dsimp only [List.drop,List.take]; exact rfl
def b6 (P:Params):List DictEntry:=by
 refine (?f:(l:List DictEntry)->l=fU P 96->List DictEntry) ?l ?h
 case f=>exact fun l _=>l
 case h=>unfold fU qd boot_o_0; dsimp only [List.drop,List.take]; exact rfl
def b7 (P:Params):List DictEntry:=by
 refine (?f:(l:List DictEntry)->l=fU P 112->List DictEntry) ?l ?h
 case f=>exact fun l _=>l
 case h=>unfold fU qd boot_o_0; dsimp only [List.drop,List.take]; exact rfl
def b8 (P:Params):List DictEntry:=by
 refine (?f:(l:List DictEntry)->l=fU P 128->List DictEntry) ?l ?h
 case f=>exact fun l _=>l
 case h=>unfold fU qd boot_o_0; dsimp only [List.drop,List.take]; exact rfl
def b9 (P:Params):List DictEntry:=by
 refine (?f:(l:List DictEntry)->l=fU P 144->List DictEntry) ?l ?h
 case f=>exact fun l _=>l
 case h=>unfold fU qd boot_o_0; dsimp only [List.drop,List.take]; exact rfl
def bo0 (P:Params):Obj:={ cls:=.type "dict",data:=.dict ⟨b0 P++(b1 P++(b2 P++(b3 P++(b4 P++(b5 P++(b6 P++(b7 P++(b8 P++(b9 P)))))))))⟩ 159 }
theorem Oj:boot_o_0=bo0:=by funext P; kernel_rfl
def H9 (P:Params):Heap:={ objs:=⟨[bo0 P,boot_o_1 P,boot_o_2 P,boot_o_3 P,boot_o_4 P,boot_o_5 P,boot_o_6 P,boot_o_7 P,boot_o_8 P,boot_o_9 P,boot_o_10 P]⟩ }
theorem xG:Ŧ=H9:=by
 funext P
 show Heap.mk ⟨boot_o_0 P::_⟩ _=_
 rw [Oj]
 rfl
def xu (P:Params):BT:=((((((((((BT.nil.ins 0 (bo0 P)).ins 1 (boot_o_1 P)).ins 2 (boot_o_2 P)).ins 3 (boot_o_3 P)).ins 4 (boot_o_4 P)).ins 5 (boot_o_5 P)).ins 6 (boot_o_6 P)).ins 7 (boot_o_7 P)).ins 8 (boot_o_8 P)).ins 9 (boot_o_9 P)).ins 10 (boot_o_10 P)
def K3:Life:={}
theorem Ei (P:Params):absHeap (xu P) 11 K3=Ŧ P:=by rw [xG]; kernel_rfl
def xY (w:World) (os:OsState):SharedT:=⟨xu w.params,11,K3,#[],boot_drawn,boot_toks,os⟩
theorem Cq (w:World) (os:OsState):(xY w os).abs=⟨Ŧ w.params,#[],boot_drawn,boot_toks,os⟩:=by
 unfold xY SharedT.abs
 dsimp only
 rw [Ei]
def Ar (P:Params):=((Ŧ P).isNs mainGlobals,(Ŧ P).objs.size,(Ŧ P).nsMap mainGlobals "__annotations__")
theorem yh:Ar=Ar:=rfl
end Nf
name_quick sizeQ for Nf.Ar by Nf.yh
namespace Nf
open PySem PySem.W PyProof.Rows
theorem Ej (w:World):((Ŧ w.params).isNs mainGlobals,(Ŧ w.params).objs.size,(Ŧ w.params).nsMap mainGlobals "__annotations__")=(true,11,some (.ref 6)):=by
 show Ar w.params=_
 rw [W.Fast.sizeQ_eq]
 kernel_rfl
def CJ (p:Program) (N:Nat) (w:World) (os:OsState):=nR treeTable p w 11 (some (.ref 6)) N (xY w os) (topStub p)
def Fi (p q:Program) (Xt:Shared->Bool) (w:World) (s:Shared) :=
 (staticsOk (importedModules p.main.body) (H9 w.params) s.heap&&namesBound p s.heap&&gensDone s&&laidKept (H9 w.params) s.heap,openSeen q [] (importedModules p.main.body) Xt true s)
theorem JM {p q:Program}{Xt:Shared->Bool}{β:Type}{Yf:Shared->List β}{Ya:World->List β}{N:Nat} (k:Nat)
  (open_:∀ w:World,(fencedOpening treeTable p w N).map (fun s=>(s.heap,s.gens,s.drawn,s.toks))=some (Ŧ w.params,Array.mk [],boot_drawn,boot_toks))
  (look:∀ (w:World) (os:OsState),(CJ p N w os).map (fun s=>Fi p q Xt w s.abs)=some (true,openGood q []))
  (front:∀ (w:World) (os:OsState),(CJ p N w os).map (fun s=>(Yf s.abs).take k)=some ((Ya w).take k))
  (back:∀ (w:World) (os:OsState),(CJ p N w os).map (fun s=>(Yf s.abs).drop k)=some ((Ya w).drop k)):LeftO p q [] Xt Yf Ya N:=fun w=>by
 obtain⟨⟨h,gs,d,j,os⟩,e,e'⟩:=Option.map_eq_some_iff.mp (open_ w)
 obtain⟨rfl,rfl,rfl,rfl⟩:h=Ŧ w.params/\gs=#[]/\d=boot_drawn/\j=boot_toks:=by simpa using e'
 obtain⟨z1,z2,z3⟩:_/\_/\_:=by simpa only [Prod.mk.injEq] using Ej w
 obtain⟨s,hs,l⟩:=Option.map_eq_some_iff.mp (look w os)
 have l4:(Yf s.abs).take k=(Ya w).take k:=by
  have:=front w os
  rw [hs] at this
  exact Ù this
 have l5:(Yf s.abs).drop k=(Ya w).drop k:=by
  have:=back w os
  rw [hs] at this
  exact Ù this
 have l3:Yf s.abs=Ya w:=by rw [← Ź k (Yf s.abs),l4,l5,Ź]
 unfold Fi at l
 rw [← xG] at l
 obtain⟨l1,l2⟩:=Prod.mk.inj l
 have r:=qU hs
 rw [Cq] at r
 have t:topFrom treeTable p w N ⟨Ŧ w.params,#[],boot_drawn,boot_toks,os⟩=some s.abs:=by
  unfold topFrom
  dsimp only
  rw [z1,z2,z3,r]
  show (match staticsOk (importedModules p.main.body) (Ŧ w.params) s.abs.heap&&namesBound p s.abs.heap&&gensDone s.abs&&laidKept (Ŧ w.params) s.abs.heap with | true=>_ | false=>_)=_
  rw [l1]
 unfold openEnds
 rw [e]
 show (topFrom treeTable p w N _).map _=_
 rw [t]
 exact congrArg some (Prod.ext l2 l3)
end Nf
namespace Nf
open PySem L2 PyProof.Rows Dl
def top (i:Nat):Stmt:=PySem.Challenge.pw_nofall_k19_inners_told.main.body.getD i (.Pass ⟨0,0,0,0⟩)
theorem PSs.wk {X:Cx}{ss:List Stmt}{t t':TS} (h:PSs X ss t) (w:∀ D σ H,t' D σ H->t D σ H):PSs X ss t':=fun pins s σ H D I q=>h pins s σ H D I (w D σ H q)
def Ms (p sc:Addr) (ns:List Int) (b:Bool):Pn where
 fp:=fun a=>a=p\/(b=true/\a=sc)
 PI:=fun H=>(∃ x y:Int,H p=some (.lst [.ref sc,.int x,.int y]))/\(b=true->Rd H sc (.lst (ns.map V.int)))
 pv:=.ref p
 mono:=fun H H' ⟨⟨x,y,h⟩,r⟩ k=>⟨⟨x,y,k _ _ (.inl rfl) h⟩,fun e=>(r e).elim (fun z=>.inl (k _ _ (.inr ⟨e,rfl⟩) z)) fun ⟨o,z⟩=>.inr ⟨o,k _ _ (.inr ⟨e,rfl⟩) z⟩⟩
 is:=fun H a ⟨⟨x,y,h⟩,r⟩ hb=>by
  rcases hb with rfl | ⟨e,rfl⟩
  ·exact⟨_,h,fun xs z=>nomatch z⟩
  ·rcases r e with z | ⟨o,z⟩
   ·exact⟨_,z,fun xs z=>nomatch z⟩
   ·exact⟨_,z,fun xs z=>nomatch z⟩
def CP (K:â) (q:Pn):Prop:=∃ p sc ns b,(b=true->p≠sc)/\(b=false->∀ H,SqL K H sc (ns.map V.int))/\q=Ms p sc ns b
theorem FW {K:â}{H:Hp}{sc:Addr}{ns:List Int}{b:Bool} (r:b=true->Rd H sc (.lst (ns.map V.int))) (hb:b=false->∀ H,SqL K H sc (ns.map V.int)):SqL K H sc (ns.map V.int):=by
 cases b with
 | true=>exact .inl (r rfl)
 | false=>exact hb rfl H
theorem Fo {H:Hp}{sc p:Addr}{u o:HO} (h:Rd H sc u) (n:p≠sc):Rd (upd H p o) sc u:=by
 rcases h with z | ⟨o',z⟩
 ·exact .inl (by rw [aj (č n)]; exact z)
 ·exact .inr ⟨o',by rw [aj (č n)]; exact z⟩
def rJ (ds:List D) (P:D->Prop):Prop:=∃ m:Int,ds=[.int m]/\0<m/\m<1073741824/\∀ r:Int,0<=r->r<m->P (.int r)
theorem uq {C:Pn->Prop}{f:List D->(D->Prop)->Prop}{n:Nat} (hn:∀ ds P,f ds P->ds.length=n:=by intro _ _ h; repeat (first | (obtain⟨rfl,_⟩:=h; rfl) | obtain⟨_,h⟩:=h)):∀ vs H Q E,spP C f vs H Q E->vs.length=n+1:=fun vs H Q E h=>by
 obtain⟨p,vs',ds,P,_,rfl,_,r,t,_⟩:=h
 rw [õ,r.length,hn ds P t]
theorem Gx {x m:Int} (hm:0<m) (hb:m<=2 ^ 32):-(2 ^ 64)<x % m/\x % m<2 ^ 64:=by
 have h1:=Int.emod_nonneg x (b:=m) (by omega)
 have h2:=ů x hm
 omega
theorem J0 {i:Int}{ns:List Int} (h:(0:Int)<((ns.map V.int).length:Nat)):∃ v:Int,atI (ns.map V.int) (i % (((ns.map V.int).length:Nat):Int))=some (.int v):=by
 rw [Á] at h ⊢
 have h1:=Int.emod_nonneg i (b:=(ns.length:Int)) (by omega)
 have h2:=ů i h
 have hk:(i % (ns.length:Int)).toNat<ns.length:=by omega
 have ek:i % (ns.length:Int)=(((i % (ns.length:Int)).toNat:Nat):Int):=by omega
 have q:atI (ns.map V.int) (((i % (ns.length:Int)).toNat:Nat):Int)=some (.int ns[(i % (ns.length:Int)).toNat]):=cM (by rw [Ö,Ä hk]; rfl)
 rw [← ek] at q
 exact⟨_,q⟩
def tTk:TS:=fun D σ H=>∃ (a0 a2 a5:Option V) (m a cell:Int),σ=[a0,some (.int m),a2,some (.int a),some (.int cell),a5]/\0<m/\m<1073741824/\∀ r:Int,0<=r->r<m->D.rt (.int r) H
def tCe (K:â) (p sc:Addr) (ns:List Int):TS:=fun D σ H=>∃ (a2 a5:Option V) (m a cell x y:Int),σ=[some (.ref p),some (.int m),a2,some (.int a),some (.int cell),a5]/\0<m/\m<1073741824/\H p=some (.lst [.ref sc,.int x,.int y])/\SqL K H sc (ns.map V.int) /\
 (∀ r:Int,0<=r->r<m->D.rt (.int r) H)/\∀ r z:Int,0<=r->r<m->D.rt (.int r) (upd H p (.lst [.ref sc,.int x,.int z]))
theorem N8 {K:â}{T:DS}{N:List Str}{H:Hp}{Q:VK}{sc:Addr}{ns:List Int} (hS:SqL K H sc (ns.map V.int)) (q:∀ H',Q (.bl true) H') (hN:2<=N.length)
  (body:T { nx:=fun _=>False,rt:=fun d=>d=.bool true } (.any::.pen (CP K)::Ó (N.length - 2) .any)) :
  xV (qJ (Lp (vA (fj 0) (vA (tC (.int 0)) (vA (tC (.int 0)) Lk)))) (gQ 1)) (fP T) { nx:=fun _ H'=>Q .non H',rt:=Q } (L2.start N [.ref sc]) H:=by
 refine⟨_,rfl,by show 3<=sizeLine; decide,fun p hp=>?_⟩
 show fP T _ ((L2.start N [.ref sc]).set 1 (some (.ref p))) _
 have main:∀ b,(b=true->p≠sc)->(b=false->∀ H,SqL K H sc (ns.map V.int))->(b=true->Rd (upd H p (.lst [.ref sc,.int 0,.int 0])) sc (.lst (ns.map V.int)))->fP T { nx:=fun _ H'=>Q .non H',rt:=Q } ((L2.start N [.ref sc]).set 1 (some (.ref p))) (upd H p (.lst [.ref sc,.int 0,.int 0])):=by
  intro b h1 h2 h3
  refine⟨Ms p sc ns b,upd H p (.lst [.ref sc,.int 0,.int 0]),fun _=>none,_,_,?_,body,⟨fun _ _ _ _ _ _ n=>n.elim,fun d v H' n w=>?_,fun _ _ _ _ _ _ n=>n.elim,fun _ _ _ _ _ _ n=>n.elim⟩⟩
  ·have hl:(L2.start N [.ref sc]).length=N.length:=by unfold L2.start; simp; omega
   refine⟨fun b o e _=>e,⟨⟨0,0,ao⟩,h3⟩,fun a r e=>(nomatch e),fun j s e=>?_,by rw [Ō,hl,õ,õ,Ņ]; omega,trivial⟩
   rcases j with _ | _ | j
   ·cases e; trivial
   ·cases e
    exact⟨đ (by rw [hl]; omega),p,sc,ns,b,h1,h2,rfl⟩
   ·rw [List.getElem?_cons_succ,List.getElem?_cons_succ] at e
    have e2:=(Ĭ.mp (Æ e)).2
    subst e2
    trivial
  ·have n:d=.bool true:=n
   subst n
   have r:=w.rp
   cases r
   exact q H'
 rcases hS with h | h
 ·have hn:p≠sc:=by
   rintro rfl
   rcases h with z | ⟨o,z⟩ <;> rw [hp] at z <;> cases z
  exact main true (fun _=>hn) (fun z=>nomatch z) fun _=>Fo h hn
 ·exact main false (fun z=>nomatch z) (fun _ H=>.inr h) fun z=>nomatch z
section
variable {P:Program}{w:World}{K:â}{mg:Str->Option Value}{base:Heap}{f:Addr}{fd:FuncData}
theorem Ax:FnScope ["_law_pen","_law_many","_law_digit","_law_at","_law_cell","_law_number"] ["_law_pen","_law_many"] (aq (top 24)):=zC
theorem Jt (F:Fun K "_law_take" "_law_take" (top 24) f fd) (B:ź mg):FnOk P w K mg base CX0 1 f fd ["_law_pen","_law_many"] (spP (CP K) rJ):=by
 refine F.ok Ax uq (fun cdv A outer s H vs Q E hr h=>?_)
 obtain⟨_,vs',ds,P,⟨p,sc,ns,b,hps,hbK,rfl⟩,rfl,⟨⟨x,y,hp⟩,hsc⟩,rp,⟨m,rfl,m0,m30,hP⟩,q⟩:=h
 obtain rfl:vs'=[.int m]:=by
  cases rp with
  | cons h1 t=>cases h1; cases t; rfl
 have nd:=Ax.nd
 have hS:=FW hsc hbK
 refine⟨_,aO (vO (jV Bo (gM bU (pv 0) ň (fun _ _=>rfl)) ň (dg _))
   (aO (fX (i:=2) nd rfl (Or.inl rfl) (bG gq (gM bU (pv 0) ň (fun _ _=>rfl)) (pv 1)))
   (aO (yp (bG tZ (gM bU (pv 0) ň (fun _ _=>rfl)) (pv 1)) (yt (pv 0) ň set_list))
   (jf (sY (pv 2))))) jW)
  (aO (fX (i:=3) nd rfl (Or.inl rfl) (gM bU (pv 0) ň (fun _ _=>rfl)))
  (aO (yp (bG iy (pv 3) ň) (yt (pv 0) ň set_list))
  (aO (fX (i:=4) nd rfl (Or.inl rfl) ň)
  (aO (vO (jV Bo (cG dR rfl B.len PySem.boot_len (bN (gM bU (pv 0) ň (fun _ _=>rfl)) dY)) ň (dg _))
   (jf (fX (i:=4) nd rfl (Or.inl rfl) (gM bU (gM bU (pv 0) ň (fun _ _=>rfl)) (bG gq (pv 3) (cG dR rfl B.len PySem.boot_len (bN (gM bU (pv 0) ň (fun _ _=>rfl)) dY))) (fun _ _=>rfl)))) jW)
  (PSs.wk (t':=tCe K p sc ns) (aO (vO (PW.pt (Fv (jV Gj (pv 3) (cG dR rfl B.len PySem.boot_len (bN (gM bU (pv 0) ň (fun _ _=>rfl)) dY)) (dg _)) (Bg (jV KD (cG qD rfl B.abs Dl.boot_abs (bN (pv 4) dY)) (bG M5 ň ň) (dg _)))))
   (aO (yp (bG tZ (cG qD rfl B.abs Dl.boot_abs (bN (pv 4) dY)) (pv 1)) (yt (pv 0) ň set_list))
   (jf (sY (bG gq (cG qD rfl B.abs Dl.boot_abs (bN (pv 4) dY)) (pv 1))))) jW)
  (PSs.wk (t':=tTk) (aO (fX (i:=5) nd rfl (Or.inl rfl) (bG gq (bG jy (bG iy (bG iy (bG gq (pv 4) ň) (bG jy ň (pv 3))) ň) ň) ň))
  (aO (fX (i:=5) nd rfl (Or.inl rfl) (bG gq (bG iy (bG iy (bG jy (pv 5) (pv 5)) (bG jy ň (pv 5))) (pv 3)) ň))
  (aO (fX (i:=5) nd rfl (Or.inl rfl) (bG gq (bG iy (bG iy (bG jy (pv 5) (pv 5)) (bG jy ň (pv 5))) ň) ň))
  (jf (sY (bG gq (bG tZ (pv 5) ň) (pv 1))))))) ?tk)) ?ce))))),?_⟩
 case tk =>
  rintro D σ H' ⟨a0,a2,a5,m,a,cell,rfl,m0,m30,hq⟩
  have md:∀ x:Int,0<=x % m/\x % m<m:=fun x=>⟨Int.emod_nonneg _ (by omega),ů _ m0⟩
  refine⟨_,rfl,_,_,rfl,rfl,(by show (0:Int)<2147483629; decide),_,rfl,_,_,rfl,rfl,.inl ⟨by decide,by decide⟩,_,_,rfl,rfl,_,_,rfl,rfl,_,_,rfl,rfl,.inr ⟨by decide,by decide⟩,_,_,rfl,rfl,(by show (0:Int)<2147483647; decide),?_⟩
  refine⟨_,rfl,_,rfl,_,_,rfl,rfl,.inl (Gx (by decide) (by decide)),_,rfl,_,_,rfl,rfl,.inl ⟨by decide,by decide⟩,_,_,rfl,rfl,_,rfl,_,_,rfl,rfl,_,_,rfl,rfl,(by show (0:Int)<2147483587; decide),?_⟩
  refine⟨_,rfl,_,rfl,_,_,rfl,rfl,.inl (Gx (by decide) (by decide)),_,rfl,_,_,rfl,rfl,.inl ⟨by decide,by decide⟩,_,_,rfl,rfl,_,_,rfl,rfl,_,_,rfl,rfl,(by show (0:Int)<2147483563; decide),?_⟩
  exact⟨_,rfl,_,_,rfl,rfl,⟨by decide,by decide⟩,_,rfl,_,_,rfl,rfl,m0,hq _ (md _).1 (md _).2⟩
 case ce =>
  rintro D σ H' ⟨a2,a5,m,a,cell,x,y,rfl,m0,m30,hp,hS,hq,hq2⟩
  have md:∀ x:Int,0<=x % m/\x % m<m:=fun x=>⟨Int.emod_nonneg _ (by omega),ů _ m0⟩
  have el:tTk D [some (.ref p),some (.int m),a2,some (.int a),some (.int cell),a5] H':=⟨_,_,_,m,a,cell,rfl,m0,m30,hq⟩
  refine⟨_,rfl,_,rfl,p,_,_,_,rfl,rfl,SqL.of hp,rfl,sc,_,rfl,.inl hS,_,_,rfl,rfl,_,rfl,iM (fun c1=>?_) (fun c1=>aW el)⟩
  refine⟨_,rfl,cell,rfl,_,_,rfl,rfl,⟨by decide,by decide,by decide⟩,_,_,rfl,rfl,_,rfl,iM (fun c2=>?_) (fun c2=>el)⟩
  exact⟨_,rfl,cell,rfl,_,rfl,_,_,rfl,rfl,⟨m0,m30⟩,_,rfl,p,_,_,_,rfl,rfl,hp,rfl,_,rfl,cell,rfl,_,rfl,_,_,rfl,rfl,m0,hq2 _ _ (md _).1 (md _).2⟩
 have md:∀ x:Int,0<=x % m/\x % m<m:=fun x=>⟨Int.emod_nonneg _ (by omega),ů _ m0⟩
 have rdk:∀ (H':Hp) (o:HO),(b=true->Rd H' sc (.lst (ns.map V.int)))->b=true->Rd (upd H' p o) sc (.lst (ns.map V.int)):=fun H' o r e=>Fo (r e) (hps e)
 have fin:∀ (H':Hp) (r:Int),0<=r->r<m->(∀ a o,H a=some o->a≠p->H' a=some o)->(Ms p sc ns b).PI H'->Q (.int r) H':=fun H' r h1 h2 k e =>
  q _ _ _ (hP r h1 h2) (fun a o e n=>k a o e fun z=>n (.inl z)) e (.int r)
 have kU:∀ (H1:Hp) (o:HO),(∀ a o,H a=some o->a≠p->H1 a=some o)->∀ a u,H a=some u->a≠p->upd H1 p o a=some u:=fun H1 o k a u e n=>by rw [aj n]; exact k a u e n
 refine⟨_,rfl,p,_,_,_,rfl,rfl,SqL.of hp,rfl,_,_,rfl,rfl,_,rfl,iM (fun c1=>?_) (fun c1=>?_)⟩
 ·exact⟨_,rfl,p,_,_,_,rfl,rfl,SqL.of hp,rfl,_,rfl,_,_,rfl,rfl,m0,_,rfl,p,_,_,_,rfl,rfl,SqL.of hp,rfl,_,rfl,_,_,rfl,rfl,⟨m0,m30⟩,_,rfl,p,_,_,_,rfl,rfl,hp,rfl,_,rfl,fin _ _ (md _).1 (md _).2 (kU _ _ fun b o e _=>e) ⟨⟨_,_,ao⟩,rdk _ _ hsc⟩⟩
 ·have hp1:upd H p (.lst [.ref sc,.int (x+1),.int y]) p=some (.lst [.ref sc,.int (x+1),.int y]):=ao
  have r1:=rdk H (.lst [.ref sc,.int (x+1),.int y]) hsc
  have k1:=kU H (.lst [.ref sc,.int (x+1),.int y]) fun b o e _=>e
  have hS1:=FW r1 hbK
  have en:∀ (a4:Int) (a2 a5:Option V),tCe K p sc ns { nx:=fun _ H'=>Q .non H',rt:=Q } [some (.ref p),some (.int m),a2,some (.int x),some (.int a4),a5] (upd H p (.lst [.ref sc,.int (x+1),.int y])):=fun a4 a2 a5 =>
   ⟨a2,a5,m,x,a4,x+1,y,rfl,m0,m30,hp1,hS1,fun r r0 r1'=>fin _ r r0 r1' k1 ⟨⟨_,_,hp1⟩,r1⟩,fun r z r0 r1'=>fin _ r r0 r1' (kU _ _ k1) ⟨⟨_,_,ao⟩,rdk _ _ r1⟩⟩
  refine⟨_,rfl,p,_,_,_,rfl,rfl,SqL.of hp,rfl,?_⟩
  refine⟨_,rfl,_,_,rfl,rfl,_,rfl,p,_,_,_,rfl,rfl,hp,rfl,?_⟩
  refine⟨_,rfl,p,_,_,_,rfl,rfl,SqL.of hp1,rfl,sc,_,rfl,.inl hS1,_,_,rfl,rfl,_,rfl,iM (fun c2=>?_) (fun c2=>en _ _ _)⟩
  have c2:=of_decide_eq_true c2
  obtain⟨v,hv⟩:=J0 (i:=x) c2
  exact⟨_,rfl,p,_,_,_,rfl,rfl,SqL.of hp1,rfl,_,rfl,_,rfl,p,_,_,_,rfl,rfl,SqL.of hp1,rfl,sc,_,rfl,.inl hS1,_,_,rfl,rfl,c2,sc,_,_,_,rfl,rfl,hS1,hv,en _ _ _⟩
end
end Nf
set_option maxHeartbeats 4000000
namespace Nf
open PySem L2 PyProof.Rows Dl
structure IsOrd (n:Int) (l:List Int):Prop where
 len:(l.length:Int)=n
 rng:∀ x∈l,0<=x/\x<n
 nd:l.Nodup
theorem IsOrd.ins {k:Nat}{l:List Int} (h:IsOrd k l) (j:Nat):IsOrd ((k+1:Nat):Int) (l.take j++((k:Nat):Int)::l.drop j):=by
 have p:(l.take j++((k:Nat):Int)::l.drop j).Perm (((k:Nat):Int)::l):=by
  refine List.perm_middle.trans ?_
  rw [Ź]
 refine⟨?_,fun x hx=>?_,?_⟩
 ·rw [p.length_eq,õ]
  have:=h.len
  omega
 ·rcases Þ.mp (p.mem_iff.mp hx) with z | z
  ·omega
  ·have:=h.rng x z
   omega
 ·refine p.symm.nodup ?_
  refine Š.mpr ⟨fun z=>?_,h.nd⟩
  have:=h.rng _ z
  omega
theorem IsOrd.at {n:Int}{l:List Int} (h:IsOrd n l) {a:Int} (h0:0<=a) (h1:a<n):∃ x:Int,atI (l.map Ç) a=some (.int x)/\(0<=x/\x<n)/\l[a.toNat]?=some x:=by
 have hl:=h.len
 have hk:a.toNat<l.length:=by omega
 have ek:a=((a.toNat:Nat):Int):=by omega
 have z:atI (l.map Ç) ((a.toNat:Nat):Int)=some (.int l[a.toNat]):=cM (by rw [Ö,Ä hk]; rfl)
 rw [← ek] at z
 exact⟨_,z,h.rng _ (į hk),Ä hk⟩
def OkT (n:Int) (t:Tie):Prop:=(0<=t.1/\t.1<n)/\(0<=t.2/\t.2<n)/\t.1≠t.2
def OkN (n:Int) (us:List Tie):Prop:=∀ t∈us,OkT n t
theorem OkN.snoc {n:Int}{us:List Tie}{t:Tie} (h:OkN n us) (h':OkT n t):OkN n (us++[t]):=fun u hu=>(é.mp hu).elim (h u) fun z=>by rw [Ì.mp z]; exact h'
def OkW (n:Int) (us:List Tie):Prop:=∀ t∈us,0<=t.1/\t.1<t.2/\t.2<n
theorem app1 (ts:List Tie) (a b:Int):ts.map pD++[Ū [.int a,.int b]]=(ts++[((a,b):Tie)]).map pD:=by
 rw [ä]
 rfl
theorem Jv (us:List Tie):okD (.list (us.map pD))=true/\okD (.tuple (us.map pD))=true:=by
 have h1:∀ us:List Tie,ģ (us.map pD)=true:=fun us=>by
  induction us with
  | nil=>rfl
  | cons t us ih=>exact ih
 have h2:∀ us:List Tie,Ķ (us.map pD)<=1:=fun us=>by
  induction us with
  | nil=>exact Č _
  | cons t us ih =>
   show max (max 0 (max 0 0)+1) (Ķ (us.map pD))<=1
   omega
 have h3:Ķ (us.map pD)+1<=60:=by have:=h2 us; omega
 constructor
 ·show (ģ (us.map pD)&&decide (Ķ (us.map pD)+1<=60))=true
  rw [h1,decide_eq_true h3]; rfl
 ·show (ģ (us.map pD)&&decide (Ķ (us.map pD)+1<=60))=true
  rw [h1,decide_eq_true h3]; rfl
theorem Lg {x y:Int}{out:List Int} (p:out.Perm [x,y]) (s:out.Pairwise (·<=·)) (n:x≠y):∃ u v,out=[u,v]/\u<v/\(u=x\/u=y)/\(v=x\/v=y):=by
 have hl:=p.length_eq
 match out,hl with
 | [u,v],_ =>
  have hu:u∈[x,y]:=p.mem_iff.mp (by simp)
  have hv:v∈[x,y]:=p.mem_iff.mp (by simp)
  have hx:x∈[u,v]:=p.mem_iff.mpr (by simp)
  have hy:y∈[u,v]:=p.mem_iff.mpr (by simp)
  simp at hu hv hx hy s
  exact⟨u,v,rfl,by omega,hu,hv⟩
theorem yg {x:Int} (h0:0<=x) (h1:x<4) (a b c d:D):∃ e,atI [a,b,c,d] x=some e/\(e=a\/e=b\/e=c\/e=d):=by
 rcases (by omega:x=0\/x=1\/x=2\/x=3) with rfl | rfl | rfl | rfl
 ·exact⟨a,rfl,.inl rfl⟩
 ·exact⟨b,rfl,.inr (.inl rfl)⟩
 ·exact⟨c,rfl,.inr (.inr (.inl rfl))⟩
 ·exact⟨d,rfl,.inr (.inr (.inr rfl))⟩
def lD2 (t:Tie):D:=.list [.int t.1,.int t.2]
def K5 (ds:List D) (P:D->Prop):Prop:=∃ (n:Int) (ts:List Tie),ds=[.int n,.list (ts.map pD)]/\2<=n/\n<=16/\ts.length<=60/\OkN n ts/\∀ t,OkT n t->P (pD t)
def Ql (ds:List D) (P:D->Prop):Prop:=∃ a b:Int,ds=[.int a,.int b]/\1<=a/\a<=16/\1<=b/\b<=16/\∀ (n:Int) (us:List Tie),1<=n->(n<=a\/n<=b)->us.length<=39->OkW n us->P (aB n us)
section
variable {P:Program}{w:World}{K:â}{mg:Str->Option Value}{base:Heap}{f:Addr}{fd:FuncData}
theorem mX:FnScope ["_law_pen","_law_n","_law_ties","_law_sort","_law_one"] ["_law_pen","_law_n","_law_ties"] (aq (top 25)):=zC
theorem vV (F:Fun K "_law_more" "_law_more" (top 25) f fd) (B:ź mg) (C__law_take:Ł P w K mg base 1 "_law_take" ["_law_pen","_law_many"] (spP (CP K) rJ)):FnOk P w K mg base CX0 2 f fd ["_law_pen","_law_n","_law_ties"] (spP (CP K) K5):=by
 refine F.ok mX uq (fun cdv A outer s H vs Q E hr h=>?_)
 have nd:=mX.nd
 refine⟨_,Ğ (Ð (ā none (i:=3) nd rfl zQ (Wr.dcP C__law_take hr (Ŏ 0) (Â Ø Ã)))
  (Ð (Ŷ (Wr.wpt (Wr.eU (Wr.dF hr.units (Ñ 3) Ø) (Wr.fJ (Wr.cV hr.units (Ñ 2) (þ Ã))))) (ù (ę (í (Ñ 2) (Wr.dcP C__law_take hr (Ŏ 0) (Â (Ż B.len (Â (Ñ 2) Ã)) Ã))))) û)
  (Ð (ā none (i:=4) nd rfl zQ (Wr.dcP C__law_take hr (Ŏ 0) (Â (Ñ 1) Ã)))
  (Ð (Ŷ (Wr.wpt (Wr.eU (Wr.dF hr.units (Ñ 3) Ø) (Wr.fJ (Wr.tu (Ñ 1) Ø)))) (ù (ę (ť (Â (Ñ 4) (Â (Wr.tL (Wr.dG (Ñ 4) Ø) (Ñ 1)) Ã))))) û)
  (ù (ę (ť (Â (Ñ 4) (Â (Wr.tL (Wr.dG (Wr.dG (Ñ 4) Ø) (Wr.dcP C__law_take hr (Ŏ 0) (Â (Wr.gk (Ñ 1) Ø) Ã))) (Ñ 1)) Ã))))))))),enterQ h ?_⟩
 rintro ds P ⟨n,ts,rfl,n2,n16,lt,ok,q⟩
 refine⟨[.im (.int n),.sh (.list (ts.map pD)),.any,.any],rfl,?_⟩
 refine⟨rfl,4,rfl,by decide,by decide,fun r r0 r1=>?_⟩
 have rest:∀ s:Int,J3 (DN 4 none (Cp (CP K) rJ 0 (aK (tV 1) cB)))
   (J3 (dIf (J5 (eE (t2 (jG false) (tV 3) (tK (Ç 1)))) (eE (t2 (gI0 fun i j=>PyData.bool (decide (j<i))) (tV 1) (tK (Ç 2)))))
    (HD (oJ (aK (tV 4) (aK (t2 (gI (fun x j=>0<j) fun i j=>Ç (i % j)) (t2 pY (tV 4) (tK (Ç 2))) (tV 1)) cB)))) HJ)
   (HD (oJ (aK (tV 4) (aK (t2 (gI (fun x j=>0<j) fun i j=>Ç (i % j)) (t2 pY (t2 pY (tV 4) (tK (Ç 1))) (Cp (CP K) rJ 0 (aK (t2 (gI0 fun i j=>Ç (i - j)) (tV 1) (tK (Ç 1))) cB))) (tV 1)) cB)))))
   { nx:=fun x=>P PyData.none,rt:=P } [.pen (CP K),.im (.int n),.sh (.list (ts.map pD)),.im (.int s),.any]:=by
  intro s
  refine⟨rfl,n,rfl,by omega,by omega,fun o o0 o1=>?_⟩
  have last:∀ d:Int,0<=d->d<n - 1->OkT n (o,(o+1+d) % n):=fun d d0 d1=>by
   have e1:=Int.emod_nonneg (o+1+d) (b:=n) (by omega)
   have e2:=ů (o+1+d) (b:=n) (by omega)
   refine⟨⟨o0,o1⟩,⟨e1,e2⟩,fun z=>?_⟩
   have z:o=(o+1+d) % n:=z
   by_cases hh:o+1+d<n
   ·rw [Int.emod_eq_of_lt (by omega) hh] at z
    omega
   ·have:(o+1+d) % n=o+1+d - n:=by
     have h2:(o+1+d)=(o+1+d - n)+n:=by omega
     rw [h2,Int.add_emod_right,Int.emod_eq_of_lt (by omega) (by omega)]
     omega
    omega
  have el:HD (oJ (aK (tV 4) (aK (t2 (gI (fun x j=>0<j) fun i j=>Ç (i % j)) (t2 pY (t2 pY (tV 4) (tK (Ç 1))) (Cp (CP K) rJ 0 (aK (t2 (gI0 fun i j=>Ç (i - j)) (tV 1) (tK (Ç 1))) cB))) (tV 1)) cB))) { nx:=fun x=>P PyData.none,rt:=P } [.pen (CP K),.im (.int n),.sh (.list (ts.map pD)),.im (.int s),.im (.int o)] :=
   ⟨rfl,n - 1,rfl,by omega,by omega,fun d d0 d1=>⟨by omega,zK,rfl,q (o,(o+1+d) % n) (last d d0 d1)⟩⟩
  show if decide (s=1)=true then _ else _
  refine iM (fun c=>?_) (fun c=>aW (A:=True) el)
  show if decide (2<n)=true then _ else _
  refine iM (fun c=>?_) (fun c=>el)
  have c:=of_decide_eq_true c
  have lo:=last 1 (by omega) (by omega)
  exact⟨by omega,zK,rfl,q (o,(o+2) % n) (by rw [show o+2=o+1+1 by omega]; exact lo)⟩
 show if decide (r=0)=true then _ else _
 refine iM (fun c=>?_) (fun c=>aW (A:=True) (rest r))
 refine⟨zK,(Jv ts).1,rfl,?_⟩
 show if (!(î (.list (ts.map pD)) (.list [])))=true then _ else _
 cases ts with
 | nil=>exact aW (A:=True) (rest r)
 | cons t ts =>
  refine bJ (B:=True) ⟨rfl,_,rfl,?_,?_,fun d d0 d1=>?_⟩
  ·show (0:Int)<(((t::ts).map pD).length:Nat)
   rw [Á,õ]; omega
  ·show (((t::ts).map pD).length:Int)<1073741824
   rw [Á]; omega
  ·rw [Á] at d1
   have hk:d.toNat<(t::ts).length:=by omega
   have ek:d=((d.toNat:Nat):Int):=by omega
   have z:atI ((t::ts).map pD) ((d.toNat:Nat):Int)=some (pD (t::ts)[d.toNat]):=cM (by rw [Ö,Ä hk]; rfl)
   rw [← ek] at z
   exact⟨_,z,rfl,q _ (ok _ (į hk))⟩
theorem oN:FnScope ["_law_pen","_law_few","_law_great","_law_n","_law_turned","_law_k","_law_shape","_law_spared","_law_ties","_law_other","_law_turn","_law_found"] ["_law_pen","_law_few","_law_great"] (aq (top 26)):=zC
theorem dJ:(["_law_a","_law_b","_law_pen","_law_few","_law_great","_law_n","_law_turned","_law_k","_law_shape","_law_spared","_law_ties","_law_other","_law_turn","_law_found"]:List Str).Nodup:=by decide +kernel
theorem yK (F:Fun K "_law_web" "_law_web" (top 26) f fd) (B:ź mg) (C__law_take:Ł P w K mg base 1 "_law_take" ["_law_pen","_law_many"] (spP (CP K) rJ)) (C__law_more:Ł P w K mg base 2 "_law_more" ["_law_pen","_law_n","_law_ties"] (spP (CP K) K5)):FnOk P w K mg base CX0 3 f fd ["_law_pen","_law_few","_law_great"] (spP (CP K) Ql):=by
 refine F.ok oN uq (fun cdv A outer s H vs Q E hr h=>?_)
 have nd:=oN.nd
 refine⟨_,Ğ (Ð (ā none (i:=3) nd rfl zQ (Wr.dG Ø (Wr.dcP C__law_take hr (Ŏ 0) (Â (í (þ (Â (Ñ 1) (Â (Ñ 2) Ã))) (Wr.nZ B.int boot_int (Â (Wr.tR hr.units (Wr.dcP C__law_take hr (Ŏ 0) (Â Ø Ã)) Ø) Ã))) Ã))))
  (Ð (ā (some 0) (i:=4) nd rfl zQ (þ Ã))
  (Ð (ĸ ï rfl (ĵ B.range (Â (Ñ 3) Ã)) (å (i:=5) nd rfl zQ) (Ð (Wr.mK (Ŏ 4) (Â (Wr.dcP C__law_take hr (Ŏ 0) (Â (Wr.dG (Ñ 5) Ø) Ã)) (Â (Ñ 5) Ã))) (æ [5] û)))
  (æ [5] (Ð (ā none (i:=6) nd rfl zQ (Wr.dcP C__law_take hr (Ŏ 0) (Â Ø Ã)))
  (Ð (ā none (i:=7) nd rfl zQ (í (þ (Â Ø (Â Ø (Â Ø (Â Ø Ã))))) (Wr.dcP C__law_take hr (Ŏ 0) (Â Ø Ã))))
  (Ð (ā (some 1) (i:=8) nd rfl zQ (þ Ã))
  (Ð (ĸ ï rfl (Wr.mQ B.range (Â Ø (Â (Ñ 3) Ã))) (å (i:=5) nd rfl zQ) (Ð (ā none (i:=9) nd rfl zQ (í (þ (Â (Wr.gk (Ñ 5) Ø) (Â (Wr.dcP C__law_take hr (Ŏ 0) (Â (Ñ 5) Ã)) (Â (Wr.tO rfl B.max (Â Ø (Â (Wr.gk (Wr.gk (Ñ 5) Ø) (Wr.dcP C__law_take hr (Ŏ 0) (Â Ø Ã))) Ã))) (Â Ø Ã))))) (Ñ 6)))
  (Ð (Ŷ (Wr.yD (Wr.dcP C__law_take hr (Ŏ 0) (Â Ø Ã)) (Ñ 7)) (ù (Wr.bL (Ŏ 8) (Â (ť (Â (Ñ 9) (Â (Ñ 5) Ã))) Ã))) û) (æ [5,9] û))))
  (æ [5,9] (Ð (ĸ ï rfl (ĵ B.range (Â (Wr.jZ (Wr.dcP C__law_take hr (Ŏ 0) (Â (í (þ (Â Ø (Â Ø (Â Ø (Â Ø Ã))))) (Wr.dcP C__law_take hr (Ŏ 0) (Â Ø Ã))) Ã)) (Wr.nZ B.int boot_int (Â (Wr.Gh (Ñ 3) Ø) Ã))) Ã)) (å (i:=10) nd rfl zQ) (Ð (Wr.bL (Ŏ 8) (Â (Wr.dcP C__law_more hr (Ŏ 0) (Â (Ñ 3) (Â (Ñ 8) Ã))) Ã)) (æ [10] û)))
  (æ [10] (Ð (Wr.iT none ["_law_a","_law_b"] (i:=11) rfl nd rfl zQ (Ĵ (Ñ 8)) (fun c=>(Wr.jK (n:=2) rfl (ŗ (å (i:=0) dJ rfl zQ) (ŗ (å (i:=1) dJ rfl zQ) Wr.eY)))) (fun c=>Wr.dN) (fun c=>(Wr.j4 B.sorted (Â (þ (Â (í (Ñ 6) (Ñ 0)) (Â (í (Ñ 6) (Ñ 1)) Ã))) Ã))))
  (ù (ę (ť (Â (Ñ 3) (Â (Wr.nY B.tuple (Â (Wr.o7 B.sorted (Â (ŵ ["_law_a","_law_b"] rfl (Ĵ (Ñ 11)) (fun c=>(Wr.zR (n:=2) rfl (ŗ (å (i:=0) dJ rfl zQ) (ŗ (å (i:=1) dJ rfl zQ) Wr.eY)))) (fun c=>Wr.dN) (fun c=>(ť (Â (Ñ 0) (Â (Ñ 1) Ã))))) Ã)) Ã)) Ã))))))))))))))))),enterQ h ?_⟩
 rintro ds P ⟨a,b,rfl,a1,a16,b1,b16,q⟩
 refine⟨[.im (.int a),.im (.int b),.any,.any,.any,.any,.any,.any,.any,.any,.any],rfl,?_⟩
 refine⟨rfl,zK,rfl,12,rfl,by decide,by decide,fun r r0 r1=>?_⟩
 obtain⟨m,m1,m16,mab,hm⟩:∃ m:Int,1<=m/\m<=16/\(m=a\/m=b)/\atI [Ç a,Ç b] (if decide (r=11)=true then 1 else 0)=some (.int m):=by
  cases decide (r=11)
  ·exact⟨a,a1,a16,.inl rfl,rfl⟩
  ·exact⟨b,b1,b16,.inr rfl,rfl⟩
 refine⟨.int m,hm,m,rfl,by omega,by omega,fun x x0 x1=>?_⟩
 have n1:1<=1+x:=by omega
 have nm:1+x<=m:=by omega
 show DN 3 none (fun _ P=>P .imm (.int (1+x))) _ _
 generalize 1+x=n at n1 nm
 clear hm x0 x1
 refine⟨zK,⟨by omega,by omega⟩,rfl,fun (i:Nat) ρ=>∃ (l:List Int),ρ=[.pen (CP K),.im (.int a),.im (.int b),.im (.int n),.dw 0 (.list (l.map Ç)),.any,.any,.any,.any,.any,.any,.any]/\IsOrd i l,⟨[],rfl,rfl,fun x hx=>(nomatch hx),.nil⟩,?_,?_⟩
 ·rintro i d ρ hd ⟨l,rfl,hl⟩
  obtain⟨hi,rfl⟩:=bC hd
  have hlen:=hl.len
  refine⟨rfl,_,rfl,by omega,by omega,fun r r0 r1=>⟨rfl,r0,?_,?_,?_⟩⟩
  ·rw [Á]; omega
  ·rw [Á]; omega
  ·refine⟨l.take r.toNat++((i:Nat):Int)::l.drop r.toNat,?_,hl.ins r.toNat⟩
   show [Sl.pen (CP K),_,_,_,Sl.dw 0 (.list ((l.map Ç).take r.toNat++Ç (0+((i:Nat):Int))::(l.map Ç).drop r.toNat)),_,_,_,_,_,_,_]=_
   rw [ä,ð,List.map_take,List.map_drop,Ŀ]
   rfl
 rintro ρ ⟨l,rfl,hl⟩
 rw [Ű] at hl
 rw [show ((n.toNat:Nat):Int)=n by omega] at hl
 refine⟨rfl,4,rfl,by decide,by decide,fun sh s0 s1=>?_⟩
 refine⟨zK,rfl,4,rfl,by decide,by decide,fun p p0 p1=>?_⟩
 obtain⟨v,hv⟩:∃ v:Int,atI [Ç 0,.int 0,.int 1,.int 4] p=some (.int v):=by
  obtain⟨e,he,z⟩:=yg p0 p1 (.int 0) (.int 0) (.int 1) (.int 4)
  rcases z with rfl | rfl | rfl | rfl <;> exact⟨_,he⟩
 refine⟨.int v,hv,zK,?_⟩
 refine⟨⟨by omega,by omega,by omega,by omega⟩,rfl,fun (i:Nat) ρ=>∃ (ts:List Tie),ρ=[.pen (CP K),.im (.int a),.im (.int b),.im (.int n),.dw 0 (.list (l.map Ç)),.any,.im (.int sh),.im (.int v),.dw 1 (.list (ts.map pD)),.any,.any,.any]/\ts.length<=i/\OkN n ts,⟨[],rfl,Ò _,fun t ht=>nomatch ht⟩,?_,?_⟩
 ·rintro i d ρ hd ⟨ts,rfl,lt,ok⟩
  obtain⟨hi,rfl⟩:=bC hd
  have lm:(ts.map pD).length=ts.length:=Á ..
  refine⟨rfl,1+((i:Nat):Int),rfl,by omega,by omega,fun x x0 x1=>⟨rfl,2,rfl,by decide,by decide,fun y y0 y1=>⟨zK,?_⟩⟩⟩
  obtain⟨o,ho,o0,o1⟩:∃ o:Int,atI [Ç (1+((i:Nat):Int) - 1),.int x,.int (if 1+((i:Nat):Int) - 1 - y > 0 then 1+((i:Nat):Int) - 1 - y else 0),.int 0] sh=some (.int o)/\0<=o/\o<1+((i:Nat):Int):=by
   obtain⟨e,he,z⟩:=yg s0 s1 (.int (1+((i:Nat):Int) - 1)) (.int x) (.int (if 1+((i:Nat):Int) - 1 - y > 0 then 1+((i:Nat):Int) - 1 - y else 0)) (.int 0)
   rcases z with rfl | rfl | rfl | rfl
   ·exact⟨_,he,by omega,by omega⟩
   ·exact⟨_,he,by omega,by omega⟩
   ·refine⟨_,he,?_,?_⟩ <;> split <;> omega
   ·exact⟨_,he,by omega,by omega⟩
  refine⟨.int o,ho,rfl,12,rfl,by decide,by decide,fun z z0 z1=>?_⟩
  show if decide (v<=z)=true then _ else _
  refine iM (fun c=>⟨zK,rfl,by omega,ts++[(o,1+((i:Nat):Int))],?_,by rw [Ý,ń]; omega,ok.snoc ⟨⟨o0,by omega⟩,⟨by omega,by omega⟩,fun e=>?_⟩⟩) (fun c=>⟨ts,rfl,by omega,ok⟩)
  ·rw [← app1]; rfl
  ·have e:o=1+((i:Nat):Int):=e
   omega
 rintro ρ ⟨ts,rfl,lt,ok⟩
 rw [Ű] at lt
 have lt:ts.length<=15:=by omega
 refine⟨rfl,zK,rfl,4,rfl,by decide,by decide,fun p p0 p1=>?_⟩
 obtain⟨c,hc,c0,c1⟩:∃ c:Int,atI [Ç 1,.int 3,.int 6,.int 25] p=some (.int c)/\1<=c/\c<=25:=by
  obtain⟨e,he,z⟩:=yg p0 p1 (.int 1) (.int 3) (.int 6) (.int 25)
  rcases z with rfl | rfl | rfl | rfl
  ·exact⟨1,he,by decide,by decide⟩
  ·exact⟨3,he,by decide,by decide⟩
  ·exact⟨6,he,by decide,by decide⟩
  ·exact⟨25,he,by decide,by decide⟩
 refine⟨.int c,hc,c,rfl,by omega,by omega,fun z z0 z1=>?_⟩
 obtain⟨g,hg,g01,g1⟩:∃ g:Int,(if decide (1<n)=true then (1:Int) else 0)=g/\(g=0\/g=1)/\(g=1->2<=n):=by
  by_cases h:1<n
  ·exact⟨1,if_pos (decide_eq_true h),.inr rfl,fun _=>by omega⟩
  ·exact⟨0,if_neg (by rw [decide_eq_false h]; exact Ú),.inl rfl,fun z=>by omega⟩
 have zg:0<=z * g/\z * g<=24/\(0<z * g->2<=n):=by
  rcases g01 with rfl | rfl
  ·rw [Int.mul_zero]; omega
  ·rw [Int.mul_one]; omega
 show Ii z (if decide (1<n)=true then (1:Int) else 0)/\_
 rw [hg]
 refine⟨.inr (by rcases g01 with rfl | rfl <;> exact⟨by decide,by decide⟩),?_⟩
 show (-(2 ^ 62)<=z * g/\z * g<2 ^ 62)/\_
 generalize z * g=w0 at zg
 refine⟨⟨by omega,by omega⟩,rfl,fun (i:Nat) ρ=>∃ (ts:List Tie),ρ=[.pen (CP K),.im (.int a),.im (.int b),.im (.int n),.dw 0 (.list (l.map Ç)),.any,.im (.int sh),.im (.int v),.dw 1 (.list (ts.map pD)),.any,.any,.any]/\ts.length<=15+i/\OkN n ts,⟨ts,rfl,lt,ok⟩,?_,?_⟩
 ·rintro i d ρ hd ⟨ts,rfl,lt,ok⟩
  obtain⟨hi,rfl⟩:=bC hd
  have lm:(ts.map pD).length=ts.length:=Á ..
  refine⟨rfl,n,ts,rfl,zg.2.2 (by omega),by omega,by omega,ok,fun t ht=>⟨rfl,by omega,ts++[t],?_,by rw [Ý,ń]; omega,ok.snoc ht⟩⟩
  rw [ä]; rfl
 rintro ρ ⟨ts,rfl,lt,ok⟩
 rw [Ű] at lt
 have lt:ts.length<=39:=by omega
 have lm:(ts.map pD).length=ts.length:=Á ..
 refine⟨by omega,.new,fun i ys=>∃ us:List Tie,ys=us.map lD2/\us.length=i/\OkW n us,⟨[],rfl,rfl,fun t ht=>nomatch ht⟩,?_,?_⟩
 ·rintro i d ys hd ⟨us,rfl,hu,oku⟩
  obtain⟨t,ht,rfl⟩:=eV hd
  obtain⟨⟨a0,a1⟩,⟨b0,b1⟩,nab⟩:=ok t (Æ ht)
  obtain⟨x,ex,xr,xl⟩:=hl.at a0 a1
  obtain⟨y,ey,yr,yl⟩:=hl.at b0 b1
  have nxy:x≠y:=fun e=>by
   subst e
   have h1:=É.mp xl
   have h2:=É.mp yl
   have:=(List.getElem_inj hl.nd (h₀:=h1.1) (h₁:=h2.1)).mp (h1.2.trans h2.2.symm)
   omega
  refine⟨rfl,bJ (B:=True) ⟨.int x,ex,.int y,ey,zK,[x,y],rfl,(show 2<64 by decide),fun out hp hs=>?_⟩⟩
  obtain⟨u,v,rfl,uv,eu,ev⟩:=Lg hp hs nxy
  refine⟨rfl,us++[(u,v)],by rw [ä]; rfl,by rw [Ý,ń,hu],fun w hw=>?_⟩
  rcases é.mp hw with z | z
  ·exact oku w z
  ·rw [Ì.mp z]
   exact⟨by rcases eu with rfl | rfl <;> omega,uv,by rcases ev with rfl | rfl <;> omega⟩
 rintro ys ⟨us,rfl,hu,oku⟩
 have lu:(us.map lD2).length=us.length:=Á ..
 have hu:us.length<=39:=by omega
 refine GR us lD2 pD .imm rfl (by omega) (fun t ht A B hA=>⟨rfl,bJ (B:=B) ⟨zK,rfl,hA⟩⟩) ?_
 refine⟨us,.inl rfl,by omega,fun t ht=>⟨by have:=oku t ht; omega,by have:=oku t ht; omega⟩,fun us' hp _=>⟨zK,?_,q n us' n1 ?_ (by rw [hp.length_eq]; omega) fun t ht=>oku t (hp.mem_iff.mp ht)⟩⟩
 ·have e:=oA n us'
  show (norm _ (aB n us')).le .n0=true
  rw [iC e]
  rfl
 ·rcases mab with rfl | rfl
  ·exact .inl nm
  ·exact .inr nm
end
inductive Rt (us:List Tie):Int->Int->Prop
 | refl (a:Int):Rt us a a
 | step {a b c:Int} (h:Rt us a b) (t:(b,c)∈us):Rt us a c
theorem Rt.trans {us:List Tie}{a b c:Int} (h:Rt us a b) (k:Rt us b c):Rt us a c:=by
 induction k with
 | refl=>exact h
 | step _ t ih=>exact .step ih t
theorem Iw {us vs:List Tie} (h:∀ a b,(a,b)∈us->(b,a)∈vs) {a b:Int} (r:Rt us a b):Rt vs b a:=by
 induction r with
 | refl=>exact .refl _
 | step _ t ih=>exact (Rt.step (.refl _) (h _ _ t)).trans ih
theorem Rt.mono {us vs:List Tie} (h:∀ t∈us,t∈vs) {a b:Int} (r:Rt us a b):Rt vs a b:=by
 induction r with
 | refl=>exact .refl _
 | step _ t ih=>exact .step ih (h _ t)
theorem Rt.sym {us:List Tie} (h:∀ a b,(a,b)∈us->(b,a)∈us) {a b:Int} (r:Rt us a b):Rt us b a:=Iw h r
theorem Rt.rng {us:List Tie}{n:Nat} (ok:∀ t∈us,0<=t.2/\t.2<n) {a b:Int} (h:0<=a/\a<n) (r:Rt us a b):0<=b/\b<n:=by
 cases r with
 | refl=>exact h
 | step _ t=>exact ok _ t
open Classical in
def RZ (us:List Tie) (a b:Int):Bool:=decide (Rt us a b)
theorem Ig {us:List Tie}{a b:Int}:RZ us a b=true↔Rt us a b:=by
 classical
 unfold RZ
 exact decide_eq_true_iff
def RB (us:List Tie) (a b:Nat):Bool:=RZ us ((a:Nat):Int) ((b:Nat):Int)
theorem aD {us:List Tie}{a b:Nat}:RB us a b=true↔Rt us ((a:Nat):Int) ((b:Nat):Int):=Ig
theorem bB (us:List Tie) (a:Nat):RB us a a=true:=aD.mpr (.refl _)
def bw (R:Nat->Nat->Bool) (n a:Nat):List Nat:=(Ë n).filter fun b=>R a b&&R b a
def aP (R:Nat->Nat->Bool) (n a:Nat):Bool:=decide ((bw R n a).head?=some a)
def zI (l:List Nat):List Int:=l.map fun i:Nat=>0+((i:Nat):Int)
def cu (R:Nat->Nat->Bool) (n k:Nat):List (List Int):=(((Ë n).take k).filter (aP R n)).map fun a=>zI (bw R n a)
theorem jk (R:Nat->Nat->Bool) (n k:Nat):(cu R n k).length<=n:=by
 unfold cu
 rw [Á]
 have h1:=ý (aP R n) ((Ë n).take k)
 rw [ć,à] at h1
 omega
theorem xg (R:Nat->Nat->Bool) {n k:Nat} (h:k<n):cu R n (k+1)=cu R n k++if aP R n k=true then [zI (bw R n k)] else []:=by
 unfold cu
 have e:(Ë n).take (k+1)=(Ë n).take k++[k]:=by
  rw [ó,List.getElem?_range h]
  rfl
 rw [e,ř,ä]
 cases hf:aP R n k <;> simp [hf]
theorem gB {l:List Nat}{x:Int}:x∈zI l↔0<=x/\x.toNat∈l:=by
 unfold zI
 rw [ą]
 constructor
 ·rintro ⟨i,hi,rfl⟩
  rw [show ((0+((i:Nat):Int)).toNat)=i by omega]
  exact⟨by omega,hi⟩
 ·intro h
  exact⟨x.toNat,h.2,by omega⟩
theorem Nh {n:Nat}{x:Int}:x∈zI (Ë n)↔0<=x/\x<n:=by
 rw [gB,ã]
 omega
theorem nQ {l:List Nat} (h:l.Pairwise (·<·)):(zI l).Pairwise (·<·):=by
 unfold zI
 rw [Ţ]
 exact h.imp fun h=>by omega
def rsI (vs:List Tie) (n:Nat) (a:Int):List Int:=(zI (Ë n)).filter (RZ vs a)
theorem dh {vs:List Tie}{n:Nat}{a x:Int}:x∈rsI vs n a↔(0<=x/\x<n)/\Rt vs a x:=by
 unfold rsI
 rw [Û,Nh,Ig]
theorem jd {vs:List Tie}{n:Nat}{a:Int}:(rsI vs n a).Pairwise (·<·):=(nQ Ľ).filter _
theorem yj (vs:List Tie) (n:Nat) (a:Int):(rsI vs n a).length<=n:=by
 unfold rsI
 have:=ý (RZ vs a) (zI (Ë n))
 unfold zI at this
 rw [Á,à] at this
 exact this
theorem sU {l:List Int} (h:l.Pairwise (·<·)):l.Nodup:=h.imp fun h=>by omega
theorem rA {out ks l:List Int} (hp:out.Perm ks) (hs:out.Pairwise (·<=·)) (hn:ks.Nodup) (hl:l.Pairwise (·<·)) (hk:∀ q,q∈ks↔q∈l):out=l :=
 W.ksm_same (hp.trans ((List.perm_ext_iff_of_nodup hn (sU hl)).mpr hk)) hs (hl.imp fun h=>by omega)
theorem jU {l k:List Int} (hl:l.Pairwise (·<·)) (hk:k.Pairwise (·<·)) (h:∀ q,q∈l↔q∈k):l=k:=rA (List.Perm.refl _) (hl.imp fun h=>by omega) (sU hl) hk h
theorem Fl {vs:List Tie}{n:Nat}{a:Int}{out ks:List Int} (hp:out.Perm ks) (hs:out.Pairwise (·<=·)) (hn:ks.Nodup) (hk:∀ q,q∈ks↔Rt vs a q) (hr:∀ q,Rt vs a q->0<=q/\q<n):out=rsI vs n a :=
 rA hp hs hn jd fun q=>by
  rw [dh,hk]
  exact⟨fun h=>⟨hr q h,h⟩,fun h=>h.2⟩
def adj (us:List Tie) (F B:List Int):List Tie:=us.zipIdx.flatMap fun p=>if ((p.2:Nat):Int)∈F then [] else [p.1,(p.1.2,p.1.1)].filter fun t=>decide (t.2∉B)
theorem cI {us:List Tie}{F B:List Int}{x y:Int}:(x,y)∈adj us F B↔∃ k:Nat,(us[k]?=some (x,y)\/us[k]?=some (y,x))/\((k:Nat):Int)∉F/\y∉B:=by
 unfold adj
 rw [Ļ]
 constructor
 ·rintro ⟨⟨t,k⟩,hk,h⟩
  have hk:=ø.mp hk
  by_cases hF:((k:Nat):Int)∈F
  ·rw [if_pos hF] at h; cases h
  ·rw [if_neg hF,Û] at h
   obtain⟨h,hB⟩:=h
   refine⟨k,?_,hF,of_decide_eq_true hB⟩
   rcases Þ.mp h with e | e
   ·left; rw [e]; exact hk
   ·right
    have e:=Ì.mp e
    have e1:x=t.2:=congrArg Prod.fst e
    have e2:y=t.1:=congrArg Prod.snd e
    rw [e1,e2]; exact hk
 ·rintro ⟨k,h,hF,hB⟩
  rcases h with h | h
  ·refine⟨((x,y),k),ø.mpr h,?_⟩
   rw [if_neg hF,Û]
   exact⟨Ï,decide_eq_true hB⟩
  ·refine⟨((y,x),k),ø.mpr h,?_⟩
   rw [if_neg hF,Û]
   exact⟨Í _ (Ì.mpr rfl),decide_eq_true hB⟩
theorem lM {us:List Tie}{F B:List Int}{n:Int} (ok:OkN n us) (n0:0<=n):∀ t∈adj us F B,(0<=t.1/\t.1<(n.toNat:Nat))/\0<=t.2/\t.2<(n.toNat:Nat):=by
 rintro ⟨x,y⟩ h
 obtain⟨k,e,_⟩:=cI.mp h
 have en:((n.toNat:Nat):Int)=n:=by omega
 rcases e with e | e
 ·have o:=ok _ (Æ e)
  exact⟨by rw [en]; exact o.1,by rw [en]; exact o.2.1⟩
 ·have o:=ok _ (Æ e)
  exact⟨by rw [en]; exact o.2.1,by rw [en]; exact o.1⟩
theorem cN {us:List Tie}{F:List Int}:∀ a b,(a,b)∈adj us F []->(b,a)∈adj us F []:=fun a b h=>by
 obtain⟨k,e,hF,_⟩:=cI.mp h
 exact cI.mpr ⟨k,e.symm,hF,fun z=>nomatch z⟩
theorem OkW.okN {n:Int}{us:List Tie} (h:OkW n us):OkN n us:=fun t ht=>by
 have:=h t ht
 exact⟨⟨by omega,by omega⟩,⟨by omega,by omega⟩,by omega⟩
theorem lJ (x a b:Int):([Ç a,.int b].any fun e=>î e (.int x))=decide (x=a\/x=b):=by
 show (a == x || (b == x || false))=_
 rw [ē]
 simp
 omega
theorem fL {n:Nat}{l:List Int} (nd:l.Nodup) (h:∀ x∈l,0<=x/\x<n):l.length<=n:=by
 induction n generalizing l with
 | zero=>cases l with
  | nil=>exact Ò _
  | cons x l=>have:=h x (Ï ..); omega
 | succ n ih =>
  by_cases e:((n:Nat):Int)∈l
  ·have z:=ih (nd.erase ((n:Nat):Int)) fun x hx=>by
    have:=h x (List.mem_of_mem_erase hx)
    have:x≠((n:Nat):Int):=(nd.mem_erase_iff.mp hx).1
    omega
   rw [List.length_erase_of_mem e] at z
   omega
  ·have z:=ih nd fun x hx=>by
    have:=h x hx
    have:x≠((n:Nat):Int):=fun w=>e (w ▸ hx)
    omega
   omega
structure Fd (n:Nat) (es:List Tie) (a:Int) (l:List Int) (at':Nat):Prop where
 nd:l.Nodup
 rng:∀ x∈l,0<=x/\x<n
 st:a∈l
 rt:∀ x∈l,Rt es a x
 cl:∀ (j:Nat) (x:Int),j<at'->l[j]?=some x->∀ y,(x,y)∈es->y∈l
theorem Fd.add {n:Nat}{es:List Tie}{a:Int}{l:List Int}{i:Nat} (h:Fd n es a l i) (hi:i<=l.length) {x y:Int} (hx:x∈l) (t:(x,y)∈es) (hy:0<=y/\y<n) (nw:y∉l):Fd n es a (l++[y]) i:=by
 refine⟨List.nodup_append.mpr ⟨h.nd,by simp,fun z hz w hw=>by rw [Ì.mp hw]; rintro rfl; exact nw hz⟩,fun z hz=>?_,ċ _ h.st,fun z hz=>?_,fun j z hj hz w hw=>?_⟩
 ·rcases é.mp hz with z | z
  ·exact h.rng _ z
  ·rw [Ì.mp z]; exact hy
 ·rcases é.mp hz with z | z
  ·exact h.rt _ z
  ·rw [Ì.mp z]; exact .step (h.rt x hx) t
 ·rw [Ħ (by omega)] at hz
  exact ċ _ (h.cl j z hj hz w hw)
theorem Fd.all {n:Nat}{es:List Tie}{a:Int}{l:List Int}{i:Nat} (h:Fd n es a l i) (hi:l.length<=i):∀ x,x∈l↔Rt es a x:=fun x=>by
 refine⟨h.rt x,fun r=>?_⟩
 induction r with
 | refl=>exact h.st
 | step r t ih =>
  obtain⟨j,hj⟩:=ú ih
  have:=(É.mp hj).1
  exact h.cl j _ (by omega) hj _ t
def N5 (ds:List D) (P:D->Prop):Prop:=∃ n us a F B,ds=[aB n us,.int a,iD F,iD B]/\1<=n/\n<=16/\us.length<=60/\OkN n us/\0<=a/\a<n/\P (iD (rsI (adj us F B) n.toNat a))
section
variable {P:Program}{w:World}{K:â}{mg:Str->Option Value}{base:Heap}{f:Addr}{fd:FuncData}
theorem oO:FnScope ["_law_web_here","_law_start","_law_fallen","_law_barred","_law_found","_law_at","_law_k","_law_tie","_law_there"] ["_law_web_here","_law_start","_law_fallen","_law_barred"] (aq (top 27)):=zC
theorem yL (F:Fun K "_law_met" "_law_met" (top 27) f fd) (B:ź mg) (m_enumerate:mg "enumerate"=none) (m_sum:mg "sum"=none):FnOk P w K mg base CX0 1 f fd ["_law_web_here","_law_start","_law_fallen","_law_barred"] (spD N5):=by
 refine F.ok oO œ (fun cdv A outer s H vs Q E hr h=>?_)
 have nd:=oO.nd
 refine⟨_,Ğ (Ð (ā (some 0) (i:=4) nd rfl zQ (þ (Â (Ñ 1) Ã)))
  (Ð (ā none (i:=5) nd rfl zQ Ø)
  (Ð (Wr.lB ï (Wr.yC (Ñ 5) (Ż B.len (Â (Ñ 4) Ã))) (Ð (ĸ ï rfl (Wr.lG m_enumerate (Â (í (Ñ 0) Ø) Ã)) (Wr.jK (n:=2) rfl (ŗ (å (i:=6) nd rfl zQ) (ŗ (å (i:=7) nd rfl zQ) Wr.eY))) (Ð (ā none (i:=8) nd rfl zQ (Wr.gk (Wr.tE rfl m_sum (Â (Ñ 7) Ã)) (í (Ñ 4) (Ñ 5))))
  (Ð (Ŷ (Wr.wpt (Wr.eU (Wr.lY hr.units (í (Ñ 4) (Ñ 5)) (Ñ 7)) (Wr.eU (Wr.bQ hr.units (Ñ 6) (Ñ 2)) (Wr.eU (Wr.bQ hr.units (Ñ 8) (Ñ 4)) (Wr.fJ (Wr.bQ hr.units (Ñ 8) (Ñ 3))))))) (ù (Wr.bL (Ŏ 4) (Â (Ñ 8) Ã))) û) (æ [6,7,8] û))))
  (æ [6,7,8] (Ð (ā none (i:=5) nd rfl zQ (Wr.dG (Ñ 5) Ø)) (æ [6,7,8] û)))))
  (æ [5,6,7,8] (ù (ę (Wr.j4 B.sorted (Â (Ñ 4) Ã)))))))),aX h ?_⟩
 rintro ds P ⟨n,us,a,F,B,rfl,n1,n16,lu,ok,a0,a1,q⟩
 refine⟨[.im (aB n us),.im (.int a),.sh (iD F),.sh (iD B),.any,.any,.any,.any,.any],?_,?_⟩
 ·show [dz (aB n us),.im (.int a),.sh (iD F),.sh (iD B),.any,.any,.any,.any,.any]=_
  rw [aY]
 have an:=lM (F:=F) (B:=B) ok (by omega)
 refine⟨zK,fun mm ρ=>∃ (l:List Int) (i:Nat),ρ=[.im (aB n us),.im (.int a),.sh (iD F),.sh (iD B),.dw 0 (iD l),.im (.int ((i:Nat):Int)),.any,.any,.any]/\Fd n.toNat (adj us F B) a l i/\i<=l.length/\mm=17 - i,⟨_,[a],0,rfl,?_,Č _,rfl⟩,?_⟩
 ·exact⟨by simp,fun x hx=>by rw [Ì.mp hx]; omega,by simp,fun x hx=>by rw [Ì.mp hx]; exact .refl _,fun j x hj=>absurd hj (Nat.not_lt_zero _)⟩
 rintro mm ρ ⟨l,i,rfl,h,hi,rfl⟩
 have ll:(l.map Ç).length=l.length:=Á ..
 have hln:=fL h.nd h.rng
 show if decide (((i:Nat):Int)<((l.map Ç).length:Nat))=true then _ else _
 refine iM (fun c=>?_) (fun c=>?_)
 ·have c:=of_decide_eq_true c
  have hlt:i<l.length:=by omega
  have hx:=Ä hlt
  generalize l[i]=x at hx
  refine⟨.tuple (us.map pD),rfl,rfl,fun (j:Nat) ρ=>∃ l':List Int,ρ=[.im (aB n us),.im (.int a),.sh (iD F),.sh (iD B),.dw 0 (iD l'),.im (.int ((i:Nat):Int)),.any,.any,.any]/\Fd n.toNat (adj us F B) a l' i/\i<l'.length/\l'[i]?=some x/\∀ k:Nat,k<j->∀ y,(us[k]?=some (x,y)\/us[k]?=some (y,x))->((k:Nat):Int)∉F->y∉B->y∈l',⟨l,rfl,h,hlt,hx,fun k hk=>absurd hk (Nat.not_lt_zero _)⟩,?_,?_⟩
  ·rintro j d ρ hd ⟨l',rfl,h',hi',hx',hk'⟩
   rw [cT,Ö] at hd
   obtain⟨t,ht,rfl⟩:∃ t,us[j]?=some t/\Ū [.int ((j:Nat):Int),pD t]=d:=by
    cases e:us[j]? with
    | none=>rw [e] at hd; cases hd
    | some t=>rw [e] at hd; exact⟨t,rfl,Ù hd⟩
   obtain⟨⟨o1,o2⟩,⟨o3,o4⟩,o5⟩:=ok t (Æ ht)
   have atx:atI (l'.map Ç) ((i:Nat):Int)=some (.int x):=cM (by rw [Ö,hx']; rfl)
   have hxm:=Æ hx'
   have ll':(l'.map Ç).length=l'.length:=Á ..
   have hln':=fL h'.nd h'.rng
   refine⟨rfl,[t.1,t.2],rfl,zK,fun y hy=>?_,.int x,atx,?_⟩
   ·rcases Þ.mp hy with rfl | hy
    ·omega
    ·rw [Ì.mp hy]; omega
   rw [show [t.1,t.2].sum=t.1+t.2 by simp]
   have skip:(∀ y,(t=(x,y)\/t=(y,x))->((j:Nat):Int)∉F->y∉B->y∈l')->∃ l'':List Int,([.im (aB n us),.im (.int a),.sh (iD F),.sh (iD B),.dw 0 (iD l'),.im (.int ((i:Nat):Int)),.any,.any,.any]:List Sl)=[.im (aB n us),.im (.int a),.sh (iD F),.sh (iD B),.dw 0 (iD l''),.im (.int ((i:Nat):Int)),.any,.any,.any]/\Fd n.toNat (adj us F B) a l'' i/\i<l''.length/\l''[i]?=some x/\∀ k:Nat,k<j+1->∀ y,(us[k]?=some (x,y)\/us[k]?=some (y,x))->((k:Nat):Int)∉F->y∉B->y∈l'':=fun z=>by
    refine⟨l',rfl,h',hi',hx',fun k hk y hy hF hB=>?_⟩
    by_cases e:k=j
    ·subst e
     rw [ht] at hy
     exact z y (hy.imp Ù Ù) hF hB
    ·exact hk' k (by omega) y hy hF hB
   refine⟨.int x,atx,rfl,rfl,?_⟩
   show if ([Ç t.1,.int t.2].any fun e=>î e (.int x))=true then _ else _
   rw [lJ]
   refine iM (fun c1=>?_) (fun c1=>aW (A:=True) (skip fun y hy _ _=>?_))
   ·refine⟨rfl,dH F,?_⟩
    show if (!((F.map Ç).any fun e=>î e (.int ((j:Nat):Int))))=true then _ else _
    rw [Dl.any_ints]
    refine iM (fun c2=>?_) (fun c2=>aW (A:=True) (skip fun y _ hF _=>?_))
    ·refine⟨rfl,dH l',?_⟩
     show if (!((l'.map Ç).any fun e=>î e (.int (t.1+t.2 - x))))=true then _ else _
     rw [Dl.any_ints]
     have c1:=of_decide_eq_true c1
     have oth:∀ y,(t=(x,y)\/t=(y,x))->y=t.1+t.2 - x:=fun y hy=>by
      rcases hy with rfl | rfl
      ·show y=x+y - x
       omega
      ·show y=y+x - x
       omega
     refine iM (fun c3=>?_) (fun c3=>aW (A:=True) (skip fun y hy _ _=>?_))
     ·refine⟨rfl,dH B,?_⟩
      show if (!((B.map Ç).any fun e=>î e (.int (t.1+t.2 - x))))=true then _ else _
      rw [Dl.any_ints]
      refine iM (fun c4=>?_) (fun c4=>skip fun y hy _ hB=>?_)
      ·have n2:((j:Nat):Int)∉F:=by simpa using c2
       have n3:t.1+t.2 - x∉l':=by simpa using c3
       have n4:t.1+t.2 - x∉B:=by simpa using c4
       have ed:(x,t.1+t.2 - x)∈adj us F B:=cI.mpr ⟨j,by
        rw [ht]
        rcases c1 with rfl | rfl
        ·left
         rw [show t.1+t.2 - t.1=t.2 by omega]
        ·right
         rw [show t.1+t.2 - t.2=t.1 by omega],n2,n4⟩
       refine⟨rfl,by omega,l'++[t.1+t.2 - x],?_,h'.add (by omega) hxm ed (an _ ed).2 n3,by rw [Ý]; omega,by rw [Ħ hi']; exact hx',fun k hk y hy hF hB=>?_⟩
       ·unfold iD
        rw [ä]
        rfl
       ·by_cases e:k=j
        ·subst e
         rw [ht] at hy
         rw [oth y (hy.imp Ù Ù)]
         exact ê _ (Ì.mpr rfl)
        ·exact ċ _ (hk' k (by omega) y hy hF hB)
      ·rw [oth y hy] at hB
       exact absurd (by simpa using c4) hB
     ·rw [oth y hy]
      simpa using c3
    ·exact absurd (by simpa using c2) hF
   ·refine absurd (decide_eq_true ?_) c1
    rcases hy with rfl | rfl
    ·exact .inl rfl
    ·exact .inr rfl
  ·rintro ρ ⟨l',rfl,h',hi',hx',hk'⟩
   rw [cj,Á] at hk'
   have hln':=fL h'.nd h'.rng
   refine⟨17 - (i+1),by omega,l',i+1,rfl,⟨h'.nd,h'.rng,h'.st,h'.rt,fun k z hk hz y hy=>?_⟩,by omega,rfl⟩
   by_cases e:k=i
   ·subst e
    rw [hx'] at hz
    cases hz
    obtain⟨k,e,hF,hB⟩:=cI.mp hy
    have:k<us.length:=by rcases e with e | e <;> exact (É.mp e).1
    exact hk' k this y e hF hB
   ·exact h'.cl k z (by omega) hz y hy
 ·have c:¬ ((i:Nat):Int)<((l.map Ç).length:Nat):=fun z=>c (decide_eq_true z)
  have hall:=h.all (by omega)
  refine⟨l,rfl,by omega,fun out hp hs=>⟨rfl,?_⟩⟩
  rw [Fl hp hs h.nd hall (fun x r=>r.rng (fun t ht=>(an t ht).2) ⟨a0,by omega⟩)]
  exact q
end
structure StepsOk (n:Nat) (es:List Tie) (S:List (List Tie)):Prop where
 len:S.length=n
 rng:∀ ts∈S,∀ t∈ts,0<=t.1/\t.1<n
 few:∀ ts∈S,ts.length<=200
 is:∀ (a:Nat) (ts:List Tie),S[a]?=some ts->∀ b,(∃ t∈ts,t.1=b)↔(((a:Nat):Int),b)∈es
def stD (S:List (List Tie)):D:=.list (S.map fun ts=>.list (ts.map pD))
def rP (S:List (List Tie)):List (List D):=S.map fun ts=>ts.map pD
theorem Ey (S:List (List Tie)):Ĺ ((rP S).map Ĺ)=stD S:=by
 unfold rP stD
 rw [ě]
 rfl
theorem sW (S:List (List Tie)) (k:Nat) (l:List Tie) (u:Tie):(rP S).set k (l.map pD++[pD u])=rP (S.set k (l++[u])):=by
 unfold rP
 rw [List.map_set,ä]
 rfl
structure StepsTo (n:Nat) (us:List Tie) (k:Nat) (S:List (List Tie)):Prop where
 len:S.length=n
 rng:∀ ts∈S,∀ t∈ts,0<=t.1/\t.1<n
 few:∀ ts∈S,ts.length<=2 * k
 is:∀ (a:Nat) (ts:List Tie),S[a]?=some ts->∀ b,(∃ t∈ts,t.1=b)↔((((a:Nat):Int),b)∈us.take k\/(b,((a:Nat):Int))∈us.take k)
theorem vM {S:List (List Tie)}{p:Nat}{l:List Tie} (hl:S[p]?=some l) (q:Int) (x:Int) (a:Nat) (ts:List Tie) (h:(S.set p (l++[(q,x)]))[a]?=some ts):∃ ts0,S[a]?=some ts0/\∀ b,(∃ t∈ts,t.1=b)↔((∃ t∈ts0,t.1=b)\/(a=p/\b=q)):=by
 have hlt:=(É.mp hl).1
 by_cases e:p=a
 ·subst e
  rw [đ hlt] at h
  cases h
  refine⟨l,hl,fun b=>?_⟩
  constructor
  ·rintro ⟨u,hu,e⟩
   rcases é.mp hu with z | z
   ·exact .inl ⟨u,z,e⟩
   ·rw [Ì.mp z] at e
    exact .inr ⟨rfl,e.symm⟩
  ·rintro (⟨u,hu,e⟩ | ⟨_,rfl⟩)
   ·exact⟨u,ċ _ hu,e⟩
   ·exact⟨(b,x),ê _ (Ì.mpr rfl),rfl⟩
 ·rw [Ē e] at h
  exact⟨ts,h,fun b=>⟨.inl,fun z=>z.elim id fun z=>absurd z.1.symm e⟩⟩
theorem StepsTo.next {n:Nat}{us:List Tie}{k:Nat}{S:List (List Tie)} (h:StepsTo n us k S) {t:Tie} (ht:us[k]?=some t) (ok:(0<=t.1/\t.1<n)/\0<=t.2/\t.2<n) {l l':List Tie} (x:Int) (hl:S[t.1.toNat]?=some l) (hl':(S.set t.1.toNat (l++[(t.2,x)]))[t.2.toNat]?=some l'):StepsTo n us (k+1) ((S.set t.1.toNat (l++[(t.2,x)])).set t.2.toNat (l'++[(t.1,x)])):=by
 have hm:=Æ hl
 have tk:us.take (k+1)=us.take k++[t]:=by rw [ó,ht]; rfl
 have g1:∀ ts∈S.set t.1.toNat (l++[(t.2,x)]),(∀ t∈ts,0<=t.1/\t.1<n)/\ts.length<=2 * k+1:=fun ts hts=>by
  rcases List.mem_or_eq_of_mem_set hts with z | rfl
  ·exact⟨h.rng ts z,by have:=h.few ts z; omega⟩
  ·refine⟨fun u hu=>?_,by rw [Ý,ń]; have:=h.few l hm; omega⟩
   rcases é.mp hu with z | z
   ·exact h.rng l hm u z
   ·rw [Ì.mp z]; exact ok.2
 have g2:=g1 l' (Æ hl')
 refine⟨by rw [Ō,Ō]; exact h.len,fun ts hts=>?_,fun ts hts=>?_,fun a ts ha b=>?_⟩
 ·rcases List.mem_or_eq_of_mem_set hts with z | rfl
  ·exact (g1 ts z).1
  ·intro u hu
   rcases é.mp hu with z | z
   ·exact g2.1 u z
   ·rw [Ì.mp z]; exact ok.1
 ·rcases List.mem_or_eq_of_mem_set hts with z | rfl
  ·have:=(g1 ts z).2; omega
  ·rw [Ý,ń]; omega
 ·obtain⟨t1,h1,i1⟩:=vM hl' _ _ a ts ha
  obtain⟨t0,h0,i0⟩:=vM hl _ _ a t1 h1
  rw [i1,i0,h.is a t0 h0 b,tk,é,é,Ì,Ì]
  have e1:(a=t.1.toNat/\b=t.2)↔(((a:Nat):Int),b)=t:=by
   constructor
   ·rintro ⟨rfl,rfl⟩; rw [ő ok.1.1]
   ·intro e
    have z1:((a:Nat):Int)=t.1:=congrArg Prod.fst e
    exact⟨by omega,congrArg Prod.snd e⟩
  have e2:(a=t.2.toNat/\b=t.1)↔(b,((a:Nat):Int))=t:=by
   constructor
   ·rintro ⟨rfl,rfl⟩; rw [ő ok.2.1]
   ·intro e
    have z1:((a:Nat):Int)=t.2:=congrArg Prod.snd e
    exact⟨by omega,congrArg Prod.fst e⟩
  rw [e1,e2]
  constructor
  ·rintro (((z | z) | z) | z)
   ·exact .inl (.inl z)
   ·exact .inr (.inl z)
   ·exact .inl (.inr z)
   ·exact .inr (.inr z)
  ·rintro ((z | z) | (z | z))
   ·exact .inl (.inl (.inl z))
   ·exact .inl (.inr z)
   ·exact .inl (.inl (.inr z))
   ·exact .inr z
theorem jo {us:List Tie}{x y:Int}:(x,y)∈adj us [] []↔((x,y)∈us\/(y,x)∈us):=by
 rw [cI]
 constructor
 ·rintro ⟨k,e | e,_⟩
  ·exact .inl (Æ e)
  ·exact .inr (Æ e)
 ·rintro (e | e)
  ·obtain⟨k,hk⟩:=ú e
   exact⟨k,.inl hk,ă,ă⟩
  ·obtain⟨k,hk⟩:=ú e
   exact⟨k,.inr hk,ă,ă⟩
def aA (m:IM):List Int:=m.map (·.1)
theorem cL {m:IM}{k:Int}:eG m k=true↔k∈aA m:=by
 unfold eG aA
 rw [List.any_eq_true,ą]
 constructor
 ·rintro ⟨p,hp,e⟩; exact⟨p,hp,of_decide_eq_true e⟩
 ·rintro ⟨p,hp,e⟩; exact⟨p,hp,decide_eq_true e⟩
theorem Nv {m:IM}{k:Int} (h:eG m k=false):k∉aA m:=fun z=>by rw [cL.mpr z] at h; cases h
theorem sX {m:IM}{k:Int}{d:D} (h:eG m k=false):iu m k d=m++[(k,d)]:=by
 unfold iu
 rw [h]
 rfl
structure Sr (n:Nat) (us:List Tie) (a:Int) (m:IM) (open':Int->Prop):Prop where
 im:mH m=true
 nd:(aA m).Nodup
 rng:∀ x∈aA m,0<=x/\x<n
 st:a∈aA m
 rt:∀ x∈aA m,Rt us a x
 cl:∀ x∈aA m,open' x\/∀ b,(x,b)∈us->b∈aA m
theorem Sr.few {n:Nat}{us:List Tie}{a:Int}{m:IM}{o:Int->Prop} (h:Sr n us a m o):m.length<=n:=by
 have:=fL h.nd h.rng
 unfold aA at this
 rwa [Á] at this
theorem Sr.all {n:Nat}{us:List Tie}{a:Int}{m:IM} (h:Sr n us a m fun _=>False):∀ x,eG m x=true↔Rt us a x:=fun x=>by
 rw [cL]
 refine⟨h.rt x,fun r=>?_⟩
 induction r with
 | refl=>exact h.st
 | step r t ih=>exact (h.cl _ ih).elim Ť fun z=>z _ t
theorem Sr.add {n:Nat}{us:List Tie}{a x c:Int}{m:IM}{o o':Int->Prop} (h:Sr n us a m o) (hx:x∈aA m) (t:(x,c)∈us) (hc:0<=c/\c<n) (nw:eG m c=false) {d:D} (hd:eF d=true) (oo:∀ y,o y->o' y) (oc:o' c):Sr n us a (iu m c d) o':=by
 have kk:aA (m++[(c,d)])=aA m++[c]:=by unfold aA; rw [ä]; rfl
 rw [sX nw]
 refine⟨?_,?_,?_,?_,?_,?_⟩
 ·have:=h.im
  unfold mH at this ⊢
  rw [List.all_append,this]
  show (true&&(eF d&&true))=true
  rw [hd]; rfl
 ·rw [kk]
  exact List.nodup_append.mpr ⟨h.nd,by simp,fun y hy z hz=>by rw [Ì.mp hz]; rintro rfl; exact Nv nw hy⟩
 ·rw [kk]
  intro y hy
  rcases é.mp hy with z | z
  ·exact h.rng y z
  ·rw [Ì.mp z]; exact hc
 ·rw [kk]; exact ċ _ h.st
 ·rw [kk]
  intro y hy
  rcases é.mp hy with z | z
  ·exact h.rt y z
  ·rw [Ì.mp z]; exact .step (h.rt x hx) t
 ·rw [kk]
  intro y hy
  rcases é.mp hy with z | z
  ·exact (h.cl y z).imp (oo y) fun q b hb=>ċ _ (q b hb)
  ·rw [Ì.mp z]; exact .inl oc
theorem Sr.wk {n:Nat}{us:List Tie}{a:Int}{m:IM}{o o':Int->Prop} (h:Sr n us a m o) (f:∀ x∈aA m,o x->o' x\/∀ b,(x,b)∈us->b∈aA m):Sr n us a m o' :=
 ⟨h.im,h.nd,h.rng,h.st,h.rt,fun x hx=>(h.cl x hx).elim (f x hx) .inr⟩
def xP (n:Int) (us:List Tie):D:=.tuple [.int n,.list (us.map pD)]
def wbD:Bool->Int->List Tie->D
 | true,n,us=>xP n us
 | false,n,us=>aB n us
def BP (ds:List D) (P:D->Prop):Prop:=∃ b n us,ds=[wbD b n us]/\0<=n/\n<=100/\us.length<=100/\OkN n us/\∀ S,StepsOk n.toNat (adj us [] []) S->P (stD S)
def Hr (ds:List D) (P:D->Prop):Prop:=∃ b n us a,ds=[wbD b n us,.int a]/\0<=n/\n<=60/\us.length<=100/\OkN n us/\0<=a/\a<n/\P (iD (rsI (adj us [] []) n.toNat a))
def oE (ds:List D) (P:D->Prop):Prop:=∃ b n us,ds=[wbD b n us]/\0<=n/\n<=60/\us.length<=100/\OkN n us/\P (.list ((cu (RB (adj us [] [])) n.toNat n.toNat).map iD))
def BR (ds:List D) (P:D->Prop):Prop:=∃ n us S a,ds=[stD S,.int a]/\n<=100/\StepsOk n us S/\0<=a/\a<n/\∀ m:IM,mH m=true->(aA m).Nodup->m.length<=n->(∀ x,eG m x=true↔Rt us a x)->P (.dict (kvD m))
section
variable {P:Program}{w:World}{K:â}{mg:Str->Option Value}{base:Heap}{f:Addr}{fd:FuncData}
theorem gK:FnScope ["web","steps","number","tie"] ["web"] (aq (top 9)):=zC
theorem kh:(["place","web","steps","number","tie"]:List Str).Nodup:=by decide +kernel
theorem nJ (F:Fun K "steps_of_web" "steps_of_web" (top 9) f fd) (B:ź mg) (m_enumerate:mg "enumerate"=none):FnOk P w K mg base CX0 1 f fd ["web"] (spD BP):=by
 refine F.ok gK œ (fun cdv A outer s H vs Q E hr h=>?_)
 have nd:=gK.nd
 refine⟨_,Ğ (Ð (Wr.qg 0 ["place"] (i:=1) rfl nd rfl zQ (ĵ B.range (Â (í (Ñ 0) Ø) Ã)) (fun c=>(å (i:=0) kh rfl zQ)))
  (Ð (ĸ ï rfl (Wr.qp m_enumerate (Â (í (Ñ 0) Ø) Ã)) (Wr.jK (n:=2) rfl (ŗ (å (i:=2) nd rfl zQ) (ŗ (å (i:=3) nd rfl zQ) Wr.eY))) (Ð (Wr.ji (Ŏ 1) (í (Ñ 3) Ø) (Â (ť (Â (í (Ñ 3) Ø) (Â (Ñ 2) Ã))) Ã))
  (Ð (Wr.ji (Ŏ 1) (í (Ñ 3) Ø) (Â (ť (Â (í (Ñ 3) Ø) (Â (Ñ 2) Ã))) Ã)) (æ [2,3] û))))
  (æ [2,3] (ù (ę (Ñ 1)))))),aX h ?_⟩
 rintro ds P ⟨b0,n,us,rfl,n1,n16,lu,ok,q⟩
 cases b0
 ·refine⟨[.im (aB n us),.any,.any,.any],?_,?_⟩
  ·show [dz (aB n us),.any,.any,.any]=_
   rw [aY]
  refine⟨.int n,rfl,⟨by omega,by omega⟩,by rw [Ű]; omega,rfl,?_⟩
  rw [Ű]
  refine⟨.tuple (us.map pD),rfl,rfl,fun (i:Nat) ρ=>∃ S,ρ=[.im (aB n us),.rw 0 (rP S),.any,.any]/\StepsTo n.toNat us i S,?_,?_,?_⟩
  ·refine⟨Ó n.toNat [],?_,Ņ ..,fun ts h=>?_,fun ts h=>?_,fun a ts h b=>?_⟩
   ·unfold rP
    rw [List.map_replicate]
    rfl
   ·rw [(Ĭ.mp h).2]; exact fun t ht=>nomatch ht
   ·rw [(Ĭ.mp h).2]; exact Ò _
   ·rw [(Ĭ.mp (Æ h)).2]
    exact⟨fun ⟨t,ht,_⟩=>(nomatch ht),fun z=>z.elim (fun z=>nomatch z) fun z=>nomatch z⟩
  ·rintro i d ρ hd ⟨S,rfl,T⟩
   rw [cT,Ö] at hd
   obtain⟨t,ht,rfl⟩:∃ t,us[i]?=some t/\Ū [.int ((i:Nat):Int),pD t]=d:=by
    cases e:us[i]? with
    | none=>rw [e] at hd; cases hd
    | some t=>rw [e] at hd; exact⟨t,rfl,Ù hd⟩
   obtain⟨⟨o1,o2⟩,⟨o3,o4⟩,o5⟩:=ok t (Æ ht)
   have hi:=(É.mp ht).1
   have hlt:t.1.toNat<S.length:=by rw [T.len]; omega
   have hl:=Ä hlt
   generalize S[t.1.toNat]=l at hl
   have fl:=T.few l (Æ hl)
   have e1:=sW S t.1.toNat l (t.2,((i:Nat):Int))
   have hlt2:t.2.toNat<(S.set t.1.toNat (l++[(t.2,((i:Nat):Int))])).length:=by rw [Ō,T.len]; omega
   have hl2:=Ä hlt2
   have ne:t.1.toNat≠t.2.toNat:=by omega
   have hl2s:S[t.2.toNat]?=some (S.set t.1.toNat (l++[(t.2,((i:Nat):Int))]))[t.2.toNat]:=by rw [← hl2,Ē ne]
   have TN:=T.next ht ⟨⟨o1,by omega⟩,o3,by omega⟩ ((i:Nat):Int) hl hl2
   generalize (S.set t.1.toNat (l++[(t.2,((i:Nat):Int))]))[t.2.toNat]=l' at hl2 hl2s TN
   have fl':=T.few l' (Æ hl2s)
   refine⟨rfl,.int t.1,rfl,t.1.toNat,l.map pD,?_,by unfold rP; rw [Ö,hl]; rfl,.int t.2,rfl,zK,rfl,by rw [Á]; omega,.int t.2,rfl,?_⟩
   ·unfold ixN rP
    rw [if_pos o1,if_pos (by rw [Á,T.len]; omega)]
   refine⟨t.2.toNat,l'.map pD,?_,?_,.int t.1,rfl,zK,rfl,by rw [Á]; omega,_,?_,TN⟩
   ·unfold ixN rP
    rw [if_pos o3,if_pos (by rw [Ō,Á,T.len]; omega)]
   ·rw [Ē ne]
    unfold rP
    rw [Ö,hl2s]; rfl
   ·have e:=sW (S.set t.1.toNat (l++[(t.2,((i:Nat):Int))])) t.2.toNat l' (t.1,((i:Nat):Int))
    rw [← e,← e1]
    rfl
  ·rintro ρ ⟨S,rfl,T⟩
   rw [cj,Á] at T
   refine⟨rfl,?_⟩
   show P (.list ((rP S).map Ĺ))
   rw [Ey]
   refine q S ⟨T.len,T.rng,fun ts h=>by have:=T.few ts h; omega,fun a ts h b=>?_⟩
   have z:=T.is a ts h b
   rw [Ě] at z
   rw [z,jo]
 ·refine⟨[.sh (xP n us),.any,.any,.any],?_,?_⟩
  ·rfl
  refine⟨.int n,rfl,⟨by omega,by omega⟩,by rw [Ű]; omega,rfl,?_⟩
  rw [Ű]
  refine⟨.list (us.map pD),rfl,rfl,fun (i:Nat) ρ=>∃ S,ρ=[.sh (xP n us),.rw 0 (rP S),.any,.any]/\StepsTo n.toNat us i S,?_,?_,?_⟩
  ·refine⟨Ó n.toNat [],?_,Ņ ..,fun ts h=>?_,fun ts h=>?_,fun a ts h b=>?_⟩
   ·unfold rP
    rw [List.map_replicate]
    rfl
   ·rw [(Ĭ.mp h).2]; exact fun t ht=>nomatch ht
   ·rw [(Ĭ.mp h).2]; exact Ò _
   ·rw [(Ĭ.mp (Æ h)).2]
    exact⟨fun ⟨t,ht,_⟩=>(nomatch ht),fun z=>z.elim (fun z=>nomatch z) fun z=>nomatch z⟩
  ·rintro i d ρ hd ⟨S,rfl,T⟩
   rw [cT,Ö] at hd
   obtain⟨t,ht,rfl⟩:∃ t,us[i]?=some t/\Ū [.int ((i:Nat):Int),pD t]=d:=by
    cases e:us[i]? with
    | none=>rw [e] at hd; cases hd
    | some t=>rw [e] at hd; exact⟨t,rfl,Ù hd⟩
   obtain⟨⟨o1,o2⟩,⟨o3,o4⟩,o5⟩:=ok t (Æ ht)
   have hi:=(É.mp ht).1
   have hlt:t.1.toNat<S.length:=by rw [T.len]; omega
   have hl:=Ä hlt
   generalize S[t.1.toNat]=l at hl
   have fl:=T.few l (Æ hl)
   have e1:=sW S t.1.toNat l (t.2,((i:Nat):Int))
   have hlt2:t.2.toNat<(S.set t.1.toNat (l++[(t.2,((i:Nat):Int))])).length:=by rw [Ō,T.len]; omega
   have hl2:=Ä hlt2
   have ne:t.1.toNat≠t.2.toNat:=by omega
   have hl2s:S[t.2.toNat]?=some (S.set t.1.toNat (l++[(t.2,((i:Nat):Int))]))[t.2.toNat]:=by rw [← hl2,Ē ne]
   have TN:=T.next ht ⟨⟨o1,by omega⟩,o3,by omega⟩ ((i:Nat):Int) hl hl2
   generalize (S.set t.1.toNat (l++[(t.2,((i:Nat):Int))]))[t.2.toNat]=l' at hl2 hl2s TN
   have fl':=T.few l' (Æ hl2s)
   refine⟨rfl,.int t.1,rfl,t.1.toNat,l.map pD,?_,by unfold rP; rw [Ö,hl]; rfl,.int t.2,rfl,zK,rfl,by rw [Á]; omega,.int t.2,rfl,?_⟩
   ·unfold ixN rP
    rw [if_pos o1,if_pos (by rw [Á,T.len]; omega)]
   refine⟨t.2.toNat,l'.map pD,?_,?_,.int t.1,rfl,zK,rfl,by rw [Á]; omega,_,?_,TN⟩
   ·unfold ixN rP
    rw [if_pos o3,if_pos (by rw [Ō,Á,T.len]; omega)]
   ·rw [Ē ne]
    unfold rP
    rw [Ö,hl2s]; rfl
   ·have e:=sW (S.set t.1.toNat (l++[(t.2,((i:Nat):Int))])) t.2.toNat l' (t.1,((i:Nat):Int))
    rw [← e,← e1]
    rfl
  ·rintro ρ ⟨S,rfl,T⟩
   rw [cj,Á] at T
   refine⟨rfl,?_⟩
   show P (.list ((rP S).map Ĺ))
   rw [Ey]
   refine q S ⟨T.len,T.rng,fun ts h=>by have:=T.few ts h; omega,fun a ts h b=>?_⟩
   have z:=T.is a ts h b
   rw [Ě] at z
   rw [z,jo]
theorem qY:FnScope ["steps","start","came","row","later","place","step"] ["steps","start"] (aq (top 10)):=zC
theorem Dc (F:Fun K "search" "search" (top 10) f fd) (B:ź mg):FnOk P w K mg base CX0 1 f fd ["steps","start"] (spD BR):=by
 refine F.ok qY œ (fun cdv A outer s H vs Q E hr h=>?_)
 have nd:=qY.nd
 refine⟨_,Ğ (Ð (ā (some 0) (i:=2) nd rfl zQ (Wr.pB (Ñ 1) Wr.yF))
  (Ð (ā none (i:=3) nd rfl zQ (þ (Â (Ñ 1) Ã)))
  (Ð (Wr.lB ï (Wr.sZ (Ñ 3)) (Ð (ā (some 1) (i:=4) nd rfl zQ (þ Ã))
  (Ð (ĸ ï rfl (Ĵ (Ñ 3)) (å (i:=5) nd rfl zQ) (Ð (ĸ ï rfl (Ĵ (í (Ñ 0) (Ñ 5))) (å (i:=6) nd rfl zQ) (Ð (Ŷ (Wr.fY hr.units (í (Ñ 6) Ø) (Ñ 2)) (Ð (Wr.oF hr.units (Ŏ 2) (í (Ñ 6) Ø) (ť (Â (Ñ 5) (Â (í (Ñ 6) Ø) Ã))))
  (ù (Wr.bL (Ŏ 4) (Â (í (Ñ 6) Ø) Ã)))) û) (æ [6] û))) (æ [5,6] û)))
  (æ [5,6] (Wr.zJ 4 (Ð (ā none (i:=3) nd rfl zQ (Ñ 4)) (æ [4,5,6] û)))))))
  (æ [3,4,5,6] (ù (ę (Ñ 2))))))),aX h ?_⟩
 rintro ds P ⟨n,us,S,a,rfl,n16,ok,a0,a1,q⟩
 refine⟨[.sh (stD S),.im (.int a),.any,.any,.any,.any,.any],rfl,?_⟩
 refine⟨rfl,zK,?_⟩
 refine⟨fun mm ρ=>∃ (m:IM) (row:List Int),ρ=[.sh (stD S),.im (.int a),.dw 0 (.dict (kvD m)),.sn (iD row),.any,.any,.any]/\Sr n us a m (·∈row)/\(∀ x∈row,x∈aA m)/\mm=2 * (n - m.length)+(if row=[] then 0 else 1),⟨_,[(a,.none)],[a],rfl,?_,?_,rfl⟩,?_⟩
 ·refine⟨rfl,by simp [aA],fun x hx=>?_,by simp [aA],fun x hx=>?_,fun x hx=>.inl ?_⟩
  ·have e:x=a:=by simpa [aA] using hx
   omega
  ·have e:x=a:=by simpa [aA] using hx
   rw [e]; exact .refl _
  ·have e:x=a:=by simpa [aA] using hx
   rw [e]; exact Ì.mpr rfl
 ·intro x hx
  rw [Ì.mp hx]
  simp [aA]
 rintro mm ρ ⟨m,R,rfl,h,hr,rfl⟩
 show if (!(R.map Ç).isEmpty)=true then _ else _
 cases hR:R with
 | nil =>
  refine aW (A:=True) ⟨rfl,q m h.im h.nd h.few (Sr.all (h.wk fun x _ hx=>?_))⟩
  rw [hR] at hx
  cases hx
 | cons x0 R0 =>
  refine bJ (B:=True) ?_
  rw [← hR]
  refine⟨by decide,rfl,fun (i:Nat) ρ=>∃ (m':IM) (la:List Int),ρ=[.sh (stD S),.im (.int a),.dw 0 (.dict (kvD m')),.sn (iD R),.dw 1 (iD la),.any,.any]/\Sr n us a m' (fun y=>y∈la\/y∈R.drop i)/\(∀ y∈R,y∈aA m')/\(∀ y∈la,y∈aA m')/\m'.length=m.length+la.length,⟨m,[],rfl,h.wk fun x _ hx=>.inl (.inr hx),hr,fun y hy=>(nomatch hy),rfl⟩,?_,?_⟩
  ·rintro i d ρ hd ⟨m',la,rfl,h',hr',hla,hlen⟩
   obtain⟨y,hy,rfl⟩:=eV hd
   have yk:=hr' y (Æ hy)
   have yr:=h'.rng y yk
   have hlt:y.toNat<S.length:=by rw [ok.len]; omega
   have hl:=Ä hlt
   generalize S[y.toNat]=ts at hl
   have fl:=ok.few ts (Æ hl)
   have iS:=ok.is _ ts hl
   rw [show ((y.toNat:Nat):Int)=y by omega] at iS
   have dr:R.drop i=y::R.drop (i+1):=by
    have hi:=(É.mp hy).1
    rw [ŝ hi,(É.mp hy).2]
   have eat:atI (S.map fun ts=>Ĺ (ts.map pD)) y=some (.list (ts.map pD)):=by
    have:=cM (xs:=S.map fun ts=>Ĺ (ts.map pD)) (j:=y.toNat) (v:=.list (ts.map pD)) (by rw [Ö,hl]; rfl)
    rwa [show ((y.toNat:Nat):Int)=y by omega] at this
   refine⟨.list (ts.map pD),eat,rfl,fun (j:Nat) ρ=>∃ (m2:IM) (la:List Int),ρ=[.sh (stD S),.im (.int a),.dw 0 (.dict (kvD m2)),.sn (iD R),.dw 1 (iD la),.im (.int y),.any]/\Sr n us a m2 (fun z=>(z∈la\/z∈R.drop (i+1))\/z=y)/\(∀ y∈R,y∈aA m2)/\(∀ y∈la,y∈aA m2)/\m2.length=m.length+la.length/\∀ t∈ts.take j,t.1∈aA m2,⟨m',la,rfl,h'.wk fun z _ hz=>.inl ?_,hr',hla,hlen,fun t ht=>(nomatch ht)⟩,?_,?_⟩
   ·rcases hz with hz | hz
    ·exact .inl (.inl hz)
    ·rw [dr] at hz
     rcases Þ.mp hz with e | e
     ·exact .inr e
     ·exact .inl (.inr e)
   ·rintro j d ρ hd ⟨m2,la,rfl,h2,hr2,hla2,hlen2,hts⟩
    obtain⟨t,ht,rfl⟩:=eV hd
    have tk:ts.take (j+1)=ts.take j++[t]:=by rw [ó,ht]; rfl
    have tm:=Æ ht
    have tr:=ok.rng ts (Æ hl) t tm
    have few2:=h2.few
    refine⟨.int t.1,rfl,m2,rfl,?_⟩
    show if (!eG m2 t.1)=true then _ else _
    cases hb:eG m2 t.1 with
    | true =>
     refine aW (A:=True) ⟨m2,la,rfl,h2,hr2,hla2,hlen2,fun u hu=>?_⟩
     rw [tk] at hu
     rcases é.mp hu with z | z
     ·exact hts u z
     ·rw [Ì.mp z]; exact cL.mp hb
    | false =>
     have kk:aA (iu m2 t.1 (.tuple [.int y,.int t.2]))=aA m2++[t.1]:=by
      rw [sX hb]; unfold aA; rw [ä]; rfl
     have ll:(la.map Ç).length=la.length:=Á ..
     refine bJ (B:=True) ⟨.int t.2,rfl,zK,.int t.1,rfl,m2,rfl,rfl,h2.im,by omega,.int t.1,rfl,rfl,by omega,iu m2 t.1 (.tuple [.int y,.int t.2]),la++[t.1],?_,h2.add (x:=y) (hr2 y (Æ hy)) ((iS t.1).mp ⟨t,tm,rfl⟩) tr hb rfl (fun z hz=>?_) (.inl (.inl (ê _ (Ì.mpr rfl)))),fun z hz=>?_,fun z hz=>?_,?_,fun u hu=>?_⟩
     ·unfold iD
      rw [ä]
      rfl
     ·rcases hz with (z | z) | z
      ·exact .inl (.inl (ċ _ z))
      ·exact .inl (.inr z)
      ·exact .inr z
     ·rw [kk]; exact ċ _ (hr2 z hz)
     ·rw [kk]
      rcases é.mp hz with z | z
      ·exact ċ _ (hla2 _ z)
      ·rw [Ì.mp z]; exact ê _ (Ì.mpr rfl)
     ·rw [sX hb,Ý,Ý,hlen2]
      show m.length+la.length+1=m.length+(la.length+1)
      omega
     ·rw [kk]
      rw [tk] at hu
      rcases é.mp hu with z | z
      ·exact ċ _ (hts u z)
      ·rw [Ì.mp z]; exact ê _ (Ì.mpr rfl)
   ·rintro ρ ⟨m2,la,rfl,h2,hr2,hla2,hlen2,hts⟩
    rw [Á,Ě] at hts
    refine⟨m2,la,rfl,h2.wk fun z hz hz'=>?_,hr2,hla2,hlen2⟩
    rcases hz' with z' | z'
    ·exact .inl z'
    ·right
     intro b hb
     rw [z'] at hb
     obtain⟨t,ht,e⟩:=(iS b).mpr hb
     rw [← e]
     exact hts t ht
  ·rintro ρ ⟨m',la,rfl,h',hr',hla,hlen⟩
   rw [Á] at h'
   have few':=h'.few
   refine⟨rfl,2 * (n - m'.length)+(if la=[] then 0 else 1),?_,m',la,rfl,h'.wk fun x _ hx=>.inl ?_,hla,rfl⟩
   ·rw [if_neg (show ¬ R=[] by rw [hR]; exact fun z=>nomatch z)]
    by_cases e:la=[]
    ·subst e
     rw [if_pos rfl]
     have hlen:m'.length=m.length+0:=hlen
     omega
    ·rw [if_neg e]
     have:=List.length_pos_iff.mpr e
     omega
   ·rcases hx with hx | hx
    ·exact hx
    ·rw [List.drop_length] at hx
     cases hx
end
theorem bV {R:Nat->Nat->Bool}{n i:Nat} (hi:i<n) (hs:R i i=true):aP R n i=true↔∀ b,b<i->(R i b&&R b i)=false:=by
 unfold aP bw
 rw [decide_eq_true_iff,List.head?_filter,List.find?_range_eq_some]
 constructor
 ·intro h b hb
  have:=h.2.2 b hb
  rwa [Bool.not_eq_true'] at this
 ·intro h
  refine⟨by rw [hs]; rfl,ã.mpr hi,fun j hj=>?_⟩
  rw [h j hj]; rfl
theorem Bp {es:List Tie} (sy:∀ a b,(a,b)∈es->(b,a)∈es) (n i:Nat):rsI es n ((i:Nat):Int)=zI (bw (RB es) n i):=by
 refine jU jd (nQ (Ľ.filter _)) fun q=>?_
 rw [dh,gB]
 unfold bw
 rw [Û,ã,Ü,aD,aD]
 constructor
 ·rintro ⟨⟨h0,h1⟩,r⟩
  rw [ő h0]
  exact⟨h0,by omega,r,r.sym sy⟩
 ·rintro ⟨h0,h1,r,_⟩
  rw [ő h0] at r
  exact⟨⟨h0,by omega⟩,r⟩
structure Seen (n:Nat) (es:List Tie) (i:Nat) (m:IM):Prop where
 im:mH m=true
 nd:(aA m).Nodup
 rng:∀ x∈aA m,0<=x/\x<n
 is:∀ x,x∈aA m↔∃ p:Nat,p<i/\Rt es ((p:Nat):Int) x
theorem vN {m:IM} (k:Int) (d:D):∀ x,x∈aA (iu m k d)↔x∈aA m\/x=k:=fun x=>by
 unfold iu
 by_cases h:eG m k=true
 ·rw [if_pos h]
  have e:aA (m.map fun p=>if p.1=k then (p.1,d) else p)=aA m:=by
   unfold aA
   rw [ě]
   refine List.map_congr_left fun p _=>?_
   show (if p.1=k then (p.1,d) else p).1=p.1
   split <;> rfl
  rw [e]
  exact⟨.inl,fun z=>z.elim id fun z=>z ▸ cL.mp h⟩
 ·rw [if_neg h]
  unfold aA
  rw [ä,é]
  exact Iff.rfl.trans ⟨fun z=>z.imp id Ì.mp,fun z=>z.imp id fun z=>Ì.mpr z⟩
theorem Bh {m:IM} (k:Int) (d:D) (h:mH m=true) (hd:eF d=true):mH (iu m k d)=true:=by
 unfold iu
 split
 ·unfold mH at *
  rw [List.all_map,Ŗ]
  intro p hp
  show eF (if p.1=k then (p.1,d) else p).2=true
  split
  ·exact hd
  ·exact Ŗ.mp h p hp
 ·unfold mH at *
  rw [List.all_append,h]
  show (true&&(eF d&&true))=true
  rw [hd]; rfl
theorem Fw {m:IM} (k:Int) (d:D) (h:(aA m).Nodup):(aA (iu m k d)).Nodup:=by
 unfold iu
 by_cases hh:eG m k=true
 ·rw [if_pos hh]
  have e:aA (m.map fun p=>if p.1=k then (p.1,d) else p)=aA m:=by
   unfold aA
   rw [ě]
   refine List.map_congr_left fun p _=>?_
   show (if p.1=k then (p.1,d) else p).1=p.1
   split <;> rfl
  rw [e]; exact h
 ·rw [if_neg hh]
  unfold aA at *
  rw [ä]
  refine List.nodup_append.mpr ⟨h,by simp,fun y hy z hz=>?_⟩
  have hz:=Ì.mp hz
  rw [hz]
  rintro rfl
  exact hh (cL.mpr hy)
section
variable {P:Program}{w:World}{K:â}{mg:Str->Option Value}{base:Heap}{f:Addr}{fd:FuncData}
theorem oM:FnScope ["web","place"] ["web","place"] (aq (top 11)):=zC
theorem yJ (F:Fun K "part_of" "part_of" (top 11) f fd) (B:ź mg) (C_search:Ł P w K mg base 1 "search" ["steps","start"] (spD BR)) (C_steps_of_web:Ł P w K mg base 1 "steps_of_web" ["web"] (spD BP)):FnOk P w K mg base CX0 2 f fd ["web","place"] (spD Hr):=by
 refine F.ok oM œ (fun cdv A outer s H vs Q E hr h=>?_)
 have nd:=oM.nd
 refine⟨_,Ğ (ù (ę (Wr.o8 rfl B.sorted (Â (ŷ C_search hr (Â (ŷ C_steps_of_web hr (Â (Ñ 0) Ã)) (Â (Ñ 1) Ã))) Ã)))),aX h ?_⟩
 rintro ds P ⟨b0,n,us,a,rfl,n1,n16,lu,ok,a0,a1,q⟩
 cases b0
 ·refine⟨[.im (aB n us),.im (.int a)],?_,?_⟩
  ·show [dz (aB n us),.im (.int a)]=_
   rw [aY]
  have an:=lM (F:=[]) (B:=[]) ok (by omega)
  refine⟨false,n,us,rfl,by omega,by omega,lu,ok,fun S hS=>⟨n.toNat,_,S,a,rfl,by omega,hS,a0,by omega,fun m im nd few all=>⟨m,rfl,by omega,fun out hp hs=>⟨rfl,?_⟩⟩⟩⟩
  have e:=Fl (vs:=adj us [] []) (n:=n.toNat) (a:=a) hp hs nd (fun x=>by rw [← all,cL]; rfl) fun x r=>r.rng (fun t ht=>(an t ht).2) ⟨a0,by omega⟩
  rw [e]
  exact q
 ·refine⟨[.sh (xP n us),.im (.int a)],?_,?_⟩
  ·rfl
  have an:=lM (F:=[]) (B:=[]) ok (by omega)
  refine⟨true,n,us,rfl,by omega,by omega,lu,ok,fun S hS=>⟨n.toNat,_,S,a,rfl,by omega,hS,a0,by omega,fun m im nd few all=>⟨m,rfl,by omega,fun out hp hs=>⟨rfl,?_⟩⟩⟩⟩
  have e:=Fl (vs:=adj us [] []) (n:=n.toNat) (a:=a) hp hs nd (fun x=>by rw [← all,cL]; rfl) fun x r=>r.rng (fun t ht=>(an t ht).2) ⟨a0,by omega⟩
  rw [e]
  exact q
theorem vD:FnScope ["web","told","seen","place","part","member"] ["web"] (aq (top 12)):=zC
theorem Gp (F:Fun K "parts" "parts" (top 12) f fd) (B:ź mg) (C_part_of:Ł P w K mg base 2 "part_of" ["web","place"] (spD Hr)):FnOk P w K mg base CX0 3 f fd ["web"] (spD oE):=by
 refine F.ok vD œ (fun cdv A outer s H vs Q E hr h=>?_)
 have nd:=vD.nd
 refine⟨_,Ğ (Ð (ā (some 0) (i:=1) nd rfl zQ (þ Ã))
  (Wr.wV 1 true (Ð (ā (some 1) (i:=2) nd rfl zQ Wr.tU)
  (Ð (ĸ ï rfl (ĵ B.range (Â (í (Ñ 0) Ø) Ã)) (å (i:=3) nd rfl zQ) (Ð (Ŷ (Wr.fY hr.units (Ñ 3) (Ñ 2)) (Ð (ā none (i:=4) nd rfl zQ (ŷ C_part_of hr (Â (Ñ 0) (Â (Ñ 3) Ã))))
  (Ð (Wr.lC (Ŏ 1) (Â (Ñ 4) Ã))
  (Ð (ĸ ï rfl (Ĵ (Ñ 4)) (å (i:=5) nd rfl zQ) (Ð (Wr.oF hr.units (Ŏ 2) (Ñ 5) Wr.rC) (æ [5] û))) (æ [5] û)))) û) (æ [3,4,5] û)))
  (æ [3,4,5] (ù (ę (Ñ 1)))))))),aX h ?_⟩
 rintro ds P ⟨b0,n,us,rfl,n1,n16,lu,ok,q⟩
 cases b0
 ·refine⟨[.im (aB n us),.any,.any,.any,.any,.any],?_,?_⟩
  ·show [dz (aB n us),.any,.any,.any,.any,.any]=_
   rw [aY]
  have an:=lM (F:=[]) (B:=[]) ok (by omega)
  have sy:=cN (us:=us) (F:=[])
  generalize hes:adj us [] []=es at an sy q
  refine⟨zK,rfl,.int n,rfl,⟨by omega,by omega⟩,rfl,fun (i:Nat) ρ=>∃ m,ρ=[.im (aB n us),.sp 0 true ((cu (RB es) n.toNat i).map iD),.dw 1 (.dict (kvD m)),.any,.any,.any]/\Seen n.toNat es i m,⟨[],rfl,rfl,by simp [aA],fun x hx=>(nomatch hx),fun x=>⟨fun z=>(nomatch z),fun ⟨p,hp,_⟩=>absurd hp (Nat.not_lt_zero _)⟩⟩,?_,?_⟩
  ·rintro i d ρ hd ⟨m,rfl,h⟩
   obtain⟨hi,rfl⟩:=bC hd
   have ec:=xg (RB es) hi
   have hl:=jk (RB es) n.toNat i
   refine⟨m,rfl,?_⟩
   show if (!eG m (0+((i:Nat):Int)))=true then _ else _
   rw [Ŀ]
   have hf:aP (RB es) n.toNat i=!eG m ((i:Nat):Int):=by
    rw [ē,bV hi (bB es i),Bool.not_eq_true',← İ,cL,h.is]
    constructor
    ·rintro z ⟨p,hp,r⟩
     have:=z p hp
     rw [aD.mpr r,aD.mpr (r.sym sy)] at this
     cases this
    ·intro z b hb
     rw [Bool.and_eq_false_iff,← İ,← İ,aD,aD]
     exact .inr fun r=>z ⟨b,hb,r⟩
   cases hb:eG m ((i:Nat):Int) with
   | true =>
    rw [hf,hb,if_neg (by decide),ğ] at ec
    refine aW (A:=True) ⟨m,?_,h.im,h.nd,h.rng,fun x=>?_⟩
    ·rw [ec]
     rfl
    ·rw [h.is]
     constructor
     ·rintro ⟨p,hp,r⟩
      exact⟨p,by omega,r⟩
     ·rintro ⟨p,hp,r⟩
      by_cases e:p=i
      ·subst e
       obtain⟨p',hp',r'⟩:=(h.is _).mp (cL.mp hb)
       exact⟨p',hp',r'.trans r⟩
      ·exact⟨p,by omega,r⟩
   | false =>
    rw [hf,hb,if_pos (by decide)] at ec
    refine bJ (B:=True) ⟨false,n,us,_,rfl,by omega,by omega,lu,ok,by omega,by omega,?_⟩
    rw [hes]
    have pm:∀ x,x∈rsI es n.toNat ((i:Nat):Int)↔Rt es ((i:Nat):Int) x:=fun x=>by
     rw [dh]
     exact⟨fun z=>z.2,fun r=>⟨r.rng (fun t ht=>(an t ht).2) ⟨by omega,by omega⟩,r⟩⟩
    rw [← Bp sy] at ec
    have pl:=yj es n.toNat ((i:Nat):Int)
    generalize rsI es n.toNat ((i:Nat):Int)=pt at ec pm pl
    refine⟨rfl,by rw [Á]; omega,?_⟩
    refine⟨rfl,fun (j:Nat) ρ=>∃ m',ρ=[.im (aB n us),.sp 0 true ((cu (RB es) n.toNat (i+1)).map iD),.dw 1 (.dict (kvD m')),.im (.int ((i:Nat):Int)),.sn (iD pt),.any]/\mH m'=true/\(aA m').Nodup/\∀ x,x∈aA m'↔x∈aA m\/x∈pt.take j,⟨m,?_,h.im,h.nd,fun x=>⟨.inl,fun z=>z.elim id fun z=>nomatch z⟩⟩,?_,?_⟩
    ·rw [ec,ä]
     rfl
    ·rintro j d ρ hd ⟨m',rfl,im',nd',is'⟩
     obtain⟨x,hx,rfl⟩:=eV hd
     have xr:=(pm x).mp (Æ hx)
     have tk:pt.take (j+1)=pt.take j++[x]:=by rw [ó,hx]; rfl
     have ln:=fL nd' fun y hy=>show 0<=y/\y<n.toNat from by
      rcases (is' y).mp hy with z | z
      ·exact h.rng y z
      ·exact ((pm y).mp (List.mem_of_mem_take z)).rng (fun t ht=>(an t ht).2) ⟨by omega,by omega⟩
     unfold aA at ln
     rw [Á] at ln
     refine⟨m',rfl,rfl,im',by omega,iu m' x (.bool true),rfl,Bh _ _ im' rfl,Fw _ _ nd',fun y=>?_⟩
     rw [vN,is',tk,é,Ì,or_assoc]
    ·rintro ρ ⟨m',rfl,im',nd',is'⟩
     rw [Á,Ě] at is'
     refine⟨m',rfl,im',nd',fun y hy=>?_,fun x=>?_⟩
     ·rcases (is' y).mp hy with z | z
      ·exact h.rng y z
      ·exact ((pm y).mp z).rng (fun t ht=>(an t ht).2) ⟨by omega,by omega⟩
     ·rw [is',h.is,pm]
      constructor
      ·rintro (⟨p,hp,r⟩ | r)
       ·exact⟨p,by omega,r⟩
       ·exact⟨i,by omega,r⟩
      ·rintro ⟨p,hp,r⟩
       by_cases e:p=i
       ·subst e; exact .inr r
       ·exact .inl ⟨p,by omega,r⟩
  ·rintro ρ ⟨m,rfl,h⟩
   rw [Ű]
   exact⟨rfl,q⟩
 ·refine⟨[.sh (xP n us),.any,.any,.any,.any,.any],?_,?_⟩
  ·rfl
  have an:=lM (F:=[]) (B:=[]) ok (by omega)
  have sy:=cN (us:=us) (F:=[])
  generalize hes:adj us [] []=es at an sy q
  refine⟨zK,rfl,.int n,rfl,⟨by omega,by omega⟩,rfl,fun (i:Nat) ρ=>∃ m,ρ=[.sh (xP n us),.sp 0 true ((cu (RB es) n.toNat i).map iD),.dw 1 (.dict (kvD m)),.any,.any,.any]/\Seen n.toNat es i m,⟨[],rfl,rfl,by simp [aA],fun x hx=>(nomatch hx),fun x=>⟨fun z=>(nomatch z),fun ⟨p,hp,_⟩=>absurd hp (Nat.not_lt_zero _)⟩⟩,?_,?_⟩
  ·rintro i d ρ hd ⟨m,rfl,h⟩
   obtain⟨hi,rfl⟩:=bC hd
   have ec:=xg (RB es) hi
   have hl:=jk (RB es) n.toNat i
   refine⟨m,rfl,?_⟩
   show if (!eG m (0+((i:Nat):Int)))=true then _ else _
   rw [Ŀ]
   have hf:aP (RB es) n.toNat i=!eG m ((i:Nat):Int):=by
    rw [ē,bV hi (bB es i),Bool.not_eq_true',← İ,cL,h.is]
    constructor
    ·rintro z ⟨p,hp,r⟩
     have:=z p hp
     rw [aD.mpr r,aD.mpr (r.sym sy)] at this
     cases this
    ·intro z b hb
     rw [Bool.and_eq_false_iff,← İ,← İ,aD,aD]
     exact .inr fun r=>z ⟨b,hb,r⟩
   cases hb:eG m ((i:Nat):Int) with
   | true =>
    rw [hf,hb,if_neg (by decide),ğ] at ec
    refine aW (A:=True) ⟨m,?_,h.im,h.nd,h.rng,fun x=>?_⟩
    ·rw [ec]
     rfl
    ·rw [h.is]
     constructor
     ·rintro ⟨p,hp,r⟩
      exact⟨p,by omega,r⟩
     ·rintro ⟨p,hp,r⟩
      by_cases e:p=i
      ·subst e
       obtain⟨p',hp',r'⟩:=(h.is _).mp (cL.mp hb)
       exact⟨p',hp',r'.trans r⟩
      ·exact⟨p,by omega,r⟩
   | false =>
    rw [hf,hb,if_pos (by decide)] at ec
    refine bJ (B:=True) ⟨true,n,us,_,rfl,by omega,by omega,lu,ok,by omega,by omega,?_⟩
    rw [hes]
    have pm:∀ x,x∈rsI es n.toNat ((i:Nat):Int)↔Rt es ((i:Nat):Int) x:=fun x=>by
     rw [dh]
     exact⟨fun z=>z.2,fun r=>⟨r.rng (fun t ht=>(an t ht).2) ⟨by omega,by omega⟩,r⟩⟩
    rw [← Bp sy] at ec
    have pl:=yj es n.toNat ((i:Nat):Int)
    generalize rsI es n.toNat ((i:Nat):Int)=pt at ec pm pl
    refine⟨rfl,by rw [Á]; omega,?_⟩
    refine⟨rfl,fun (j:Nat) ρ=>∃ m',ρ=[.sh (xP n us),.sp 0 true ((cu (RB es) n.toNat (i+1)).map iD),.dw 1 (.dict (kvD m')),.im (.int ((i:Nat):Int)),.sn (iD pt),.any]/\mH m'=true/\(aA m').Nodup/\∀ x,x∈aA m'↔x∈aA m\/x∈pt.take j,⟨m,?_,h.im,h.nd,fun x=>⟨.inl,fun z=>z.elim id fun z=>nomatch z⟩⟩,?_,?_⟩
    ·rw [ec,ä]
     rfl
    ·rintro j d ρ hd ⟨m',rfl,im',nd',is'⟩
     obtain⟨x,hx,rfl⟩:=eV hd
     have xr:=(pm x).mp (Æ hx)
     have tk:pt.take (j+1)=pt.take j++[x]:=by rw [ó,hx]; rfl
     have ln:=fL nd' fun y hy=>show 0<=y/\y<n.toNat from by
      rcases (is' y).mp hy with z | z
      ·exact h.rng y z
      ·exact ((pm y).mp (List.mem_of_mem_take z)).rng (fun t ht=>(an t ht).2) ⟨by omega,by omega⟩
     unfold aA at ln
     rw [Á] at ln
     refine⟨m',rfl,rfl,im',by omega,iu m' x (.bool true),rfl,Bh _ _ im' rfl,Fw _ _ nd',fun y=>?_⟩
     rw [vN,is',tk,é,Ì,or_assoc]
    ·rintro ρ ⟨m',rfl,im',nd',is'⟩
     rw [Á,Ě] at is'
     refine⟨m',rfl,im',nd',fun y hy=>?_,fun x=>?_⟩
     ·rcases (is' y).mp hy with z | z
      ·exact h.rng y z
      ·exact ((pm y).mp z).rng (fun t ht=>(an t ht).2) ⟨by omega,by omega⟩
     ·rw [is',h.is,pm]
      constructor
      ·rintro (⟨p,hp,r⟩ | r)
       ·exact⟨p,by omega,r⟩
       ·exact⟨i,by omega,r⟩
      ·rintro ⟨p,hp,r⟩
       by_cases e:p=i
       ·subst e; exact .inr r
       ·exact .inl ⟨p,by omega,r⟩
  ·rintro ρ ⟨m,rfl,h⟩
   rw [Ű]
   exact⟨rfl,q⟩
end
theorem bW {P:DEnds}{ρ:List Sl}{rg:Option Nat}{i:Nat}{k:Kd}{d:D}{s:Sl} (e:stK rg ρ i (norm k d) d=some s) (h:P.nx (ρ.set i s)):(match stK rg ρ i (norm k d) d with
 | some s=>P.nx (ρ.set i s)
 | none=>False):=by
 rw [e]
 exact h
def noV (us:List Tie) (v:Int):List Tie:=us.filter fun t=>!decide (v=t.1\/v=t.2)
def RV (us:List Tie) (v:Nat):Nat->Nat->Bool:=RB (adj (noV us ((v:Nat):Int)) [] [])
def pwI (n:Nat) (us:List Tie) (v:Nat):List (List Int):=(((Ë n).filter (aP (RV us v) n)).filter fun a=>decide (a≠v)).map fun a=>zI (bw (RV us v) n a)
theorem Ng {n:Int}{us:List Tie} (ok:OkN n us) (v:Int):OkN n (noV us v):=fun t ht=>ok t ((Û.mp ht).1)
theorem Jx (us:List Tie) (v:Int):(noV us v).length<=us.length:=ý _ _
theorem dI {us:List Tie}{v x y:Int}:(x,y)∈adj (noV us v) [] []↔(x,y)∈adj us [] []/\x≠v/\y≠v:=by
 have key:∀ (ws:List Tie),(x,y)∈adj ws [] []↔(x,y)∈ws\/(y,x)∈ws:=fun ws=>by
  rw [cI]
  constructor
  ·rintro ⟨k,e | e,_⟩
   ·exact .inl (Æ e)
   ·exact .inr (Æ e)
  ·rintro (e | e)
   ·obtain⟨k,hk⟩:=ú e
    exact⟨k,.inl hk,ă,ă⟩
   ·obtain⟨k,hk⟩:=ú e
    exact⟨k,.inr hk,ă,ă⟩
 have fl:∀ a b:Int,((a,b):Tie)∈noV us v↔(a,b)∈us/\a≠v/\b≠v:=fun a b=>by
  unfold noV
  rw [Û]
  simp only [Bool.not_eq_true',decide_eq_false_iff_not,not_or]
  constructor
  ·rintro ⟨h,h1,h2⟩
   exact⟨h,fun z=>h1 z.symm,fun z=>h2 z.symm⟩
  ·rintro ⟨h,h1,h2⟩
   exact⟨h,fun z=>h1 z.symm,fun z=>h2 z.symm⟩
 rw [key,key,fl,fl]
 constructor
 ·rintro (⟨h,a,b⟩ | ⟨h,a,b⟩)
  ·exact⟨.inl h,a,b⟩
  ·exact⟨.inr h,b,a⟩
 ·rintro ⟨h | h,a,b⟩
  ·exact .inl ⟨h,a,b⟩
  ·exact .inr ⟨h,b,a⟩
theorem dW {us:List Tie}{v a:Int} (r:Rt (adj (noV us v) [] []) a v):a=v:=by
 cases r with
 | refl=>rfl
 | step r t=>exact absurd rfl (dI.mp t).2.2
theorem Gu {us:List Tie}{v a:Int} (r:Rt (adj (noV us v) [] []) v a):a=v:=dW (r.sym cN)
theorem Ph {n:Nat}{us:List Tie}{v:Nat} (hv:v<n):(cu (RV us v) n n).filter (fun l=>!decide (((v:Nat):Int)∈l))=pwI n us v:=by
 unfold cu pwI
 rw [Į (by rw [à]; exact Ò _),List.filter_map]
 congr 1
 refine List.filter_congr fun a ha=>?_
 show (!decide (((v:Nat):Int)∈zI (bw (RV us v) n a)))=decide (a≠v)
 have h:((v:Nat):Int)∈zI (bw (RV us v) n a)↔a=v:=by
  rw [gB]
  unfold bw
  rw [Û,Ü]
  show 0<=((v:Nat):Int)/\v∈Ë n/\RV us v a v=true/\RV us v v a=true↔_
  constructor
  ·rintro ⟨_,_,h,_⟩
   have:=dW (aD.mp h)
   omega
  ·rintro rfl
   exact⟨by omega,ã.mpr hv,bB _ _,bB _ _⟩
 by_cases e:a=v
 ·rw [decide_eq_true (h.mpr e),decide_eq_false (fun z=>z e)]; rfl
 ·rw [decide_eq_false (fun z=>e (h.mp z)),decide_eq_true e]; rfl
theorem Ft (n:Nat) (us:List Tie) (v:Nat):(pwI n us v).length<=n:=by
 unfold pwI
 rw [Á]
 have h1:=ý (fun a=>decide (a≠v)) ((Ë n).filter (aP (RV us v) n))
 have h2:=ý (aP (RV us v) n) (Ë n)
 rw [à] at h2
 omega
def Qk (ds:List D) (P:D->Prop):Prop:=∃ i:Int,ds=[.int i]/\P (.bool true)
def K9 (ds:List D) (P:D->Prop):Prop:=∃ m i:Int,ds=[.int m,.int i]/\0<=i/\i<m/\P (.bool true)
def Qs (ds:List D) (P:D->Prop):Prop:=∃ n us i,ds=[aB n us,.int i]/\0<=i/\i<n/\P (.bool true)
def Qt (ds:List D) (P:D->Prop):Prop:=∃ n us i,ds=[aB n us,.int i]/\0<=i/\i<n/\P .none
def fPW (ds:List D) (P:D->Prop):Prop:=∃ (n:Int) (us:List Tie) (v:Nat),ds=[aB n us,.int ((v:Nat):Int)]/\1<=n/\n<=60/\us.length<=100/\OkN n us/\v<n.toNat/\P (.list ((pwI n.toNat us v).map iD))
section
variable {P:Program}{w:World}{K:â}{mg:Str->Option Value}{base:Heap}{f:Addr}{fd:FuncData}{CN:Addr}
theorem mY:FnScope ["thing"] ["thing"] (aq (top 4)):=zC
theorem vW (F:Fun K "is_whole" "is_whole" (top 4) f fd) (B:ź mg):FnOk P w K mg base CX0 1 f fd ["thing"] (spD Qk):=by
 refine F.ok mY œ (fun cdv A outer s H vs Q E hr h=>?_)
 have nd:=mY.nd
 refine⟨_,Ğ (ù (ę (Wr.pG (Wr.cg Bx B.isinstance (Ñ 0) (Wr.wty rfl B.int boot_int)) (Wr.o9 (Wr.yE (Wr.cg wJ B.isinstance (Ñ 0) (Wr.wty rfl B.bool boot_bool))))))),aX h ?_⟩
 rintro ds P ⟨i,rfl,q⟩
 refine⟨[.im (.int i)],rfl,?_⟩
 exact⟨rfl,q⟩
theorem ni:FnScope ["limit","thing"] ["limit","thing"] (aq (top 5)):=zC
theorem vY (F:Fun K "is_below" "is_below" (top 5) f fd) (B:ź mg) (C_is_whole:Ł P w K mg base 1 "is_whole" ["thing"] (spD Qk)):FnOk P w K mg base CX0 2 f fd ["limit","thing"] (spD K9):=by
 refine F.ok ni œ (fun cdv A outer s H vs Q E hr h=>?_)
 have nd:=ni.nd
 refine⟨_,Ğ (ù (ę (Wr.pG (ŷ C_is_whole hr (Â (Ñ 1) Ã)) (Wr.o9 (Wr.tY Ø (Ñ 1) (Ñ 0)))))),aX h ?_⟩
 rintro ds P ⟨m,i,rfl,h0,h1,q⟩
 refine⟨[.im (.int m),.im (.int i)],rfl,?_⟩
 refine⟨i,rfl,bJ (B:=True) ?_⟩
 show if decide ((0:Int)<=i)=true then _ else _
 rw [decide_eq_true h0]
 refine bJ (B:=True) ⟨rfl,?_⟩
 show P (.bool (decide (i<m)))
 rw [decide_eq_true h1]
 exact q
theorem mZ:FnScope ["web","thing"] ["web","thing"] (aq (top 6)):=zC
theorem vX (F:Fun K "is_place" "is_place" (top 6) f fd) (B:ź mg) (C_is_below:Ł P w K mg base 2 "is_below" ["limit","thing"] (spD K9)):FnOk P w K mg base CX0 3 f fd ["web","thing"] (spD Qs):=by
 refine F.ok mZ œ (fun cdv A outer s H vs Q E hr h=>?_)
 have nd:=mZ.nd
 refine⟨_,Ğ (ù (ę (ŷ C_is_below hr (Â (í (Ñ 0) Ø) (Â (Ñ 1) Ã))))),aX h ?_⟩
 rintro ds P ⟨n,us,i,rfl,h0,h1,q⟩
 refine⟨[.im (aB n us),.im (.int i)],by show [dz (aB n us),.im (.int i)]=_; rw [aY],?_⟩
 exact⟨.int n,rfl,n,i,rfl,h0,h1,rfl,q⟩
theorem gZ:FnScope ["web","thing"] ["web","thing"] (aq (top 7)):=zC
theorem pI (F:Fun K "check_place" "check_place" (top 7) f fd) (B:ź mg) (C_is_place:Ł P w K mg base 3 "is_place" ["web","thing"] (spD Qs)):FnOk P w K mg base CX0 4 f fd ["web","thing"] (spD Qt):=by
 refine F.ok gZ œ (fun cdv A outer s H vs Q E hr h=>?_)
 have nd:=gZ.nd
 refine⟨_,Ğ (ù (Ŷ (Wr.fZ (Wr.cU (ŷ C_is_place hr (Â (Ñ 0) (Â (Ñ 1) Ã))))) (ù Wr.qj) û)),aX h ?_⟩
 rintro ds P ⟨n,us,i,rfl,h0,h1,q⟩
 refine⟨[.im (aB n us),.im (.int i)],by show [dz (aB n us),.im (.int i)]=_; rw [aY],?_⟩
 exact⟨n,us,i,rfl,h0,h1,aW (A:=True) q⟩
theorem fC:FnScope ["web","v","left"] ["web","v"] (aq (top 15)):=zC
theorem jA:(["tie","web","v","left"]:List Str).Nodup:=by decide +kernel
theorem jz:(["part","web","v","left"]:List Str).Nodup:=by decide +kernel
theorem lZ (F:Fun K "parts_without" "parts_without" (top 15) f fd) (B:ź mg) (C_check_place:Ł P w K mg base 4 "check_place" ["web","thing"] (spD Qt)) (C_parts:Ł P w K mg base 3 "parts" ["web"] (spD oE)):FnOk P w K mg base CX0 5 f fd ["web","v"] (spD fPW):=by
 refine F.ok fC œ (fun cdv A outer s H vs Q E hr h=>?_)
 have nd:=fC.nd
 refine⟨_,Ğ (Ð (Wr.uJ (ŷ C_check_place hr (Â (Ñ 0) (Â (Ñ 1) Ã))))
  (Ð (ā none (i:=2) nd rfl zQ (ť (Â (í (Ñ 0) Ø) (Â (Wr.nY B.tuple (Â (ŵ ["tie"] rfl (Ĵ (í (Ñ 0) Ø)) (fun c=>(å (i:=0) jA rfl zQ)) (fun c=>(Ő (Wr.bQ hr.units (Ñ 2) (Ñ 0)))) (fun c=>(Ñ 0))) Ã)) Ã))))
  (ù (ę (ŵ ["part"] rfl (Ĵ (ŷ C_parts hr (Â (Ñ 2) Ã))) (fun c=>(å (i:=0) jz rfl zQ)) (fun c=>(Ő (Wr.bQ hr.units (Ñ 2) (Ñ 0)))) (fun c=>(Ñ 0))))))),aX h ?_⟩
 rintro ds P ⟨n,us,v,rfl,n1,n60,lu,ok,hv,q⟩
 refine⟨[.im (aB n us),.im (.int ((v:Nat):Int)),.any],?_,?_⟩
 ·show [dz (aB n us),.im (.int ((v:Nat):Int)),.any]=_
  rw [aY]
 refine⟨n,us,_,rfl,by omega,by omega,?_⟩
 refine⟨.int n,rfl,.tuple (us.map pD),rfl,eX us pD (fun t=>!decide (((v:Nat):Int)=t.1\/((v:Nat):Int)=t.2)) pD .imm rfl (by omega) (fun t ht A B hA hB=>?_) ?_⟩
 ·refine⟨rfl,rfl,?_⟩
  show if (!([Ç t.1,.int t.2].any fun e=>î e (.int ((v:Nat):Int))))=true then _ else _
  rw [lJ]
  cases h1:decide (((v:Nat):Int)=t.1\/((v:Nat):Int)=t.2) with
  | true=>exact aW (A:=True) (hB (by rw [h1]; rfl))
  | false=>exact bJ (B:=True) ⟨rfl,hA (by rw [h1]; rfl)⟩
 refine⟨zK,bW (s:=.im (aB n (noV us ((v:Nat):Int)))) (by
  show stK none _ 2 (norm _ (aB n (noV us ((v:Nat):Int)))) (aB n (noV us ((v:Nat):Int)))=some (.im (aB n (noV us ((v:Nat):Int))))
  rw [iC (oA n _)]; rfl) ?_⟩
 have cl:=jk (RV us v) n.toNat n.toNat
 refine⟨false,n,noV us ((v:Nat):Int),rfl,by omega,n60,by have:=Jx us ((v:Nat):Int); omega,Ng ok _,eX (cu (RV us v) n.toNat n.toNat) iD (fun l=>!decide (((v:Nat):Int)∈l)) iD .snw rfl (by omega) (fun l hl A B hA hB=>?_) ?_⟩
 ·refine⟨rfl,dH l,?_⟩
  show if (!((l.map Ç).any fun e=>î e (.int ((v:Nat):Int))))=true then _ else _
  rw [Dl.any_ints]
  cases h1:decide (((v:Nat):Int)∈l) with
  | true=>exact aW (A:=True) (hB (by rw [h1]; rfl))
  | false=>exact bJ (B:=True) ⟨rfl,hA (by rw [h1]; rfl)⟩
 ·rw [Ph hv]
  exact⟨rfl,q⟩
end
def gP (l:List Int):List Tie:=l.dropLast.zip (l.drop 1)
def tiB (v:Int) (part:List Int) (t:Tie):Bool:=decide (v=t.1\/v=t.2)&&(decide (t.1∈part) || decide (t.2∈part))
def tiI (us:List Tie) (v:Int) (part:List Int):List Int:=(us.zipIdx.filter fun p=>tiB v part p.1).map fun p=>((p.2:Nat):Int)
def prI (n:Nat) (us:List Tie):List Tie:=(Ë n).flatMap fun v=>(pwI n us v).flatMap fun part=>gP (tiI us ((v:Nat):Int) part)
def pX (us:List Tie) (v k:Int):Bool:=match us[k.toNat]? with
 | some t=>decide (v=t.1\/v=t.2)
 | none=>false
def plI (n:Nat) (us:List Tie) (ks:List Int):List Int:=zI ((Ë n).filter fun v=>ks.any fun k=>pX us ((v:Nat):Int) k)
theorem eZ {α:Type} (l:List α):fV l none (some (-1))=l.dropLast:=by
 unfold fV
 have e1:HT.sIx l.length 0 none=0:=rfl
 have e2:HT.sIx l.length l.length (some (-1))=l.length - 1:=by
  have e:HT.sIx l.length l.length (some (-1))=((-1:Int)+(l.length:Int)).toNat:=rfl
  rw [e]
  omega
 rw [e1,e2,List.drop_zero,Nat.sub_zero,List.dropLast_eq_take]
theorem qx {α:Type} (l:List α):fV l (some 1) none=l.drop 1:=by
 unfold fV
 have e1:HT.sIx l.length l.length none=l.length:=rfl
 have e2:HT.sIx l.length 0 (some 1)=min 1 l.length:=HT.Az l.length 0 1
 rw [e1,e2]
 rw [Į (by rw [ŕ]; omega)]
 by_cases h:1<=l.length
 ·rw [Nat.min_eq_left h]
 ·have:l=[]:=List.length_eq_zero_iff.mp (by omega)
  subst this
  rfl
theorem u9 (a b:List Int):((a.map Ç).zip (b.map Ç)).map prD=(a.zip b).map pD:=by
 rw [List.zip_map,ě]
 rfl
theorem enum_zip (us:List Tie):jt (us.map pD)=us.zipIdx.map fun p=>Ū [.int ((p.2:Nat):Int),pD p.1]:=by
 refine List.ext_getElem? fun i=>?_
 rw [cT,Ö,Ö,List.getElem?_zipIdx]
 cases us[i]? with
 | none=>rfl
 | some t=>simp
def jF (us:List Tie) (v:Nat) (part:List Int):List Tie:=gP (tiI us ((v:Nat):Int) part)
def prV (n:Nat) (us:List Tie) (v:Nat):List Tie:=(pwI n us v).flatMap (jF us v)
theorem G5 (l:List Int):(gP l).length<=l.length:=by
 unfold gP
 rw [List.length_zip,List.length_dropLast]
 omega
theorem Ah {α β:Type} (g:α->List β) (l:List α) (i:Nat):((l.take i).flatMap g).length<=(l.flatMap g).length:=by
 have:(l.flatMap g).length=((l.take i).flatMap g).length+((l.drop i).flatMap g).length:=by
  rw [← Ý,← Ũ,Ź]
 omega
theorem BL {α β γ:Type} (g:α->List β) (h:α->List γ):∀ (l:List α),(∀ x∈l,(g x).length<=(h x).length)->(l.flatMap g).length<=(l.flatMap h).length
 | [],_=>Ò _
 | x::l,k=>by
  rw [List.flatMap_cons,List.flatMap_cons,Ý,Ý]
  have:=BL g h l fun y hy=>k y (Í _ hy)
  have:=k x Ï
  omega
def atV (us:List Tie) (v:Int):List Int:=(us.zipIdx.filter fun p=>decide (v=p.1.1\/v=p.1.2)).map fun p=>((p.2:Nat):Int)
theorem gC {us:List Tie}{v:Int}{part:List Int}{k:Int}:k∈tiI us v part↔∃ (j:Nat) (t:Tie),k=((j:Nat):Int)/\us[j]?=some t/\(v=t.1\/v=t.2)/\(t.1∈part\/t.2∈part):=by
 unfold tiI
 rw [ą]
 constructor
 ·rintro ⟨⟨t,j⟩,h,rfl⟩
  obtain⟨h1,h2⟩:=Û.mp h
  unfold tiB at h2
  rw [Ü,Bool.or_eq_true] at h2
  exact⟨j,t,rfl,ø.mp h1,of_decide_eq_true h2.1,h2.2.imp of_decide_eq_true of_decide_eq_true⟩
 ·rintro ⟨j,t,rfl,e,h1,h2⟩
  refine⟨(t,j),Û.mpr ⟨ø.mpr e,?_⟩,rfl⟩
  show (decide (v=t.1\/v=t.2)&&(decide (t.1∈part) || decide (t.2∈part)))=true
  rw [decide_eq_true h1,Bool.true_and,Bool.or_eq_true,decide_eq_true_iff,decide_eq_true_iff]
  exact h2
theorem Bs {us:List Tie}{v k:Int}:k∈atV us v↔∃ (j:Nat) (t:Tie),k=((j:Nat):Int)/\us[j]?=some t/\(v=t.1\/v=t.2):=by
 unfold atV
 rw [ą]
 constructor
 ·rintro ⟨⟨t,j⟩,h,rfl⟩
  obtain⟨h1,h2⟩:=Û.mp h
  exact⟨j,t,rfl,ø.mp h1,of_decide_eq_true h2⟩
 ·rintro ⟨j,t,rfl,e,h1⟩
  exact⟨(t,j),Û.mpr ⟨ø.mpr e,decide_eq_true h1⟩,rfl⟩
theorem j8 {us:List Tie} (p:Tie×Nat->Bool):((us.zipIdx.filter p).map fun q=>((q.2:Nat):Int)).Pairwise (·<·):=by
 have h:(us.zipIdx.map (·.2)).Pairwise (·<·):=by
  rw [List.zipIdx_map_snd]
  exact List.pairwise_lt_range' ..
 have h:=(List.pairwise_map.mp h).filter p
 exact Ţ.mpr (h.imp fun z=>by omega)
theorem Ag (us:List Tie) (v:Int) (part:List Int):(tiI us v part).Pairwise (·<·):=j8 _
theorem Om (us:List Tie) (v:Int):(atV us v).Nodup:=(j8 (us:=us) fun p=>decide (v=p.1.1\/v=p.1.2)).imp fun z=>by omega
theorem LR {n:Nat}{us:List Tie}{v:Nat}{l:List Int} (h:l∈pwI n us v):∃ a:Nat,a<n/\a≠v/\aP (RV us v) n a=true/\l=zI (bw (RV us v) n a):=by
 obtain⟨a,ha,rfl⟩:=ą.mp h
 obtain⟨h1,h2⟩:=Û.mp ha
 obtain⟨h3,h4⟩:=Û.mp h1
 exact⟨a,ã.mp h3,of_decide_eq_true h2,h4,rfl⟩
theorem d7 {n:Nat}{us:List Tie}{v a:Nat}{x:Int}:x∈zI (bw (RV us v) n a)↔(0<=x/\x<n)/\Rt (adj (noV us ((v:Nat):Int)) [] []) ((a:Nat):Int) x:=by
 rw [gB]
 unfold bw
 rw [Û,ã,Ü]
 constructor
 ·rintro ⟨h0,h1,h2,_⟩
  have h2:=aD.mp h2
  rw [ő h0] at h2
  exact⟨⟨h0,by omega⟩,h2⟩
 ·rintro ⟨⟨h0,h1⟩,r⟩
  have e:x=((x.toNat:Nat):Int):=by omega
  rw [e] at r
  exact⟨h0,by omega,aD.mpr r,aD.mpr (r.sym cN)⟩
theorem rH {n:Nat}{us:List Tie}{v a b:Nat} (hab:a<b) (hb:b<n) (f2:aP (RV us v) n b=true) {z:Int} (h1:z∈zI (bw (RV us v) n a)) (h2:z∈zI (bw (RV us v) n b)):False:=by
 have r1:=(d7.mp h1).2
 have r2:=(d7.mp h2).2
 have r:=r1.trans (r2.sym cN)
 have:=(bV hb (bB _ b)).mp f2 a hab
 rw [aD.mpr (r.sym cN),aD.mpr r] at this
 cases this
theorem Eu {n:Nat}{us:List Tie}{v:Nat}:((pwI n us v).flatMap fun part=>tiI us ((v:Nat):Int) part).Nodup:=by
 unfold List.Nodup
 rw [List.pairwise_flatMap]
 refine⟨fun part _=>(Ag us _ part).imp fun z=>by omega,?_⟩
 unfold pwI
 rw [Ţ]
 refine List.Pairwise.imp_of_mem (R:=(·<·)) (fun {a b} ha hb lt x hx y hy e=>?_) ((Ľ.filter _).filter _)
 subst e
 obtain⟨j,t,rfl,e1,o1,h1⟩:=gC.mp hx
 obtain⟨j',t',ej,e2,_,h2⟩:=gC.mp hy
 have:j=j':=by omega
 subst this
 rw [e1] at e2
 cases e2
 obtain⟨hb1,hb2⟩:=Û.mp hb
 obtain⟨hb3,hb4⟩:=Û.mp hb1
 obtain⟨ha1,ha2⟩:=Û.mp ha
 have av:=of_decide_eq_true ha2
 have bv:=of_decide_eq_true hb2
 have no:∀ c:Nat,c≠v->((v:Nat):Int)∉zI (bw (RV us v) n c):=fun c hc z=>by
  have:=dW (d7.mp z).2
  omega
 have bn:=ã.mp hb3
 rcases o1 with o | o
 ·have h1:=h1.resolve_left (fun z=>no a av (o ▸ z))
  have h2:=h2.resolve_left (fun z=>no b bv (o ▸ z))
  exact rH lt bn hb4 h1 h2
 ·have h1:=h1.resolve_right (fun z=>no a av (o ▸ z))
  have h2:=h2.resolve_right (fun z=>no b bv (o ▸ z))
  exact rH lt bn hb4 h1 h2
theorem sH {α β:Type} (f g:α->β):∀ l:List α,(l.flatMap fun p=>[f p,g p]).length=2 * l.length
 | []=>rfl
 | x::l=>by
  rw [List.flatMap_cons,Ý,sH f g l]
  show 2+2 * l.length=2 * (l.length+1)
  omega
theorem Kc (n:Nat) (us:List Tie):((Ë n).flatMap fun v=>atV us ((v:Nat):Int)).length<=2 * us.length:=by
 have e:((Ë n).flatMap fun v=>(atV us ((v:Nat):Int)).map fun k=>(v,k)).length=((Ë n).flatMap fun v=>atV us ((v:Nat):Int)).length:=by
  rw [List.length_flatMap,List.length_flatMap]
  congr 1
  refine List.map_congr_left fun v _=>?_
  rw [Á]
 rw [← e,← List.length_zipIdx (l:=us),← sH (fun p:Tie×Nat=>(p.1.1.toNat,((p.2:Nat):Int))) (fun p=>(p.1.2.toNat,((p.2:Nat):Int))) us.zipIdx]
 refine List.Nodup.length_le_of_subset ?_ fun q hq=>?_
 ·unfold List.Nodup
  rw [List.pairwise_flatMap]
  refine⟨fun v _=>Ţ.mpr ((Om us _).imp fun z y=>z (congrArg Prod.snd y)),List.pairwise_lt_range.imp fun lt x hx y hy z=>?_⟩
  obtain⟨k,_,rfl⟩:=ą.mp hx
  obtain⟨k',_,rfl⟩:=ą.mp hy
  have:=congrArg Prod.fst z
  dsimp only at this
  omega
 ·obtain⟨v,hv,hq⟩:=Ļ.mp hq
  obtain⟨k,hk,rfl⟩:=ą.mp hq
  obtain⟨j,t,rfl,e,o⟩:=Bs.mp hk
  refine Ļ.mpr ⟨(t,j),ø.mpr e,?_⟩
  simp only [Þ,ă,or_false,Prod.mk.injEq]
  rcases o with o | o
  ·exact .inl ⟨by omega,trivial⟩
  ·exact .inr ⟨by omega,trivial⟩
theorem Bj {n:Nat}{us:List Tie}:(prI n us).length<=2 * us.length:=by
 refine Ć (BL _ (fun v:Nat=>atV us ((v:Nat):Int)) (Ë n) fun v _=>?_) (Kc n us)
 refine Ć (BL _ (fun part=>tiI us ((v:Nat):Int) part) (pwI n us v) fun part _=>G5 _) ?_
 refine List.Nodup.length_le_of_subset Eu fun k hk=>?_
 obtain⟨part,_,hk⟩:=Ļ.mp hk
 obtain⟨j,t,e1,e2,o,_⟩:=gC.mp hk
 exact Bs.mpr ⟨j,t,e1,e2,o⟩
def K7 (ds:List D) (P:D->Prop):Prop:=∃ l:List Int,ds=[iD l]/\l.length<=100/\P (.list ((gP l).map pD))
def K6 (ds:List D) (P:D->Prop):Prop:=∃ (n:Int) (us:List Tie) (v:Int) (part:List Int),ds=[aB n us,.int v,iD part]/\us.length<=60/\P (iD (tiI us v part))
def Qn (ds:List D) (P:D->Prop):Prop:=∃ (n:Int) (us:List Tie),ds=[aB n us]/\1<=n/\n<=16/\us.length<=45/\OkN n us/\P (.list ((prI n.toNat us).map pD))
def Qo (ds:List D) (P:D->Prop):Prop:=∃ (n:Int) (us:List Tie) (ks:List Int),ds=[aB n us,iD ks]/\1<=n/\n<=16/\us.length<=45/\ks.length<=60/\(∀ k∈ks,0<=k/\k<(us.length:Int))/\P (iD (plI n.toNat us ks))
section
variable {P:Program}{w:World}{K:â}{mg:Str->Option Value}{base:Heap}{f:Addr}{fd:FuncData}{CN:Addr}
theorem Ay:FnScope ["places"] ["places"] (aq (top 13)):=zC
theorem Ju (F:Fun K "hops" "hops" (top 13) f fd) (B:ź mg) (m_zip:mg "zip"=none):FnOk P w K mg base CX0 1 f fd ["places"] (spD K7):=by
 refine F.ok Ay œ (fun cdv A outer s H vs Q E hr h=>?_)
 have nd:=Ay.nd
 refine⟨_,Ğ (ù (ę (Wr.jx rfl B.list m_zip (Â (Wr.vR (Ñ 0) Wr.lF (Wr.lE (Wr.tG Ø))) (Â (Wr.vR (Ñ 0) (Wr.lE Ø) Wr.lF) Ã))))),aX h ?_⟩
 rintro ds P ⟨l,rfl,ll,q⟩
 refine⟨[.sh (iD l)],rfl,?_⟩
 refine .inl ⟨?_,.inl ⟨?_,?_,.inl ⟨?_,rfl,?_⟩⟩⟩
 ·show cO (fV (l.map Ç) none (some (-1)))=true
  rw [eZ,← List.map_dropLast]
  exact iQ _
 ·show cO (fV (l.map Ç) (some 1) none)=true
  rw [qx,← List.map_drop]
  exact iQ _
 ·show (fV (l.map Ç) none (some (-1))).length<=1000
  rw [eZ,List.length_dropLast,Á]
  omega
 ·show cO _=true
  rw [eZ,qx,← List.map_dropLast,← List.map_drop,u9]
  exact jh _
 ·show P _
  rw [eZ,qx,← List.map_dropLast,← List.map_drop,u9]
  exact q
theorem jP:FnScope ["web","v","part"] ["web","v","part"] (aq (top 18)):=zC
theorem iG:(["number","tie","web","v","part"]:List Str).Nodup:=by decide +kernel
theorem uc (F:Fun K "ties_into" "ties_into" (top 18) f fd) (B:ź mg) (m_enumerate:mg "enumerate"=none):FnOk P w K mg base CX0 1 f fd ["web","v","part"] (spD K6):=by
 refine F.ok jP œ (fun cdv A outer s H vs Q E hr h=>?_)
 have nd:=jP.nd
 refine⟨_,Ğ (ù (ę (ŵ ["number","tie"] rfl (Wr.lG m_enumerate (Â (í (Ñ 0) Ø) Ã)) (fun c=>(Wr.jK (n:=2) rfl (ŗ (å (i:=0) iG rfl zQ) (ŗ (å (i:=1) iG rfl zQ) Wr.eY)))) (fun c=>(Ő (Wr.wpt (Wr.eU (Wr.lY hr.units (Ñ 3) (Ñ 1)) (Wr.fJ (Wr.wpt (Wr.lX (Wr.lY hr.units (í (Ñ 1) Ø) (Ñ 4)) (Wr.jY (Wr.lY hr.units (í (Ñ 1) Ø) (Ñ 4)))))))))) (fun c=>(Ñ 0))))),aX h ?_⟩
 rintro ds P ⟨n,us,v,part,rfl,lu,q⟩
 refine⟨[.im (aB n us),.im (.int v),.sh (iD part)],by show [dz (aB n us),_,_]=_; rw [aY]; rfl,?_⟩
 refine⟨.tuple (us.map pD),rfl,?_⟩
 refine eX us.zipIdx (fun p=>Ū [.int ((p.2:Nat):Int),pD p.1]) (fun p=>tiB v part p.1) (fun p=>Ç ((p.2:Nat):Int)) .imm (enum_zip us) (by rw [List.length_zipIdx]; omega) ?_ ?_
 ·rintro ⟨t,k⟩ hk A B h1 h2
  refine⟨rfl,rfl,rfl,?_⟩
  show if ([Ç t.1,.int t.2].any fun e=>î e (.int v))=true then _ else _
  rw [lJ]
  unfold tiB at h1 h2
  dsimp only at h1 h2
  by_cases c:v=t.1\/v=t.2
  ·rw [decide_eq_true c] at h1 h2 ⊢
   refine bJ (B:=True) ⟨.int t.1,rfl,rfl,dH part,?_⟩
   show if ((part.map Ç).any fun e=>î e (.int t.1))=true then _ else _
   rw [Dl.any_ints]
   by_cases c1:t.1∈part
   ·rw [decide_eq_true c1] at h1 ⊢
    exact bJ (B:=True) (bJ (B:=True) ⟨rfl,h1 rfl⟩)
   ·rw [decide_eq_false c1] at h1 h2 ⊢
    refine aW (A:=True) ⟨.int t.2,rfl,rfl,dH part,?_⟩
    show if ((part.map Ç).any fun e=>î e (.int t.2))=true then _ else _
    rw [Dl.any_ints]
    exact iM (fun c=>⟨rfl,h1 c⟩) (fun c=>h2 (Bool.eq_false_iff.mpr c))
  ·rw [decide_eq_false c] at h1 h2 ⊢
   exact aW (A:=True) (aW (A:=True) (h2 rfl))
 ·have e:((us.zipIdx.filter fun p=>tiB v part p.1).map fun p=>Ç ((p.2:Nat):Int))=(tiI us v part).map Ç:=by
   unfold tiI
   rw [ě]
   rfl
  rw [e]
  exact⟨rfl,q⟩
theorem cX:FnScope ["web","pairs","v","part"] ["web"] (aq (top 19)):=zC
theorem iz (F:Fun K "ties_side_by_side" "ties_side_by_side" (top 19) f fd) (B:ź mg) (C_parts_without:Ł P w K mg base 5 "parts_without" ["web","v"] (spD fPW)) (C_hops:Ł P w K mg base 1 "hops" ["places"] (spD K7)) (C_ties_into:Ł P w K mg base 1 "ties_into" ["web","v","part"] (spD K6)):FnOk P w K mg base CX0 6 f fd ["web"] (spD Qn):=by
 refine F.ok cX œ (fun cdv A outer s H vs Q E hr h=>?_)
 have nd:=cX.nd
 refine⟨_,Ğ (Ð (ā (some 0) (i:=1) nd rfl zQ (þ Ã))
  (Ð (ĸ ï rfl (ĵ B.range (Â (í (Ñ 0) Ø) Ã)) (å (i:=2) nd rfl zQ) (Ð (ĸ ï rfl (Ĵ (ŷ C_parts_without hr (Â (Ñ 0) (Â (Ñ 2) Ã)))) (å (i:=3) nd rfl zQ) (Ð (Wr.mL (Ŏ 1) (Â (ŷ C_hops hr (Â (ŷ C_ties_into hr (Â (Ñ 0) (Â (Ñ 2) (Â (Ñ 3) Ã)))) Ã)) Ã)) (æ [3] û))) (æ [2,3] û)))
  (æ [2,3] (ù (ę (Ñ 1)))))),aX h ?_⟩
 rintro ds P ⟨n,us,rfl,n1,n16,lu,ok,q⟩
 refine⟨[.im (aB n us),.any,.any,.any],by show [dz (aB n us),_,_,_]=_; rw [aY],?_⟩
 have pl:=Bj (n:=n.toNat) (us:=us)
 have g:∀ v:Nat,v<n.toNat->∀ j,(((Ë n.toNat).take v).flatMap (prV n.toNat us)).length+(((pwI n.toNat us v).take j).flatMap (jF us v)).length<=90:=fun v hv j=>by
  have h1:=Ah (prV n.toNat us) (Ë n.toNat) (v+1)
  have h2:=Ah (jF us v) (pwI n.toNat us v) j
  rw [ó,Ä (by rw [à]; exact hv),List.getElem_range] at h1
  rw [Ũ,Ý] at h1
  have h3:([v].flatMap (prV n.toNat us)).length=(prV n.toNat us v).length:=by simp
  have h1:(((Ë n.toNat).take v).flatMap (prV n.toNat us)).length+([v].flatMap (prV n.toNat us)).length<=((Ë n.toNat).flatMap (prV n.toNat us)).length:=h1
  have h4:(prV n.toNat us v).length=((pwI n.toNat us v).flatMap (jF us v)).length:=rfl
  have h5:((Ë n.toNat).flatMap (prV n.toNat us)).length=(prI n.toNat us).length:=rfl
  omega
 refine⟨zK,.int n,rfl,⟨by omega,by omega⟩,rfl,fun (i:Nat) ρ=>ρ=[.im (aB n us),.dw 0 (.list ((((Ë n.toNat).take i).flatMap (prV n.toNat us)).map pD)),.any,.any],rfl,?_,?_⟩
 ·rintro i d ρ hd rfl
  obtain⟨hi,rfl⟩:=bC hd
  have pw:=Ft n.toNat us i
  refine⟨n,us,i,congrArg (fun x:Int=>[aB n us,Ç x]) (Ŀ _),n1,by omega,by omega,ok,hi,rfl,fun (j:Nat) ρ=>ρ=[.im (aB n us),.dw 0 (.list ((((Ë n.toNat).take i).flatMap (prV n.toNat us)++((pwI n.toNat us i).take j).flatMap (jF us i)).map pD)),.im (.int (0+((i:Nat):Int))),.any],?_,?_,?_⟩
  ·show [_,Sl.dw 0 (.list ((((Ë n.toNat).take i).flatMap (prV n.toNat us)).map pD)),_,_]=[_,Sl.dw 0 (.list ((((Ë n.toNat).take i).flatMap (prV n.toNat us)++[]).map pD)),_,_]
   rw [ğ]
   rfl
  ·rintro j d ρ hd rfl
   obtain⟨part,hp,rfl⟩:=eV hd
   have tk:(pwI n.toNat us i).take (j+1)=(pwI n.toNat us i).take j++[part]:=by rw [ó,hp]; rfl
   have g1:=g i hi (j+1)
   rw [tk,Ũ,Ý] at g1
   have ht:(tiI us (0+((i:Nat):Int)) part).length<=60:=by
    unfold tiI
    rw [Á]
    refine Ć (ý _ _) ?_
    rw [List.length_zipIdx]
    omega
   have eh:gP (tiI us (0+((i:Nat):Int)) part)=jF us i part:=by rw [Ŀ]; rfl
   refine⟨n,us,_,part,rfl,by omega,_,rfl,by omega,?_⟩
   rw [eh]
   have e1:([part].flatMap (jF us i))=jF us i part:=by simp
   rw [e1] at g1
   refine⟨by show (_ || cO ((jF us i part).map pD))=true; rw [jh,Bool.or_true],by rw [Á,Á,Ý]; omega,?_⟩
   show [_,Sl.dw 0 (.list ((((Ë n.toNat).take i).flatMap (prV n.toNat us)++((pwI n.toNat us i).take j).flatMap (jF us i)).map pD++(jF us i part).map pD)),_,_]=[_,Sl.dw 0 (.list ((((Ë n.toNat).take i).flatMap (prV n.toNat us)++((pwI n.toNat us i).take (j+1)).flatMap (jF us i)).map pD)),_,_]
   rw [tk,Ũ,e1,← List.append_assoc,ä (l₂:=jF us i part)]
   rfl
  ·rintro ρ rfl
   rw [Á,Ě]
   show [_,Sl.dw 0 (.list ((((Ë n.toNat).take i).flatMap (prV n.toNat us)++(pwI n.toNat us i).flatMap (jF us i)).map pD)),_,_]=[_,Sl.dw 0 (.list ((((Ë n.toNat).take (i+1)).flatMap (prV n.toNat us)).map pD)),_,_]
   have tk:(Ë n.toNat).take (i+1)=(Ë n.toNat).take i++[i]:=by rw [ó,Ä (by rw [à]; exact hi),List.getElem_range]; rfl
   have e2:[i].flatMap (prV n.toNat us)=prV n.toNat us i:=by simp
   rw [tk,Ũ,e2]
   rfl
 ·rintro ρ rfl
  rw [Ű,Į (by rw [à]; omega)]
  exact⟨rfl,q⟩
theorem jQ:FnScope ["web","numbers"] ["web","numbers"] (aq (top 20)):=zC
theorem pO:(["v","web","numbers"]:List Str).Nodup:=by decide +kernel
theorem pN:(["number","v","web","numbers"]:List Str).Nodup:=by decide +kernel
theorem ud (F:Fun K "places_of" "places_of" (top 20) f fd) (B:ź mg) (m_any:mg "any"=none):FnOk P w K mg base CX0 1 f fd ["web","numbers"] (spD Qo):=by
 refine F.ok jQ œ (fun cdv A outer s H vs Q E hr h=>?_)
 have nd:=jQ.nd
 refine⟨_,Ğ (ù (ę (ŵ ["v"] rfl (ĵ B.range (Â (í (Ñ 0) Ø) Ã)) (fun c=>(å (i:=0) pO rfl zQ)) (fun c=>(Ő (Wr.cU (Wr.yI rfl m_any (Â (ŵ ["number"] rfl (Ĵ (Ñ 2)) (fun c=>(å (i:=0) pN rfl zQ)) (fun c=>Wr.dN) (fun c=>(Wr.Gg hr.units (Ñ 1) (í (í (Ñ 2) Ø) (Ñ 0))))) Ã))))) (fun c=>(Ñ 0))))),aX h ?_⟩
 rintro ds P ⟨n,us,ks,rfl,n1,n16,lu,lk,hk,q⟩
 refine⟨[.im (aB n us),.sh (iD ks)],by show [dz (aB n us),_]=_; rw [aY]; rfl,?_⟩
 refine⟨.int n,rfl,⟨by omega,by omega⟩,eX (Ë n.toNat) (fun v=>Ç (0+((v:Nat):Int))) (fun v=>ks.any fun k=>pX us ((v:Nat):Int) k) (fun v=>Ç (0+((v:Nat):Int))) .imm rfl (by rw [à]; omega) (fun v hv A B hA hB=>?_) ?_⟩
 ·refine GR ks Ç (fun k=>PyData.bool (pX us ((v:Nat):Int) k)) .imm rfl (by omega) (fun k hk' A' B' h=>bJ (B:=True) ?_) ?_
  ·obtain⟨k0,k1⟩:=hk k hk'
   have e:us[k.toNat]?=some (us[k.toNat]'(by omega)):=Ä _
   have au:atI (us.map pD) k=some (pD (us[k.toNat]'(by omega))):=by
    have:=cM (xs:=us.map pD) (j:=k.toNat) (v:=pD (us[k.toNat]'(by omega))) (by rw [Ö,e]; rfl)
    rwa [show ((k.toNat:Nat):Int)=k by omega] at this
   refine⟨.tuple (us.map pD),rfl,_,au,rfl,rfl,?_⟩
   show _/\A' (.bool ([Ç (us[k.toNat]'(by omega)).1,.int (us[k.toNat]'(by omega)).2].any fun e=>î e (.int (0+((v:Nat):Int)))))
   rw [lJ,Ŀ]
   refine⟨rfl,?_⟩
   have eh:pX us ((v:Nat):Int) k=decide (((v:Nat):Int)=(us[k.toNat]'(by omega)).1\/((v:Nat):Int)=(us[k.toNat]'(by omega)).2):=by
    unfold pX
    rw [e]
   rw [← eh]
   exact h
  ·refine⟨ks.map fun k=>pX us ((v:Nat):Int) k,by rw [ě]; rfl,?_⟩
   rw [List.any_map]
   show if (ks.any fun k=>pX us ((v:Nat):Int) k)=true then _ else _
   exact iM (fun c=>⟨rfl,hA c⟩) (fun c=>hB (Bool.eq_false_iff.mpr c))
 ·have e:((Ë n.toNat).filter fun v=>ks.any fun k=>pX us ((v:Nat):Int) k).map (fun v=>Ç (0+((v:Nat):Int)))=(plI n.toNat us ks).map Ç:=by
   unfold plI zI
   rw [ě]
   rfl
  rw [e]
  exact⟨rfl,q⟩
end
theorem yV {Q:Nat->Prop}:∀ k,Q k->∃ m,m<=k/\Q m/\∀ b,b<m->¬ Q b:=by
 intro k
 induction k using Nat.strongRecOn with
 | ind k ih =>
  intro h
  by_cases c:∃ b,b<k/\Q b
  ·obtain⟨b,hb,qb⟩:=c
   obtain⟨m,hm,qm,hl⟩:=ih b hb qb
   exact⟨m,by omega,qm,hl⟩
  ·exact⟨k,Ò _,h,fun b hb qb=>c ⟨b,hb,qb⟩⟩
theorem lU {us:List Tie}{v a y:Int} (ne:a≠v):Rt (adj (noV us v) [] []) a y↔Rt (adj us [] [v]) a y:=by
 constructor
 ·exact Rt.mono fun ⟨p,q⟩ h=>by
   obtain⟨h1,_,h3⟩:=dI.mp h
   obtain⟨k,e,hk,_⟩:=cI.mp h1
   exact cI.mpr ⟨k,e,hk,fun z=>h3 (Ì.mp z)⟩
 ·intro r
  have:Rt (adj (noV us v) [] []) a y/\y≠v:=by
   induction r with
   | refl=>exact⟨.refl _,ne⟩
   | @step p q _ t ih =>
    obtain⟨k,e,hk,hq⟩:=cI.mp t
    have nq:q≠v:=fun z=>hq (Ì.mpr z)
    exact⟨.step ih.1 (dI.mpr ⟨cI.mpr ⟨k,e,hk,ă⟩,ih.2,nq⟩),nq⟩
  exact this.1
abbrev Cv (us:List Tie) (v p q:Int):Prop:=Rt (adj (noV us v) [] []) p q
def bT (t:Tie) (p:Int):Prop:=p=t.1\/p=t.2
def AL (n:Nat) (us:List Tie) (t u:Tie):Prop:=∀ v:Nat,v<n->∀ p q:Int,(bT t p\/bT u p)->(bT t q\/bT u q)->p≠v->q≠v->Cv us v p q
theorem Cv.sym {us:List Tie}{v p q:Int} (h:Cv us v p q):Cv us v q p:=Rt.sym cN h
theorem zT {us:List Tie}{v p q:Int}{t:Tie} (ht:t∈us) (hp:bT t p) (hq:bT t q) (pv:p≠v) (qv:q≠v):Cv us v p q:=by
 by_cases e:p=q
 ·subst e; exact .refl _
 ·refine .step (.refl _) (dI.mpr ⟨jo.mpr ?_,pv,qv⟩)
  obtain⟨a,b⟩:=t
  rcases hp with rfl | rfl <;> rcases hq with rfl | rfl
  ·exact absurd rfl e
  ·exact .inl ht
  ·exact .inr ht
  ·exact absurd rfl e
theorem AL.refl {n:Nat}{us:List Tie}{t:Tie} (ht:t∈us):AL n us t t:=fun v _ p q hp hq pv qv=>zT ht (hp.elim id id) (hq.elim id id) pv qv
theorem AL.sym {n:Nat}{us:List Tie}{t u:Tie} (h:AL n us t u):AL n us u t:=fun v hv p q hp hq=>h v hv p q hp.symm hq.symm
theorem AL.trans {n:Nat}{us:List Tie}{t u s:Tie} (ne:u.1≠u.2) (h:AL n us t u) (k:AL n us u s):AL n us t s:=fun v hv p q hp hq pv qv=>by
 obtain⟨x,hx,xv⟩:∃ x,bT u x/\x≠((v:Nat):Int):=by
  by_cases e:u.1=((v:Nat):Int)
  ·exact⟨u.2,.inr rfl,fun z=>ne (e.trans z.symm)⟩
  ·exact⟨u.1,.inl rfl,e⟩
 have g:∀ y,(bT t y\/bT s y)->y≠((v:Nat):Int)->Cv us v y x:=fun y hy yv=>hy.elim (fun z=>h v hv y x (.inl z) (.inr hx) yv xv) fun z=>k v hv y x (.inr z) (.inl hx) yv xv
 exact (g p hp pv).trans (g q hq qv).sym
theorem G6 {l:List Int}{x y:Int} (h:(x,y)∈gP l):∃ i,l[i]?=some x/\l[i+1]?=some y:=by
 obtain⟨i,hi⟩:=ú h
 unfold gP at hi
 rw [List.getElem?_zip_eq_some] at hi
 obtain⟨h1,h2⟩:=hi
 rw [List.getElem?_drop,Nat.add_comm] at h2
 rw [List.getElem?_dropLast] at h1
 split at h1
 ·exact⟨i,h1,h2⟩
 ·cases h1
theorem mJ {l:List Int}{E:List Tie} (h:∀ t∈gP l,t∈E):∀ (k i:Nat) (x y:Int),l[i]?=some x->l[i+k]?=some y->Rt (adj E [] []) x y
 | 0,i,x,y,hx,hy=>by
  rw [Nat.add_zero,hx] at hy
  cases hy
  exact .refl _
 | k+1,i,x,y,hx,hy=>by
  have hl:=(É.mp hy).1
  have hz:l[i+k]?=some (l[i+k]'(by omega)):=Ä _
  refine .step (mJ h k i x _ hx hz) (jo.mpr (.inl (h _ ?_)))
  unfold gP
  refine Æ (i:=i+k) ?_
  rw [List.getElem?_zip_eq_some,List.getElem?_dropLast,if_pos (by omega),List.getElem?_drop]
  exact⟨hz,by rw [Nat.add_comm 1]; exact hy⟩
theorem JT {l:List Int}{E:List Tie} (h:∀ t∈gP l,t∈E) {x y:Int} (hx:x∈l) (hy:y∈l):Rt (adj E [] []) x y:=by
 obtain⟨i,hi⟩:=ú hx
 obtain⟨j,hj⟩:=ú hy
 rcases Nat.le_total i j with z | z
 ·exact mJ h (j - i) i x y hi (by rw [show i+(j - i)=j by omega]; exact hj)
 ·exact Rt.sym cN (mJ h (i - j) j y x hj (by rw [show j+(i - j)=i by omega]; exact hi))
theorem Bq {n:Nat}{us:List Tie}{t:Tie} (h:t∈prI n us):∃ (v:Nat) (part:List Int),v<n/\part∈pwI n us v/\t∈jF us v part:=by
 obtain⟨v,hv,h⟩:=Ļ.mp h
 obtain⟨part,hp,h⟩:=Ļ.mp h
 exact⟨v,part,ã.mp hv,hp,h⟩
theorem Jd {n:Nat}{us:List Tie}{v:Nat}{part:List Int} (hv:v<n) (hp:part∈pwI n us v):∀ t∈gP (tiI us ((v:Nat):Int) part),t∈prI n us:=fun t ht=>Ļ.mpr ⟨v,ã.mpr hv,Ļ.mpr ⟨part,hp,ht⟩⟩
theorem Mj {n:Nat}{us:List Tie}:OkN ((us.length:Nat):Int) (prI n us):=fun t ht=>by
 obtain⟨v,part,_,_,h⟩:=Bq ht
 obtain⟨x,y⟩:=t
 obtain⟨i,h1,h2⟩:=G6 h
 have r:=List.pairwise_iff_getElem.mp (Ag us ((v:Nat):Int) part) i (i+1) (É.mp h1).1 (É.mp h2).1 (by omega)
 rw [(É.mp h1).2,(É.mp h2).2] at r
 have g:∀ z∈tiI us ((v:Nat):Int) part,0<=z/\z<((us.length:Nat):Int):=fun z hz=>by
  obtain⟨j,t,rfl,e,_⟩:=gC.mp hz
  have:=(É.mp e).1
  omega
 exact⟨g x (Æ h1),g y (Æ h2),fun z=>by dsimp only at z; omega⟩
theorem Pg {n:Nat}{us:List Tie}{v:Nat}{y:Int} (y0:0<=y) (y1:y<n) (ne:y≠((v:Nat):Int)):∃ part∈pwI n us v,∀ x,x∈part↔((0<=x/\x<n)/\Cv us v y x):=by
 obtain⟨m,hm0,hm,hl⟩:=yV (Q:=fun k=>Cv us v y ((k:Nat):Int)) y.toNat (by rw [show ((y.toNat:Nat):Int)=y by omega]; exact .refl _)
 have mn:m<n:=by omega
 have mv:m≠v:=fun z=>by
  subst z
  exact ne (dW hm)
 refine⟨zI (bw (RV us v) n m),ą.mpr ⟨m,Û.mpr ⟨Û.mpr ⟨ã.mpr mn,?_⟩,decide_eq_true mv⟩,rfl⟩,fun x=>?_⟩
 ·show aP (RB (adj (noV us ((v:Nat):Int)) [] [])) n m=true
  rw [bV mn (bB _ m)]
  intro b hb
  rw [Bool.eq_false_iff]
  intro z
  rw [Ü] at z
  exact hl b hb (hm.trans (aD.mp z.1))
 ·rw [d7]
  exact⟨fun z=>⟨z.1,hm.trans z.2⟩,fun z=>⟨z.1,hm.sym.trans z.2⟩⟩
section
variable {n:Nat}{us:List Tie} (ok:OkN ((n:Nat):Int) us)
include ok
theorem Kz {j k:Int} (h:(j,k)∈prI n us):∃ (i i':Nat) (t u:Tie),j=((i:Nat):Int)/\k=((i':Nat):Int)/\us[i]?=some t/\us[i']?=some u/\AL n us t u:=by
 obtain⟨v,part,hv,hp,h⟩:=Bq h
 obtain⟨x,h1,h2⟩:=G6 h
 obtain⟨i,t,e1,e2,o1,p1⟩:=gC.mp (Æ h1)
 obtain⟨i',u,e3,e4,o2,p2⟩:=gC.mp (Æ h2)
 refine⟨i,i',t,u,e1,e3,e2,e4,fun w hw p q hp' hq pw qw=>?_⟩
 have tm:=Æ e2
 have um:=Æ e4
 by_cases c:w=v
 ·subst c
  obtain⟨a,an,av,_,rfl⟩:=LR hp
  have no:((w:Nat):Int)∉zI (bw (RV us w) n a):=fun z=>by
   have:=dW (d7.mp z).2
   omega
  have g:∀ s:Tie,(((w:Nat):Int)=s.1\/((w:Nat):Int)=s.2)->(s.1∈zI (bw (RV us w) n a)\/s.2∈zI (bw (RV us w) n a))->∀ y,bT s y->y≠((w:Nat):Int)->Cv us w ((a:Nat):Int) y:=fun s o m y hy yw=>by
   rcases hy with rfl | rfl
   ·rcases o with o | o
    ·exact absurd o.symm yw
    ·exact (d7.mp (m.resolve_right fun z=>no (o ▸ z))).2
   ·rcases o with o | o
    ·exact (d7.mp (m.resolve_left fun z=>no (o ▸ z))).2
    ·exact absurd o.symm yw
  have g2:∀ y,(bT t y\/bT u y)->y≠((w:Nat):Int)->Cv us w ((a:Nat):Int) y:=fun y hy yw=>hy.elim (fun z=>g t o1 p1 y z yw) fun z=>g u o2 p2 y z yw
  exact (g2 p hp' pw).sym.trans (g2 q hq qw)
 ·have vw:((v:Nat):Int)≠((w:Nat):Int):=by omega
  have g:∀ y,(bT t y\/bT u y)->y≠((w:Nat):Int)->Cv us w y ((v:Nat):Int):=fun y hy yw=>hy.elim (fun z=>zT tm z o1 yw vw) fun z=>zT um z o2 yw vw
  exact (g p hp' pw).trans (g q hq qw).sym
theorem Ld {i:Nat}{t:Tie} (hi:us[i]?=some t) {k:Int} (r:Rt (adj (prI n us) [] []) ((i:Nat):Int) k):∃ (j:Nat) (u:Tie),k=((j:Nat):Int)/\us[j]?=some u/\AL n us t u:=by
 induction r with
 | refl=>exact⟨i,t,rfl,hi,AL.refl (Æ hi)⟩
 | @step x y _ h ih =>
  obtain⟨j,u,rfl,hj,a⟩:=ih
  have nu:u.1≠u.2:=(ok u (Æ hj)).2.2
  rcases jo.mp h with h | h
  ·obtain⟨a1,a2,s1,s2,e1,e2,h1,h2,al⟩:=Kz ok h
   have:j=a1:=by omega
   subst this
   rw [hj] at h1
   cases h1
   exact⟨a2,s2,e2,h2,a.trans nu al⟩
  ·obtain⟨a1,a2,s1,s2,e1,e2,h1,h2,al⟩:=Kz ok h
   have:j=a2:=by omega
   subst this
   rw [hj] at h2
   cases h2
   exact⟨a1,s1,e1,h1,a.trans nu al.sym⟩
theorem PX {i f:Nat}{t u:Tie} (hi:us[i]?=some t) (hf:us[f]?=some u) (al:AL n us t u):Rt (adj (prI n us) [] []) ((i:Nat):Int) ((f:Nat):Int):=by
 refine Ř fun ns=>?_
 let V:Int->Prop:=fun x=>∃ (j:Nat) (s:Tie),us[j]?=some s/\bT s x/\Rt (adj (prI n us) [] []) ((i:Nat):Int) ((j:Nat):Int)
 have rng:∀ (j:Nat) (s:Tie),us[j]?=some s->∀ x,bT s x->0<=x/\x<((n:Nat):Int):=fun j s hs x hx=>by
  have o:=ok s (Æ hs)
  rcases hx with rfl | rfl
  ·exact o.1
  ·exact o.2.1
 have K:∀ (v y:Int) (g:Nat) (s:Tie),V v->us[g]?=some s->bT s v->bT s y->y≠v->¬ Rt (adj (prI n us) [] []) ((i:Nat):Int) ((g:Nat):Int)->∀ z,V z->z≠v->¬ Cv us v y z:=by
  rintro v y g s ⟨h,th,hh,hv,rh⟩ hg gv gy yv ng z ⟨j,tj,hj,hz,rj⟩ zv cz
  obtain⟨v0,v1⟩:=rng h th hh v hv
  obtain⟨y0,y1⟩:=rng g s hg y gy
  obtain⟨vn,rfl⟩:∃ vn:Nat,v=((vn:Nat):Int):=⟨v.toNat,by omega⟩
  obtain⟨x,hx,xv⟩:∃ x,bT th x/\x≠((vn:Nat):Int):=by
   have o:=(ok th (Æ hh)).2.2
   by_cases e:th.1=((vn:Nat):Int)
   ·exact⟨th.2,.inr rfl,fun q=>o (e.trans q.symm)⟩
   ·exact⟨th.1,.inl rfl,e⟩
  obtain⟨j',tj',ej,hj',a⟩:=Ld ok hh ((Rt.sym cN rh).trans rj)
  have:j'=j:=by omega
  subst this
  rw [hj] at hj'
  cases hj'
  have cx:Cv us vn y x:=cz.trans (a vn (by omega) x z (.inl hx) (.inr hz) xv zv).sym
  obtain⟨part,hp,hm⟩:=Pg (n:=n) (us:=us) y0 y1 yv
  obtain⟨x0,x1⟩:=rng h th hh x hx
  have into:∀ (k:Nat) (s:Tie) (w:Int),us[k]?=some s->bT s ((vn:Nat):Int)->bT s w->w∈part->((k:Nat):Int)∈tiI us ((vn:Nat):Int) part:=fun k s w hk h1 h2 h3=>gC.mpr ⟨k,s,rfl,hk,h1,h2.elim (fun q=>.inl (q ▸ h3)) fun q=>.inr (q ▸ h3)⟩
  exact ng (rh.trans (JT (Jd (by omega) hp) (into h th x hh hv hx ((hm x).mpr ⟨⟨x0,x1⟩,cx⟩)) (into g s y hg gv gy ((hm y).mpr ⟨⟨y0,y1⟩,.refl _⟩))))
 have ot:=(ok t (Æ hi)).2.2
 have Va:V t.1:=⟨i,t,hi,.inl rfl,.refl _⟩
 have Vb:V t.2:=⟨i,t,hi,.inr rfl,.refl _⟩
 have out:∀ c,bT u c->¬ V c->False:=fun c hc nc=>by
  have ca:c≠t.1:=fun z=>nc (z ▸ Va)
  obtain⟨a0,a1⟩:=rng i t hi t.1 (.inl rfl)
  obtain⟨an,ea⟩:∃ an:Nat,t.1=((an:Nat):Int):=⟨t.1.toNat,by omega⟩
  have bc:=al an (by omega) c t.2 (.inr hc) (.inl (.inr rfl)) (ea ▸ ca) (ea ▸ ot.symm)
  have walk:∀ x,Cv us an c x->(¬ V x/\∀ v,V v->Cv us v c x)\/∃ v y,V v/\(y,v)∈adj us [] []/\¬ V y/\∀ w,V w->Cv us w c y:=fun x r=>by
   induction r with
   | refl=>exact .inl ⟨nc,fun v _=>.refl _⟩
   | @step x x' _ h ih =>
    rcases ih with ⟨nx,cx⟩ | ih
    ·have e:=(dI.mp h).1
     by_cases vx:V x'
     ·exact .inr ⟨x',x,vx,e,nx,cx⟩
     ·exact .inl ⟨vx,fun v hv=>.step (cx v hv) (dI.mpr ⟨e,fun z=>nx (z ▸ hv),fun z=>vx (z ▸ hv)⟩)⟩
    ·exact .inr ih
  rcases walk _ bc with ⟨nb,_⟩ | ⟨v,y,hv,e,ny,cy⟩
  ·exact nb Vb
  ·have yv:y≠v:=fun z=>ny (z ▸ hv)
   obtain⟨g,s,hg,gv,gy⟩:∃ (g:Nat) (s:Tie),us[g]?=some s/\bT s v/\bT s y:=by
    rcases jo.mp e with e | e
    ·obtain⟨g,hg⟩:=ú e
     exact⟨g,_,hg,.inr rfl,.inl rfl⟩
    ·obtain⟨g,hg⟩:=ú e
     exact⟨g,_,hg,.inl rfl,.inr rfl⟩
   have ng:¬ Rt (adj (prI n us) [] []) ((i:Nat):Int) ((g:Nat):Int):=fun z=>ny ⟨g,s,hg,gy,z⟩
   obtain⟨z,hz,zt,zv⟩:∃ z,V z/\bT t z/\z≠v:=by
    by_cases q:t.1=v
    ·exact⟨t.2,Vb,.inr rfl,fun w=>ot (q.trans w.symm)⟩
    ·exact⟨t.1,Va,.inl rfl,q⟩
   obtain⟨v0,v1⟩:=rng g s hg v gv
   obtain⟨vn,rfl⟩:∃ vn:Nat,v=((vn:Nat):Int):=⟨v.toNat,by omega⟩
   have cz:=al vn (by omega) c z (.inr hc) (.inl zt) (fun w=>nc (w ▸ hv)) zv
   exact K _ y g s hv hg gv gy yv ng z hz zv ((cy _ hv).sym.trans cz)
 have Vc:V u.1:=Ř fun z=>out u.1 (.inl rfl) z
 have Vd:V u.2:=Ř fun z=>out u.2 (.inr rfl) z
 have ou:=(ok u (Æ hf)).2.2
 exact K u.1 u.2 f u Vc hf (.inl rfl) (.inr rfl) ou.symm ns u.2 Vd ou.symm (.refl _)
end
def grI (n:Nat) (us:List Tie):List (List Int):=(cu (RB (adj (prI n us) [] [])) us.length us.length).map (plI n us)
theorem oX {n:Nat}{us:List Tie}{ks:List Int} (h:n<=16):cP (plI n us ks):=by
 unfold plI zI
 refine⟨?_,fun x hx=>?_⟩
 ·rw [Á]
  have:=ý (fun v:Nat=>ks.any fun k=>pX us ((v:Nat):Int) k) (Ë n)
  rw [à] at this
  omega
 ·obtain⟨v,hv,rfl⟩:=ą.mp hx
  have:=ã.mp (Û.mp hv).1
  omega
def fBl (ds:List D) (P:D->Prop):Prop:=∃ (n:Int) (us:List Tie),ds=[aB n us]/\1<=n/\n<=16/\us.length<=45/\OkN n us/\∀ out:List (List Int),out.Perm (grI n.toNat us)->out.Pairwise (fun a b=>aG 40 a<=aG 40 b)->P (.list (out.map iD))
def Qp (ds:List D) (P:D->Prop):Prop:=∃ l:List Int,ds=[iD l]/\l.length<=100/\P (.bool true)
open Classical in
def alB (n:Nat) (us:List Tie) (t u:Tie):Bool:=decide (AL n us t u)
open Classical in
theorem u0 {n:Nat}{us:List Tie}{t u:Tie}:alB n us t u=true↔AL n us t u:=by
 unfold alB
 exact decide_eq_true_iff
def alL (n:Nat) (us:List Tie) (t:Tie):List Int:=(us.zipIdx.filter fun p=>alB n us t p.1).map fun p=>((p.2:Nat):Int)
def lbI (n:Nat) (us:List Tie):List Int:=us.map fun t=>(alL n us t).headD 0
theorem BW (xs:List D):î (.list xs) (.list [])=xs.isEmpty:=by cases xs <;> rfl
theorem vZ {xs:List D} (h:∀ x∈xs,x.canLay0=true/\x.depth<=50):okD (.list xs)=true:=by
 have a:ģ xs=true/\Ķ xs<=50:=by
  induction xs with
  | nil=>exact⟨rfl,Č _⟩
  | cons x xs ih =>
   obtain⟨i1,i2⟩:=ih fun y hy=>h y (Í _ hy)
   obtain⟨j1,j2⟩:=h x Ï
   refine⟨?_,?_⟩
   ·show (x.canLay0&&ģ xs)=true
    rw [j1,i1]; rfl
   ·show max x.depth (Ķ xs)<=50
    omega
 show (ģ xs&&decide (Ķ xs+1<=60))=true
 rw [a.1,decide_eq_true (by omega)]
 rfl
theorem J7 {α:Type} (l:List α):fV l none (some 1)=l.take 1:=by
 unfold fV
 have e1:HT.sIx l.length 0 none=0:=rfl
 have e2:HT.sIx l.length l.length (some 1)=min 1 l.length:=HT.Az l.length l.length 1
 rw [e1,e2,List.drop_zero,Nat.sub_zero]
 cases l with
 | nil=>rfl
 | cons x l=>rw [Nat.min_eq_left (by simp)]
theorem lA:∀ a b:List Int,î (.list (a.map Ç)) (.list (b.map Ç))=decide (a=b)
 | [],[]=>rfl
 | [],_::_=>rfl
 | _::_,[]=>rfl
 | x::a,y::b=>by
  have ih:=lA a b
  show (x == y&&î (.list (a.map Ç)) (.list (b.map Ç)))=_
  rw [ih,ē]
  simp
theorem iB (l:List Int):okD (.list (l.map Ç))=true:=vZ fun x hx=>by
 obtain⟨i,_,rfl⟩:=ą.mp hx
 exact⟨rfl,Č _⟩
theorem j7 (ls:List (List Int)):okD (.list (ls.map iD))=true:=vZ fun x hx=>by
 obtain⟨l,_,rfl⟩:=ą.mp hx
 have h:∀ l:List Int,ģ (l.map Ç)=true/\Ķ (l.map Ç)<=0:=fun l=>by
  induction l with
  | nil=>exact⟨rfl,Ò _⟩
  | cons x a ih =>
   refine⟨by show (true&&ģ (a.map Ç))=true; rw [ih.1]; rfl,?_⟩
   show max 0 (Ķ (a.map Ç))<=0
   have:=ih.2
   omega
 refine⟨(h l).1,?_⟩
 show Ķ (l.map Ç)+1<=50
 have:=(h l).2
 omega
theorem Ke {α:Type} (p:α->Bool) (es:List α):(es.filter fun d=>!p d).isEmpty=es.all p:=by
 induction es with
 | nil=>rfl
 | cons e es ih =>
  cases h:p e with
  | true=>rw [List.filter_cons_of_neg (by rw [h]; decide),List.all_cons,h,ih]; rfl
  | false=>rw [List.filter_cons_of_pos (by rw [h]; rfl),List.all_cons,h]; rfl
theorem Hq {α β:Type} (f:α->β) (k:Nat) (l:List α):(Ó k (l.map f)).flatten=(Ó k l).flatten.map f:=by
 rw [List.map_flatten,List.map_replicate]
def lab (us:List Tie) (n:Nat) (v p:Int):Int:=(rsI (adj us [] [v]) n p).headD 0
theorem Ba {us:List Tie}{n:Nat}{v p:Int} (p0:0<=p) (p1:p<n):∃ r,rsI (adj us [] [v]) n p=lab us n v p::r:=by
 have m:p∈rsI (adj us [] [v]) n p:=dh.mpr ⟨⟨p0,p1⟩,.refl _⟩
 unfold lab
 cases h:rsI (adj us [] [v]) n p with
 | nil=>rw [h] at m; cases m
 | cons x r=>exact⟨r,rfl⟩
theorem Bv {us:List Tie}{n:Nat}{v p q:Int} (p0:0<=p/\p<n) (q0:0<=q/\q<n) (pv:p≠v) (qv:q≠v):lab us n v p=lab us n v q↔Cv us v p q:=by
 have g:∀ x,0<=x/\x<(n:Int)->x≠v->Cv us v x (lab us n v x):=fun x hx xv=>by
  obtain⟨r,hr⟩:=Ba (us:=us) (v:=v) hx.1 hx.2
  have:lab us n v x∈rsI (adj us [] [v]) n x:=by rw [hr]; exact Ï
  exact (lU xv).mpr (dh.mp this).2
 constructor
 ·intro e
  have h1:=g p p0 pv
  rw [e] at h1
  exact h1.trans (g q q0 qv).sym
 ·intro c
  unfold lab
  have e:rsI (adj us [] [v]) n p=rsI (adj us [] [v]) n q:=jU jd jd fun x=>by
   rw [dh,dh,← lU pv,← lU qv]
   exact⟨fun z=>⟨z.1,c.sym.trans z.2⟩,fun z=>⟨z.1,c.trans z.2⟩⟩
  rw [e]
def oth (n v:Nat):List Int:=zI ((Ë n).filter fun p=>decide (p≠v))
def fdM (us:List Tie) (n v:Nat):List (Int×Int):=(oth n v).map fun p=>(p,lab us n ((v:Nat):Int) p)
def fdD (us:List Tie) (n v:Nat):D:=.dict (kvD ((fdM us n v).map fun q=>(q.1,Ç q.2)))
theorem Br {n v:Nat}{p:Int}:p∈oth n v↔(0<=p/\p<n)/\p≠((v:Nat):Int):=by
 unfold oth
 rw [gB,Û,ã,decide_eq_true_iff]
 constructor
 ·rintro ⟨h0,h1,h2⟩
  exact⟨⟨h0,by omega⟩,by omega⟩
 ·rintro ⟨⟨h0,h1⟩,h2⟩
  exact⟨h0,by omega,by omega⟩
theorem NZ {us:List Tie}{n v:Nat}{p:Int} (h:p∈oth n v):Hg ((fdM us n v).map fun q=>(q.1,Ç q.2)) p=some (.int (lab us n ((v:Nat):Int) p)):=by
 unfold Hg fdM
 rw [ě]
 have e:((oth n v).map ((fun q:Int×Int=>(q.1,Ç q.2)) ∘ fun p=>(p,lab us n ((v:Nat):Int) p))).find? (fun q=>decide (q.1=p))=some (p,Ç (lab us n ((v:Nat):Int) p)):=by
  rw [List.find?_map]
  have:(oth n v).find? ((fun q:Int×D=>decide (q.1=p)) ∘ ((fun q:Int×Int=>(q.1,Ç q.2)) ∘ fun p=>(p,lab us n ((v:Nat):Int) p)))=some p:=by
   have g:∀ l:List Int,p∈l->l.find? (fun q=>decide (q=p))=some p:=fun l=>by
    induction l with
    | nil=>intro z; cases z
    | cons x l ih =>
     intro z
     by_cases c:x=p
     ·subst c; rw [List.find?_cons_of_pos (by simp)]
     ·rw [List.find?_cons_of_neg (by simp [c])]
      exact ih ((Þ.mp z).resolve_left fun y=>c y.symm)
   exact g _ h
  rw [this]
  rfl
 rw [e]
 rfl
def ends (t u:Tie):List Int:=[t.1,t.2,u.1,u.2]
def nH (us:List Tie) (n:Nat) (t u:Tie) (v:Nat):List Int:=((ends t u).filter fun p=>!decide (p=((v:Nat):Int))).map (lab us n ((v:Nat):Int))
def evB (r:List Int):Bool:=decide (r=(Ó r.length (r.take 1)).flatten)
theorem Bc (x:Int):∀ k,(Ó k [x]).flatten=Ó k x
 | 0=>rfl
 | k+1=>by rw [ľ,ţ,Bc x k]; rfl
theorem Hs (r:List Int):evB r=true↔∀ x∈r,∀ y∈r,x=y:=by
 unfold evB
 rw [decide_eq_true_iff]
 cases r with
 | nil=>simp
 | cons a r =>
  rw [List.take_succ_cons,List.take_zero,Bc]
  constructor
  ·intro h x hx y hy
   rw [h] at hx hy
   rw [(Ĭ.mp hx).2,(Ĭ.mp hy).2]
  ·intro h
   exact List.eq_replicate_iff.mpr ⟨rfl,fun x hx=>h x hx a Ï⟩
open Classical in
theorem IK {us:List Tie}{n:Nat}{t u:Tie} (ok:OkN ((n:Nat):Int) us) (ht:t∈us) (hu:u∈us):((Ë n).map (nH us n t u)).all evB=alB n us t u:=by
 have re:∀ p,p∈ends t u↔(bT t p\/bT u p):=fun p=>by
  unfold ends bT
  simp only [Þ,ă,or_false]
  exact (or_assoc).symm
 have rg:∀ p,(bT t p\/bT u p)->0<=p/\p<((n:Nat):Int):=fun p hp=>by
  have o1:=ok t ht
  have o2:=ok u hu
  rcases hp with (rfl | rfl) | (rfl | rfl)
  ·exact o1.1
  ·exact o1.2.1
  ·exact o2.1
  ·exact o2.2.1
 unfold alB
 rw [ē,decide_eq_true_iff,List.all_map,Ŗ]
 constructor
 ·intro h v hv p q hp hq pv qv
  have h:=(Hs _).mp (h v (ã.mpr hv))
  have g:∀ x,(bT t x\/bT u x)->x≠((v:Nat):Int)->lab us n ((v:Nat):Int) x∈nH us n t u v:=fun x hx xv=>ą.mpr ⟨x,Û.mpr ⟨(re x).mpr hx,by simp [xv]⟩,rfl⟩
  exact (Bv (rg p hp) (rg q hq) pv qv).mp (h _ (g p hp pv) _ (g q hq qv))
 ·intro h v hv
  refine (Hs _).mpr fun x hx y hy=>?_
  obtain⟨p,hp,rfl⟩:=ą.mp hx
  obtain⟨q,hq,rfl⟩:=ą.mp hy
  obtain⟨p1,p2⟩:=Û.mp hp
  obtain⟨q1,q2⟩:=Û.mp hq
  have pv:p≠((v:Nat):Int):=by simpa using p2
  have qv:q≠((v:Nat):Int):=by simpa using q2
  exact (Bv (rg p ((re p).mp p1)) (rg q ((re q).mp q1)) pv qv).mpr (h v (ã.mp hv) p q ((re p).mp p1) ((re q).mp q1) pv qv)
def Qq (ds:List D) (P:D->Prop):Prop:=∃ (n:Int) (us:List Tie),ds=[aB n us]/\1<=n/\n<=16/\us.length<=45/\OkN n us/\P (iD (lbI n.toNat us))
section
variable {P:Program}{w:World}{K:â}{mg:Str->Option Value}{base:Heap}{f:Addr}{fd:FuncData}{CN:Addr}
theorem gY:FnScope ["_law_thing"] ["_law_thing"] (aq (top 28)):=zC
theorem mz:(["_law_one","_law_thing"]:List Str).Nodup:=by decide +kernel
theorem pH (F:Fun K "_law_numbers" "_law_numbers" (top 28) f fd) (B:ź mg):FnOk P w K mg base CX0 1 f fd ["_law_thing"] (spD Qp):=by
 refine F.ok gY œ (fun cdv A outer s H vs Q E hr h=>?_)
 have nd:=gY.nd
 refine⟨_,Ğ (Ð (Ŷ (Wr.fZ (Wr.cU (Wr.cg wI B.isinstance (Ñ 0) (Wr.wty rfl B.list boot_list)))) (ù (ę Wr.rC)) û)
  (ù (ę (Wr.tR hr.units (ŵ ["_law_one"] rfl (Ĵ (Ñ 0)) (fun c=>(å (i:=0) mz rfl zQ)) (fun c=>(Ő (Wr.wpt (Wr.lX (Wr.fZ (Wr.cU (Wr.cg Bx B.isinstance (Ñ 0) (Wr.wty rfl B.int boot_int)))) (Wr.jY (Wr.cU (Wr.cg wJ B.isinstance (Ñ 0) (Wr.wty rfl B.bool boot_bool)))))))) (fun c=>(Ñ 0))) (þ Ã))))),aX h ?_⟩
 rintro ds P ⟨l,rfl,ll,q⟩
 refine⟨[.sh (iD l)],rfl,?_⟩
 refine aW (A:=True) (eX l Ç (fun _=>false) Ç .imm rfl (by omega) (fun x hx A B h1 h2=>aW (A:=True) (aW (A:=A (.int x)) (h2 rfl))) ?_)
 rw [show l.filter (fun _=>false)=[] by simp]
 exact⟨zK,rfl,rfl,rfl,q⟩
theorem q9:FnScope ["web","groups"] ["web"] (aq (top 21)):=zC
theorem wj:(["numbers","web","groups"]:List Str).Nodup:=by decide +kernel
theorem Df (F:Fun K "blocks" "blocks" (top 21) f fd) (B:ź mg) (C_parts:Ł P w K mg base 3 "parts" ["web"] (spD oE)) (C_ties_side_by_side:Ł P w K mg base 6 "ties_side_by_side" ["web"] (spD Qn)) (C_places_of:Ł P w K mg base 1 "places_of" ["web","numbers"] (spD Qo)):FnOk P w K mg base CX0 7 f fd ["web"] (spD fBl):=by
 refine F.ok q9 œ (fun cdv A outer s H vs Q E hr h=>?_)
 have nd:=q9.nd
 refine⟨_,Ğ (Ð (ā none (i:=1) nd rfl zQ (ŷ C_parts hr (Â (ť (Â (Ż B.len (Â (í (Ñ 0) Ø) Ã)) (Â (ŷ C_ties_side_by_side hr (Â (Ñ 0) Ã)) Ã))) Ã)))
  (ù (ę (Wr.fK hr.units B.sorted (Â (ŵ ["numbers"] rfl (Ĵ (Ñ 1)) (fun c=>(å (i:=0) wj rfl zQ)) (fun c=>Wr.dN) (fun c=>(ŷ C_places_of hr (Â (Ñ 1) (Â (Ñ 0) Ã))))) Ã))))),aX h ?_⟩
 rintro ds P ⟨n,us,rfl,n1,n16,lu,ok,q⟩
 refine⟨[.im (aB n us),.any],by show [dz (aB n us),_]=_; rw [aY],?_⟩
 have pl:=Bj (n:=n.toNat) (us:=us)
 refine⟨.tuple (us.map pD),rfl,n,us,rfl,n1,n16,lu,ok,zK,true,_,prI n.toNat us,rfl,by omega,by rw [Á]; omega,by omega,by rw [Á]; exact Mj,?_⟩
 rw [Á,á]
 have cl:=jk (RB (adj (prI n.toNat us) [] [])) us.length us.length
 refine bW (rg:=none) (i:=1) (ρ:=[.im (aB n us),.any]) (k:=norm .new (.list ((cu (RB (adj (prI n.toNat us) [] [])) us.length us.length).map iD))) (d:=.list ((cu (RB (adj (prI n.toNat us) [] [])) us.length us.length).map iD)) (s:=.sn (.list ((cu (RB (adj (prI n.toNat us) [] [])) us.length us.length).map iD))) (by rfl) ?_
 refine GR (cu (RB (adj (prI n.toNat us) [] [])) us.length us.length) iD (fun ks=>iD (plI n.toNat us ks)) .new rfl (by omega) (fun ks hks A B h=>bJ (B:=True) ?_) ?_
 ·obtain⟨a,ha,rfl⟩:=ą.mp hks
  have lk:(zI (bw (RB (adj (prI n.toNat us) [] [])) us.length a)).length<=us.length:=by
   unfold zI bw
   rw [Á]
   have:=ý (fun b=>RB (adj (prI n.toNat us) [] []) a b&&RB (adj (prI n.toNat us) [] []) b a) (Ë us.length)
   rw [à] at this
   exact this
  refine⟨n,us,_,rfl,n1,n16,lu,by omega,fun k hk=>?_,rfl,h⟩
  obtain⟨h0,h1⟩:=gB.mp hk
  have:=ã.mp (Û.mp h1).1
  omega
 ·refine⟨grI n.toNat us,by unfold grI; rw [ě]; rfl,by unfold grI; rw [Á]; omega,fun l hl=>?_,fun out hp hs=>⟨rfl,q out hp hs⟩⟩
  obtain⟨ks,_,rfl⟩:=ą.mp hl
  exact oX (by omega)
theorem fG:FnScope ["_law_web_here","_law_falls_of","_law_v","_law_others","_law_found","_law_one","_law_alike","_law_k","_law_other","_law_some"] ["_law_web_here"] (aq (top 29)):=zC
theorem dZ:(["_law_place","_law_web_here","_law_falls_of","_law_v","_law_others","_law_found","_law_one","_law_alike","_law_k","_law_other","_law_some"]:List Str).Nodup:=by decide +kernel
theorem jE:(["_law_v","_law_web_here","_law_falls_of","","_law_others","_law_found","_law_one","_law_alike","_law_k","_law_other","_law_some"]:List Str).Nodup:=by decide +kernel
theorem jD:(["_law_place","_law_v","_law_web_here","_law_falls_of","","_law_others","_law_found","_law_one","_law_alike","_law_k","_law_other","_law_some"]:List Str).Nodup:=by decide +kernel
theorem jC:(["_law_row","_law_web_here","_law_falls_of","_law_v","_law_others","_law_found","_law_one","_law_alike","_law_k","_law_other","_law_some"]:List Str).Nodup:=by decide +kernel
theorem mq (F:Fun K "_law_labels_of" "_law_labels_of" (top 29) f fd) (B:ź mg) (m_dict:mg "dict"=none) (m_enumerate:mg "enumerate"=none) (C__law_met:Ł P w K mg base 1 "_law_met" ["_law_web_here","_law_start","_law_fallen","_law_barred"] (spD N5)):FnOk P w K mg base CX0 2 f fd ["_law_web_here"] (spD Qq):=by
 refine F.ok fG œ (fun cdv A outer s H vs Q E hr h=>?_)
 have nd:=fG.nd
 refine⟨_,Ğ (Ð (ā (some 0) (i:=1) nd rfl zQ (þ Ã))
  (Ð (ĸ ï rfl (ĵ B.range (Â (í (Ñ 0) Ø) Ã)) (å (i:=2) nd rfl zQ) (Ð (Wr.iT none ["_law_place"] (i:=3) rfl nd rfl zQ (ĵ B.range (Â (í (Ñ 0) Ø) Ã)) (fun c=>(å (i:=0) dZ rfl zQ)) (fun c=>(Ő (Wr.cV hr.units (Ñ 0) (Ñ 3)))) (fun c=>(Ñ 0)))
  (Ð (Wr.bL (Ŏ 1) (Â (Wr.pA rfl m_dict (Â (ŵ ["_law_place"] rfl (Ĵ (Ñ 3)) (fun c=>(å (i:=0) dZ rfl zQ)) (fun c=>Wr.dN) (fun c=>(ť (Â (Ñ 0) (Â (í (ŷ C__law_met hr (Â (Ñ 1) (Â (Ñ 0) (Â (þ Ã) (Â (þ (Â (Ñ 3) Ã)) Ã))))) Ø) Ã))))) Ã)) Ã)) (æ [2,3] û))))
  (æ [2,3] (Ð (ā (some 1) (i:=4) nd rfl zQ (þ Ã))
  (Ð (ĸ ï rfl (Ĵ (í (Ñ 0) Ø)) (å (i:=5) nd rfl zQ) (Ð (ā (some 2) (i:=6) nd rfl zQ (þ Ã))
  (Ð (ĸ ï rfl (Wr.lG m_enumerate (Â (í (Ñ 0) Ø) Ã)) (Wr.jK (n:=2) rfl (ŗ (å (i:=7) nd rfl zQ) (ŗ (å (i:=8) nd rfl zQ) Wr.eY))) (Ð (Wr.Dv none ["_law_v"] ["_law_web_here","_law_falls_of","","_law_others","_law_found","_law_one","_law_alike","_law_k","_law_other","_law_some"] (i:=9) rfl nd rfl zQ (ĵ B.range (Â (í (Ñ 0) Ø) Ã)) (fun c=>(å (i:=0) jE rfl zQ)) (fun c=>Wr.dN) (fun c=>(ŵ ["_law_place"] rfl (Ĵ (Wr.dG (Ñ 6) (Ñ 9))) (fun c=>(å (i:=0) jD rfl zQ)) (fun c=>(Ő (Wr.cV hr.units (Ñ 0) (Ñ 1)))) (fun c=>(Wr.tW hr.units (í (Ñ 3) (Ñ 1)) (Ñ 0))))))
  (Ð (Ŷ (Wr.dF hr.units (ŵ ["_law_row"] rfl (Ĵ (Ñ 9)) (fun c=>(å (i:=0) jC rfl zQ)) (fun c=>(Ő (Wr.cV hr.units (Ñ 0) (Wr.jZ (Wr.vR (Ñ 0) Wr.lF (Wr.lE Ø)) (Ż B.len (Â (Ñ 0) Ã)))))) (fun c=>(Ñ 0))) (þ Ã)) (ù (Wr.bL (Ŏ 6) (Â (Ñ 7) Ã))) û) (æ [7,8,9] û))))
  (æ [7,8,9] (Ð (Wr.bL (Ŏ 4) (Â (Wr.tM rfl B.min (Â (Ñ 6) Ã)) Ã)) (æ [5,6,7,8,9] û))))))
  (æ [5,6,7,8,9] (ù (ę (Ñ 4))))))))),aX h ?_⟩
 rintro ds P ⟨n,us,rfl,n1,n16,lu,ok,q⟩
 refine⟨[.im (aB n us),.any,.any,.any,.any,.any,.any,.any,.any,.any],by show dz (aB n us)::_=_; rw [aY]; rfl,?_⟩
 obtain⟨n,rfl⟩:∃ m:Nat,n=((m:Nat):Int):=⟨n.toNat,by omega⟩
 rw [á] at q
 refine⟨zK,.int n,rfl,⟨by omega,by omega⟩,rfl,fun (i:Nat) ρ=>ρ=[.im (aB n us),.dw 0 (.list (((Ë n).take i).map (fdD us n))),.any,.any,.any,.any,.any,.any,.any,.any],rfl,?_,?_⟩
 ·rintro i d ρ hd rfl
  obtain⟨hi,rfl⟩:=bC hd
  rw [á] at hi
  refine⟨.int n,rfl,⟨by omega,by omega⟩,eX (Ë n) (fun p=>Ç (0+((p:Nat):Int))) (fun p=>decide (p≠i)) (fun p=>Ç (0+((p:Nat):Int))) .imm (by rw [á]; rfl) (by rw [à]; omega) (fun p hp A B hA hB=>?_) ?_⟩
  ·show if (!decide (0+((p:Nat):Int)=0+((i:Nat):Int)))=true then _ else _
   by_cases c:p=i
   ·rw [decide_eq_true (show 0+((p:Nat):Int)=0+((i:Nat):Int) by omega)]
    exact aW (A:=True) (hB (decide_eq_false fun z=>z c))
   ·rw [decide_eq_false (show ¬ 0+((p:Nat):Int)=0+((i:Nat):Int) by omega)]
    exact bJ (B:=True) ⟨rfl,hA (decide_eq_true c)⟩
  have eo:((Ë n).filter fun p=>decide (p≠i)).map (fun p=>Ç (0+((p:Nat):Int)))=(oth n i).map Ç:=by
   unfold oth zI
   rw [ě]
   rfl
  rw [eo]
  refine bW (rg:=none) (i:=3) (k:=.new) (d:=iD (oth n i)) (s:=.sn (iD (oth n i))) (by rfl) ?_
  have el:∀ p,lab us n (0+((i:Nat):Int)) p=lab us n ((i:Nat):Int) p:=fun p=>by rw [Ŀ]
  have ol:(oth n i).length<=n:=by
   unfold oth zI
   rw [Á]
   have:=ý (fun p=>decide (p≠i)) (Ë n)
   rw [à] at this
   exact this
  refine GR (oth n i) Ç (fun p=>tD2 (p,lab us n ((i:Nat):Int) p)) .imm rfl (by omega) (fun p hp A B h=>bJ (B:=True) ?_) ?_
  ·obtain⟨⟨p0,p1⟩,_⟩:=Br.mp hp
   obtain⟨r,hr⟩:=Ba (us:=us) (v:=0+((i:Nat):Int)) p0 p1
   refine⟨zK,zK,((n:Nat):Int),us,p,[],[0+((i:Nat):Int)],rfl,n1,n16,by omega,ok,p0,p1,?_⟩
   rw [á,hr,el]
   exact⟨_,cM (j:=0) rfl,zK,rfl,h⟩
  ·have lt:((Ë n).take i).length<1000:=by rw [ć,à]; omega
   refine⟨fdM us n i,by unfold fdM; rw [ě]; rfl,?_,rfl,by rw [Á]; exact lt,?_⟩
   ·unfold fdM
    rw [ě]
    show ((oth n i).map fun p=>p).Nodup
    rw [List.map_id']
    exact sU (nQ (Ľ.filter _))
   ·show [_,Sl.dw 0 (.list (((Ë n).take i).map (fdD us n)++[fdD us n i])),_,_,_,_,_,_,_,_]=[_,Sl.dw 0 (.list (((Ë n).take (i+1)).map (fdD us n))),_,_,_,_,_,_,_,_]
    rw [ó,Ä (by rw [à]; exact hi),List.getElem_range,ä]
    rfl
 ·rintro ρ rfl
  rw [Ű,á,Į (by rw [à]; exact Ò _)]
  refine⟨zK,.tuple (us.map pD),rfl,rfl,fun (i:Nat) ρ=>ρ=[.im (aB n us),.dw 0 (.list ((Ë n).map (fdD us n))),.any,.any,.dw 1 (iD ((us.take i).map fun t=>(alL n us t).headD 0)),.any,.any,.any,.any,.any],rfl,?_,?_⟩
  rotate_left
  ·rintro ρ rfl
   rw [Á,Ě]
   exact⟨rfl,q⟩
  rintro i d ρ hd rfl
  obtain⟨t,ht,rfl⟩:=eV hd
  have tm:=Æ ht
  have ot:=ok t tm
  refine⟨zK,.tuple (us.map pD),rfl,rfl,fun (j:Nat) ρ=>ρ=[.im (aB n us),.dw 0 (.list ((Ë n).map (fdD us n))),.any,.any,.dw 1 (iD ((us.take i).map fun t=>(alL n us t).headD 0)),.im (pD t),.dw 2 (iD (((us.zipIdx.take j).filter fun p=>alB n us t p.1).map fun p=>((p.2:Nat):Int))),.any,.any,.any],rfl,?_,?_⟩
  ·rintro j d ρ hd rfl
   rw [cT,Ö] at hd
   obtain⟨u,hu,rfl⟩:∃ t,us[j]?=some t/\Ū [.int ((j:Nat):Int),pD t]=d:=by
    cases e:us[j]? with
    | none=>rw [e] at hd; cases hd
    | some t=>rw [e] at hd; exact⟨t,rfl,Ù hd⟩
   have um:=Æ hu
   have ou:=ok u um
   refine⟨rfl,.int n,rfl,⟨by omega,by omega⟩,GR (Ë n) (fun v=>Ç (0+((v:Nat):Int))) (fun v=>iD (nH us n t u v)) .new (by rw [á]; rfl) (by rw [à]; omega) (fun v hv A B h=>bJ (B:=True) ?_) ?_⟩
   ·refine⟨zK,eX (ends t u) Ç (fun p=>!decide (p=((v:Nat):Int))) (fun p=>Ç (lab us n ((v:Nat):Int) p)) .imm rfl zK (fun p hp A' B' hA hB=>?_) ?_⟩
    ·show if (!decide (p=0+((v:Nat):Int)))=true then _ else _
     rw [Ŀ]
     by_cases c:p=((v:Nat):Int)
     ·rw [decide_eq_true c] at hB ⊢
      exact aW (A:=True) (hB rfl)
     ·rw [decide_eq_false c] at hA ⊢
      have vn:=ã.mp hv
      have pm:p∈oth n v:=Br.mpr ⟨by
       unfold ends at hp
       simp only [Þ,ă,or_false] at hp
       rcases hp with rfl | rfl | rfl | rfl
       ·exact ot.1
       ·exact ot.2.1
       ·exact ou.1
       ·exact ou.2.1,c⟩
      have af:atI ((Ë n).map (fdD us n)) ((v:Nat):Int)=some (fdD us n v):=by
       exact cM (by rw [Ö,Ä (by rw [à]; exact vn),List.getElem_range]; rfl)
      exact bJ (B:=True) ⟨_,af,_,_,rfl,NZ pm,rfl,hA rfl⟩
    ·refine⟨rfl,?_⟩
     have e:((ends t u).filter fun p=>!decide (p=((v:Nat):Int))).map (fun p=>Ç (lab us n ((v:Nat):Int) p))=(nH us n t u v).map Ç:=by
      unfold nH
      rw [ě]
      rfl
     rw [e]
     exact h
   ·refine bW (rg:=none) (i:=9) (k:=.new) (d:=.list ((Ë n).map fun v=>iD (nH us n t u v))) (s:=.sn (.list ((Ë n).map fun v=>iD (nH us n t u v)))) (by rfl) ?_
    have rl:∀ v,(nH us n t u v).length<=4:=fun v=>by
     unfold nH
     rw [Á]
     exact ý _ (ends t u)
    refine eX ((Ë n).map (nH us n t u)) iD (fun r=>!evB r) iD .snw (by rw [ě]; rfl) (by rw [Á,à]; omega) (fun r hr A B hA hB=>?_) ?_
    ·obtain⟨v,_,rfl⟩:=ą.mp hr
     have rlv:=rl v
     generalize nH us n t u v=r at hA hB rlv
     have e1:fV (r.map Ç) none (some 1)=(r.take 1).map Ç:=by rw [J7,List.map_take]
     have e2:(Ó r.length (fV (r.map Ç) none (some 1))).flatten=(Ó r.length (r.take 1)).flatten.map Ç:=by rw [e1,Hq]
     have l1:(fV (r.map Ç) none (some 1)).length * r.length<=1000:=by
      rw [e1,Á,ć]
      have:min 1 r.length * r.length<=1 * 4:=Nat.mul_le_mul (by omega) rlv
      omega
     refine .inl ⟨by rw [e1]; exact iQ _,by omega,by rw [Á]; omega,by rw [Á,á]; exact l1,.inl ⟨?_,iB r,?_,?_⟩⟩
     ·rw [Á,á,e2]
      exact iQ _
     ·rw [Á,á,e2]
      exact iB _
     ·rw [Á,á,e2]
      show if (!PyData.eqv (.list (r.map Ç)) (.list ((Ó r.length (r.take 1)).flatten.map Ç)))=true then _ else _
      rw [lA]
      exact iM (fun c=>⟨rfl,hA c⟩) (fun c=>hB (Bool.eq_false_iff.mpr c))
    ·have tk:us.zipIdx.take (j+1)=us.zipIdx.take j++[(u,j)]:=by
      rw [ó,show us.zipIdx[j]?=some (u,j) by rw [List.getElem?_zipIdx,hu]; simp]
      rfl
     refine⟨zK,j7 _,rfl,?_⟩
     show if î (.list ((((Ë n).map (nH us n t u)).filter fun r=>!evB r).map iD)) (.list [])=true then _ else _
     rw [BW,List.isEmpty_map,Ke,IK ok tm um]
     have jl:=(É.mp hu).1
     have fl:((us.zipIdx.take j).filter fun p=>alB n us t p.1).length<=us.length:=by
      refine Ć (ý _ _) ?_
      rw [ć,List.length_zipIdx]
      omega
     cases hb:alB n us t u with
     | true =>
      refine bJ (B:=True) ⟨rfl,by rw [Á,Á]; omega,?_⟩
      show [_,_,_,_,_,_,Sl.dw 2 (.list ((((us.zipIdx.take j).filter fun p=>alB n us t p.1).map fun p=>((p.2:Nat):Int)).map Ç++[.int ((j:Nat):Int)])),_,_,_]=[_,_,_,_,_,_,Sl.dw 2 (iD (((us.zipIdx.take (j+1)).filter fun p=>alB n us t p.1).map fun p=>((p.2:Nat):Int))),_,_,_]
      rw [tk,ř,List.filter_cons_of_pos (by exact hb),List.filter_nil,ä]
      unfold iD
      rw [ä]
      rfl
     | false =>
      refine aW (A:=True) ?_
      show [_,_,_,_,_,_,Sl.dw 2 (iD (((us.zipIdx.take j).filter fun p=>alB n us t p.1).map fun p=>((p.2:Nat):Int))),_,_,_]=[_,_,_,_,_,_,Sl.dw 2 (iD (((us.zipIdx.take (j+1)).filter fun p=>alB n us t p.1).map fun p=>((p.2:Nat):Int))),_,_,_]
      rw [tk,ř,List.filter_cons_of_neg (by show ¬ alB n us t u=true; rw [hb]; decide),List.filter_nil,ğ]
  ·rintro ρ rfl
   rw [cj,Á,show us.zipIdx.take us.length=us.zipIdx from Į (by rw [List.length_zipIdx]; exact Ò _)]
   obtain⟨kk,hk⟩:=ú tm
   have mem:((kk:Nat):Int)∈alL n us t:=ą.mpr ⟨(t,kk),Û.mpr ⟨ø.mpr hk,u0.mpr (AL.refl tm)⟩,rfl⟩
   have ne:alL n us t≠[]:=fun z=>by rw [z] at mem; cases mem
   have il:=(É.mp ht).1
   refine⟨alL n us t,rfl,ne,fun M hM hl=>⟨rfl,by rw [Á,Á,ć]; omega,?_⟩⟩
   have eM:M=(alL n us t).headD 0:=by
    have rs:(alL n us t).Pairwise (·<·):=j8 _
    cases h:alL n us t with
    | nil=>exact absurd h ne
    | cons x r =>
     rw [h] at rs hM hl
     show M=x
     have h1:=hl x Ï
     rcases Þ.mp hM with z | z
     ·exact z
     ·have:=(List.pairwise_cons.mp rs).1 M z
      omega
   subst eM
   show [_,_,_,_,Sl.dw 1 (.list (((us.take i).map fun t=>(alL n us t).headD 0).map Ç++[.int ((alL n us t).headD 0)])),_,_,_,_,_]=[_,_,_,_,Sl.dw 1 (iD ((us.take (i+1)).map fun t=>(alL n us t).headD 0)),_,_,_,_,_]
   rw [ó,ht,ä]
   unfold iD
   rw [ä]
   rfl
end
section
variable {n:Nat}{us:List Tie} (ok:OkN ((n:Nat):Int) us)
def RP (n:Nat) (us:List Tie):Nat->Nat->Bool:=RB (adj (prI n us) [] [])
include ok in
theorem oV {i j:Nat}{t u:Tie} (hi:us[i]?=some t) (hj:us[j]?=some u):RP n us i j=true↔AL n us t u:=by
 unfold RP
 rw [aD]
 constructor
 ·intro r
  obtain⟨j',u',e,hj',a⟩:=Ld ok hi r
  have:j'=j:=by omega
  subst this
  rw [hj] at hj'
  cases hj'
  exact a
 ·exact PX ok hi hj
theorem kJ {t:Tie}{x:Int}:x∈alL n us t↔∃ (j:Nat) (u:Tie),x=((j:Nat):Int)/\us[j]?=some u/\AL n us t u:=by
 unfold alL
 rw [ą]
 constructor
 ·rintro ⟨⟨u,j⟩,h,rfl⟩
  obtain⟨h1,h2⟩:=Û.mp h
  exact⟨j,u,rfl,ø.mp h1,u0.mp h2⟩
 ·rintro ⟨j,u,rfl,e,a⟩
  exact⟨(u,j),Û.mpr ⟨ø.mpr e,u0.mpr a⟩,rfl⟩
theorem wH {t:Tie} (ht:t∈us):(alL n us t).headD 0∈alL n us t/\∀ x∈alL n us t,(alL n us t).headD 0<=x:=by
 have rs:(alL n us t).Pairwise (·<·):=j8 _
 obtain⟨k,hk⟩:=ú ht
 have mem:((k:Nat):Int)∈alL n us t:=kJ.mpr ⟨k,t,rfl,hk,AL.refl ht⟩
 cases h:alL n us t with
 | nil=>rw [h] at mem; cases mem
 | cons x r =>
  rw [h] at rs
  refine⟨Ï,fun y hy=>?_⟩
  rcases Þ.mp hy with z | z
  ·exact Int.le_of_eq z.symm
  ·exact Int.le_of_lt ((List.pairwise_cons.mp rs).1 y z)
include ok in
theorem ur {k j:Nat}{u:Tie} (hk:k<us.length) (hf:aP (RP n us) us.length k=true) (hj:us[j]?=some u):(alL n us u).headD 0=((k:Nat):Int)↔j∈bw (RP n us) us.length k:=by
 have hk':us[k]?=some us[k]:=Ä hk
 have jl:=(É.mp hj).1
 have um:=Æ hj
 have km:=Æ hk'
 have ff:∀ b,b<k->(RP n us k b&&RP n us b k)=false:=(bV hk (bB _ k)).mp hf
 have ou:=(ok u um).2.2
 have okk:=(ok _ km).2.2
 obtain⟨l1,l2⟩:=wH (n:=n) um
 unfold bw
 rw [Û,ã,Ü,oV ok hk' hj,oV ok hj hk']
 constructor
 ·intro e
  rw [e] at l1
  obtain⟨k',t,ek,ht,a⟩:=kJ.mp l1
  have:k'=k:=by omega
  subst this
  rw [hk'] at ht
  cases ht
  exact⟨jl,a.sym,a⟩
 ·rintro ⟨_,_,a⟩
  have m:((k:Nat):Int)∈alL n us u:=kJ.mpr ⟨k,_,rfl,hk',a⟩
  have h1:=l2 _ m
  obtain⟨b,s,eb,hb,ab⟩:=kJ.mp l1
  rw [eb] at h1 ⊢
  by_cases c:b=k
  ·rw [c]
  ·exfalso
   have:=ff b (by omega)
   rw [(oV ok hk' hb).mpr (a.sym.trans ou ab),(oV ok hb hk').mpr (ab.sym.trans ou a)] at this
   cases this
include ok in
theorem GX {k:Nat}{t:Tie} (hk:us[k]?=some t):(alL n us t).headD 0=((k:Nat):Int)↔aP (RP n us) us.length k=true:=by
 have kl:=(É.mp hk).1
 have tm:=Æ hk
 obtain⟨l1,l2⟩:=wH (n:=n) tm
 constructor
 ·intro e
  refine (bV kl (bB _ k)).mpr fun b hb=>?_
  show (RP n us k b&&RP n us b k)=false
  rw [Bool.eq_false_iff]
  intro z
  rw [Ü] at z
  replace z:=z.1
  have hb':us[b]?=some (us[b]'(by omega)):=Ä _
  have:=l2 _ (kJ.mpr ⟨b,_,rfl,hb',(oV ok hk hb').mp z⟩)
  omega
 ·intro f
  refine (ur ok kl f hk).mpr ?_
  unfold bw
  rw [Û,ã,Ü]
  exact⟨kl,bB _ k,bB _ k⟩
def pcs (n:Nat) (us:List Tie) (k:Nat) (j:Nat):List Int:=(us.take j).flatMap fun t=>if (alL n us t).headD 0=((k:Nat):Int) then [t.1,t.2] else []
include ok in
theorem MK {k:Nat} (hk:k<us.length) (hf:aP (RP n us) us.length k=true) {out:List Int} (hp:out.Pairwise (·<·)) (hm:∀ x,x∈out↔x∈pcs n us k us.length):out=plI n us (zI (bw (RP n us) us.length k)):=by
 refine jU hp (nQ (Ľ.filter _)) fun x=>?_
 rw [hm]
 unfold plI pcs
 rw [gB]
 rw [Ě,Ļ,Û,ã,List.any_eq_true]
 constructor
 ·rintro ⟨t,ht,hx⟩
  by_cases c:(alL n us t).headD 0=((k:Nat):Int)
  ·rw [if_pos c] at hx
   simp only [Þ,ă,or_false] at hx
   obtain⟨j,hj⟩:=ú ht
   have o:=ok t ht
   have r:0<=x/\x<((n:Nat):Int):=by
    rcases hx with rfl | rfl
    ·exact o.1
    ·exact o.2.1
   refine⟨r.1,by omega,((j:Nat):Int),gB.mpr ⟨by omega,by rw [á]; exact (ur ok hk hf hj).mp c⟩,?_⟩
   unfold pX
   rw [á,hj,ő r.1]
   exact decide_eq_true hx
  ·rw [if_neg c] at hx
   cases hx
 ·rintro ⟨x0,xn,j,hj,hx⟩
  obtain⟨j0,hj⟩:=gB.mp hj
  unfold pX at hx
  cases e:us[j.toNat]? with
  | none=>rw [e] at hx; cases hx
  | some t =>
   rw [e] at hx
   have hx:=of_decide_eq_true hx
   rw [ő x0] at hx
   refine⟨t,Æ e,?_⟩
   rw [if_pos ((ur ok hk hf e).mpr hj)]
   simpa using hx
end
def iR (n:Nat) (us:List Tie) (i:Nat):List (List Int):=(((Ë us.length).take i).filter (aP (RP n us) us.length)).map fun k=>plI n us (zI (bw (RP n us) us.length k))
theorem Ob (n:Nat) (us:List Tie):iR n us us.length=grI n us:=by
 unfold iR grI cu
 rw [ě]
 rfl
section
variable {P:Program}{w:World}{K:â}{mg:Str->Option Value}{base:Heap}{f:Addr}{fd:FuncData}{CN:Addr}
theorem eO:FnScope ["_law_web_here","_law_least","_law_found","_law_k","_law_places","_law_j"] ["_law_web_here"] (aq (top 30)):=zC
theorem j5 (F:Fun K "_law_blocks_due" "_law_blocks_due" (top 30) f fd) (B:ź mg) (m_set:mg "set"=none) (C__law_labels_of:Ł P w K mg base 2 "_law_labels_of" ["_law_web_here"] (spD Qq)):FnOk P w K mg base CX0 3 f fd ["_law_web_here"] (spD fBl):=by
 refine F.ok eO œ (fun cdv A outer s H vs Q E hr h=>?_)
 have nd:=eO.nd
 refine⟨_,Ğ (Ð (ā none (i:=1) nd rfl zQ (ŷ C__law_labels_of hr (Â (Ñ 0) Ã)))
  (Ð (ā (some 0) (i:=2) nd rfl zQ (þ Ã))
  (Ð (ĸ ï rfl (ĵ B.range (Â (Ż B.len (Â (í (Ñ 0) Ø) Ã)) Ã)) (å (i:=3) nd rfl zQ) (Ð (Ŷ (Wr.dF hr.units (í (Ñ 1) (Ñ 3)) (Ñ 3)) (Ð (ā (some 1) (i:=4) nd rfl zQ (þ Ã))
  (Ð (ĸ ï rfl (ĵ B.range (Â (Ż B.len (Â (í (Ñ 0) Ø) Ã)) Ã)) (å (i:=5) nd rfl zQ) (Ð (Ŷ (Wr.dF hr.units (í (Ñ 1) (Ñ 5)) (Ñ 3)) (ù (Wr.jJ (Ŏ 4) (Â (í (í (Ñ 0) Ø) (Ñ 5)) Ã))) û) (æ [5] û)))
  (æ [5] (ù (Wr.bL (Ŏ 2) (Â (Wr.jw rfl m_set B.sorted (Â (Ñ 4) Ã)) Ã)))))) û) (æ [3,4,5] û)))
  (æ [3,4,5] (ù (ę (Wr.fK hr.units B.sorted (Â (Ñ 2) Ã)))))))),aX h ?_⟩
 rintro ds P ⟨n,us,rfl,n1,n16,lu,ok,q⟩
 refine⟨[.im (aB n us),.any,.any,.any,.any,.any],by show dz (aB n us)::_=_; rw [aY]; rfl,?_⟩
 obtain⟨n,rfl⟩:∃ m:Nat,n=((m:Nat):Int):=⟨n.toNat,by omega⟩
 rw [á] at q
 refine⟨n,us,rfl,n1,n16,lu,ok,?_⟩
 rw [á]
 refine bW (rg:=none) (i:=1) (k:=norm .new (iD (lbI n us))) (d:=iD (lbI n us)) (s:=.sn (iD (lbI n us))) (by rfl) ?_
 have al:∀ (i:Nat) (t:Tie),us[i]?=some t->atI ((lbI n us).map Ç) (0+((i:Nat):Int))=some (.int ((alL n us t).headD 0)):=fun i t ht=>by
  rw [Ŀ]
  refine cM ?_
  unfold lbI
  rw [Ö,Ö,ht]
  rfl
 have dl:∀ i,(iR n us i).length<=us.length:=fun i=>by
  unfold iR
  rw [Á]
  refine Ć (ý _ _) ?_
  rw [ć,à]
  omega
 have lm:(us.map pD).length=us.length:=Á ..
 refine⟨zK,.tuple (us.map pD),rfl,⟨by omega,by omega⟩,rfl,fun (i:Nat) ρ=>ρ=[.im (aB n us),.sn (iD (lbI n us)),.dw 0 (.list ((iR n us i).map iD)),.any,.any,.any],rfl,?_,?_⟩
 ·rintro i d ρ hd rfl
  obtain⟨hi,rfl⟩:=bC hd
  rw [lm,á] at hi
  have ht:us[i]?=some us[i]:=Ä hi
  have tk:(Ë us.length).take (i+1)=(Ë us.length).take i++[i]:=by rw [ó,Ä (by rw [à]; exact hi),List.getElem_range]; rfl
  refine⟨_,al i _ ht,?_⟩
  show if decide ((alL n us us[i]).headD 0=0+((i:Nat):Int))=true then _ else _
  rw [Ŀ]
  by_cases c:(alL n us us[i]).headD 0=((i:Nat):Int)
  ·have hf:=(GX ok ht).mp c
   rw [decide_eq_true c]
   have pr:∀ j,(pcs n us i j).length<=2 * us.length/\∀ x∈pcs n us i j,0<=x/\x<((n:Nat):Int):=fun j=>by
    unfold pcs
    constructor
    ·refine Ć (BL _ (fun t:Tie=>[t.1,t.2]) (us.take j) fun t _=>by split <;> simp) ?_
     rw [sH (fun t:Tie=>t.1) (fun t=>t.2),ć]
     omega
    ·intro x hx
     obtain⟨t,ht,hx⟩:=Ļ.mp hx
     have o:=ok t (List.mem_of_mem_take ht)
     split at hx
     ·simp only [Þ,ă,or_false] at hx
      rcases hx with rfl | rfl
      ·exact o.1
      ·exact o.2.1
     ·cases hx
   refine bJ (B:=True) ⟨zK,.tuple (us.map pD),rfl,⟨by omega,by omega⟩,rfl,fun (j:Nat) ρ=>ρ=[.im (aB n us),.sn (iD (lbI n us)),.dw 0 (.list ((iR n us i).map iD)),.im (.int ((i:Nat):Int)),.dw 1 (iD (pcs n us i j)),.any],?_,?_,?_⟩
   ·rfl
   ·rintro j d ρ hd rfl
    obtain⟨hj,rfl⟩:=bC hd
    rw [lm,á] at hj
    have hu:us[j]?=some us[j]:=Ä hj
    have pj:=(pr j).1
    have e1:pcs n us i (j+1)=pcs n us i j++(if (alL n us us[j]).headD 0=((i:Nat):Int) then [us[j].1,us[j].2] else []):=by
     unfold pcs
     rw [ó,hu,Ũ]
     simp
    have au:atI (us.map pD) (0+((j:Nat):Int))=some (pD us[j]):=by
     rw [Ŀ]
     exact cM (by rw [Ö,hu]; rfl)
    refine⟨_,al j _ hu,?_⟩
    show if decide ((alL n us us[j]).headD 0=((i:Nat):Int))=true then _ else _
    by_cases e:(alL n us us[j]).headD 0=((i:Nat):Int)
    ·rw [if_pos e] at e1
     rw [decide_eq_true e]
     refine bJ (B:=True) ⟨.tuple (us.map pD),rfl,_,au,rfl,by rw [Á]; show _+2<=1000; omega,?_⟩
     show [_,_,_,_,Sl.dw 1 (.list ((pcs n us i j).map Ç++[.int us[j].1,.int us[j].2])),_]=[_,_,_,_,Sl.dw 1 (iD (pcs n us i (j+1))),_]
     rw [e1]
     unfold iD
     rw [ä]
     rfl
    ·rw [if_neg e,ğ] at e1
     rw [decide_eq_false e]
     refine aW (A:=True) ?_
     show [_,_,_,_,Sl.dw 1 (iD (pcs n us i j)),_]=[_,_,_,_,Sl.dw 1 (iD (pcs n us i (j+1))),_]
     rw [e1]
   ·rintro ρ rfl
    rw [Ű,lm,á]
    have p1:=(pr us.length).1
    have fo:=Gn (n:=n) (pcs n us i us.length) (pr us.length).2
    have d1:=dl i
    refine⟨_,pcs n us i us.length,rfl,by omega,by omega,fun out hp hm=>⟨rfl,by rw [Á]; omega,?_⟩⟩
    show [_,_,Sl.dw 0 (.list ((iR n us i).map iD++[iD out])),_,_,_]=[_,_,Sl.dw 0 (.list ((iR n us (i+1)).map iD)),_,_,_]
    rw [MK ok hi hf hp hm]
    have e2:iR n us (i+1)=iR n us i++[plI n us (zI (bw (RP n us) us.length i))]:=by
     unfold iR
     rw [tk,ř,ä,List.filter_cons_of_pos hf]
     rfl
    rw [e2,ä]
    rfl
  ·rw [decide_eq_false c]
   refine aW (A:=True) ?_
   have e2:iR n us (i+1)=iR n us i:=by
    unfold iR
    rw [tk,ř,List.filter_cons_of_neg (fun z=>c ((GX ok ht).mpr z)),List.filter_nil,ğ]
   show [_,_,Sl.dw 0 (.list ((iR n us i).map iD)),_,_,_]=[_,_,Sl.dw 0 (.list ((iR n us (i+1)).map iD)),_,_,_]
   rw [e2]
 ·rintro ρ rfl
  rw [Ű,lm,á]
  have d1:=dl us.length
  refine⟨iR n us us.length,rfl,by omega,fun l hl=>?_,fun out hp hs=>⟨rfl,q out (by rw [← Ob]; exact hp) hs⟩⟩
  obtain⟨k,_,rfl⟩:=ą.mp hl
  exact oX (by omega)
end
theorem uP (p q:Nat->Bool):∀ l:List Nat,l.countP p=l.countP (fun a=>p a&&q a)+l.countP (fun a=>p a&&!q a)
 | []=>rfl
 | a::l=>by
  have ih:=uP p q l
  simp only [List.countP_cons]
  cases hp:p a <;> cases hq:q a <;> simp <;> omega
theorem pL {us:List Tie}{v a b:Int} (h:¬ Rt (adj us [] []) a v):Rt (adj (noV us v) [] []) a b↔Rt (adj us [] []) a b:=by
 constructor
 ·exact fun r=>r.mono fun t ht=>(dI (x:=t.1) (y:=t.2).mp ht).1
 ·intro r
  induction r with
  | refl=>exact .refl _
  | step r t ih=>exact .step ih (dI.mpr ⟨t,fun e=>h (e ▸ r),fun e=>h (e ▸ Rt.step r t)⟩)
theorem Oh {n:Nat}{us:List Tie}{v:Nat} (hv:v<n):decide ((cu (RB (adj us [] [])) n n).length<(pwI n us v).length)=decide (1<(Ë n).countP (fun a=>(aP (RV us v) n a&&decide (a≠v))&&RB (adj us [] []) v a)):=by
 have sy:∀ a b,(a,b)∈adj us [] []->(b,a)∈adj us [] []:=cN
 have sv:∀ a b,(a,b)∈adj (noV us ((v:Nat):Int)) [] []->(b,a)∈adj (noV us ((v:Nat):Int)) [] []:=cN
 have e1:(cu (RB (adj us [] [])) n n).length=(Ë n).countP (aP (RB (adj us [] [])) n):=by
  unfold cu
  rw [Á,Į (by rw [à]; exact Ò _),ų]
 have e2:(pwI n us v).length=(Ë n).countP (fun a=>aP (RV us v) n a&&decide (a≠v)):=by
  unfold pwI
  rw [Á,List.filter_filter,ų]
  congr 2
  funext a
  exact Bool.and_comm _ _
 have s1:=uP (aP (RB (adj us [] [])) n) (RB (adj us [] []) v) (Ë n)
 have s2:=uP (fun a=>aP (RV us v) n a&&decide (a≠v)) (RB (adj us [] []) v) (Ë n)
 have s3:(Ë n).countP (fun a=>aP (RB (adj us [] [])) n a&&!RB (adj us [] []) v a)=(Ë n).countP (fun a=>(aP (RV us v) n a&&decide (a≠v))&&!RB (adj us [] []) v a):=by
  refine List.countP_congr fun a ha=>?_
  have ha:=ã.mp ha
  cases hc:RB (adj us [] []) v a with
  | true=>simp
  | false =>
   have nv:¬ Rt (adj us [] []) ((a:Nat):Int) ((v:Nat):Int):=fun r=>by
    rw [aD.mpr (r.sym sy)] at hc
    cases hc
   have av:a≠v:=fun e=>nv (e ▸ .refl _)
   have hs:∀ b:Nat,RV us v a b=RB (adj us [] []) a b/\RV us v b a=RB (adj us [] []) b a:=fun b=>by
    constructor
    ·rw [ē]
     show RB _ a b=true↔_
     rw [aD,aD,pL nv]
    ·rw [ē]
     show RB _ b a=true↔_
     rw [aD,aD]
     constructor
     ·intro r
      exact ((pL nv).mp (r.sym sv)).sym sy
     ·intro r
      exact ((pL nv).mpr (r.sym sy)).sym sv
   have hf:aP (RB (adj us [] [])) n a=aP (RV us v) n a:=by
    rw [ē,bV ha (bB _ a),bV (R:=RV us v) ha (show RV us v a a=true from bB _ a)]
    constructor
    ·intro z b hb
     rw [(hs b).1,(hs b).2]
     exact z b hb
    ·intro z b hb
     have:=z b hb
     rwa [(hs b).1,(hs b).2] at this
   rw [hf,decide_eq_true av,Bool.and_true]
 have s4:(Ë n).countP (fun a=>aP (RB (adj us [] [])) n a&&RB (adj us [] []) v a)=1:=by
  obtain⟨m,h1,h2,h3⟩:=yV (Q:=fun b=>Rt (adj us [] []) ((b:Nat):Int) ((v:Nat):Int)) v (.refl _)
  rw [ų]
  have pm:((Ë n).filter fun a=>aP (RB (adj us [] [])) n a&&RB (adj us [] []) v a).Perm [m]:=by
   refine (List.perm_ext_iff_of_nodup (List.nodup_range.filter _) (by simp)).mpr fun a=>?_
   rw [Û,ã,Ü,Ì,aD]
   constructor
   ·rintro ⟨ha,hf,r⟩
    have hf:=(bV ha (bB _ a)).mp hf
    rcases Nat.lt_trichotomy a m with z | z | z
    ·exact absurd (r.sym sy) (h3 a z)
    ·exact z
    ·have:=hf m z
     rw [aD.mpr ((h2.trans r).sym sy),aD.mpr (h2.trans r)] at this
     cases this
   ·rintro rfl
    refine⟨by omega,(bV (by omega) (bB _ a)).mpr fun b hb=>?_,h2.sym sy⟩
    rw [Bool.and_eq_false_iff,← İ,← İ]
    exact .inr fun r=>h3 b hb ((aD.mp r).trans h2)
  rw [pm.length_eq]
  rfl
 refine decide_eq_decide.mpr ?_
 rw [e1,e2]
 omega
theorem Lh {l:List Nat} (nd:l.Nodup):1<l.length↔∃ a∈l,∃ b∈l,a<b:=by
 constructor
 ·intro h
  match l,nd,h with
  | a::b::l,nd,_ =>
   have ne:a≠b:=fun e=>(Š.mp nd).1 (e ▸ Ï)
   rcases Nat.lt_or_gt_of_ne ne with z | z
   ·exact⟨a,Ï,b,Í _ Ï,z⟩
   ·exact⟨b,Í _ Ï,a,Ï,z⟩
 ·rintro ⟨a,ha,b,hb,ne⟩
  match l,ha,hb with
  | [c],ha,hb =>
   rw [Ì.mp ha,Ì.mp hb] at ne
   omega
  | _::_::_,_,_=>simp
def ohI (n:Nat) (us:List Tie) (v:Nat):List Int:=(rsI (adj us [] []) n ((v:Nat):Int)).filter fun p=>!decide (p=((v:Nat):Int))
def shB (n:Nat) (us:List Tie) (v:Nat):Bool:=!(ohI n us v).isEmpty&&!decide (rsI (adj us [] [((v:Nat):Int)]) n ((ohI n us v).headD 0)=ohI n us v)
theorem Gy {n:Nat}{us:List Tie}{v:Nat}{x:Int}:x∈ohI n us v↔(0<=x/\x<n)/\Rt (adj us [] []) ((v:Nat):Int) x/\x≠((v:Nat):Int):=by
 unfold ohI
 rw [Û,dh,Bool.not_eq_true',decide_eq_false_iff_not,and_assoc]
theorem Lb {us:List Tie}{v a b:Int} (h:Cv us v a b):Rt (adj us [] []) a b:=Rt.mono (fun t ht=>(dI (x:=t.1) (y:=t.2).mp ht).1) h
theorem O4 {n:Nat}{us:List Tie}{v:Nat}:decide (1<(Ë n).countP (fun a=>(aP (RV us v) n a&&decide (a≠v))&&RB (adj us [] []) v a))=shB n us v:=by
 have mG:∀ a,a∈(Ë n).filter (fun a=>(aP (RV us v) n a&&decide (a≠v))&&RB (adj us [] []) v a)↔a<n/\(aP (RV us v) n a=true/\a≠v)/\Rt (adj us [] []) ((v:Nat):Int) ((a:Nat):Int):=fun a=>by
  rw [Û,ã,Ü,Ü,decide_eq_true_iff,aD]
 rw [ē,decide_eq_true_iff,ų,Lh (List.nodup_range.filter _)]
 unfold shB
 have mO:=fun x=>Gy (n:=n) (us:=us) (v:=v) (x:=x)
 have rO:(ohI n us v).Pairwise (·<·):=jd.filter _
 constructor
 ·rintro ⟨a,ha,b,hb,ne⟩
  obtain⟨an,⟨af,av⟩,ar⟩:=(mG a).mp ha
  obtain⟨bn,⟨bf,bv⟩,br⟩:=(mG b).mp hb
  have oa:=(mO a).mpr ⟨⟨by omega,by omega⟩,ar,by omega⟩
  have ob:=(mO b).mpr ⟨⟨by omega,by omega⟩,br,by omega⟩
  cases hO:ohI n us v with
  | nil=>rw [hO] at oa; cases oa
  | cons h r =>
   have oh:h∈ohI n us v:=by rw [hO]; exact Ï
   show (true&&!decide (rsI (adj us [] [((v:Nat):Int)]) n h=h::r))=true
   rw [← hO]
   have:¬ rsI (adj us [] [((v:Nat):Int)]) n h=ohI n us v:=fun e=>by
    rw [← e] at oa ob
    have ca:Cv us v h a:=(lU ((mO h).mp oh).2.2).mpr (dh.mp oa).2
    have cb:Cv us v h b:=(lU ((mO h).mp oh).2.2).mpr (dh.mp ob).2
    have:=(bV (R:=RV us v) bn (show RV us v b b=true from bB _ b)).mp bf a ne
    rw [show RV us v b a=true from aD.mpr (cb.sym.trans ca),show RV us v a b=true from aD.mpr (ca.sym.trans cb)] at this
    cases this
   rw [decide_eq_false this]
   rfl
 ·intro hs
  cases hO:ohI n us v with
  | nil=>rw [hO] at hs; cases hs
  | cons h r =>
   have oh:h∈ohI n us v:=by rw [hO]; exact Ï
   have ne:¬ rsI (adj us [] [((v:Nat):Int)]) n h=ohI n us v:=fun e=>by
    rw [hO] at hs e
    rw [show (!(h::r).isEmpty&&!decide (rsI (adj us [] [((v:Nat):Int)]) n ((h::r).headD 0)=h::r))=!decide (rsI (adj us [] [((v:Nat):Int)]) n h=h::r) from rfl,decide_eq_true e] at hs
    cases hs
   have rep:∀ y,y∈ohI n us v->∃ a,a∈(Ë n).filter (fun a=>(aP (RV us v) n a&&decide (a≠v))&&RB (adj us [] []) v a)/\Cv us v ((a:Nat):Int) y:=fun y hy=>by
    obtain⟨⟨y0,y1⟩,yr,yv⟩:=(mO y).mp hy
    have ey:((y.toNat:Nat):Int)=y:=by omega
    obtain⟨m,h1,h2,h3⟩:=yV (Q:=fun b=>Cv us v ((b:Nat):Int) y) y.toNat (by show Cv us v ((y.toNat:Nat):Int) y; rw [ey]; exact .refl _)
    refine⟨m,(mG m).mpr ⟨by omega,⟨(bV (R:=RV us v) (by omega) (show RV us v m m=true from bB _ m)).mpr fun b hb=>?_,fun e=>?_⟩,yr.trans (Lb h2.sym)⟩,h2⟩
    ·rw [Bool.and_eq_false_iff,← İ,← İ]
     exact .inr fun r=>h3 b hb ((aD.mp r).trans h2)
    ·subst e
     exact yv (Gu h2)
   have ex:∃ x,x∈ohI n us v/\¬ Cv us v h x:=Ř fun no=>ne (jU jd rO fun x=>by
    rw [dh,mO]
    obtain⟨_,hr,hv⟩:=(mO h).mp oh
    rw [← lU hv]
    constructor
    ·rintro ⟨z1,z2⟩
     exact⟨z1,hr.trans (Lb z2),fun e=>hv (dW (e ▸ z2))⟩
    ·rintro ⟨z1,z2,z3⟩
     refine⟨z1,Ř fun nc=>no ⟨x,(mO x).mpr ⟨z1,z2,z3⟩,nc⟩⟩)
   obtain⟨x,ox,nx⟩:=ex
   obtain⟨a,ga,ca⟩:=rep h oh
   obtain⟨b,gb,cb⟩:=rep x ox
   have ab:a≠b:=fun e=>nx (by subst e; exact ca.sym.trans cb)
   rcases Nat.lt_or_gt_of_ne ab with z | z
   ·exact⟨a,ga,b,gb,z⟩
   ·exact⟨b,gb,a,ga,z⟩
def ju (n:Nat) (us:List Tie):List Int:=zI ((Ë n).filter fun v=>decide ((cu (RB (adj us [] [])) n n).length<(pwI n us v).length))
theorem J6 (n:Nat) (us:List Tie):zI ((Ë n).filter (shB n us))=ju n us:=by
 unfold ju
 congr 1
 refine List.filter_congr fun v hv=>?_
 rw [Oh (ã.mp hv),O4]
def d8 (C b:List Int):List Int:=b.filter fun x=>!decide (x∈C)
def inL (C:List Int) (bl:List (List Int)):List (List Int):=(bl.filter fun b=>decide ((d8 C b).length+1=b.length)).map (d8 C)
theorem wM (C:List Int) (bl:List (List Int)) (b:List Int):inL C (bl++[b])=inL C bl++if decide ((d8 C b).length+1=b.length)=true then [d8 C b] else []:=by
 unfold inL
 rw [ř,ä]
 congr 1
 by_cases h:decide ((d8 C b).length+1=b.length)=true
 ·rw [if_pos h,List.filter_cons,if_pos h]; rfl
 ·rw [if_neg h,List.filter_cons,if_neg h]; rfl
theorem wN (C:List Int) {bl gl:List (List Int)} (h:bl.Perm gl):(inL C bl).Perm (inL C gl):=(h.filter _).map _
theorem pW (C:List Int) {bl:List (List Int)} (h:∀ l∈bl,cP l):∀ l∈inL C bl,cP l:=fun l hl=>by
 obtain⟨b,hb,rfl⟩:=ą.mp hl
 have:=h b (Û.mp hb).1
 exact⟨Ć (ý _ _) this.1,fun x hx=>this.2 x (Û.mp hx).1⟩
theorem kY (C:List Int) (bl:List (List Int)):(inL C bl).length<=bl.length:=by
 unfold inL
 rw [Á]
 exact ý _ _
theorem uE {n:Nat}{us:List Tie} (h:n<=16):∀ l∈grI n us,cP l:=fun l hl=>by
 obtain⟨ks,_,rfl⟩:=ą.mp hl
 exact oX h
theorem yX {n:Nat}{us:List Tie}:(grI n us).length<=us.length:=by
 unfold grI
 rw [Á]
 exact jk _ _ _
theorem Ht (L:List (List Int)):î (.list (L.map iD)) (.list (L.map iD))=true:=by
 induction L with
 | nil=>rfl
 | cons l L ih =>
  show (î (iD l) (iD l)&&î (.list (L.map iD)) (.list (L.map iD)))=true
  unfold iD at ih ⊢
  rw [ih,lA,decide_eq_true rfl]
  rfl
def K8 (ds:List D) (P:D->Prop):Prop:=∃ n us,ds=[aB n us]/\1<=n/\n<=60/\us.length<=100/\OkN n us/\P (iD (ju n.toNat us))
def JX (ds:List D) (P:D->Prop):Prop:=∃ (n:Int) (us:List Tie),ds=[aB n us]/\1<=n/\n<=16/\us.length<=45/\OkN n us/\∀ out:List (List Int),out.Perm (inL (ju n.toNat us) (grI n.toNat us))->out.Pairwise (fun a b=>aG 40 a<=aG 40 b)->P (.list (out.map iD))
def Qm (ds:List D) (P:D->Prop):Prop:=∃ (n:Int) (us:List Tie) (v:Nat),ds=[aB n us,.int (0+((v:Nat):Int))]/\1<=n/\n<=16/\us.length<=45/\OkN n us/\v<n.toNat/\P (.bool (shB n.toNat us v))
section
variable {P:Program}{w:World}{K:â}{mg:Str->Option Value}{base:Heap}{f:Addr}{fd:FuncData}{CN:Addr}
theorem jq:FnScope ["web","before"] ["web"] (aq (top 16)):=zC
theorem nM:(["v","web","before"]:List Str).Nodup:=by decide +kernel
theorem qL (F:Fun K "cut_places" "cut_places" (top 16) f fd) (B:ź mg) (C_parts:Ł P w K mg base 3 "parts" ["web"] (spD oE)) (C_parts_without:Ł P w K mg base 5 "parts_without" ["web","v"] (spD fPW)):FnOk P w K mg base CX0 6 f fd ["web"] (spD K8):=by
 refine F.ok jq œ (fun cdv A outer s H vs Q E hr h=>?_)
 have nd:=jq.nd
 refine⟨_,Ğ (Ð (ā none (i:=1) nd rfl zQ (Ż B.len (Â (ŷ C_parts hr (Â (Ñ 0) Ã)) Ã)))
  (ù (ę (ŵ ["v"] rfl (ĵ B.range (Â (í (Ñ 0) Ø) Ã)) (fun c=>(å (i:=0) nM rfl zQ)) (fun c=>(Ő (Wr.tu (Ż B.len (Â (ŷ C_parts_without hr (Â (Ñ 1) (Â (Ñ 0) Ã))) Ã)) (Ñ 2)))) (fun c=>(Ñ 0)))))),aX h ?_⟩
 rintro ds P ⟨n,us,rfl,n1,n60,lu,ok,q⟩
 refine⟨[.im (aB n us),.any],?_,?_⟩
 ·show [dz (aB n us),.any]=_
  rw [aY]
 have cl:=jk (RB (adj us [] [])) n.toNat n.toNat
 refine⟨false,n,us,rfl,by omega,n60,lu,ok,?_⟩
 refine⟨.int n,rfl,⟨by omega,by omega⟩,eX (Ë n.toNat) (fun i:Nat=>.int (0+((i:Nat):Int))) (fun v:Nat=>decide ((cu (RB (adj us [] [])) n.toNat n.toNat).length<(pwI n.toNat us v).length)) (fun i:Nat=>.int (0+((i:Nat):Int))) .imm rfl (by rw [à]; omega) (fun i hi A B hA hB=>?_) ?_⟩
 ·have hi:=ã.mp hi
  have pl:=Ft n.toNat us i
  refine⟨n,us,i,by rw [Ŀ]; rfl,n1,n60,lu,ok,hi,?_⟩
  have e1:((cu (RB (adj us [] [])) n.toNat n.toNat).map iD).length=(cu (RB (adj us [] [])) n.toNat n.toNat).length:=Á ..
  have e2:((pwI n.toNat us i).map iD).length=(pwI n.toNat us i).length:=Á ..
  have e3:decide ((((cu (RB (adj us [] [])) n.toNat n.toNat).map iD).length:Int)<(((pwI n.toNat us i).map iD).length:Int))=decide ((cu (RB (adj us [] [])) n.toNat n.toNat).length<(pwI n.toNat us i).length):=by
   rw [e1,e2]
   exact decide_eq_decide.mpr (by omega)
  show if decide ((((cu (RB (adj us [] [])) n.toNat n.toNat).map iD).length:Int)<(((pwI n.toNat us i).map iD).length:Int))=true then _ else _
  rw [e3]
  refine iM (fun c=>⟨rfl,hA c⟩) (fun c=>hB (İ _ ▸ c))
 ·refine⟨rfl,?_⟩
  have e4:(((Ë n.toNat).filter fun v=>decide ((cu (RB (adj us [] [])) n.toNat n.toNat).length<(pwI n.toNat us v).length)).map fun i:Nat=>Ç (0+((i:Nat):Int)))=(ju n.toNat us).map Ç:=by
   unfold ju zI
   rw [ě]
   rfl
  rw [e4]
  exact q
theorem qZ:FnScope ["web","cuts","told","block","inner"] ["web"] (aq (top 22)):=zC
theorem wg:(["v","web","cuts","told","block","inner"]:List Str).Nodup:=by decide +kernel
theorem Dd (F:Fun K "inners" "inners" (top 22) f fd) (B:ź mg) (C_cut_places:Ł P w K mg base 6 "cut_places" ["web"] (spD K8)) (C_blocks:Ł P w K mg base 7 "blocks" ["web"] (spD fBl)):FnOk P w K mg base CX0 8 f fd ["web"] (spD JX):=by
 refine F.ok qZ œ (fun cdv A outer s H vs Q E hr h=>?_)
 have nd:=qZ.nd
 refine⟨_,Ğ (Ð (ā none (i:=1) nd rfl zQ (ŷ C_cut_places hr (Â (Ñ 0) Ã)))
  (Ð (ā (some 0) (i:=2) nd rfl zQ (þ Ã))
  (Wr.wV 2 true (Ð (ĸ ï rfl (Ĵ (ŷ C_blocks hr (Â (Ñ 0) Ã))) (å (i:=3) nd rfl zQ) (Ð (Wr.iT none ["v"] (i:=4) rfl nd rfl zQ (Ĵ (Ñ 3)) (fun c=>(å (i:=0) wg rfl zQ)) (fun c=>(Ő (Wr.bQ hr.units (Ñ 0) (Ñ 2)))) (fun c=>(Ñ 0)))
  (Ð (Ŷ (Wr.dF hr.units (Ż B.len (Â (Ñ 4) Ã)) (Wr.gk (Ż B.len (Â (Ñ 3) Ã)) Ø)) (ù (Wr.lC (Ŏ 2) (Â (Ñ 4) Ã))) û) (æ [3,4] û))))
  (æ [3,4] (ù (ę (Wr.fK hr.units B.sorted (Â (Ñ 2) Ã))))))))),aX h ?_⟩
 rintro ds P ⟨n,us,rfl,n1,n16,lu,ok,q⟩
 refine⟨[.im (aB n us),.any,.any,.any,.any],by show dz (aB n us)::_=_; rw [aY]; rfl,?_⟩
 refine⟨n,us,rfl,n1,by omega,by omega,ok,?_⟩
 generalize hC:ju n.toNat us=C at q ⊢
 refine bW (rg:=none) (i:=1) (k:=norm .new (iD C)) (d:=iD C) (s:=.sn (iD C)) (by rfl) ?_
 refine⟨zK,rfl,n,us,rfl,n1,n16,lu,ok,fun bl hp hs=>?_⟩
 have bl45:bl.length<=45:=by rw [hp.length_eq]; have:=yX (n:=n.toNat) (us:=us); omega
 have nice:∀ l∈bl,cP l:=fun l hl=>uE (by omega) l (hp.mem_iff.mp hl)
 have el:∀ b:List Int,((b.map Ç).length:Int)=((b.length:Nat):Int):=fun b=>by rw [Á]
 refine⟨rfl,fun (i:Nat) ρ=>ρ=[.im (aB n us),.sn (iD C),.sp 0 true ((inL C (bl.take i)).map iD),.any,.any],rfl,?_,?_⟩
 ·rintro i d ρ hd rfl
  obtain⟨b,hb,rfl⟩:∃ b,bl[i]?=some b/\iD b=d:=by
   rw [Ö] at hd
   cases h:bl[i]? with
   | none=>rw [h] at hd; cases hd
   | some b=>rw [h] at hd; cases hd; exact⟨b,rfl,rfl⟩
  have nb:=nice b (Æ hb)
  have tk:inL C (bl.take (i+1))=inL C (bl.take i)++if decide ((d8 C b).length+1=b.length)=true then [d8 C b] else []:=by
   rw [ó,hb]
   exact wM _ _ _
  have il:=kY C (bl.take i)
  rw [ć] at il
  refine eX b Ç (fun x=>!decide (x∈C)) Ç .imm rfl (by have:=nb.1; omega) (fun x hx A B hA hB=>⟨rfl,dH C,?_⟩) ?_
  ·show if (!((C.map Ç).any fun e=>î e (.int x)))=true then _ else _
   rw [Dl.any_ints]
   cases h1:decide (x∈C) with
   | true=>exact aW (A:=True) (hB (by rw [h1]; rfl))
   | false=>exact bJ (B:=True) ⟨rfl,hA (by rw [h1]; rfl)⟩
  refine bW (rg:=none) (i:=4) (k:=.new) (d:=iD (d8 C b)) (s:=.sn (iD (d8 C b))) (by rfl) ?_
  have ed:decide ((((d8 C b).map Ç).length:Int)=((b.map Ç).length:Int) - 1)=decide ((d8 C b).length+1=b.length):=by
   rw [el,el]
   exact decide_eq_decide.mpr (by omega)
  show if decide ((((d8 C b).map Ç).length:Int)=((b.map Ç).length:Int) - 1)=true then _ else _
  rw [ed]
  cases c:decide ((d8 C b).length+1=b.length) with
  | true =>
   refine bJ (B:=True) ⟨rfl,by rw [Á]; omega,?_⟩
   show [_,_,Sl.sp 0 true ((inL C (bl.take i)).map iD++[iD (d8 C b)]),_,_]=[_,_,Sl.sp 0 true ((inL C (bl.take (i+1))).map iD),_,_]
   rw [tk,c,if_pos rfl,ä]
   rfl
  | false =>
   refine aW (A:=True) ?_
   show [_,_,Sl.sp 0 true ((inL C (bl.take i)).map iD),_,_]=[_,_,Sl.sp 0 true ((inL C (bl.take (i+1))).map iD),_,_]
   rw [tk,c,if_neg (by decide),ğ]
 ·rintro ρ rfl
  rw [Á,Ě]
  have il:=kY C bl
  exact⟨inL C bl,rfl,by omega,pW C nice,fun out hp2 hs2=>⟨rfl,q out (hp2.trans (wN C hp)) hs2⟩⟩
theorem fD:FnScope ["_law_web_here","_law_v","_law_others"] ["_law_web_here","_law_v"] (aq (top 31)):=zC
theorem jB:(["_law_place","_law_web_here","_law_v","_law_others"]:List Str).Nodup:=by decide +kernel
theorem mj (F:Fun K "_law_parts_two" "_law_parts_two" (top 31) f fd) (B:ź mg) (C__law_met:Ł P w K mg base 1 "_law_met" ["_law_web_here","_law_start","_law_fallen","_law_barred"] (spD N5)):FnOk P w K mg base CX0 2 f fd ["_law_web_here","_law_v"] (spD Qm):=by
 refine F.ok fD œ (fun cdv A outer s H vs Q E hr h=>?_)
 have nd:=fD.nd
 refine⟨_,Ğ (Ð (Wr.iT none ["_law_place"] (i:=2) rfl nd rfl zQ (Ĵ (ŷ C__law_met hr (Â (Ñ 0) (Â (Ñ 1) (Â (þ Ã) (Â (þ Ã) Ã)))))) (fun c=>(å (i:=0) jB rfl zQ)) (fun c=>(Ő (Wr.cV hr.units (Ñ 0) (Ñ 2)))) (fun c=>(Ñ 0)))
  (ù (ę (Wr.pG (Wr.tH hr.units (Ñ 2) (þ Ã)) (Wr.o9 (Wr.tH hr.units (ŷ C__law_met hr (Â (Ñ 0) (Â (í (Ñ 2) Ø) (Â (þ Ã) (Â (þ (Â (Ñ 1) Ã)) Ã))))) (Ñ 2))))))),aX h ?_⟩
 rintro ds P ⟨n,us,v,rfl,n1,n16,lu,ok,hv,q⟩
 refine⟨[.im (aB n us),.im (.int (0+((v:Nat):Int))),.any],by show dz (aB n us)::_=_; rw [aY]; rfl,?_⟩
 refine⟨zK,zK,n,us,0+((v:Nat):Int),[],[],rfl,n1,n16,by omega,ok,by omega,by omega,?_⟩
 rw [Ŀ]
 refine eX (rsI (adj us [] []) n.toNat ((v:Nat):Int)) Ç (fun p=>!decide (p=((v:Nat):Int))) Ç .imm rfl (by have:=yj (adj us [] []) n.toNat ((v:Nat):Int); omega) (fun x hx A B hA hB=>?_) ?_
 ·show if (!decide (x=((v:Nat):Int)))=true then _ else _
  cases h1:decide (x=((v:Nat):Int)) with
  | true=>exact aW (A:=True) (hB (by rw [h1]; rfl))
  | false=>exact bJ (B:=True) ⟨rfl,hA (by rw [h1]; rfl)⟩
 refine bW (rg:=none) (i:=2) (k:=.new) (d:=iD (ohI n.toNat us v)) (s:=.sn (iD (ohI n.toNat us v))) (by rfl) ?_
 refine⟨zK,iB _,rfl,?_⟩
 have mO:=fun x=>Gy (n:=n.toNat) (us:=us) (v:=v) (x:=x)
 unfold shB at q
 generalize ohI n.toNat us v=O at q mO ⊢
 cases O with
 | nil=>exact aW (A:=True) ⟨rfl,q⟩
 | cons h r =>
  have oh:=((mO h).mp Ï).1
  refine bJ (B:=True) ⟨.int h,cM (j:=0) rfl,zK,zK,n,us,h,[],[((v:Nat):Int)],rfl,n1,n16,by omega,ok,by omega,by omega,iB _,iB _,rfl,?_⟩
  show P (.bool (!PyData.eqv (.list ((rsI (adj us [] [((v:Nat):Int)]) n.toNat h).map Ç)) (.list ((h::r).map Ç))))
  rw [lA]
  exact q
theorem oR:FnScope ["_law_web_here","_law_shut","_law_found","_law_block","_law_own"] ["_law_web_here"] (aq (top 32)):=zC
theorem uh:(["_law_v","_law_web_here","_law_shut","_law_found","_law_block","_law_own"]:List Str).Nodup:=by decide +kernel
theorem ug:(["_law_place","_law_web_here","_law_shut","_law_found","_law_block","_law_own"]:List Str).Nodup:=by decide +kernel
theorem yM (F:Fun K "_law_due" "_law_due" (top 32) f fd) (B:ź mg) (C__law_parts_two:Ł P w K mg base 2 "_law_parts_two" ["_law_web_here","_law_v"] (spD Qm)) (C__law_blocks_due:Ł P w K mg base 3 "_law_blocks_due" ["_law_web_here"] (spD fBl)):FnOk P w K mg base CX0 4 f fd ["_law_web_here"] (spD JX):=by
 refine F.ok oR œ (fun cdv A outer s H vs Q E hr h=>?_)
 have nd:=oR.nd
 refine⟨_,Ğ (Ð (ā none (i:=1) nd rfl zQ (ŵ ["_law_v"] rfl (ĵ B.range (Â (í (Ñ 0) Ø) Ã)) (fun c=>(å (i:=0) uh rfl zQ)) (fun c=>(Ő (Wr.cU (ŷ C__law_parts_two hr (Â (Ñ 1) (Â (Ñ 0) Ã)))))) (fun c=>(Ñ 0))))
  (Ð (ā (some 0) (i:=2) nd rfl zQ (þ Ã))
  (Wr.wV 2 true (Ð (ĸ ï rfl (Ĵ (ŷ C__law_blocks_due hr (Â (Ñ 0) Ã))) (å (i:=3) nd rfl zQ) (Ð (Wr.iT none ["_law_place"] (i:=4) rfl nd rfl zQ (Ĵ (Ñ 3)) (fun c=>(å (i:=0) ug rfl zQ)) (fun c=>(Ő (Wr.bQ hr.units (Ñ 0) (Ñ 2)))) (fun c=>(Ñ 0)))
  (Ð (Ŷ (Wr.dF hr.units (Wr.gk (Ż B.len (Â (Ñ 3) Ã)) (Ż B.len (Â (Ñ 4) Ã))) Ø) (ù (Wr.lC (Ŏ 2) (Â (Ñ 4) Ã))) û) (æ [3,4] û))))
  (æ [3,4] (ù (ę (Wr.fK hr.units B.sorted (Â (Ñ 2) Ã))))))))),aX h ?_⟩
 rintro ds P ⟨n,us,rfl,n1,n16,lu,ok,q⟩
 refine⟨[.im (aB n us),.any,.any,.any,.any],by show dz (aB n us)::_=_; rw [aY]; rfl,?_⟩
 refine⟨.int n,rfl,⟨by omega,by omega⟩,eX (Ë n.toNat) (fun i:Nat=>.int (0+((i:Nat):Int))) (shB n.toNat us) (fun i:Nat=>.int (0+((i:Nat):Int))) .imm rfl (by rw [à]; omega) (fun i hi A B hA hB=>?_) ?_⟩
 ·have hi:=ã.mp hi
  refine⟨n,us,i,rfl,n1,n16,lu,ok,hi,?_⟩
  cases c:shB n.toNat us i with
  | true=>exact bJ (B:=True) ⟨rfl,hA c⟩
  | false=>exact aW (A:=True) (hB c)
 have e4:((Ë n.toNat).filter (shB n.toNat us)).map (fun i:Nat=>Ç (0+((i:Nat):Int)))=(ju n.toNat us).map Ç:=by
  rw [← J6]
  unfold zI
  rw [ě]
  rfl
 rw [e4]
 generalize hC:ju n.toNat us=C at q ⊢
 refine bW (rg:=none) (i:=1) (k:=.new) (d:=iD C) (s:=.sn (iD C)) (by rfl) ?_
 refine⟨zK,rfl,n,us,rfl,n1,n16,lu,ok,fun bl hp hs=>?_⟩
 have bl45:bl.length<=45:=by rw [hp.length_eq]; have:=yX (n:=n.toNat) (us:=us); omega
 have nice:∀ l∈bl,cP l:=fun l hl=>uE (by omega) l (hp.mem_iff.mp hl)
 have el:∀ b:List Int,((b.map Ç).length:Int)=((b.length:Nat):Int):=fun b=>by rw [Á]
 refine⟨rfl,fun (i:Nat) ρ=>ρ=[.im (aB n us),.sn (iD C),.sp 0 true ((inL C (bl.take i)).map iD),.any,.any],rfl,?_,?_⟩
 ·rintro i d ρ hd rfl
  obtain⟨b,hb,rfl⟩:∃ b,bl[i]?=some b/\iD b=d:=by
   rw [Ö] at hd
   cases h:bl[i]? with
   | none=>rw [h] at hd; cases hd
   | some b=>rw [h] at hd; cases hd; exact⟨b,rfl,rfl⟩
  have nb:=nice b (Æ hb)
  have tk:inL C (bl.take (i+1))=inL C (bl.take i)++if decide ((d8 C b).length+1=b.length)=true then [d8 C b] else []:=by
   rw [ó,hb]
   exact wM _ _ _
  have il:=kY C (bl.take i)
  rw [ć] at il
  refine eX b Ç (fun x=>!decide (x∈C)) Ç .imm rfl (by have:=nb.1; omega) (fun x hx A B hA hB=>⟨rfl,dH C,?_⟩) ?_
  ·show if (!((C.map Ç).any fun e=>î e (.int x)))=true then _ else _
   rw [Dl.any_ints]
   cases h1:decide (x∈C) with
   | true=>exact aW (A:=True) (hB (by rw [h1]; rfl))
   | false=>exact bJ (B:=True) ⟨rfl,hA (by rw [h1]; rfl)⟩
  refine bW (rg:=none) (i:=4) (k:=.new) (d:=iD (d8 C b)) (s:=.sn (iD (d8 C b))) (by rfl) ?_
  have ed:decide (((b.map Ç).length:Int) - (((d8 C b).map Ç).length:Int)=1)=decide ((d8 C b).length+1=b.length):=by
   rw [el,el]
   exact decide_eq_decide.mpr (by omega)
  show if decide (((b.map Ç).length:Int) - (((d8 C b).map Ç).length:Int)=1)=true then _ else _
  rw [ed]
  cases c:decide ((d8 C b).length+1=b.length) with
  | true =>
   refine bJ (B:=True) ⟨rfl,by rw [Á]; omega,?_⟩
   show [_,_,Sl.sp 0 true ((inL C (bl.take i)).map iD++[iD (d8 C b)]),_,_]=[_,_,Sl.sp 0 true ((inL C (bl.take (i+1))).map iD),_,_]
   rw [tk,c,if_pos rfl,ä]
   rfl
  | false =>
   refine aW (A:=True) ?_
   show [_,_,Sl.sp 0 true ((inL C (bl.take i)).map iD),_,_]=[_,_,Sl.sp 0 true ((inL C (bl.take (i+1))).map iD),_,_]
   rw [tk,c,if_neg (by decide),ğ]
 ·rintro ρ rfl
  rw [Á,Ě]
  have il:=kY C bl
  exact⟨inL C bl,rfl,by omega,pW C nice,fun out hp2 hs2=>⟨rfl,q out (hp2.trans (wN C hp)) hs2⟩⟩
theorem Fj:FnScope ["_law_script","_law_pen","_law_turn","_law_web_here","_law_due_here","_law_again","_law_found"] ["_law_script"] (aq (top 33)):=zC
theorem Gw:(["_law_one","_law_script","_law_pen","_law_turn","_law_web_here","_law_due_here","_law_again","_law_found"]:List Str).Nodup:=by decide +kernel
theorem M7 (F:Fun K "law" "law" (top 33) f fd) (B:ź mg) (C__law_web:Ł P w K mg base 3 "_law_web" ["_law_pen","_law_few","_law_great"] (spP (CP K) Ql)) (C__law_due:Ł P w K mg base 4 "_law_due" ["_law_web_here"] (spD JX)) (C_inners:Ł P w K mg base 8 "inners" ["web"] (spD JX)) (C__law_numbers:Ł P w K mg base 1 "_law_numbers" ["_law_thing"] (spD Qp)):FnOk P w K mg base CX0 9 f fd ["_law_script"] (Al K):=by
 refine F.ok Fj (fun vs H Q E h=>by obtain⟨a,ns,rfl,_⟩:=h; rfl) (fun cdv A outer s H vs Q E hr h=>?_)
 obtain⟨sc,ns,rfl,hS,q⟩:=h
 have nd:=Fj.nd
 refine⟨_,(aO (fX (i:=1) nd rfl zQ (yu (bN (pv 0) (bN ň (bN ň dY))))) (Ğ (Ð (ĸ ï rfl (ĵ B.range (Â Ø Ã)) (å (i:=2) nd rfl zQ) (Ð (ā none (i:=3) nd rfl zQ (Wr.dcP C__law_web hr (Ŏ 1) (Â Ø (Â Ø Ã))))
  (Ð (ā none (i:=4) nd rfl zQ (ŷ C__law_due hr (Â (Ñ 3) Ã)))
  (Ð (ĸ ï rfl (ĵ B.range (Â Ø Ã)) (å (i:=5) nd rfl zQ) (Ð (ā (some 0) (i:=6) nd rfl zQ (ŷ C_inners hr (Â (Ñ 3) Ã)))
  (Ð (Ŷ (Wr.wpt (Wr.lX (Wr.fZ (Wr.cU (Wr.cg wI B.isinstance (Ñ 6) (Wr.wty rfl B.list boot_list)))) (Wr.lX (Wr.cV hr.units (ŵ ["_law_one"] rfl (Ĵ (Ñ 6)) (fun c=>(å (i:=0) Gw rfl zQ)) (fun c=>(Ő (Wr.fZ (Wr.cU (ŷ C__law_numbers hr (Â (Ñ 0) Ã)))))) (fun c=>(Ñ 0))) (þ Ã)) (Wr.jY (Wr.cV hr.units (Ñ 6) (Ñ 4)))))) (ù (ę Wr.rC)) û)
  (Wr.jH (Wr.cV hr.units (Ñ 6) (þ Ã)) (Ŏ 6) (Wr.tG Ø) (Â Ø Ã) (Ŏ 6) (Â (þ Ã) Ã) (æ [5,6] û))))) (æ [2,3,4,5,6] û)))))
  (æ [2,3,4,5,6] (ù (ę Wr.rC)))))),N8 hS q (by decide) ?_⟩
 refine⟨⟨by decide,by decide⟩,rfl,fun (i:Nat) ρ=>ρ=[.any,.pen (CP K),.any,.any,.any,.any,.any],rfl,?_,?_⟩
 ·rintro i d ρ hd rfl
  obtain⟨hi,rfl⟩:=bC hd
  refine⟨rfl,8,12,rfl,by decide,by decide,by decide,by decide,fun n us n1 nm lu okw=>?_⟩
  have ok:=okw.okN
  refine bW (s:=.im (aB n us)) (by
   show Dl.stK none _ 3 (norm _ (aB n us)) (aB n us)=some (.im (aB n us))
   rw [iC (oA n us)]; rfl) ?_
  refine⟨n,us,rfl,n1,by omega,by omega,ok,fun due hp hs=>?_⟩
  refine bW (rg:=none) (i:=4) (k:=norm .new (.list (due.map iD))) (d:=.list (due.map iD)) (s:=.sn (.list (due.map iD))) (by rfl) ?_
  have nice:∀ l∈due,cP l:=fun l hl=>pW _ (uE (by omega)) l (hp.mem_iff.mp hl)
  have dl:due.length<=45:=by
   rw [hp.length_eq]
   have:=kY (ju n.toNat us) (grI n.toNat us)
   have:=yX (n:=n.toNat) (us:=us)
   omega
  refine⟨⟨by decide,by decide⟩,rfl,fun (_:Nat) ρ=>ρ=[.any,.pen (CP K),.im (.int (0+((i:Nat):Int))),.im (aB n us),.sn (.list (due.map iD)),.any,.any],rfl,?_,?_⟩
  ·rintro j d ρ hd rfl
   obtain⟨hj,rfl⟩:=bC hd
   refine⟨n,us,rfl,n1,by omega,by omega,ok,fun found hp2 hs2=>?_⟩
   have e:found=due:=(DW (hp.trans hp2.symm) hs hs2 nice).symm
   subst e
   refine aW (A:=True) (eX found iD (fun _=>false) iD .imm rfl (by omega) (fun l hl A B h1 h2=>⟨l,rfl,by have:=(nice l hl).1; omega,aW (A:=True) (h2 rfl)⟩) ?_)
   rw [show found.filter (fun _=>false)=[] by simp]
   refine⟨zK,rfl,rfl,aW (A:=True) ⟨j7 _,j7 _,?_⟩⟩
   show if (!PyData.eqv (.list (found.map iD)) (.list (found.map iD)))=true then _ else _
   rw [Ht]
   refine aW (A:=True) (aW (A:=True) ?_)
   refine⟨zK,j7 _,rfl,?_⟩
   show if (!PyData.eqv (.list (found.map iD)) (.list []))=true then _ else _
   rw [BW]
   rcases List.eq_nil_or_concat found with rfl | ⟨L,l,e⟩
   ·exact aW (A:=True) ⟨(show 0<1000 by decide),zK,rfl⟩
   ·rw [List.concat_eq_append] at e
    subst e
    have ll:=(nice l (by simp)).1
    have hne:((L++[l]).map iD).isEmpty=false:=by simp
    rw [hne]
    exact bJ (B:=True) ⟨l.map Ç,by rw [ä]; exact Ib _ _,by rw [Á]; omega,by rw [Á]; omega,zK,rfl⟩
  ·rintro ρ rfl
   rfl
 ·rintro ρ rfl
  exact⟨rfl,rfl⟩
end
theorem len1 {α:Type}:∀ us:List α,us.length=1->∃ a,us=[a]
 | [a],_=>⟨a,rfl⟩
theorem len2 {α:Type}:∀ us:List α,us.length=2->∃ a b,us=[a,b]
 | [a,b],_=>⟨a,b,rfl⟩
theorem Q0 {α:Type}:∀ us:List α,us.length=3->∃ a b c,us=[a,b,c]
 | [a,b,c],_=>⟨a,b,c,rfl⟩
theorem QZ {α:Type}:∀ us:List α,us.length=4->∃ a b c d,us=[a,b,c,d]
 | [a,b,c,d],_=>⟨a,b,c,d,rfl⟩
theorem aC {K:â}{f:Addr}{oc:Value}{od:Option Addr}{fd:FuncData}{sl:Array (Option Value)} (l:K.lookup f=some ⟨oc,od,.func fd,sl⟩):W.keepIn K (.ref f)=true:=by
 unfold W.keepIn
 simp only [l]
theorem aN {P:Program}{w:World}{K:â}{mg:Str->Option Value}{base:Heap}{k:Nat}{x:Str}{st:Stmt}{f:Addr}{fd:FuncData}{ps:List Str}{sp:Sp} (F:Fun K x x st f fd) (b:Binds K fd ps []) (m:mg x=some (.ref f)) (h:FnOk P w K mg base CX0 k f fd ps sp) :
  Ł P w K mg base k x ps sp:=⟨f,fd,h,b,F.kp,m⟩
abbrev zl (K:â) (f:Addr) (x:Str) (st:Stmt) (oc:Value) (od:Option Addr) (kV dc pm:Value) (an:Option Addr) (cd ct:Value) (sl:Array (Option Value)):Prop:=K.lookup f=some ⟨oc,od,.func (W.fnOf x x (jj st) (gH st) (aq st) .none kV dc pm an cd ct),sl⟩
abbrev za (K:â) (x:Str) (f:Addr):Prop:=W.nsIn K mainGlobals x=some (some (.ref f))
abbrev zc (K:â) (x:Str) (cd:Value):Prop:=W.codeIn K cd x=true
abbrev zn (K:â) (x:Str):Prop:=W.nsIn K mainGlobals x=some none
theorem all_mk {l:W.OpenLaw}{w:World}{K:â}{h:Heap}{mg:Str->Option Value}{fa f0 f1 f2 f3 f4 f5 f6 f7 f8 f9 f10 f11 f12 f13 f14 f15 f16 f17 f18 f19 f20 f21 f22 f23 f24 f25:Addr} (X:K.In h) (G:h.Ns mainGlobals mg) (hfa:mg "law"=some (.ref fa))
  {od0 an0 od1 an1 od2 an2 od3 an3 od4 an4 od5 an5 od6 an6 od7 an7 od8 an8 od9 an9 od10 an10 od11 an11 od12 an12 od13 an13 od14 an14 od15 an15 od16 an16 od17 an17 od18 an18 od19 an19 od20 an20 od21 an21 od22 an22 od23 an23 od24 an24 od25 an25:Option Addr}{sl0 sl1 sl2 sl3 sl4 sl5 sl6 sl7 sl8 sl9 sl10 sl11 sl12 sl13 sl14 sl15 sl16 sl17 sl18 sl19 sl20 sl21 sl22 sl23 sl24 sl25:Array (Option Value)}{oc0 kV0 dc0 pm0 cd0 ct0 oc1 kV1 dc1 pm1 cd1 ct1 oc2 kV2 dc2 pm2 cd2 ct2 oc3 kV3 dc3 pm3 cd3 ct3 oc4 kV4 dc4 pm4 cd4 ct4 oc5 kV5 dc5 pm5 cd5 ct5 oc6 kV6 dc6 pm6 cd6 ct6 oc7 kV7 dc7 pm7 cd7 ct7 oc8 kV8 dc8 pm8 cd8 ct8 oc9 kV9 dc9 pm9 cd9 ct9 oc10 kV10 dc10 pm10 cd10 ct10 oc11 kV11 dc11 pm11 cd11 ct11 oc12 kV12 dc12 pm12 cd12 ct12 oc13 kV13 dc13 pm13 cd13 ct13 oc14 kV14 dc14 pm14 cd14 ct14 oc15 kV15 dc15 pm15 cd15 ct15 oc16 kV16 dc16 pm16 cd16 ct16 oc17 kV17 dc17 pm17 cd17 ct17 oc18 kV18 dc18 pm18 cd18 ct18 oc19 kV19 dc19 pm19 cd19 ct19 oc20 kV20 dc20 pm20 cd20 ct20 oc21 kV21 dc21 pm21 cd21 ct21 oc22 kV22 dc22 pm22 cd22 ct22 oc23 kV23 dc23 pm23 cd23 ct23 oc24 kV24 dc24 pm24 cd24 ct24 oc25 kV25 dc25 pm25 cd25 ct25:Value}
  (a0:za K "is_whole" f0) (l0:zl K f0 "is_whole" (top 4) oc0 od0 kV0 dc0 pm0 an0 cd0 ct0 sl0) (c0:zc K "is_whole" cd0)
  (a1:za K "is_below" f1) (l1:zl K f1 "is_below" (top 5) oc1 od1 kV1 dc1 pm1 an1 cd1 ct1 sl1) (c1:zc K "is_below" cd1)
  (a2:za K "is_place" f2) (l2:zl K f2 "is_place" (top 6) oc2 od2 kV2 dc2 pm2 an2 cd2 ct2 sl2) (c2:zc K "is_place" cd2)
  (a3:za K "check_place" f3) (l3:zl K f3 "check_place" (top 7) oc3 od3 kV3 dc3 pm3 an3 cd3 ct3 sl3) (c3:zc K "check_place" cd3)
  (a4:za K "steps_of_web" f4) (l4:zl K f4 "steps_of_web" (top 9) oc4 od4 kV4 dc4 pm4 an4 cd4 ct4 sl4) (c4:zc K "steps_of_web" cd4)
  (a5:za K "search" f5) (l5:zl K f5 "search" (top 10) oc5 od5 kV5 dc5 pm5 an5 cd5 ct5 sl5) (c5:zc K "search" cd5)
  (a6:za K "part_of" f6) (l6:zl K f6 "part_of" (top 11) oc6 od6 kV6 dc6 pm6 an6 cd6 ct6 sl6) (c6:zc K "part_of" cd6)
  (a7:za K "parts" f7) (l7:zl K f7 "parts" (top 12) oc7 od7 kV7 dc7 pm7 an7 cd7 ct7 sl7) (c7:zc K "parts" cd7)
  (a8:za K "hops" f8) (l8:zl K f8 "hops" (top 13) oc8 od8 kV8 dc8 pm8 an8 cd8 ct8 sl8) (c8:zc K "hops" cd8)
  (a9:za K "parts_without" f9) (l9:zl K f9 "parts_without" (top 15) oc9 od9 kV9 dc9 pm9 an9 cd9 ct9 sl9) (c9:zc K "parts_without" cd9)
  (a10:za K "cut_places" f10) (l10:zl K f10 "cut_places" (top 16) oc10 od10 kV10 dc10 pm10 an10 cd10 ct10 sl10) (c10:zc K "cut_places" cd10)
  (a11:za K "ties_into" f11) (l11:zl K f11 "ties_into" (top 18) oc11 od11 kV11 dc11 pm11 an11 cd11 ct11 sl11) (c11:zc K "ties_into" cd11)
  (a12:za K "ties_side_by_side" f12) (l12:zl K f12 "ties_side_by_side" (top 19) oc12 od12 kV12 dc12 pm12 an12 cd12 ct12 sl12) (c12:zc K "ties_side_by_side" cd12)
  (a13:za K "places_of" f13) (l13:zl K f13 "places_of" (top 20) oc13 od13 kV13 dc13 pm13 an13 cd13 ct13 sl13) (c13:zc K "places_of" cd13)
  (a14:za K "blocks" f14) (l14:zl K f14 "blocks" (top 21) oc14 od14 kV14 dc14 pm14 an14 cd14 ct14 sl14) (c14:zc K "blocks" cd14)
  (a15:za K "inners" f15) (l15:zl K f15 "inners" (top 22) oc15 od15 kV15 dc15 pm15 an15 cd15 ct15 sl15) (c15:zc K "inners" cd15)
  (a16:za K "_law_take" f16) (l16:zl K f16 "_law_take" (top 24) oc16 od16 kV16 dc16 pm16 an16 cd16 ct16 sl16) (c16:zc K "_law_take" cd16)
  (a17:za K "_law_more" f17) (l17:zl K f17 "_law_more" (top 25) oc17 od17 kV17 dc17 pm17 an17 cd17 ct17 sl17) (c17:zc K "_law_more" cd17)
  (a18:za K "_law_web" f18) (l18:zl K f18 "_law_web" (top 26) oc18 od18 kV18 dc18 pm18 an18 cd18 ct18 sl18) (c18:zc K "_law_web" cd18)
  (a19:za K "_law_met" f19) (l19:zl K f19 "_law_met" (top 27) oc19 od19 kV19 dc19 pm19 an19 cd19 ct19 sl19) (c19:zc K "_law_met" cd19)
  (a20:za K "_law_numbers" f20) (l20:zl K f20 "_law_numbers" (top 28) oc20 od20 kV20 dc20 pm20 an20 cd20 ct20 sl20) (c20:zc K "_law_numbers" cd20)
  (a21:za K "_law_labels_of" f21) (l21:zl K f21 "_law_labels_of" (top 29) oc21 od21 kV21 dc21 pm21 an21 cd21 ct21 sl21) (c21:zc K "_law_labels_of" cd21)
  (a22:za K "_law_blocks_due" f22) (l22:zl K f22 "_law_blocks_due" (top 30) oc22 od22 kV22 dc22 pm22 an22 cd22 ct22 sl22) (c22:zc K "_law_blocks_due" cd22)
  (a23:za K "_law_parts_two" f23) (l23:zl K f23 "_law_parts_two" (top 31) oc23 od23 kV23 dc23 pm23 an23 cd23 ct23 sl23) (c23:zc K "_law_parts_two" cd23)
  (a24:za K "_law_due" f24) (l24:zl K f24 "_law_due" (top 32) oc24 od24 kV24 dc24 pm24 an24 cd24 ct24 sl24) (c24:zc K "_law_due" cd24)
  (a25:za K "law" f25) (l25:zl K f25 "law" (top 33) oc25 od25 kV25 dc25 pm25 an25 cd25 ct25 sl25) (c25:zc K "law" cd25)
  (z0:zn K "isinstance")
  (z1:zn K "int")
  (z2:zn K "bool")
  (z3:zn K "tuple")
  (z4:zn K "list")
  (z5:zn K "len")
  (z6:zn K "all")
  (z7:zn K "min")
  (z8:zn K "max")
  (z9:zn K "sorted")
  (z10:zn K "range")
  (z11:zn K "abs")
  (z12:zn K "enumerate")
  (z13:zn K "zip")
  (z14:zn K "any")
  (z15:zn K "sum")
  (z16:zn K "dict")
  (z17:zn K "set")
  :
  ∃ fd:FuncData,(∀ (s:Shared) (v:Value),BindsTo s fd ⟨[v],[]⟩ [("_law_script",v)])/\∀ base:Heap,K.In base->base.Ns mainGlobals mg->FnOk l.prog w K mg base CX0 9 fa fd ["_law_script"] (Al K):=by
 have e:=hfa.symm.trans (ļ X G a25)
 cases e
 have F0:=Ś (st:=top 4) l0 c0 (aC l0)
 have b0:=F0.binds (ps:=["thing"])
 have m0:=ļ X G a0
 have F1:=Ś (st:=top 5) l1 c1 (aC l1)
 have b1:=F1.binds (ps:=["limit","thing"])
 have m1:=ļ X G a1
 have F2:=Ś (st:=top 6) l2 c2 (aC l2)
 have b2:=F2.binds (ps:=["web","thing"])
 have m2:=ļ X G a2
 have F3:=Ś (st:=top 7) l3 c3 (aC l3)
 have b3:=F3.binds (ps:=["web","thing"])
 have m3:=ļ X G a3
 have F4:=Ś (st:=top 9) l4 c4 (aC l4)
 have b4:=F4.binds (ps:=["web"])
 have m4:=ļ X G a4
 have F5:=Ś (st:=top 10) l5 c5 (aC l5)
 have b5:=F5.binds (ps:=["steps","start"])
 have m5:=ļ X G a5
 have F6:=Ś (st:=top 11) l6 c6 (aC l6)
 have b6:=F6.binds (ps:=["web","place"])
 have m6:=ļ X G a6
 have F7:=Ś (st:=top 12) l7 c7 (aC l7)
 have b7:=F7.binds (ps:=["web"])
 have m7:=ļ X G a7
 have F8:=Ś (st:=top 13) l8 c8 (aC l8)
 have b8:=F8.binds (ps:=["places"])
 have m8:=ļ X G a8
 have F9:=Ś (st:=top 15) l9 c9 (aC l9)
 have b9:=F9.binds (ps:=["web","v"])
 have m9:=ļ X G a9
 have F10:=Ś (st:=top 16) l10 c10 (aC l10)
 have b10:=F10.binds (ps:=["web"])
 have m10:=ļ X G a10
 have F11:=Ś (st:=top 18) l11 c11 (aC l11)
 have b11:=F11.binds (ps:=["web","v","part"])
 have m11:=ļ X G a11
 have F12:=Ś (st:=top 19) l12 c12 (aC l12)
 have b12:=F12.binds (ps:=["web"])
 have m12:=ļ X G a12
 have F13:=Ś (st:=top 20) l13 c13 (aC l13)
 have b13:=F13.binds (ps:=["web","numbers"])
 have m13:=ļ X G a13
 have F14:=Ś (st:=top 21) l14 c14 (aC l14)
 have b14:=F14.binds (ps:=["web"])
 have m14:=ļ X G a14
 have F15:=Ś (st:=top 22) l15 c15 (aC l15)
 have b15:=F15.binds (ps:=["web"])
 have m15:=ļ X G a15
 have F16:=Ś (st:=top 24) l16 c16 (aC l16)
 have b16:=F16.binds (ps:=["_law_pen","_law_many"])
 have m16:=ļ X G a16
 have F17:=Ś (st:=top 25) l17 c17 (aC l17)
 have b17:=F17.binds (ps:=["_law_pen","_law_n","_law_ties"])
 have m17:=ļ X G a17
 have F18:=Ś (st:=top 26) l18 c18 (aC l18)
 have b18:=F18.binds (ps:=["_law_pen","_law_few","_law_great"])
 have m18:=ļ X G a18
 have F19:=Ś (st:=top 27) l19 c19 (aC l19)
 have b19:=F19.binds (ps:=["_law_web_here","_law_start","_law_fallen","_law_barred"]) fun _ _ _ _ _ _ us hl=>by obtain⟨_,_,_,_,rfl⟩:=QZ us hl; rfl
 have m19:=ļ X G a19
 have F20:=Ś (st:=top 28) l20 c20 (aC l20)
 have b20:=F20.binds (ps:=["_law_thing"])
 have m20:=ļ X G a20
 have F21:=Ś (st:=top 29) l21 c21 (aC l21)
 have b21:=F21.binds (ps:=["_law_web_here"])
 have m21:=ļ X G a21
 have F22:=Ś (st:=top 30) l22 c22 (aC l22)
 have b22:=F22.binds (ps:=["_law_web_here"])
 have m22:=ļ X G a22
 have F23:=Ś (st:=top 31) l23 c23 (aC l23)
 have b23:=F23.binds (ps:=["_law_web_here","_law_v"])
 have m23:=ļ X G a23
 have F24:=Ś (st:=top 32) l24 c24 (aC l24)
 have b24:=F24.binds (ps:=["_law_web_here"])
 have m24:=ļ X G a24
 have F25:=Ś (st:=top 33) l25 c25 (aC l25)
 have B:ź mg:=⟨Ģ X G z0,Ģ X G z1,Ģ X G z2,Ģ X G z3,Ģ X G z4,Ģ X G z5,Ģ X G z6,Ģ X G z7,Ģ X G z8,Ģ X G z9,Ģ X G z10,Ģ X G z11⟩
 have N12:=Ģ X G z12
 have N13:=Ģ X G z13
 have N14:=Ģ X G z14
 have N15:=Ģ X G z15
 have N16:=Ģ X G z16
 have N17:=Ģ X G z17
 refine⟨W.fnOf "law" "law" (jj (top 33)) (gH (top 33)) (aq (top 33)) .none kV25 dc25 pm25 an25 cd25 ct25,fun s v=>.of_eq rfl,fun base _ _=>?_⟩
 have C0:=aN F0 b0 m0 (vW (P:=l.prog) (w:=w) (base:=base) F0 B)
 have C1:=aN F1 b1 m1 (vY (P:=l.prog) (w:=w) (base:=base) F1 B C0)
 have C2:=aN F2 b2 m2 (vX (P:=l.prog) (w:=w) (base:=base) F2 B C1)
 have C3:=aN F3 b3 m3 (pI (P:=l.prog) (w:=w) (base:=base) F3 B C2)
 have C4:=aN F4 b4 m4 (nJ (P:=l.prog) (w:=w) (base:=base) F4 B N12)
 have C5:=aN F5 b5 m5 (Dc (P:=l.prog) (w:=w) (base:=base) F5 B)
 have C6:=aN F6 b6 m6 (yJ (P:=l.prog) (w:=w) (base:=base) F6 B C5 C4)
 have C7:=aN F7 b7 m7 (Gp (P:=l.prog) (w:=w) (base:=base) F7 B C6)
 have C8:=aN F8 b8 m8 (Ju (P:=l.prog) (w:=w) (base:=base) F8 B N13)
 have C9:=aN F9 b9 m9 (lZ (P:=l.prog) (w:=w) (base:=base) F9 B C3 C7)
 have C10:=aN F10 b10 m10 (qL (P:=l.prog) (w:=w) (base:=base) F10 B C7 C9)
 have C11:=aN F11 b11 m11 (uc (P:=l.prog) (w:=w) (base:=base) F11 B N12)
 have C12:=aN F12 b12 m12 (iz (P:=l.prog) (w:=w) (base:=base) F12 B C9 C8 C11)
 have C13:=aN F13 b13 m13 (ud (P:=l.prog) (w:=w) (base:=base) F13 B N14)
 have C14:=aN F14 b14 m14 (Df (P:=l.prog) (w:=w) (base:=base) F14 B C7 C12 C13)
 have C15:=aN F15 b15 m15 (Dd (P:=l.prog) (w:=w) (base:=base) F15 B C10 C14)
 have C16:=aN F16 b16 m16 (Jt (P:=l.prog) (w:=w) (base:=base) F16 B)
 have C17:=aN F17 b17 m17 (vV (P:=l.prog) (w:=w) (base:=base) F17 B C16)
 have C18:=aN F18 b18 m18 (yK (P:=l.prog) (w:=w) (base:=base) F18 B C16 C17)
 have C19:=aN F19 b19 m19 (yL (P:=l.prog) (w:=w) (base:=base) F19 B N12 N15)
 have C20:=aN F20 b20 m20 (pH (P:=l.prog) (w:=w) (base:=base) F20 B)
 have C21:=aN F21 b21 m21 (mq (P:=l.prog) (w:=w) (base:=base) F21 B N16 N12 C19)
 have C22:=aN F22 b22 m22 (j5 (P:=l.prog) (w:=w) (base:=base) F22 B N17 C21)
 have C23:=aN F23 b23 m23 (mj (P:=l.prog) (w:=w) (base:=base) F23 B C19)
 have C24:=aN F24 b24 m24 (yM (P:=l.prog) (w:=w) (base:=base) F24 B C23 C22)
 exact M7 F25 B C18 C24 C15 C20
theorem walk {l:W.OpenLaw}{q:Program}{loose:List Str}{XP:(Str->Option Value)->Heap->Prop}{YP:World->Heap->Prop}{d:DefRec}{K:Params->â} (hn:l.most=some 63) (hdf:d.params.defaults=[])
  (hY:∀ (w:World) (h:Heap),YP w h->(K w.params).In h)
  (F:∀ (w:World) (mg:Str->Option Value) (fa:Addr) (h:Heap),(K w.params).In h->h.Ns mainGlobals mg->mg d.name=some (.ref fa) ->
   ∃ fd:FuncData,(∀ (s:Shared) (u:Value),BindsTo s fd ⟨[u],[]⟩ [("_law_script",u)])/\∀ base:Heap,(K w.params).In base->base.Ns mainGlobals mg->FnOk l.prog w (K w.params) mg base CX0 9 fa fd ["_law_script"] (Al (K w.params))) :
  W.WalkO q loose XP YP l.row.toRowW d [] (fun f vs=>PySem.call f vs) :=
 L2.Ik (n:=63) (k:=9) (x:="_law_script") (CX:=fun _=>CX0) (sp:=fun w=>Al (K w.params)) hn (by decide) hdf ⟨rfl,by decide,by decide,rfl⟩ hY F (fun _ _ a ns hl hO hS=>⟨a,ns,rfl,hS,fun _=>rfl⟩) fun _ _ _ _ _ z=>z
end Nf
namespace Nf
open PySem PySem.W PyProof.Rows
def rE:List Nat:=[1,2,4,5,6,7,9,10,11,12,13,15,16,18,19,20,21,22,24,25,26,27,28,29,30,31,32,33]
def wB (p:Program) (w:World) (os:OsState):=(CJ p 2542 w os).map (fun s=>Fi p (view p rE) (fun s=>xlAt (view p rE) [] s&&recOk [] s) w s.abs)
def goodW (p:Program):=some (true,openGood (view p rE) [])
def frF (fr:Frag) (k:Nat):=some ((fr.map fun p=>some p.2).take k)
def frB (fr:Frag) (k:Nat):=some ((fr.map fun p=>some p.2).drop k)
def p7 (p:Program) (w:World) (os:OsState) (as:List Addr) (k:Nat):=(CJ p 2542 w os).map (fun s=>(as.map s.abs.heap.get?).take k)
def xH (p:Program) (w:World) (os:OsState) (as:List Addr) (k:Nat):=(CJ p 2542 w os).map (fun s=>(as.map s.abs.heap.get?).drop k)
theorem yS:wB=wB:=rfl
theorem yZ:goodW=goodW:=rfl
theorem wR:p7=p7:=rfl
theorem Ac:xH=xH:=rfl
end Nf
lay_quick Nf.wB Nf.goodW Nf.p7 Nf.xH
name_quick lookQ for Nf.wB by Nf.yS
name_quick goodQ for Nf.goodW by Nf.yZ
name_quick frontQ for Nf.p7 by Nf.wR
name_quick backQ for Nf.xH by Nf.Ac
set_option maxHeartbeats 0 in
theorem Nf.JD (w:PySem.World) (os:PySem.OsState):Nf.wB Ā w os=Nf.goodW Ā:=by
 rw [PySem.W.Fast.lookQ_eq,PySem.W.Fast.goodQ_eq]
 kernel_rfl
theorem Nf.well:PySem.Challenge.rw_nofall_k19_inners_told.wellSaid=true:=by kernel_rfl
open PySem PySem.W PyProof.Rows
local macro_rules
 | `(tactic| k_qdec)=>`(tactic| fail)
local macro_rules
 | `(tactic| o_head (kHook $k $a $e))=>`(tactic| (
  refine holds_open (q:=view Ā Nf.rE) (loose:=[]) (Xt:=fun s=>xlAt (view Ā Nf.rE) [] s&&recOk [] s) (XP:=XL (view Ā Nf.rE) []) (Yf:=Hook.obs (kHook $k $a $e)) (Ya:=Hook.val (kHook $k $a $e)) (YP:=Hook.says (kHook $k $a $e)) (N:=2542) ?hl (Hook.of (kHook $k $a $e)) (Hook.keeps (kHook $k $a $e)) (fun s e=>xl_of s (Bool.and_eq_true_iff.mp e).1) XL.keeps (by rfl) (by rfl) (by rfl) (fun s e=>recFacts_of (Bool.and_eq_true_iff.mp e).2) (by rfl) (by first | assumption | decide +kernel) (by decide +kernel) ⟨rfl,rfl,rfl,rfl,rfl,by decide +kernel⟩ ?hw ?hc))
set_option maxRecDepth 100000 in
set_option maxHeartbeats 0 in
theorem PySem.Challenge.cw_nofall_k19_inners_told_holds : PySem.Challenge.rw_nofall_k19_inners_told.Holds := by
 w_on; refine PySem.W.holds_law Nf.well fun said=>?_; k_head
 ·refine Nf.JM 90 (boot_open (by kernel_rfl) rfl (fun s=>by kernel_rfl)) Nf.JD (fun w os=>?_) (fun w os=>?_)
  ·show Nf.p7 Ā w os _ 90=Nf.frF _ 90
   rw [PySem.W.Fast.frontQ_eq]
   kernel_rfl
  ·show Nf.xH Ā w os _ 90=Nf.frB _ 90
   rw [PySem.W.Fast.backQ_eq]
   kernel_rfl
 ·w_witness2
 k_fill
 refine Nf.walk (l:=PySem.Challenge.rw_nofall_k19_inners_told) rfl rfl (fun w h Y=>PySem.W.kIn_of Y) ?F
 case F =>
  intro w mg fa h KX G hmg
  refine' Nf.all_mk KX G hmg ?a0 ?l0 ?c0 ?a1 ?l1 ?c1 ?a2 ?l2 ?c2 ?a3 ?l3 ?c3 ?a4 ?l4 ?c4 ?a5 ?l5 ?c5 ?a6 ?l6 ?c6 ?a7 ?l7 ?c7 ?a8 ?l8 ?c8 ?a9 ?l9 ?c9 ?a10 ?l10 ?c10 ?a11 ?l11 ?c11 ?a12 ?l12 ?c12 ?a13 ?l13 ?c13 ?a14 ?l14 ?c14 ?a15 ?l15 ?c15 ?a16 ?l16 ?c16 ?a17 ?l17 ?c17 ?a18 ?l18 ?c18 ?a19 ?l19 ?c19 ?a20 ?l20 ?c20 ?a21 ?l21 ?c21 ?a22 ?l22 ?c22 ?a23 ?l23 ?c23 ?a24 ?l24 ?c24 ?a25 ?l25 ?c25 ?z0 ?z1 ?z2 ?z3 ?z4 ?z5 ?z6 ?z7 ?z8 ?z9 ?z10 ?z11 ?z12 ?z13 ?z14 ?z15 ?z16 ?z17
  any_goals (show _=_; k_is)
  all_goals rfl
end
