import PyProof.Rows.All
import Wide.All
import OpenK.AllK
import Wide.FinOn
import Lean
import PyProof.EqAt
import PyProof.EqKinds
import PyProof.TupleCall
import PySem.Challenge.RW_nofall_k11_no_two_places
set_option genSizeOf false
set_option genSizeOfSpec false
set_option Elab.async false
set_option linter.all false
set_option maxRecDepth 100000
open PySem renaming wpAny_bind → Â,wpAny_pure → Ë,sizeLine_eq → ø,wpAny_holding → ă,wpAny_call_entry → ī,wpAny_truthy_bool → ĭ,wpAny_mono → Ĳ,wpAny_field → Ĵ,wpAny_callSpecial?_slot → ĵ,wpAny_newObj_type → ļ,wpAny_Call_Name_kw → ń,mem_of_lookup → Ŋ,wpAny_pyIter_tuple → ũ,wpAny_passesOwn → Ű,codeAny_builtin → ű
open List renaming length_map → Ä,getElem?_eq_some_iff → Æ,mem_of_getElem? → É,mem_singleton → Í,replicate → Ñ,size_toArray → Ò,getElem?_eq_getElem → Ó,length_append → Ô,mem_cons_of_mem → Ù,mem_filter → Ý,mem_cons → Þ,mem_append_right → ß,range → ã,mem_cons_self → ä,not_mem_nil → æ,getElem?_map → ç,map_append → ê,mem_append_left → í,mem_append → ñ,mem_zipIdx_iff_getElem? → õ,map_cons → ý,append_nil → ÿ,getElem?_append_right → Ă,length_filter_le → ą,getElem?_set_self → Ĉ,length_cons → ĉ,length_take → Ĕ,getD_eq_getElem?_getD → ĕ,take_add_one → ė,length_range → Ę,getElem?_of_mem → ę,getElem?_append_left → ě,length_singleton → Ğ,mem_range → ģ,getElem?_set_ne → Ĥ,take_length → ħ,mem_map → Ĩ,append_assoc → Ķ,lookup_cons → ľ,all_eq_true → Ŀ,find?_cons → Ň,replicate_succ → ŋ,getElem_mem → ŏ,filter_append → ő,filterMap_cons → Ś,getElem?_replicate → ś,map_map → ş,nodup_cons → Ť,take_append_drop → Ŧ,length_replicate → ŧ,reverse_cons → Ŭ,flatten_cons → ŭ,take → ŷ,drop → Ÿ,drop_eq_getElem_cons → Ż
open PySem.PyData renaming int → È,eqv → ò,list → Į,canLayAll0 → ĳ,depthAll → œ,tuple → ŝ
open PySem.Heap renaming lt_size → Ê,get?_push_of_some → Ì,get?_push_size → Û,get?_update_other → ú,get?_update_self → ĝ,size_push → Ń,size_update → ō,get?_push_ne → Ū
open Bool renaming false_ne_true → Î,and_eq_true → Ú,eq_false_iff → Ċ,false_eq_true → ĥ,eq_iff_iff → ĺ,not_eq_true' → ņ
open Option.some renaming inj → Õ
open Nat renaming le_refl → Ö,ne_of_lt → à,lt_of_lt_of_le → å,le_trans → Ą,lt_irrefl → ć,lt_succ_of_lt → ď,zero_le → Ě,ne_of_gt → Ī,le_succ → Ņ,lt_succ_self → Ŝ,le_add_right → ź
open PySem.W renaming Frag → Ü,mg_of → î,mg_none_of → Đ,boot_heap → ř
open PySem.Obj renaming mapSeq → ð
open Sum renaming inl → ó
open PySem.PassesOwn renaming never → ô
open PySem.Challenge renaming pw_nofall_k11_no_two_places → ö
open PySem.NameKind renaming free → ù,cell → Č
open PySem.Value renaming type → û,ref → Ā,none → ċ,int → Ŕ,bool → Ų
open PyProof.Rows renaming callWith_type1 → ü,slot_tupleiter_next → Ŏ
open Ne renaming symm → Ć
open Array renaming length_toList → Ď,getElem?_eq_some_iff → ų,getElem?_eq_getElem → Ź
open PySem.Builtin.SmallTypes renaming nextOf → đ,ownedTupleIsFree → Ľ
open PySem.Builtin.List renaming listExtendWith → Ĝ,listTooLong → Ů,listSameRef → ů,listItems → ž
open ForInStep renaming yield → Ġ
open False renaming elim → ġ
open PySem.F renaming slot_enumerate_next → į,slot_enumerate_iter → Ţ
open Int renaming le_refl → Ļ,emod_lt_of_pos → Œ,toNat_natCast → ŗ,emod_nonneg → ť
open PySem.Str renaming ofString → Ł
open True renaming intro → Ş
open PySem.Builtin.Slice renaming slicePlaces → ţ
open PySem.Builtin.Tuple renaming tupleExact → ū
noncomputable section
namespace L2
open PySem PySem.Spec PyProof.Rows
theorem zK {n:Nat} (h:Nat.ble n 1000=true:=by rfl):n<=1000:=Nat.le_of_ble_eq_true h
abbrev Key:=Sum Int Str
def tO:Key->Value->Bool
 | .inl k,v=>Value.isInt k v
 | .inr x,v=>Value.isStrOf x v
def V9 (w:World):Key->Int
 | .inl k=>hashInt k
 | .inr x=>hashStr w x
theorem aU:∀ {k:Key}{v:Value},tO k v=true->(∃ i t,k=ó i/\v=Ŕ i t)\/(∃ x t,k=Sum.inr x/\v=Value.str x t)
 | .inl i,v,h=>by
  obtain⟨t,e⟩:=Value.isInt_shape (k:=i) (v:=v) h
  exact .inl ⟨i,t,rfl,e⟩
 | .inr x,v,h=>by
  obtain⟨t,e⟩:=Value.isStrOf_shape (x:=x) (v:=v) h
  exact .inr ⟨x,t,rfl,e⟩
theorem G9 (i:Int) (t:Tok):tO (.inl i) (.int i t)=true:=by simp [tO,Value.isInt]
theorem G8 (x:Str) (t:Tok):tO (.inr x) (.str x t)=true:=by simp [tO,Value.isStrOf]
theorem Ss (a b:Int):decide ((ó a:Key)=ó b)=(a == b):=by
 by_cases e:a=b
 ·subst e; simp
 ·have h:¬ (ó a:Key)=ó b:=fun q=>e (Sum.inl.inj q)
  rw [decide_eq_false h]
  exact (beq_eq_false_iff_ne.mpr e).symm
theorem Sg (a b:Str):decide ((Sum.inr a:Key)=Sum.inr b)=decide (a=b):=by
 by_cases e:a=b
 ·subst e; simp
 ·have h:¬ (Sum.inr a:Key)=Sum.inr b:=fun q=>e (Sum.inr.inj q)
  rw [decide_eq_false h,decide_eq_false e]
theorem Sq (a:Int) (b:Str):decide ((ó a:Key)=Sum.inr b)=false:=decide_eq_false (fun q=>nomatch q)
theorem Sh (a:Str) (b:Int):decide ((Sum.inr a:Key)=ó b)=false:=decide_eq_false (fun q=>nomatch q)
def bf (prog:Program) (w:World):PySem.KeyKind prog w Key where
 is:=tO
 hash:=V9 w
 inj:=fun v a b ha hb=>by
  rcases aU ha with ⟨i,t,rfl,rfl⟩ | ⟨x,t,rfl,rfl⟩
  ·rcases aU hb with ⟨j,u,rfl,e⟩ | ⟨y,u,rfl,e⟩
   ·injection e with e1 _; rw [e1]
   ·exact nomatch e
  ·rcases aU hb with ⟨j,u,rfl,e⟩ | ⟨y,u,rfl,e⟩
   ·exact nomatch e
   ·injection e with e1 _; rw [e1]
 byValue:=fun k v h=>by
  rcases aU h with ⟨i,t,rfl,rfl⟩ | ⟨x,t,rfl,rfl⟩ <;> rfl
 pyHash:=fun hv h=>by
  rcases aU hv with ⟨i,t,rfl,rfl⟩ | ⟨x,t,rfl,rfl⟩
  ·exact wpAny_pyHash_int h
  ·exact wpAny_pyHash_str h
 eqBool:=fun hu hv h=>by
  rcases aU hu with ⟨i,t,rfl,rfl⟩ | ⟨x,t,rfl,rfl⟩
  ·rcases aU hv with ⟨j,u,rfl,rfl⟩ | ⟨y,u,rfl,rfl⟩
   ·rw [Ss] at h; exact wpAny_eqBool_int h
   ·rw [Sq] at h; exact SeqAt.EqAt.int_str i t y u _ _ _ _ h
  ·rcases aU hv with ⟨j,u,rfl,rfl⟩ | ⟨y,u,rfl,rfl⟩
   ·rw [Sh] at h; exact SeqAt.EqAt.str_int x t j u _ _ _ _ h
   ·rw [Sg] at h; exact wpAny_eqBool_str h
 «strs»:=fun k x t v h=>by
  rcases aU h with ⟨i,u,rfl,e⟩ | ⟨y,u,rfl,e⟩
  ·exact nomatch e
  ·injection e with e1 _
   subst e1
   cases v <;> rfl
theorem zN (prog:Program) (w:World) (i:Int) (t:Tok):(bf prog w).is (.inl i) (.int i t)=true:=G9 i t
theorem zM (prog:Program) (w:World) (x:Str) (t:Tok):(bf prog w).is (.inr x) (.str x t)=true:=G8 x t
inductive V where
 | non | bl (b:Bool) | int (i:Int) | str (x:Str) | byt (b:Array UInt8) | flt (b:UInt64) | ref (a:Addr) | ty (n:String)
 deriving DecidableEq
def RelV:V->Value->Prop
 | .non,u=>u=ċ
 | .bl b,u=>u=Ų b
 | .int i,u=>∃ t,u=Ŕ i t
 | .str x,u=>∃ t,u=Value.str x t
 | .byt b,u=>∃ t,u=Value.bytes b t
 | .flt b,u=>∃ t,u=Value.float b t
 | .ref a,u=>u=Ā a
 | .ty n,u=>u=û n
abbrev Vals:List V->List Value->Prop:=Paired RelV
theorem Vals.length {xs:List V}{us:List Value} (r:Vals xs us):xs.length=us.length:=Paired.length r
theorem Vals.get:∀ {xs:List V}{us:List Value}{i:Nat}{x:V},Vals xs us->xs[i]?=some x->∃ u,us[i]?=some u/\RelV x u
 | _,_,_,_,.nil,e=>by simp at e
 | _,_,0,_,.cons r _,e=>by simp at e; subst e; exact⟨_,rfl,r⟩
 | _,_,i+1,x,.cons _ t,e=>by
  obtain⟨u,h1,h2⟩:=Vals.get (i:=i) (x:=x) t (by simpa using e)
  exact⟨u,by simpa using h1,h2⟩
theorem Vals.set {x:V}{u:Value} (r:RelV x u):∀ {xs:List V}{us:List Value} (i:Nat),Vals xs us->Vals (xs.set i x) (us.set i u)
 | _,_,_,.nil=>.nil
 | _,_,0,.cons _ t=>.cons r t
 | _,_,i+1,.cons q t=>.cons q (Vals.set r i t)
theorem Vals.append:∀ {xs ys:List V}{us ws:List Value},Vals xs us->Vals ys ws->Vals (xs++ys) (us++ws)
 | _,_,_,_,.nil,s=>s
 | _,_,_,_,.cons r t,s=>.cons r (Vals.append t s)
theorem Vals.take:∀ {xs:List V}{us:List Value} (n:Nat),Vals xs us->Vals (xs.take n) (us.take n)
 | _,_,0,_=>.nil
 | _,_,_+1,.nil=>.nil
 | _,_,n+1,.cons r t=>.cons r (Vals.take n t)
theorem Vals.drop:∀ {xs:List V}{us:List Value} (n:Nat),Vals xs us->Vals (xs.drop n) (us.drop n)
 | _,_,0,r=>r
 | _,_,_+1,.nil=>.nil
 | _,_,n+1,.cons _ t=>Vals.drop n t
def uE:Option V->Option Value->Prop
 | some v,some u=>RelV v u
 | none,none=>True
 | _,_=>False
def KV {κ:Type}:List (κ×V)->List (κ×Value)->Prop:=Paired fun (p:κ×V) (q:κ×Value)=>p.1=q.1/\RelV p.2 q.2
def kV:Key->V
 | .inl i=>.int i
 | .inr x=>.str x
inductive HO where
 | lst (xs:List V)
 | tup (xs:List V)
 | dK (kvs:List (Key×V)) | dT (kvs:List (List Key×V))
 | set (S:Int->Bool) (n:Nat)
 | ins (C dx:Addr) (fs:List (Str×V))
 | own (x:Addr)
 | xd (fs:List (Str×V))
 | met (f x:Addr)
 | rng (lo hi:Int)
 | frz (o:Obj) (u:HO)
 | tbl (ps:Array Value)
 | ext (φ:Heap->Prop)
abbrev Hp:=Addr->Option HO
def upd (H:Hp) (a:Addr) (o:HO):Hp:=fun b=>if b=a then some o else H b
theorem aq {H:Hp}{a:Addr}{o:HO}:upd H a o a=some o:=by unfold upd; rw [if_pos rfl]
theorem aj {H:Hp}{a b:Addr}{o:HO} (h:b≠a):upd H a o b=H b:=by unfold upd; rw [if_neg h]
theorem Vb {H:Hp}{a b:Addr}{o u:HO} (h:H a=some o) (h':H b=some u) (d:o≠u):a≠b:=by
 intro e; subst e; rw [h] at h'; exact d (Õ h')
theorem ao {H:Hp}{a b:Addr}{o:HO} (h:H a=some o) (h':H b=none):a≠b:=by
 intro e; subst e; rw [h] at h'; cases h'
section
variable (P:Program) (w:World)
def aP (H:Hp) (h:Heap) (a:Addr):HO->Prop
 | .lst xs=>xs.length<=sizeLine/\∃ (its:List Value) (n:Nat),Vals xs its/\h.get? a=some { cls:=.type "list",data:=.seq its.toArray n }
 | .tup xs=>xs.length<=sizeLine/\∃ its:List Value,Vals xs its/\IsTup h a its.toArray
 | .dK kvs=>kvs.length<=sizeLine/\(a == sysModules)=false/\∃ vs,KV kvs vs/\h.DictOf (bf P w) a vs
 | .dT kvs=>kvs.length<=sizeLine/\(a == sysModules)=false/\∃ xs:List (List Key×Addr×Value),
   Paired (fun (p:List Key×V) (q:List Key×Addr×Value)=>p.1=q.1/\H q.2.1=some (.tup (p.1.map kV))/\RelV p.2 q.2.2) kvs xs /\
   ∃ o es ep,h.get? a=some o/\o.ExactDict/\o.data=.dict es ep/\es.toList=xs.map (entryOfKey (tupleKind (bf P w)))/\(xs.map (·.1)).Nodup
 | .set S n=>h.SetOf (intKind P w) a S n
 | .ins C dx fs=>H dx=some (.own a)/\fs.length<=1000/\dx≠a/\h.get? a=some (W.instObj C dx) /\
   ∃ mA,h.Ns1 dx mA/\(∀ f,uE (fs.lookup f) (mA f))/\PySem.Within mA (fs.map (·.1))
 | .own _=>∃ o,h.get? a=some o
 | .xd fs=>∃ mA,h.Ns1 a mA/\∀ f,uE (fs.lookup f) (mA f)
 | .rng lo hi=>∃ t u v,h.get? a=some { cls:=.type "range",data:=.fields #[.int lo t,.int hi u,.int 1 v] }
 | .frz o u=>h.get? a=some o/\aP H h a u
 | .tbl ps=>h.get? a=some { cls:=.none,data:=.fields ps }
 | .met f x=>h.get? a=some (W.methodObj (.ref f) (.ref x))
 | .ext φ=>φ h/\(∃ o,h.get? a=some o)/\∀ h1 h2:Heap,φ h1->(∀ o,h1.get? a=some o->h2.get? a=some o)->φ h2
def HOk (H:Hp) (h:Heap):Prop:=∀ a o,H a=some o->aP P w H h a o
end
section
variable {P:Program}{w:World}{H H':Hp}{h h':Heap}{a:Addr}{o:HO}
theorem aP.lt (x:aP P w H h a o):a<h.objs.size:=by
 cases o with
 | lst xs=>obtain⟨_,_,_,_,e⟩:=x; exact Ê e
 | tup xs=>obtain⟨_,_,_,p⟩:=x; exact p.lt
 | dK kvs=>obtain⟨_,_,_,_,o,_,_,e,_⟩:=x; exact Ê e
 | dT kvs=>obtain⟨_,_,_,_,o,_,_,e,_⟩:=x; exact Ê e
 | set S n=>obtain⟨o,_,_,_,e,_⟩:=x; exact Ê e
 | ins C dx fs=>obtain⟨_,_,_,e,_⟩:=x; exact Ê e
 | own y=>obtain⟨_,e⟩:=x; exact Ê e
 | xd fs=>obtain⟨_,⟨_,_,_,e,_⟩,_⟩:=x; exact Ê e
 | rng lo hi=>obtain⟨_,_,_,e⟩:=x; exact Ê e
 | frz ob u=>obtain⟨e,_⟩:=x; exact Ê e
 | tbl ps=>exact Ê (show h.get? a=some _ from x)
 | met f y=>exact Ê (show h.get? a=some _ from x)
 | ext φ=>obtain⟨_,⟨_,e⟩,_⟩:=x; exact Ê e
theorem Paired.G3 {α β:Type}{F G:α->β->Prop}:∀ {l₁:List α}{l₂:List β},Paired F l₁ l₂->(∀ a b,F a b->G a b)->Paired G l₁ l₂
 | _,_,.nil,_=>.nil
 | _,_,.cons r t,f=>.cons (f _ _ r) (Paired.G3 t f)
theorem aP.stay (x:aP P w H h a o) (k:∀ b u,(b=a\/H b=some (.own a))->h.get? b=some u->h'.get? b=some u)
  (ho:∀ b,H b=some (.own a)->H' b=some (.own a)) (ht:∀ b xs,H b=some (.tup xs)->H' b=some (.tup xs)):aP P w H' h' a o:=by
 induction o with
 | lst xs=>obtain⟨z,its,n,r,e⟩:=x; exact⟨z,its,n,r,k _ _ (.inl rfl) e⟩
 | tup xs=>obtain⟨z,its,r,ob,e,c⟩:=x; exact⟨z,its,r,ob,k _ _ (.inl rfl) e,c⟩
 | dK kvs=>obtain⟨z,y,vs,r,ob,es,ep,e,c⟩:=x; exact⟨z,y,vs,r,ob,es,ep,k _ _ (.inl rfl) e,c⟩
 | dT kvs =>
  obtain⟨z,y,xs,r,ob,es,ep,e,c⟩:=x
  exact⟨z,y,xs,Paired.G3 r fun p q z=>⟨z.1,ht _ _ z.2.1,z.2.2⟩,ob,es,ep,k _ _ (.inl rfl) e,c⟩
 | set S n=>obtain⟨ob,es,ep,t,e,c⟩:=x; exact⟨ob,es,ep,t,k _ _ (.inl rfl) e,c⟩
 | ins C dx fs =>
  obtain⟨d,z,ne,e,mA,⟨od,es,ep,e2,c⟩,r⟩:=x
  exact⟨ho _ d,z,ne,k _ _ (.inl rfl) e,mA,⟨od,es,ep,k _ _ (.inr d) e2,c⟩,r⟩
 | own y=>obtain⟨ob,e⟩:=x; exact⟨ob,k _ _ (.inl rfl) e⟩
 | xd fs=>obtain⟨mA,⟨od,es,ep,e,c⟩,r⟩:=x; exact⟨mA,⟨od,es,ep,k _ _ (.inl rfl) e,c⟩,r⟩
 | rng lo hi=>obtain⟨t,u,v,e⟩:=x; exact⟨t,u,v,k _ _ (.inl rfl) e⟩
 | frz ob u ih=>obtain⟨e,q⟩:=x; exact⟨k _ _ (.inl rfl) e,ih q⟩
 | tbl ps =>
  have e:h.get? a=some { cls:=.none,data:=.fields ps }:=x
  show h'.get? a=some { cls:=.none,data:=.fields ps }
  exact k a _ (.inl rfl) e
 | met f y =>
  have e:h.get? a=some (W.methodObj (.ref f) (.ref y)):=x
  show h'.get? a=some (W.methodObj (.ref f) (.ref y))
  exact k a _ (.inl rfl) e
 | ext φ=>obtain⟨p,⟨o,e⟩,st⟩:=x; exact⟨st _ _ p fun o q=>k _ _ (.inl rfl) q,⟨o,k _ _ (.inl rfl) e⟩,st⟩
theorem HOk.lt (x:HOk P w H h) (e:H a=some o):a<h.objs.size:=(x a o e).lt
theorem HOk.fresh (x:HOk P w H h) (e:h.objs.size<=a):H a=none:=by
 cases q:H a with
 | none=>rfl
 | some u=>exact absurd (å (x.lt q) e) (ć _)
theorem HOk.kept (x:HOk P w H h) (k:∀ b u,h.get? b=some u->h'.get? b=some u):HOk P w H h':=fun a o e =>
 (x a o e).stay (fun b u _ q=>k b u q) (fun _ q=>q) fun _ _ q=>q
theorem HOk.laid (x:HOk P w H h) (k:∀ b u,h.get? b=some u->h'.get? b=some u) (hp:h.objs.size<=a) (new:aP P w (upd H a o) h' a o):HOk P w (upd H a o) h':=fun b u e=>by
 have hn:=x.fresh hp
 by_cases hb:b=a
 ·subst hb; rw [aq] at e; cases e; exact new
 ·rw [aj hb] at e
  exact (x b u e).stay (fun c v _ q=>k c v q) (fun c q=>by rw [aj (ao q hn)]; exact q) fun c xs q=>by rw [aj (ao q hn)]; exact q
end
def Rd (H:Hp) (a:Addr) (u:HO):Prop:=H a=some u\/∃ o,H a=some (.frz o u)
theorem Rd.ok {P:Program}{w:World}{H:Hp}{h:Heap}{a:Addr}{u:HO} (r:Rd H a u) (x:HOk P w H h):aP P w H h a u:=by
 rcases r with r | ⟨o,r⟩
 ·exact x a u r
 ·obtain⟨_,q⟩:=x a _ r
  exact q
def Mut:Option HO->Prop
 | some (.lst _)=>True
 | some (.dK _)=>True
 | some (.dT _)=>True
 | some (.set _ _)=>True
 | some (.ins _ _ _)=>True
 | some (.ext _)=>True
 | _=>False
section
variable {P:Program}{w:World}{H:Hp}{h h':Heap}{x e:Addr}{o':HO}
theorem HOk.write (ok:HOk P w H h) (mu:Mut (H x)) (he:e=x\/H e=some (.own x)) (k:∀ b u,b≠e->h.get? b=some u->h'.get? b=some u) (heo:∃ u,h'.get? e=some u)
  (new:aP P w (upd H x o') h' x o'):HOk P w (upd H x o') h':=fun b u q=>by
 have nown:∀ c y,H c=some (.own y)->c≠x:=fun c y r z=>by subst z; rw [r] at mu; exact mu
 have ntup:∀ c xs,H c=some (.tup xs)->c≠x:=fun c xs r z=>by subst z; rw [r] at mu; exact mu
 by_cases hb:b=x
 ·subst hb; rw [aq] at q; cases q; exact new
 ·rw [aj hb] at q
  by_cases hbe:b=e
  ·have q':H b=some (.own x):=by
    rcases he with z | z
    ·exact absurd (hbe.trans z) hb
    ·rw [hbe]; exact z
   rw [q] at q'; cases q'
   obtain⟨v,hv⟩:=heo
   exact⟨v,by rw [hbe]; exact hv⟩
  ·refine (ok b u q).stay (fun c v hc r=>k c v ?_ r) (fun c r=>by rw [aj (nown c b r)]; exact r) fun c xs r=>by rw [aj (ntup c xs r)]; exact r
   rcases hc with rfl | hc
   ·exact hbe
   ·rintro rfl
    rcases he with z | z
    ·exact nown c b hc z
    ·rw [hc] at z; cases z; exact hb rfl
end
structure Un (fs ex:List Addr) (H H':Hp) (h h':Heap):Prop where
 keep:∀ b o,h.get? b=some o->H b=none->b∉fs->b∉ex->h'.get? b=some o
 slot:∀ b o,h.get? b=some o->H b=none->b∈fs->b∉ex->∃ sl,h'.get? b=some { o with slots:=sl }
 free:∀ b o,h.get? b=some o->H b=none->b∉ex->H' b=none
 there:∀ b o,h.get? b=some o->b∉ex->∃ o',h'.get? b=some o'
 tups:∀ b xs,H b=some (.tup xs)->H' b=some (.tup xs)
 frzs:∀ b o u,H b=some (.frz o u)->H' b=some (.frz o u)
 tbls:∀ b ps,H b=some (.tbl ps)->∃ more,H' b=some (.tbl (ps++more))
section
variable {fs fs' ex ex':List Addr}{H H1 H2:Hp}{h h1 h2 h':Heap}{a x e:Addr}{o:HO}
theorem Un.any (u:Un fs ex H H1 h h1) {b:Addr}{ob:Obj} (q:h.get? b=some ob) (n:H b=none) (hx:b∉ex):∃ sl,h1.get? b=some { ob with slots:=sl }:=by
 by_cases hb:b∈fs
 ·exact u.slot b ob q n hb hx
 ·exact⟨ob.slots,u.keep b ob q n hb hx⟩
theorem Un.kept (k:∀ b u,h.get? b=some u->h'.get? b=some u):Un fs ex H H h h' :=
 ⟨fun b ob q _ _ _=>k b ob q,fun b ob q _ _ _=>⟨ob.slots,k b ob q⟩,fun _ _ _ n _=>n,fun b ob q _=>⟨ob,k b ob q⟩,fun _ _ q=>q,fun _ _ _ q=>q,fun _ ps q=>⟨#[],by rw [q]; simp⟩⟩
theorem Un.refl:Un fs ex H H h h:=Un.kept fun _ _ q=>q
theorem Un.laid (k:∀ b u,h.get? b=some u->h'.get? b=some u) (hp:h.objs.size<=a) (hn:H a=none):Un fs ex H (upd H a o) h h' where
 keep:=fun b u q _ _ _=>k b u q
 slot:=fun b u q _ _ _=>⟨u.slots,k b u q⟩
 free:=fun b u q n _=>by rw [aj (à (å (Ê q) hp))]; exact n
 there:=fun b u q _=>⟨u,k b u q⟩
 tups:=fun b xs q=>by rw [aj (ao q hn)]; exact q
 frzs:=fun b u xs q=>by rw [aj (ao q hn)]; exact q
 tbls:=fun b ps q=>⟨#[],by rw [aj (ao q hn),q]; simp⟩
theorem Un.write (mu:Mut (H x)) (he:e=x\/H e=some (.own x)) (k:∀ b u,b≠e->h.get? b=some u->h'.get? b=some u) (heo:∃ u,h'.get? e=some u):Un fs ex H (upd H x o) h h':=by
 have hx:∀ b,H b=none->b≠x:=fun b n z=>by subst z; rw [n] at mu; exact mu
 have hb:∀ b,H b=none->b≠e:=fun b n z=>by
  subst z
  rcases he with r | r
  ·exact hx b n r
  ·rw [n] at r; cases r
 have hm:∀ b u,H b=some u->¬ Mut (some u)->b≠x:=fun b u q nm z=>by subst z; rw [q] at mu; exact nm mu
 refine⟨fun b u q n _ _=>k b u (hb b n) q,fun b u q n _ _=>⟨u.slots,k b u (hb b n) q⟩,fun b u q n _=>by rw [aj (hx b n)]; exact n,fun b u q _=>?_,
  fun b xs q=>by rw [aj (hm b _ q fun z=>z)]; exact q,fun b u xs q=>by rw [aj (hm b _ q fun z=>z)]; exact q,fun b ps q=>⟨#[],by rw [aj (hm b _ q fun z=>z),q]; simp⟩⟩
 by_cases hbe:b=e
 ·subst hbe; exact heo
 ·exact⟨u,k b u hbe q⟩
end
def trk (h:Heap) (H:Hp):List Addr:=(ã h.objs.size).filter fun a=>(H a).isSome
def xQ (h:Heap) (H:Hp):Heap:=W.hideAll h (trk h H)
theorem Hi (h:Heap) (H:Hp):(xQ h H).objs.size=h.objs.size:=W.hideAll_size _ _
theorem Kz {h:Heap}{H:Hp}{b:Addr}{o:Obj} (e:h.get? b=some o) (n:H b=none):(xQ h H).get? b=some o :=
 W.hideAll_get _ e fun hm=>by
  have q:(H b).isSome=true:=(Ý.mp hm).2
  rw [n] at q; simp at q
theorem NQ {h:Heap}{H:Hp}{b:Addr}{o:Obj} (e:(xQ h H).get? b=some o):h.get? b=some o/\H b=none:=by
 have e':h.get? b=some o:=W.of_hideAll (trk h H) e
 refine⟨e',?_⟩
 cases q:H b with
 | none=>rfl
 | some x =>
  have hm:b∈trk h H:=Ý.mpr ⟨ģ.mpr (Ê e'),by simp [q]⟩
  have z:(xQ h H).get? b=none:=W.hideAll_none (trk h H) hm
  rw [z] at e; cases e
def yx (g h:Heap) (L:Addr):List (Addr×Obj):=(ã h.objs.size).filterMap fun a=>if a=L\/(g.get? a).isSome=true then none else (h.get? a).map fun o=>(a,o)
theorem tD {g h:Heap}{L:Addr}{p:Addr×Obj} (hp:p∈yx g h L):p.1≠L/\g.get? p.1=none/\h.get? p.1=some p.2:=by
 obtain⟨b,_,e⟩:=List.mem_filterMap.mp hp
 split at e
 ·cases e
 ·rename_i hn
  cases q:h.get? b with
  | none=>rw [q] at e; simp at e
  | some u =>
   rw [q] at e
   simp only [Option.map_some,Option.some.injEq] at e
   subst e
   refine⟨fun z=>hn (.inl z),?_,q⟩
   show g.get? b=none
   cases r:g.get? b with
   | none=>rfl
   | some v=>exact (hn (.inr (by simp [r]))).elim
def rest (g h:Heap) (L d:Addr):List (Addr×Obj):=(yx g h L).filter fun p=>decide (p.1≠d)
theorem J7 {g h:Heap}{L:Addr}:News g L h (yx g h L):=fun p hp=>let ⟨a,b,c⟩:=tD hp; ⟨c,a,b⟩
structure Mod (K:Ü) (mg:Str->Option Value) (base:Heap):Prop where
 kin:K.In base
 glob:base.Ns mainGlobals mg
 blt:∃ mb,base.Ns builtinsNs mb/\∀ x:Str,x≠"__name__"->mb x=bootBuiltins x
 nolimit:base.NoLimit
structure Cx where
 prog:Program
 w:World
 K:Ü
 mg:Str->Option Value
 base:Heap
 A:Around
 N:List Str
 s₀:Shared
 H₀:Hp
 env:Env
 outer:List Env
 stack:List Env
 ex:List Addr
 fn:Str->Bool
 calm:Bool
 pn:List (Addr×Obj)
 xe:Value->Shared->Prop
 sf:List (Addr×Obj×HO):=[]
def frs (l:List Env):List Addr:=l.filterMap (·.frame)
abbrev Cx.fs (X:Cx):List Addr:=frs X.outer
def Vis (sc:Scope) (x:Str):Prop:=sc.names.lookup x=some .local\/sc.names.lookup x=some .cell\/sc.names.lookup x=some .free
def Loc (sc:Scope) (x:Str):Prop:=sc.names.lookup x=some .local\/sc.names.lookup x=some .cell
def Look (env:Env) (h:Heap) (m:Str->Option Value) (x:Str) (u:Value):Prop :=
 (env.kindOf x=some .local/\m x=some u)\/((env.kindOf x=some .cell\/env.kindOf x=some .free)/\∃ c,env.cells.lookup x=some c/\h.IsCell c (some u))
abbrev zS (X:Cx) (e:Expr) (es:List Expr):Prop:=starEach (e::es) X.env=(false,eval e X.env)::starEach es X.env
abbrev zP (X:Cx) (p:Pos) (es:List Expr):Prop:=(backTo p (starEach es X.env)).any (·.1)=false
abbrev zB (x:Str):Prop:=(x == ("__debug__":Str))=false
abbrev zF (X:Cx) (e:Expr):Prop:=∀ x,foldedSetIterable e X.env x=pure x
abbrev zL (X:Cx) (x:Str):Prop:=X.fn x=true\/X.env.scope.names.lookup x=some .local
abbrev zW (X:Cx) (p:Pos) (es:List Expr):Prop:=((backTo p (starEach es X.env)).all (fun x=>!x.1)&&(backToKw p (keywordEach [] X.env)).all (fun x=>x.1.isSome)&&decide (es.length+([]:List Keyword).length+(if ([]:List Keyword).isEmpty then 0 else 1)<30))=true
theorem zQ {sc:Scope}{x:Str} (h:(sc.names.lookup x == some .local||sc.names.lookup x == some .cell)=true:=by rfl):Loc sc x:=(Bool.or_eq_true_iff.mp h).imp (fun z=>eq_of_beq z) fun z=>eq_of_beq z
structure Cx.Ok (X:Cx):Prop where
 mod:Mod X.K X.mg X.base
 kind:X.env.scope.kind=.function
 glob:X.env.globals=mainGlobals
 blt:X.env.builtins=builtinsNs
 above:X.s₀.heap.objs.size<=X.env.locals
 inj:∀ x y c,X.env.cells.lookup x=some c->X.env.cells.lookup y=some c->x=y
 has:∀ x,(X.env.kindOf x=some .cell\/X.env.kindOf x=some .free)->∃ c,X.env.cells.lookup x=some c
 cab:∀ x c,X.fn x=true->X.env.cells.lookup x=some c->X.s₀.heap.objs.size<=c
 hd:X.calm=true->X.A.handled=none
 frames:X.A.frames=some X.stack
 stk:X.stack=X.outer\/(X.stack=X.env::X.outer/\X.env.frame=some X.env.locals)
 exf:∀ b∈X.ex,b≠X.env.locals/\∀ x c,X.env.cells.lookup x=some c->c≠b
 bs:∀ b o,X.base.get? b=some o->X.s₀.heap.get? b=some o/\X.H₀ b=none
 bsz:X.base.objs.size<=X.s₀.heap.objs.size
 noex:∀ b o,X.base.get? b=some o->b∉X.ex
 exfs:∀ b∈X.ex,b∉X.fs
 qC:X.s₀.heap.FunFrames X.base X.outer
 frf:∀ b∈X.fs,X.H₀ b=none
 sof:∀ q∈X.sf,X.A.handled=some (.ref q.1)/\X.H₀ q.1=some (.frz q.2.1 q.2.2)/\∃ ws,q.2.1.data=.fields ws/\ws[2]?=some .none
structure Inv (X:Cx) (pins:List (Addr×Obj)) (σ:List (Option V)) (H:Hp) (s:Shared):Prop where
 ok:X.Ok
 os:s.os=X.s₀.os
 bare:AllBare s.gens
 base:Un X.fs X.ex X.H₀ H X.s₀.heap s.heap
 loc:∃ m,s.heap.Ns X.env.locals m/\∀ (i:Nat) (x:Str) (v:V),X.N[i]?=some x->σ[i]?=some (some v)->Vis X.env.scope x->∃ u,RelV v u/\Look X.env s.heap m x u
 cell:∀ x c,X.env.cells.lookup x=some c->∃ v,s.heap.IsCell c v
 free:H X.env.locals=none
 freeC:∀ x c,X.env.cells.lookup x=some c->H c=none
 pin:∀ p∈X.pn++pins,s.heap.get? p.1=some p.2/\H p.1=none/\p.1≠X.env.locals/\p.1∉X.fs/\∀ v,p.2.data≠.cell v
 hok:HOk X.prog X.w H s.heap
 len:σ.length=X.N.length
section
variable {X:Cx}{pins:List (Addr×Obj)}{σ:List (Option V)}{H H':Hp}{s:Shared}{h':Heap}
theorem Cx.Ok.V7 (ok:X.Ok) {b:Addr}{o:Obj} (e:X.base.get? b=some o):b∉X.fs:=fun hb=>by
 have:=(ok.qC.mem hb).1
 rw [e] at this; cases this
theorem Inv.bs (I:Inv X pins σ H s):∀ b o,X.base.get? b=some o->s.heap.get? b=some o/\H b=none:=fun b o e =>
 ⟨I.base.keep b o (I.ok.bs b o e).1 (I.ok.bs b o e).2 (I.ok.V7 e) (I.ok.noex b o e),I.base.free b o (I.ok.bs b o e).1 (I.ok.bs b o e).2 (I.ok.noex b o e)⟩
theorem Inv.bk (I:Inv X pins σ H s):∀ b o,X.base.get? b=some o->s.heap.get? b=some o:=fun b o e=>(I.bs b o e).1
theorem Inv.mod (I:Inv X pins σ H s):Mod X.K X.mg X.base:=I.ok.mod
theorem Inv.kIn (I:Inv X pins σ H s):X.K.In s.heap:=I.ok.mod.kin.keeps I.bk
theorem Inv.fr (I:Inv X pins σ H s):∃ m,Fr X.base X.env.locals s.heap m :=
 let ⟨m,hn,_⟩:=I.loc
 ⟨m,hn,I.bk,Ą I.ok.bsz I.ok.above⟩
theorem Inv.lt (I:Inv X pins σ H s):X.env.locals<s.heap.objs.size:=let ⟨_,hn,_⟩:=I.loc; hn.lt
theorem Inv.sz (I:Inv X pins σ H s):X.s₀.heap.objs.size<=s.heap.objs.size:=Ą I.ok.above (Nat.le_of_lt I.lt)
theorem Inv.V6 (I:Inv X pins σ H s) {a:Addr} (h:s.heap.objs.size<=a):a∉X.fs:=fun hb=>by
 obtain⟨_,o,ho,_⟩:=I.ok.qC.mem hb
 exact absurd (å (Ê ho) (Ą I.sz h)) (ć _)
theorem Inv.cne (I:Inv X pins σ H s):∀ x c,X.env.cells.lookup x=some c->c≠X.env.locals:=fun x c e z=>by
 obtain⟨v,o,ho,hd⟩:=I.cell x c e
 obtain⟨m,⟨o',es,ep,ho',hd',_⟩,_⟩:=I.loc
 rw [z,ho'] at ho; cases ho; rw [hd'] at hd; cases hd
theorem Inv.qC (I:Inv X pins σ H s):s.heap.FunFrames X.base X.outer:=by
 have all:∀ (l:List Env),(∀ b∈frs l,b∈X.fs)->X.s₀.heap.FunFrames X.base l->s.heap.FunFrames X.base l:=by
  intro l
  induction l with
  | nil=>intro _ _; trivial
  | cons env r ih =>
   intro hs hl
   obtain⟨hk,⟨L,o,hf,hn,ho,hd⟩,hr⟩:=hl
   have hL:L∈X.fs:=hs L (by unfold frs; rw [Ś,hf]; exact ä)
   obtain⟨sl,e⟩:=I.base.slot L o ho (I.ok.frf L hL) hL fun z=>I.ok.exfs L z hL
   exact⟨hk,⟨L,_,hf,hn,e,hd⟩,ih (fun b hb=>hs b (by unfold frs; rw [Ś,hf]; exact Ù _ hb)) hr⟩
 exact all X.outer (fun _ hb=>hb) I.ok.qC
theorem Inv.stack (I:Inv X pins σ H s):s.heap.FunFrames X.base X.stack:=by
 rcases I.ok.stk with e | ⟨e,hf⟩
 ·rw [e]; exact I.qC
 ·rw [e]
  obtain⟨m,hn,_⟩:=I.loc
  refine .cons (by rw [I.ok.kind]; decide) hf hn ?_ I.qC
  exact Heap.get?_none_of_le (Ą I.ok.bsz I.ok.above)
theorem Inv.v9 (I:Inv X pins σ H s):∀ b∈frs X.stack,b∈X.env.locals::X.fs:=fun b hb=>by
 rcases I.ok.stk with e | ⟨e,hf⟩
 ·rw [e] at hb; exact Ù _ hb
 ·rw [e] at hb
  unfold frs at hb
  rw [Ś,hf] at hb
  exact hb
theorem Inv.wg (I:Inv X pins σ H s):∀ b∈frs X.stack,H b=none:=fun b hb=>by
 rcases Þ.mp (I.v9 b hb) with e | hb
 ·rw [e]; exact I.free
 ·obtain⟨_,o,ho,_⟩:=I.ok.qC.mem hb
  exact I.base.free b o ho (I.ok.frf b hb) fun z=>I.ok.exfs b z hb
theorem Inv.step {g':Array GenState}{t':Nat}{d':Drawn}{ch:List Addr} (I:Inv X pins σ H s)
  (hch:∀ b∈ch,(b∈X.ex\/X.s₀.heap.objs.size<=b)/\b≠X.env.locals/\(∀ x c,X.env.cells.lookup x=some c->c≠b)/\∀ p∈X.pn++pins,p.1≠b)
  (keep:∀ b o,b≠X.env.locals->b∉X.fs->b∉ch->s.heap.get? b=some o->H b=none->h'.get? b=some o)
  (slot:∀ b o,b≠X.env.locals->b∈X.fs->b∉ch->s.heap.get? b=some o->H b=none->∃ sl,h'.get? b=some { o with slots:=sl }) (free:∀ b o,b∉ch->s.heap.get? b=some o->H b=none->H' b=none)
  (there:∀ b o,b∉ch->s.heap.get? b=some o->∃ o',h'.get? b=some o')
  (tups:∀ b xs,H b=some (.tup xs)->H' b=some (.tup xs)) (frzs:∀ b o u,H b=some (.frz o u)->H' b=some (.frz o u)) (tbls:∀ b ps,H b=some (.tbl ps)->∃ more,H' b=some (.tbl (ps++more)))
  (ns:∀ m,s.heap.Ns X.env.locals m->h'.Ns X.env.locals m) (hok:HOk X.prog X.w H' h') (hg:AllBare g') :
  Inv X pins σ H' { s with heap:=h',gens:=g',drawn:=d',toks:=t' }:=by
 have neL:∀ b o,X.s₀.heap.get? b=some o->b≠X.env.locals:=fun b o e=>à (å (Ê e) I.ok.above)
 have neC:∀ b o,X.s₀.heap.get? b=some o->b∉X.ex->b∉ch:=fun b o e hx hb=>by
  rcases (hch b hb).1 with z | z
  ·exact hx z
  ·exact absurd (å (Ê e) z) (ć _)
 have cellK:∀ x c,X.env.cells.lookup x=some c->∀ v,s.heap.IsCell c v->h'.IsCell c v:=fun x c e v ⟨o,ho,hd⟩=>by
  have nch:c∉ch:=fun z=>(hch c z).2.2.1 x c e rfl
  by_cases hc:c∈X.fs
  ·obtain⟨sl,q⟩:=slot c o (I.cne x c e) hc nch ho (I.freeC x c e)
   exact⟨_,q,hd⟩
  ·exact⟨o,keep c o (I.cne x c e) hc nch ho (I.freeC x c e),hd⟩
 refine⟨I.ok,I.os,hg,⟨fun b o e n hb hx=>?_,fun b o e n hb hx=>?_,fun b o e n hx=>?_,fun b o e hx=>?_,fun b xs e=>tups b xs (I.base.tups b xs e),fun b o xs e=>frzs b o xs (I.base.frzs b o xs e),fun b ps e=>?_⟩,?_,fun x c e=>?_,?_,fun x c e=>?_,fun p hp=>?_,hok,I.len⟩
 ·exact keep b o (neL b o e) hb (neC b o e hx) (I.base.keep b o e n hb hx) (I.base.free b o e n hx)
 ·obtain⟨sl,e1⟩:=I.base.slot b o e n hb hx
  obtain⟨sl',e2⟩:=slot b _ (neL b o e) hb (neC b o e hx) e1 (I.base.free b o e n hx)
  exact⟨sl',e2⟩
 ·obtain⟨o',e1⟩:=I.base.there b o e hx
  exact free b o' (neC b o e hx) e1 (I.base.free b o e n hx)
 ·obtain⟨o',e1⟩:=I.base.there b o e hx
  exact there b o' (neC b o e hx) e1
 ·obtain⟨m1,e1⟩:=I.base.tbls b ps e
  obtain⟨m2,e2⟩:=tbls b _ e1
  exact⟨m1++m2,by rw [e2,Array.append_assoc]⟩
 ·obtain⟨m,hn,hl⟩:=I.loc
  refine⟨m,ns m hn,fun i x v e1 e2 e3=>?_⟩
  obtain⟨u,r,l⟩:=hl i x v e1 e2 e3
  refine⟨u,r,?_⟩
  rcases l with l | ⟨k,c,e,z⟩
  ·exact .inl l
  ·exact .inr ⟨k,c,e,cellK x c e _ z⟩
 ·obtain⟨v,z⟩:=I.cell x c e
  exact⟨v,cellK x c e v z⟩
 ·obtain⟨m,⟨o,_,_,ho,_⟩,_⟩:=I.loc
  exact free _ o (fun z=>(hch _ z).2.1 rfl) ho I.free
 ·obtain⟨v,o,ho,hd⟩:=I.cell x c e
  exact free c o (fun z=>(hch c z).2.2.1 x c e rfl) ho (I.freeC x c e)
 ·obtain⟨e,n,ne,nf,d⟩:=I.pin p hp
  have nch:p.1∉ch:=fun z=>(hch p.1 z).2.2.2 p hp rfl
  exact⟨keep p.1 p.2 ne nf nch e n,free p.1 p.2 nch e n,ne,nf,d⟩
theorem Inv.un {t':Nat} (I:Inv X pins σ H s) (u:Un X.fs [] H H' s.heap h') (hok:HOk X.prog X.w H' h'):Inv X pins σ H' { s with heap:=h',toks:=t' }:=by
 obtain⟨m,⟨o,es,ep,ho,r⟩,_⟩:=id I.loc
 obtain⟨sl,hL⟩:=u.any ho I.free (by simp)
 exact I.step (g':=s.gens) (d':=s.drawn) (ch:=[]) (fun _ z=>nomatch z) (fun b o _ hb _ e n=>u.keep b o e n hb (by simp)) (fun b o _ hb _ e n=>u.slot b o e n hb (by simp)) (fun b o _ e n=>u.free b o e n (by simp)) (fun b o _ e=>u.there b o e (by simp)) u.tups u.frzs u.tbls (fun m' hm=>by
  obtain⟨o',es',ep',ho',r'⟩:=hm
  rw [ho] at ho'; cases ho'
  exact⟨_,es',ep',hL,r'⟩) hok I.bare
theorem Inv.call {g':Array GenState}{t':Nat}{d':Drawn}{ch:List Addr} (I:Inv X pins σ H s) (u:Un (frs X.stack) ch H H' s.heap h') (hok:HOk X.prog X.w H' h') (hg:AllBare g')
  (hch:∀ b∈ch,(b∈X.ex\/X.s₀.heap.objs.size<=b)/\b≠X.env.locals/\(∀ x c,X.env.cells.lookup x=some c->c≠b)/\∀ p∈X.pn++pins,p.1≠b) :
  Inv X pins σ H' { s with heap:=h',gens:=g',drawn:=d',toks:=t' }:=by
 obtain⟨m,⟨o,es,ep,ho,r⟩,_⟩:=id I.loc
 obtain⟨sl,hL⟩:=u.any ho I.free fun z=>(hch _ z).2.1 rfl
 exact I.step (ch:=ch) hch (fun b o hL hb hc e n=>u.keep b o e n (fun z=>(Þ.mp (I.v9 b z)).elim hL hb) hc) (fun b o _ _ hc e n=>u.any e n hc) (fun b o hc e n=>u.free b o e n hc) (fun b o hc e=>u.there b o e hc) u.tups u.frzs u.tbls (fun m' hm=>by
  obtain⟨o',es',ep',ho',r'⟩:=hm
  rw [ho] at ho'; cases ho'
  exact⟨_,es',ep',hL,r'⟩) hok hg
theorem Inv.turned {t':Nat}{it:Addr} (I:Inv X pins σ H s) (k:∀ b o,b≠it->s.heap.get? b=some o->h'.get? b=some o) (hn:H it=none) (hL:it≠X.env.locals)
  (h1:it∈X.ex\/X.s₀.heap.objs.size<=it) (h2:∀ x c,X.env.cells.lookup x=some c->c≠it) (h3:∀ p∈X.pn++pins,p.1≠it):Inv X pins σ H { s with heap:=h',toks:=t' }:=by
 have nit:∀ b u,H b=some u->b≠it:=fun b u e z=>by rw [z,hn] at e; cases e
 refine I.step (g':=s.gens) (d':=s.drawn) (ch:=[it]) (fun b hb=>?_) (fun b o _ _ hc e _=>k b o (fun z=>hc (by simp [z])) e) (fun b o _ _ hc e _=>⟨o.slots,k b o (fun z=>hc (by simp [z])) e⟩) (fun _ _ _ _ n=>n)
  (fun b o hc e=>⟨o,k b o (fun z=>hc (by simp [z])) e⟩) (fun _ _ e=>e) (fun _ _ _ e=>e) (fun b ps e=>⟨#[],by rw [e]; simp⟩) (fun m hm=>?_) (fun b u e=>?_) I.bare
 ·have e:b=it:=by simpa using hb
  subst e
  exact⟨h1,hL,h2,h3⟩
 ·obtain⟨o,es,ep,ho,r⟩:=hm
  exact⟨o,es,ep,k _ o (Ć hL) ho,r⟩
 ·refine (I.hok b u e).stay (fun c v hc q=>k c v ?_ q) (fun _ q=>q) fun _ _ q=>q
  rcases hc with z | z
  ·rw [z]; exact nit b u e
  ·exact nit c _ z
theorem Inv.tok (I:Inv X pins σ H s) (t:Nat):Inv X pins σ H { s with toks:=t }:=I.un (h':=s.heap) (t':=t) Un.refl I.hok
theorem Inv.kept {t':Nat} (I:Inv X pins σ H s) (k:∀ b u,s.heap.get? b=some u->h'.get? b=some u):Inv X pins σ H { s with heap:=h',toks:=t' }:=I.un (Un.kept k) (I.hok.kept k)
theorem Inv.laid {a:Addr}{o:HO}{t':Nat} (I:Inv X pins σ H s) (k:∀ b u,s.heap.get? b=some u->h'.get? b=some u) (hp:s.heap.objs.size<=a) (new:aP X.prog X.w (upd H a o) h' a o) :
  Inv X pins σ (upd H a o) { s with heap:=h',toks:=t' }:=I.un (Un.laid k hp (I.hok.fresh hp)) (I.hok.laid k hp new)
theorem Inv.write {x e:Addr}{o:HO}{t':Nat} (I:Inv X pins σ H s) (mu:Mut (H x)) (he:e=x\/H e=some (.own x)) (k:∀ b u,b≠e->s.heap.get? b=some u->h'.get? b=some u) (heo:∃ u,h'.get? e=some u)
  (new:aP X.prog X.w (upd H x o) h' x o):Inv X pins σ (upd H x o) { s with heap:=h',toks:=t' }:=I.un (Un.write mu he k heo) (I.hok.write mu he k heo new)
theorem Inv.qL {pins':List (Addr×Obj)} (I:Inv X pins σ H s) (h:∀ p∈pins',s.heap.get? p.1=some p.2/\H p.1=none/\p.1≠X.env.locals/\p.1∉X.fs/\∀ v,p.2.data≠.cell v):Inv X pins' σ H s :=
 ⟨I.ok,I.os,I.bare,I.base,I.loc,I.cell,I.free,I.freeC,fun p hp=>(ñ.mp hp).elim (fun z=>I.pin p (í _ z)) (h p),I.hok,I.len⟩
theorem tE {N:List Str} (hN:N.Nodup) {i j:Nat}{x:Str} (a:N[i]?=some x) (b:N[j]?=some x):i=j:=by
 obtain⟨h1,e1⟩:=Æ.mp a
 obtain⟨h2,e2⟩:=Æ.mp b
 exact (List.getElem_inj hN).mp (e1.trans e2.symm)
theorem uT {M:Model}{A:Around}{E:Value->Shared->Prop}{i:Nat}{x:Str}{v:V}{u:Value}{Q:Unit->Shared->Prop} (I:Inv X pins σ H s) (hU:∀ j,X.N[j]?=some x->j=i) (hi:X.N[i]?=some x) (hx:Loc X.env.scope x) (r:RelV v u)
  (h:∀ s',Inv X pins (σ.set i (some v)) H s'->(∃ a,Heap.SameBut a s.heap s'.heap/\(a=X.env.locals\/X.env.cells.lookup x=some a))->Q () s') (hf:X.fn x=true\/X.env.scope.names.lookup x=some .local:=by first | exact .inl rfl | exact .inr rfl | assumption):wpAny M A (storeName X.env x u) Q E s:=by
 obtain⟨m,hn,hl⟩:=id I.loc
 have hcls:(X.env.scope.kind == .class || (X.env.scope.kind == .module&&X.env.locals != X.env.globals))=false:=by rw [I.ok.kind]; rfl
 have hiσ:i<σ.length:=by rw [I.len]; exact (Æ.mp hi).1
 have cne:=I.cne
 have tracked:∀ {a:Addr}{h':Heap},(∃ o,s.heap.get? a=some o/\H a=none)->Heap.SameBut a s.heap h'->HOk X.prog X.w H h':=fun {a h'} ha hs b ob e=>by
  obtain⟨_,_,hfree⟩:=ha
  refine (I.hok b ob e).stay (fun c w' hc q=>(hs.2 c ?_).trans q) (fun _ q=>q) fun _ _ q=>q
  rintro rfl
  rcases hc with rfl | hc
  ·rw [hfree] at e; cases e
  ·rw [hfree] at hc; cases hc
 rcases hx with hk | hk
 ·refine wpAny_storeName_local hk hn (fun h' hn' hs=>?_) hcls
  obtain⟨oL,_,_,hoL,_⟩:=id hn
  refine h _ ⟨I.ok,I.os,I.bare,⟨fun b o e n hb hx=>?_,fun b o e n hb hx=>?_,I.base.free,fun b o e hx=>?_,I.base.tups,I.base.frzs,I.base.tbls⟩,⟨_,hn',fun j y v' e1 e2 e3=>?_⟩,fun y c e=>?_,I.free,I.freeC,fun p hp=>?_,tracked ⟨oL,hoL,I.free⟩ hs,by simpa using I.len⟩ ⟨_,hs,.inl rfl⟩
  ·exact (hs.2 b (à (å (Ê e) I.ok.above))).trans (I.base.keep b o e n hb hx)
  ·obtain⟨sl,e1⟩:=I.base.slot b o e n hb hx
   exact⟨sl,(hs.2 b (à (å (Ê e) I.ok.above))).trans e1⟩
  ·obtain⟨o',e1⟩:=I.base.there b o e hx
   exact⟨o',(hs.2 b (à (å (Ê e) I.ok.above))).trans e1⟩
  ·by_cases hj:j=i
   ·subst hj
    rw [hi] at e1; cases e1
    rw [Ĉ hiσ] at e2
    cases e2
    exact⟨u,r,.inl ⟨hk,by simp⟩⟩
   ·rw [Ĥ (Ć hj)] at e2
    obtain⟨u',r',q⟩:=hl j y v' e1 e2 e3
    refine⟨u',r',?_⟩
    rcases q with ⟨k,e⟩ | ⟨k,c,e,z⟩
    ·refine .inl ⟨k,?_⟩
     have:y≠x:=fun e=>hj (hU _ (e ▸ e1))
     simp [this,e]
    ·exact .inr ⟨k,c,e,z.sameBut hs (cne y c e)⟩
  ·obtain⟨w',z⟩:=I.cell y c e
   exact⟨w',z.sameBut hs (cne y c e)⟩
  ·obtain⟨e,n,ne,nf,d⟩:=I.pin p hp
   exact⟨(hs.2 p.1 ne).trans e,n,ne,nf,d⟩
 ·have hfn:X.fn x=true:=by
   rcases hf with z | z
   ·exact z
   ·rw [z] at hk; cases hk
  obtain⟨c,hc⟩:=I.ok.has x (.inl hk)
  obtain⟨w',z⟩:=I.cell x c hc
  refine wpAny_storeName_cell I.ok.kind hk hc z (fun h' hc' hs=>?_)
  obtain⟨oc,hoc,hocd⟩:=id z
  refine h { s with heap:=h' } ⟨I.ok,I.os,I.bare,⟨fun b o e n hb hx=>?_,fun b o e n hb hx=>?_,I.base.free,fun b o e hx=>?_,I.base.tups,I.base.frzs,I.base.tbls⟩,⟨m,hn.sameBut hs (Ć (cne x c hc)),fun j y v' e1 e2 e3=>?_⟩,fun y c' e=>?_,I.free,I.freeC,fun p hp=>?_,tracked ⟨oc,hoc,I.freeC x c hc⟩ hs,by simpa using I.len⟩ ⟨c,hs,.inr hc⟩
  ·exact (hs.2 b (à (å (Ê e) (I.ok.cab x c hfn hc)))).trans (I.base.keep b o e n hb hx)
  ·obtain⟨sl,e1⟩:=I.base.slot b o e n hb hx
   exact⟨sl,(hs.2 b (à (å (Ê e) (I.ok.cab x c hfn hc)))).trans e1⟩
  ·obtain⟨o',e1⟩:=I.base.there b o e hx
   exact⟨o',(hs.2 b (à (å (Ê e) (I.ok.cab x c hfn hc)))).trans e1⟩
  ·by_cases hj:j=i
   ·subst hj
    rw [hi] at e1; cases e1
    rw [Ĉ hiσ] at e2
    cases e2
    exact⟨u,r,.inr ⟨.inl hk,c,hc,hc'⟩⟩
   ·rw [Ĥ (Ć hj)] at e2
    obtain⟨u',r',q⟩:=hl j y v' e1 e2 e3
    refine⟨u',r',?_⟩
    rcases q with q | ⟨k,c',e,z'⟩
    ·exact .inl q
    ·refine .inr ⟨k,c',e,z'.sameBut hs ?_⟩
     rintro rfl
     exact hj (hU _ (I.ok.inj _ _ _ e hc ▸ e1))
  ·by_cases hcc:c'=c
   ·subst hcc; exact⟨_,hc'⟩
   ·obtain⟨w2,z2⟩:=I.cell y c' e
    exact⟨w2,z2.sameBut hs hcc⟩
  ·obtain⟨e,n,ne,nf,d⟩:=I.pin p hp
   refine⟨(hs.2 p.1 ?_).trans e,n,ne,nf,d⟩
   intro q
   rw [q,hoc] at e
   have q':oc=p.2:=Õ e
   exact d w' (by rw [← q']; exact hocd)
theorem rJ {M:Model}{A:Around}{E:Value->Shared->Prop}{i:Nat}{x:Str}{v:V}{u:Value}{Q:Unit->Shared->Prop} (I:Inv X pins σ H s) (hN:X.N.Nodup) (hi:X.N[i]?=some x) (hx:Loc X.env.scope x) (r:RelV v u)
  (h:∀ s',Inv X pins (σ.set i (some v)) H s'->Q () s') (hf:X.fn x=true\/X.env.scope.names.lookup x=some .local:=by first | exact .inl rfl | exact .inr rfl | assumption):wpAny M A (storeName X.env x u) Q E s :=
 uT I (fun j h=>tE hN h hi) hi hx r (fun s' I' _=>h s' I') hf
theorem Inv.call' {s':Shared}{ch:List Addr} (I:Inv X pins σ H s) (ho:s'.os=s.os) (u:Un (frs X.stack) ch H H' s.heap s'.heap) (hok:HOk X.prog X.w H' s'.heap) (hg:AllBare s'.gens)
  (hch:∀ b∈ch,(b∈X.ex\/X.s₀.heap.objs.size<=b)/\b≠X.env.locals/\(∀ x c,X.env.cells.lookup x=some c->c≠b)/\∀ p∈X.pn++pins,p.1≠b):Inv X pins σ H' s':=by
 obtain⟨h',g',d',t',o'⟩:=s'
 have e:o'=s.os:=ho
 subst e
 exact I.call (g':=g') (t':=t') (d':=d') u hok hg hch
end
abbrev XK:=Value->Option Addr->Hp->Prop
abbrev St:=List (Option V)
abbrev VK:=V->Hp->Prop
abbrev TE:=St->Hp->VK->Prop
abbrev TT:=St->Hp->(Bool->Hp->Prop)->Prop
abbrev TA:=St->Hp->(List V->Hp->Prop)->Prop
structure Ends where
 nx:St->Hp->Prop
 rt:VK
 bk:St->Hp->Prop:=fun _ _=>False
 ct:St->Hp->Prop:=fun _ _=>False
abbrev TS:=Ends->St->Hp->Prop
def EP (X:Cx) (pins:List (Addr×Obj)) (σ:St) (Q:VK) (u:Value) (s':Shared):Prop:=∃ v H',Inv X pins σ H' s'/\RelV v u/\Q v H'
def TP (X:Cx) (pins:List (Addr×Obj)) (σ:St) (Q:Bool->Hp->Prop) (b:Bool) (s':Shared):Prop:=∃ H',Inv X pins σ H' s'/\Q b H'
def AP (X:Cx) (pins:List (Addr×Obj)) (σ:St) (Q:List V->Hp->Prop) (us:List Value) (s':Shared):Prop:=∃ vs H',Inv X pins σ H' s'/\Vals vs us/\Q vs H'
def SP (X:Cx) (pins:List (Addr×Obj)) (D:Ends) (f:Flow) (s':Shared):Prop :=
 match f with
 | .next=>∃ σ' H',Inv X pins σ' H' s'/\D.nx σ' H'
 | .brk=>∃ σ' H',Inv X pins σ' H' s'/\D.bk σ' H'
 | .cont=>∃ σ' H',Inv X pins σ' H' s'/\D.ct σ' H'
 | .ret u=>∃ v σ' H',Inv X pins σ' H' s'/\RelV v u/\D.rt v H'
def PE (X:Cx) (e:Expr) (t:TE):Prop :=
 ∀ (pins:List (Addr×Obj)) (s:Shared) (σ:St) (H:Hp) (Q:VK),Inv X pins σ H s->t σ H Q->wpAny (model X.prog X.w) X.A (eval e X.env) (EP X pins σ Q) X.xe s
def PT (X:Cx) (e:Expr) (t:TT):Prop :=
 ∀ (pins:List (Addr×Obj)) (s:Shared) (σ:St) (H:Hp) (Q:Bool->Hp->Prop),Inv X pins σ H s->t σ H Q->wpAny (model X.prog X.w) X.A (isTrue e X.env (eval e X.env)) (TP X pins σ Q) X.xe s
def PW (X:Cx) (e:Expr) (t:TT):Prop :=
 ∀ (whole:Sem Value) (pins:List (Addr×Obj)) (s:Shared) (σ:St) (H:Hp) (Q:Bool->Hp->Prop),Inv X pins σ H s->t σ H Q->wpAny (model X.prog X.w) X.A (isTrue e X.env whole) (TP X pins σ Q) X.xe s
theorem PW.pt {X:Cx}{e:Expr}{t:TT} (h:PW X e t):PT X e t:=h _
def PA (X:Cx) (es:List Expr) (t:TA):Prop :=
 ∀ (pos:Pos) (pins:List (Addr×Obj)) (s:Shared) (σ:St) (H:Hp) (Q:List V->Hp->Prop),Inv X pins σ H s->t σ H Q->wpAny (model X.prog X.w) X.A (spliced (backTo pos (starEach es X.env))) (AP X pins σ Q) X.xe s
def PS (X:Cx) (st:Stmt) (t:TS):Prop :=
 ∀ (pins:List (Addr×Obj)) (s:Shared) (σ:St) (H:Hp) (D:Ends),Inv X pins σ H s->t D σ H->wpAny (model X.prog X.w) X.A (exec st X.env) (SP X pins D) X.xe s
def PSs (X:Cx) (st:List Stmt) (t:TS):Prop :=
 ∀ (pins:List (Addr×Obj)) (s:Shared) (σ:St) (H:Hp) (D:Ends),Inv X pins σ H s->t D σ H->wpAny (model X.prog X.w) X.A (execs st X.env) (SP X pins D) X.xe s
theorem thn {α:Type}{t:Sem α}{Q Q':α->Shared->Prop}{M:Model}{A:Around}{E:Value->Shared->Prop}{s:Shared} (h:wpAny M A t Q E s) (hQ:∀ a s,Q a s->Q' a s):wpAny M A t Q' E s:=Ĳ h hQ fun _ _ x=>x
section
variable {X:Cx}
theorem bin {a b:Expr}{ta tb:TE} (ha:PE X a ta) (hb:PE X b tb) {pins:List (Addr×Obj)}{s:Shared}{σ:St}{H:Hp}{R:V->V->Hp->Prop} (I:Inv X pins σ H s) (h:ta σ H fun x H1=>tb σ H1 fun y H2=>R x y H2)
  {α:Type}{Q:α->Shared->Prop}{f:Value->Value->Sem α}
  (hf:∀ v u s2 x y H2,Inv X pins σ H2 s2->RelV x v->RelV y u->R x y H2->wpAny (model X.prog X.w) X.A (f v u) Q X.xe s2) :
  wpAny (model X.prog X.w) X.A (eval a X.env) (fun v s₁=>wpAny (model X.prog X.w) X.A (eval b X.env) (fun u s₂=>wpAny (model X.prog X.w) X.A (f v u) Q X.xe s₂) X.xe s₁) X.xe s:=by
 refine thn (ha pins s σ H _ I h) fun v s1 ⟨x,H1,I1,r1,q1⟩=>?_
 refine thn (hb pins s1 σ H1 _ I1 q1) fun u s2 ⟨y,H2,I2,r2,q2⟩=>?_
 exact hf v u s2 x y H2 I2 r1 r2 q2
def qj (i:Nat):TE:=fun σ H Q=>∃ v,σ[i]?=some (some v)/\Q v H
def tC (v:V):TE:=fun _ H Q=>Q v H
theorem Rr {i:Nat}{x:Str}{pos:Pos} (hN:X.N[i]?=some x) (hv:Vis X.env.scope x) (hd:(x == ("__debug__":Str))=false:=by decide) (hcd:(x == ("__classdict__":Str))=false:=by decide):PE X (.Name x pos) (qj i):=by
 intro pins s σ H Q I h
 obtain⟨v,e,h⟩:=h
 obtain⟨m,hn,hl⟩:=I.loc
 obtain⟨u,r,l⟩:=hl i x v hN e hv
 have fin:EP X pins σ Q u s:=⟨v,H,I,r,h⟩
 rcases l with ⟨hk,hm⟩ | ⟨hk,c,hc,hcell⟩
 ·exact wpAny_Name (wpAny_loadName_local I.ok.kind hk hn hm fin) hd
 ·rcases hk with hk | hk
  ·exact wpAny_Name (wpAny_loadName_cell I.ok.kind hk hc hcell fin) hd
  ·exact wpAny_Name (wpAny_loadName_free I.ok.kind hk hc hcell fin hcd) hd
theorem JD {i j pos}:PE X (.Constant (.int i) j pos) (tC (.int i)):=fun _ _ _ H _ I h=>wpAny_Constant_int ⟨.int i,H,I.tok _,⟨_,rfl⟩,h⟩
theorem Qd {b j pos}:PE X (.Constant (.bool b) j pos) (tC (.bl b)):=fun _ _ _ H _ I h=>Constant_bool ⟨.bl b,H,I,rfl,h⟩
theorem wI {j pos}:PE X (.Constant .none j pos) (tC .non):=fun _ _ _ H _ I h=>Constant_none ⟨.non,H,I,rfl,h⟩
theorem Ru {x j pos}:PE X (.Constant (.str x) j pos) (tC (.str x)):=fun _ _ _ H _ I h=>Calls.Constant_str ⟨.str x,H,I.tok _,⟨_,rfl⟩,h⟩
def Gl (X:Cx) (x:Str):Prop:=X.env.kindOf x=some .globalImplicit
theorem mR {E:Value->Shared->Prop}{pins:List (Addr×Obj)}{s:Shared}{σ:St}{H:Hp}{x:Str}{u:Value}{pos:Pos}{Q:Value->Shared->Prop} (I:Inv X pins σ H s) (hg:Gl X x) (hm:X.mg x=some u) (h:Q u s)
  (hd:(x == ("__debug__":Str))=false:=by decide):wpAny (model X.prog X.w) X.A (eval (.Name x pos) X.env) Q E s :=
 Calls.Name_function_global I.ok.kind hg (Calls.loadGlobal_global (by rw [I.ok.glob]; exact I.mod.glob.keeps I.bk) hm h) hd
theorem dF {E:Value->Shared->Prop}{pins:List (Addr×Obj)}{s:Shared}{σ:St}{H:Hp}{x:Str}{u:Value}{pos:Pos}{Q:Value->Shared->Prop} (I:Inv X pins σ H s) (hg:Gl X x) (hm:X.mg x=none) (hv:bootBuiltins x=some u) (h:Q u s)
  (hn:x≠"__name__":=by decide) (hd:(x == ("__debug__":Str))=false:=by decide):wpAny (model X.prog X.w) X.A (eval (.Name x pos) X.env) Q E s:=by
 obtain⟨mb,h1,h2⟩:=I.mod.blt
 exact Calls.Name_function_global I.ok.kind hg (Calls.loadGlobal_builtin (by rw [I.ok.glob]; exact I.mod.glob.keeps I.bk) hm (by rw [I.ok.blt]; exact h1.keeps I.bk) ((h2 x hn).trans hv) h) hd
theorem cX {x:Str}{v:V}{u:Value}{pos:Pos} (hg:Gl X x) (hm:X.mg x=some u) (r:RelV v u) (hd:(x == ("__debug__":Str))=false:=by decide):PE X (.Name x pos) (tC v) :=
 fun _ _ _ H _ I h=>mR I hg hm ⟨v,H,I,r,h⟩ hd
theorem qM {x:Str}{v:V}{u:Value}{pos:Pos} (hg:Gl X x) (hm:X.mg x=none) (hv:bootBuiltins x=some u) (r:RelV v u) (hn:x≠"__name__":=by decide) (hd:(x == ("__debug__":Str))=false:=by decide):PE X (.Name x pos) (tC v) :=
 fun _ _ _ H _ I h=>dF I hg hm hv ⟨v,H,I,r,h⟩ hn hd
variable {a b:Expr}{ta tb:TE}{pos:Pos}
def PC (X:Cx) (op:CmpOp) (a b:Expr) (t:TE):Prop :=
 ∀ (pins:List (Addr×Obj)) (s:Shared) (σ:St) (H:Hp) (Q:VK),Inv X pins σ H s->t σ H Q ->
  wpAny (model X.prog X.w) X.A (eval a X.env) (fun v s₁=>wpAny (model X.prog X.w) X.A (eval b X.env) (fun u s₂=>wpAny (model X.prog X.w) X.A (compareOp op v u) (EP X pins σ Q) X.xe s₂) X.xe s₁) X.xe s
def tB (t:TE):TT:=fun σ H Q=>t σ H fun x H1=>∃ c,x=.bl c/\Q c H1
theorem Rb {op:CmpOp}{t:TE} (h:PC X op a b t) (h1:behindInMarks op b=false:=by first | exact nobehind _ (by decide) (by decide) | rfl):PT X (.Compare a [op] [b] pos) (tB t):=by
 intro pins s σ H Q I hw
 refine wpAny_isTrue_Compare1 (thn (h pins s σ H _ I hw) fun v s1 h1=>thn h1 fun u s2 h2=>thn h2 fun c s3 ⟨x,H1,I1,r1,q1⟩=>?_) h1
 obtain⟨d,rfl,q⟩:=q1
 cases r1
 exact ĭ ⟨H1,I1,q⟩
theorem Jp {e:Expr}{t:TE} (h:PE X e t) (he:∀ whole,isTrue e X.env whole=(do let v ← whole; standAt e.pos; holding [v] (truthy v)):=by intro _; rfl):PT X e (tB t):=by
 intro pins s σ H Q I hw
 refine isTrue_plain (thn (h pins s σ H _ I hw) fun v s1 ⟨x,H1,I1,r1,q1⟩=>?_) (he _)
 obtain⟨d,rfl,q⟩:=q1
 cases r1
 exact ĭ ⟨H1,I1,q⟩
variable {tA tB':TT}{rest:List Expr}
def Uh (t u:TT):TT:=fun σ H Q=>t σ H fun c H1=>if c=true then u σ H1 Q else Q false H1
def tOr (t u:TT):TT:=fun σ H Q=>t σ H fun c H1=>if c=true then Q true H1 else u σ H1 Q
def VN (t:TT):TT:=fun σ H Q=>t σ H fun c H1=>Q (!c) H1
theorem Eu (ha:PT X a tA):PW X (.BoolOp .And [a] pos) tA:=by
 intro wh pins s σ H Q I h
 refine isTrue_and (thn (ha pins s σ H Q I h) fun c s1 e=>?_)
 cases c with
 | true=>exact isTrue_and_nil e
 | false=>exact e
theorem Q7 (ha:PT X a tA):PW X (.BoolOp .Or [a] pos) tA:=by
 intro wh pins s σ H Q I h
 refine isTrue_or (thn (ha pins s σ H Q I h) fun c s1 e=>?_)
 cases c with
 | false=>exact isTrue_or_nil e
 | true=>exact e
theorem Jm (ha:PT X a tA) (hb:PW X (.BoolOp .And (b::rest) pos) tB'):PW X (.BoolOp .And (a::b::rest) pos) (Uh tA tB'):=by
 intro wh pins s σ H Q I h
 refine isTrue_and (thn (ha pins s σ H _ I h) fun c s1 ⟨H1,I1,q1⟩=>?_)
 cases c with
 | true=>exact hb wh pins s1 σ H1 Q I1 q1
 | false=>exact⟨H1,I1,q1⟩
theorem Ut (ha:PT X a tA) (hb:PW X (.BoolOp .Or (b::rest) pos) tB'):PW X (.BoolOp .Or (a::b::rest) pos) (tOr tA tB'):=by
 intro wh pins s σ H Q I h
 refine isTrue_or (thn (ha pins s σ H _ I h) fun c s1 ⟨H1,I1,q1⟩=>?_)
 cases c with
 | true=>exact⟨H1,I1,q1⟩
 | false=>exact hb wh pins s1 σ H1 Q I1 q1
theorem Ra (ha:PT X a tA):PT X (.UnaryOp .Not a pos) (VN tA):=by
 intro pins s σ H Q I h
 exact isTrue_not (ha pins s σ H (fun c H1=>Q (!c) H1) I h)
def Ug (ta tb:TE):TE:=fun σ H Q=>ta σ H fun x H1=>∃ c,x=.bl c/\if c=true then tb σ H1 Q else Q (.bl false) H1
def VL (ta tb:TE):TE:=fun σ H Q=>ta σ H fun x H1=>∃ c,x=.bl c/\if c=true then Q (.bl true) H1 else tb σ H1 Q
def Ua (ta:TE):TE:=fun σ H Q=>ta σ H fun x H1=>∃ c,x=.bl c/\Q (.bl (!c)) H1
theorem JC {op}{t:TE} (h:PE X a t):PE X (.BoolOp op [a] pos) t:=fun pins s σ H Q I hw=>BoolOp_one (h pins s σ H Q I hw)
theorem JK (ha:PE X a ta) (hb:PE X (.BoolOp .And (b::rest) pos) tb):PE X (.BoolOp .And (a::b::rest) pos) (Ug ta tb):=by
 intro pins s σ H Q I h
 refine BoolOp_and (thn (ha pins s σ H _ I h) fun v s1 ⟨x,H1,I1,r1,q1⟩=>?_)
 obtain⟨c,rfl,q1⟩:=q1
 cases r1
 refine ĭ ?_
 cases c with
 | true=>exact hb pins s1 σ H1 Q I1 q1
 | false=>exact⟨.bl false,H1,I1,rfl,q1⟩
theorem Uy (ha:PE X a ta) (hb:PE X (.BoolOp .Or (b::rest) pos) tb):PE X (.BoolOp .Or (a::b::rest) pos) (VL ta tb):=by
 intro pins s σ H Q I h
 refine BoolOp_or (thn (ha pins s σ H _ I h) fun v s1 ⟨x,H1,I1,r1,q1⟩=>?_)
 obtain⟨c,rfl,q1⟩:=q1
 cases r1
 refine ĭ ?_
 cases c with
 | false=>exact hb pins s1 σ H1 Q I1 q1
 | true=>exact⟨.bl true,H1,I1,rfl,q1⟩
theorem Rv (ha:PE X a ta):PE X (.UnaryOp .Not a pos) (Ua ta):=by
 intro pins s σ H Q I h
 refine UnaryOp_ (thn (ha pins s σ H _ I h) fun v s1 ⟨x,H1,I1,r1,q1⟩=>?_)
 obtain⟨c,rfl,q1⟩:=q1
 cases r1
 exact not_of (ĭ ⟨.bl (!c),H1,I1,rfl,q1⟩)
def tIf (t:TT) (ta tb:TE):TE:=fun σ H Q=>t σ H fun c H1=>if c=true then ta σ H1 Q else tb σ H1 Q
theorem JF {c:Expr} (hc:PT X c tA) (ha:PE X a ta) (hb:PE X b tb):PE X (.IfExp c a b pos) (tIf tA ta tb):=by
 intro pins s σ H Q I h
 refine wpAny_IfExp (thn (hc pins s σ H _ I h) fun d s1 ⟨H1,I1,q1⟩=>?_)
 cases d with
 | true=>exact ha pins s1 σ H1 Q I1 q1
 | false=>exact hb pins s1 σ H1 Q I1 q1
end
def SqL (K:Ü) (H:Hp) (a:Addr) (xs:List V):Prop :=
 Rd H a (.lst xs) ∨
  ∃ (o:Obj) (its:Array Value) (n:Nat),K.lookup a=some o/\o.cls=.type "list"/\o.dict=none/\o.data=.seq its n/\its.size<=sizeLine/\Vals xs its.toList
def SqT (K:Ü) (H:Hp) (a:Addr) (xs:List V):Prop :=
 Rd H a (.tup xs) ∨
  ∃ (o:Obj) (its:Array Value) (n:Nat),K.lookup a=some o/\o.cls=.type "tuple"/\o.data=.seq its n/\its.size<=sizeLine/\Vals xs its.toList
def Wi:Value->Option V
 | .none=>some .non
 | .bool b=>some (.bl b)
 | .int i _=>some (.int i)
 | .str x _=>some (.str x)
 | .bytes b _=>some (.byt b)
 | .float b _=>some (.flt b)
 | .ref a=>some (.ref a)
 | .type n=>some (.ty n)
 | _=>none
theorem RelV.abs {x:V}{u:Value} (r:RelV x u):Wi u=some x:=by
 cases x with
 | non=>cases r; rfl
 | bl _=>cases r; rfl
 | int _=>obtain⟨t,rfl⟩:=r; rfl
 | str _=>obtain⟨t,rfl⟩:=r; rfl
 | byt _=>obtain⟨t,rfl⟩:=r; rfl
 | flt _=>obtain⟨t,rfl⟩:=r; rfl
 | ref _=>cases r; rfl
 | ty _=>cases r; rfl
theorem RelV.inj {x y:V}{u:Value} (r:RelV x u) (q:RelV y u):x=y:=Õ (r.abs.symm.trans q.abs)
theorem Vals.inj:∀ {xs ys:List V}{us:List Value},Vals xs us->Vals ys us->xs=ys
 | _,_,_,.nil,.nil=>rfl
 | _,_,_,.cons r t,.cons r' t'=>by rw [r.inj r',Vals.inj t t']
section
variable {X:Cx}{pins:List (Addr×Obj)}{σ:St}{H:Hp}{s:Shared}{a:Addr}{xs ys:List V}
theorem SqL.of {K:Ü} (h:H a=some (.lst xs)):SqL K H a xs:=.inl (.inl h)
theorem SqT.of {K:Ü} (h:H a=some (.tup xs)):SqT K H a xs:=.inl (.inl h)
theorem Inv.list (I:Inv X pins σ H s) (h:SqL X.K H a xs):∃ its:List Value,Vals xs its/\PlainL s.heap a its.toArray/\xs.length<=sizeLine:=by
 rcases h with h | ⟨o,its,n,hk,hc,hd,hs,hz,r⟩
 ·obtain⟨z,its,n,r,e⟩:=h.ok I.hok
  exact⟨its,r,⟨_,n,e,rfl,rfl,rfl⟩,z⟩
 ·refine⟨its.toList,r,⟨o,n,I.kIn a o hk,hc,hd,by simpa using hs⟩,?_⟩
  have e:=r.length
  simp only [Ď] at e
  omega
theorem Inv.tuple (I:Inv X pins σ H s) (h:SqT X.K H a xs):∃ its:List Value,Vals xs its/\IsTup s.heap a its.toArray/\xs.length<=sizeLine:=by
 rcases h with h | ⟨o,its,n,hk,hc,hs,hz,r⟩
 ·obtain⟨z,its,r,p⟩:=h.ok I.hok
  exact⟨its,r,p,z⟩
 ·refine⟨its.toList,r,⟨o,I.kIn a o hk,hc,n,by simpa using hs⟩,?_⟩
  have e:=r.length
  simp only [Ď] at e
  omega
theorem Inv.mO (I:Inv X pins σ H s) (h:SqL X.K H a xs) (h':SqL X.K H a ys):xs=ys:=by
 obtain⟨its,r,⟨o,n,e,_,_,d⟩,_⟩:=I.list h
 obtain⟨its',r',⟨o',n',e',_,_,d'⟩,_⟩:=I.list h'
 rw [e] at e'; cases e'
 rw [d] at d'
 injection d' with d1 _
 have:its=its':=by simpa using congrArg Array.toList d1
 subst this
 exact r.inj r'
theorem Inv.uP (I:Inv X pins σ H s) (h:SqT X.K H a xs) (h':SqT X.K H a ys):xs=ys:=by
 obtain⟨its,r,⟨o,e,_,n,d⟩,_⟩:=I.tuple h
 obtain⟨its',r',⟨o',e',_,n',d'⟩,_⟩:=I.tuple h'
 rw [e] at e'; cases e'
 rw [d] at d'
 injection d' with d1 _
 have:its=its':=by simpa using congrArg Array.toList d1
 subst this
 exact r.inj r'
end
abbrev Cx.wish (X:Cx) (E:Value->Shared->Prop):Cx:={ X with xe:=E }
abbrev Cx.nox (X:Cx):Cx:=X.wish fun _ _=>False
theorem Cx.Ok.wish {X:Cx} (ok:X.Ok) (E:Value->Shared->Prop):(X.wish E).Ok :=
 ⟨ok.mod,ok.kind,ok.glob,ok.blt,ok.above,ok.inj,ok.has,ok.cab,ok.hd,ok.frames,ok.stk,ok.exf,ok.bs,ok.bsz,ok.noex,ok.exfs,ok.qC,ok.frf,ok.sof⟩
theorem Cx.Ok.gK {X:Cx}{E:Value->Shared->Prop} (ok:(X.wish E).Ok):X.Ok :=
 ⟨ok.mod,ok.kind,ok.glob,ok.blt,ok.above,ok.inj,ok.has,ok.cab,ok.hd,ok.frames,ok.stk,ok.exf,ok.bs,ok.bsz,ok.noex,ok.exfs,ok.qC,ok.frf,ok.sof⟩
section
variable {X:Cx}{pins:List (Addr×Obj)}{σ:St}{H:Hp}{s:Shared}{E:Value->Shared->Prop}
theorem Inv.wish (I:Inv X pins σ H s) (E:Value->Shared->Prop):Inv (X.wish E) pins σ H s:=⟨I.ok.wish E,I.os,I.bare,I.base,I.loc,I.cell,I.free,I.freeC,I.pin,I.hok,I.len⟩
theorem Inv.gK (I:Inv (X.wish E) pins σ H s):Inv X pins σ H s:=⟨I.ok.gK,I.os,I.bare,I.base,I.loc,I.cell,I.free,I.freeC,I.pin,I.hok,I.len⟩
theorem SP.gK {D:Ends}{f:Flow}{s':Shared} (h:SP (X.wish E) pins D f s'):SP X pins D f s':=by
 cases f with
 | next=>obtain⟨σ',H',I,q⟩:=h; exact⟨σ',H',I.gK,q⟩
 | brk=>obtain⟨σ',H',I,q⟩:=h; exact⟨σ',H',I.gK,q⟩
 | cont=>obtain⟨σ',H',I,q⟩:=h; exact⟨σ',H',I.gK,q⟩
 | ret u=>obtain⟨v,σ',H',I,r,q⟩:=h; exact⟨v,σ',H',I.gK,r,q⟩
theorem PSs.nox {st:List Stmt}{t:TS} (h:PSs X.nox st t):PSs X st t:=fun pins s σ H D I hw =>
 Ĳ (h pins s σ H D (I.wish _) hw) (fun _ _ q=>q.gK) fun _ _ z=>ġ z
end
section
variable {X:Cx}{st:Stmt}{rest:List Stmt}{t u:TS}{e:Expr}{te:TE}{pos:Pos}
def Ub:TS:=fun D σ H=>D.nx σ H
def T7 (t u:TS):TS:=fun D σ H=>t { D with nx:=u D } σ H
theorem jM:PSs X [] Ub:=fun _ _ σ H _ I h=>wpAny_execs_nil ⟨σ,H,I,h⟩
theorem yZ (h1:PS X st t) (h2:PSs X rest u):PSs X (st::rest) (T7 t u):=by
 intro pins s σ H D I h
 refine wpAny_execs_cons (thn (h1 pins s σ H { D with nx:=u D } I h) fun f s1 q=>?_)
 cases f with
 | next =>
  obtain⟨σ',H',I',q⟩:=q
  exact h2 pins s1 σ' H' D I' q
 | ret v=>exact q
 | brk=>exact q
 | cont=>exact q
theorem dM (h1:PS X st t):PSs X [st] t:=by
 intro pins s σ H D I h
 refine wpAny_execs_cons (thn (h1 pins s σ H D I h) fun f s1 q=>?_)
 cases f with
 | next=>exact wpAny_execs_nil q
 | ret v=>exact q
 | brk=>exact q
 | cont=>exact q
theorem Inv.quiet {pins:List (Addr×Obj)}{σ:St}{H:Hp}{s:Shared} (I:Inv X pins σ H s):interactive X.env=false:=by simp [interactive,I.ok.kind]
def yL (te:TE):TS:=fun D σ H=>te σ H fun _ H1=>D.nx σ H1
theorem lO (he:PE X e te) (hs:swapsWith e none pos.line X.env=pure false:=by rfl):PS X (.Expr e pos) (yL te):=by
 intro pins s σ H D I h
 exact wpAny_Expr_any (thn (he pins s σ H _ I h) fun v s1 ⟨x,H1,I1,r1,q1⟩=>⟨σ,H1,I1,q1⟩) I.quiet hs
def VJ (te:TE):TS:=fun D σ H=>te σ H D.rt
theorem kE (he:PE X e te):PS X (.Return (some e) pos) (VJ te):=by
 intro pins s σ H D I h
 exact wpAny_Return_some (thn (he pins s σ H _ I h) fun v s1 ⟨x,H1,I1,r1,q1⟩=>⟨x,σ,H1,I1,r1,q1⟩)
def VP (c:TT) (t u:TS):TS:=fun D σ H=>c σ H fun b H1=>if b=true then t D σ H1 else u D σ H1
theorem uY {c:Expr}{a b:List Stmt}{tc:TT} (hc:PT X c tc) (ha:PSs X a t) (hb:PSs X b u):PS X (.If c a b pos) (VP tc t u):=by
 intro pins s σ H D I h
 refine wpAny_If (thn (hc pins s σ H _ I h) fun d s1 ⟨H1,I1,q1⟩=>?_)
 cases d with
 | true=>exact ha pins s1 σ H1 D I1 q1
 | false=>exact hb pins s1 σ H1 D I1 q1
end
abbrev TG:=V->St->Hp->(St->Hp->Prop)->Prop
abbrev TGs:=List V->St->Hp->(St->Hp->Prop)->Prop
def PG (X:Cx) (target:Expr) (t:TG):Prop :=
 ∀ (pins:List (Addr×Obj)) (s:Shared) (σ:St) (H:Hp) (v:V) (u:Value) (Q:St->Hp->Prop),Inv X pins σ H s->RelV v u->t v σ H Q ->
  wpAny (model X.prog X.w) X.A (assign target X.env u) (fun _ s'=>∃ σ' H',Inv X pins σ' H' s'/\Q σ' H') X.xe s
def PGs (X:Cx) (ts:List Expr) (t:TGs):Prop :=
 ∀ (pins:List (Addr×Obj)) (s:Shared) (σ:St) (H:Hp) (vs:List V) (us:List Value) (Q:St->Hp->Prop),Inv X pins σ H s->Vals vs us->t vs σ H Q ->
  wpAny (model X.prog X.w) X.A (assignInOrder ((assignEach ts X.env).map (·.2)) us) (fun _ s'=>∃ σ' H',Inv X pins σ' H' s'/\Q σ' H') X.xe s
abbrev Tz:=V->V->V->Hp->(Hp->Prop)->Prop
def Vz (X:Cx) (t:Tz):Prop :=
 ∀ (pins:List (Addr×Obj)) (s:Shared) (σ:St) (H:Hp) (o i v:V) (ov iv u:Value) (Q:Hp->Prop),Inv X pins σ H s->RelV o ov->RelV i iv->RelV v u->t o i v H Q ->
  wpAny (model X.prog X.w) X.A (setItem ov iv u) (fun _ s'=>∃ H',Inv X pins σ H' s'/\Q H') X.xe s
section
variable {X:Cx}{pos:Pos}
def ju (i:Nat):TG:=fun v σ H Q=>Q (σ.set i (some v)) H
theorem Nj {i:Nat}{x:Str} (hN:X.N.Nodup) (hi:X.N[i]?=some x) (hx:Loc X.env.scope x) (hf:X.fn x=true\/X.env.scope.names.lookup x=some .local:=by first | exact .inl rfl | exact .inr rfl | assumption):PG X (.Name x pos) (ju i):=by
 intro pins s σ H v u Q I r h
 exact wpAny_assign_Name (rJ I hN hi hx r (fun s' I'=>⟨_,H,I',h⟩) hf)
def Wd:TGs:=fun vs σ H Q=>vs=[]/\Q σ H
def Vl (t:TG) (u:TGs):TGs:=fun vs σ H Q=>∃ v r,vs=v::r/\t v σ H fun σ' H'=>u r σ' H' Q
theorem Ni:PGs X [] Wd:=by
 intro pins s σ H vs us Q I r h
 obtain⟨e,h⟩:=h
 subst e
 cases r
 exact assignInOrder_nil ⟨σ,H,I,h⟩
theorem Jx {e:Expr}{es:List Expr}{t:TG}{u:TGs} (h1:PG X e t) (h2:PGs X es u)
  (hs:(assignEach (e::es) X.env).map (·.2)=assign e X.env::(assignEach es X.env).map (·.2):=by rfl):PGs X (e::es) (Vl t u):=by
 intro pins s σ H vs us Q I r h
 obtain⟨v,vr,e1,h⟩:=h
 subst e1
 cases r with
 | cons r rr =>
  rw [hs]
  refine assignInOrder_cons (thn (h1 pins s σ H _ _ _ I r h) fun _ s1 ⟨σ1,H1,I1,q1⟩=>?_)
  exact h2 pins s1 σ1 H1 _ _ Q I1 rr q1
def Wb (K:Ü) (n:Nat) (t:TGs):TG:=fun v σ H Q=>∃ a xs,v=.ref a/\SqT K H a xs/\xs.length=n/\t xs σ H Q
theorem Rm {es:List Expr}{k:Nat}{t:TGs}{n:Nat} (hc:X.calm=true) (h:PGs X es t)
  (hn:(assignEach es X.env).length=n:=by rfl) (hst:(assignEach es X.env).findIdx? (·.1)=none:=by rfl):PG X (.Tuple es k pos) (Wb X.K n t):=by
 intro pins s σ H v u Q I r hw
 obtain⟨a,xs,e1,hq,hl,hw⟩:=hw
 subst e1
 cases r
 obtain⟨its,rv,ht,hz⟩:=I.tuple hq
 refine assign_Tuple_tuple (I.ok.hd hc) ht (by simp [hn,← hl,rv.length]) hst fun h' hx=>?_
 have I1:Inv X pins σ H { s with heap:=h' }:=I.kept (t':=s.toks) fun b o e=>hx b o (à (Ê e)) e
 exact h pins _ σ H xs _ Q I1 (by simpa using rv) hw
def Wc (to ti:TE) (t:Tz):TG:=fun v σ H Q=>to σ H fun o H1=>ti σ H1 fun i H2=>t o i v H2 fun H3=>Q σ H3
theorem BX {o i:Expr}{to ti:TE}{t:Tz} (ho:PE X o to) (hi:PE X i ti) (hs:Vz X t)
  (ha:∀ v,assign (.Subscript o i pos) X.env v=(do
   let ov ← holding [v] (eval o X.env)
   let iv ← holding [v,ov] (eval i X.env)
   standAt pos
   holding [v,ov,iv] (setItem ov iv v)
   release [v,ov,iv] []):=by intro _; rfl):PG X (.Subscript o i pos) (Wc to ti t):=by
 intro pins s σ H v u Q I r h
 rw [ha]
 refine Â (ă (thn (ho pins s σ H _ I h) fun ov s1 ⟨x,H1,I1,r1,q1⟩=>?_))
 refine Â (ă (thn (hi pins s1 σ H1 _ I1 q1) fun iv s2 ⟨y,H2,I2,r2,q2⟩=>?_))
 refine Â (wpAny_standAt (Â (ă (thn (hs pins s2 σ H2 x y v ov iv u _ I2 r1 r2 r q2) fun _ s3 ⟨H3,I3,q3⟩=>?_))))
 exact wpAny_release ⟨σ,H3,I3,q3⟩
def uF (te:TE) (g:TG):TS:=fun D σ H=>te σ H fun x H1=>g x σ H1 D.nx
theorem wG {tg e:Expr}{te:TE}{g:TG} (he:PE X e te) (hg:PG X tg g) (hs:swapsWithSole [tg] e pos.line X.env=pure false:=by rfl) (hw:swappedStores [tg] e X.env=pure none:=by rfl)
  (h1:(assignEach [tg] X.env).map (·.2)=[assign tg X.env]:=by rfl):PS X (.Assign [tg] e pos) (uF te g):=by
 intro pins s σ H D I h
 refine wpAny_Assign_stores (thn (he pins s σ H _ I h) fun v s1 ⟨x,H1,I1,r1,q1⟩=>?_) hs hw
 rw [h1]
 exact thn (hg pins s1 σ H1 x v _ I1 r1 q1) fun _ s2 q=>q
theorem eF {i:Nat}{x:Str}{e:Expr}{te:TE}{pos':Pos} (hN:X.N.Nodup) (hi:X.N[i]?=some x) (hx:Loc X.env.scope x) (he:PE X e te) (hs:swapsWith e (some (.Name x pos')) pos.line X.env=pure false:=by rfl) (hf:X.fn x=true\/X.env.scope.names.lookup x=some .local:=by first | exact .inl rfl | exact .inr rfl | assumption) :
  PS X (.Assign [.Name x pos'] e pos) (uF te (ju i)):=by
 intro pins s σ H D I h
 refine wpAny_Assign_Name (thn (he pins s σ H _ I h) fun v s1 ⟨y,H1,I1,r1,q1⟩=>?_) hs
 exact rJ I1 hN hi hx r1 (fun s2 I2=>⟨_,H1,I2,q1⟩) hf
end
section
variable {X:Cx}{pos:Pos}
def QD (c:TT) (tb:TS):TS:=fun D σ H=>∃ W:Nat->St->Hp->Prop,(∃ m,W m σ H)/\∀ m σ H,W m σ H ->
 c σ H fun b H1=>if b=true then ∃ N:St->Hp->Prop,(∀ σ' H',N σ' H'->∃ m',m'<m/\W m' σ' H')/\tb { D with nx:=N,ct:=N,bk:=D.nx } σ H1 else D.nx σ H1
theorem Jr {c:Expr}{body:List Stmt}{tc:TT}{tb:TS} (hp:PassesOwn (model X.prog X.w) X.A X.env X.xe) (hc:PT X c tc) (hb:PSs X body tb):PS X (.While c body [] pos) (QD tc tb):=by
 intro pins s σ H D I h
 obtain⟨W,⟨m0,w0⟩,turn⟩:=h
 refine wpAny_While (codeAny_whileLoop (fun n s'=>∃ σ' H',Inv X pins σ' H' s'/\W n σ' H') ?_ m0 ⟨σ,H,I,w0⟩)
 rintro n s1 ⟨σ1,H1,I1,w1⟩
 refine Ű hp (thn (hc pins s1 σ1 H1 _ I1 (turn n σ1 H1 w1)) fun b s2 ⟨H2,I2,q2⟩=>?_)
 cases b with
 | true =>
  obtain⟨N,hN,q2⟩:=q2
  rw [if_pos rfl]
  refine Ű hp (thn (hb pins s2 σ1 H2 _ I2 q2) fun f s3 q3=>?_)
  cases f with
  | next =>
   obtain⟨σ3,H3,I3,n3⟩:=q3
   obtain⟨m',hm,w3⟩:=hN σ3 H3 n3
   exact⟨m',hm,σ3,H3,I3,w3⟩
  | cont =>
   obtain⟨σ3,H3,I3,n3⟩:=q3
   obtain⟨m',hm,w3⟩:=hN σ3 H3 n3
   exact⟨m',hm,σ3,H3,I3,w3⟩
  | brk=>exact q3
  | ret v=>exact q3
 | false =>
  rw [if_neg Î]
  exact wpAny_execs_nil ⟨σ1,H2,I2,q2⟩
end
structure It where
 go:Nat->Hp->Prop
 yld:Nat->Hp->V->Hp->Prop
 stop:Nat->Hp->Prop
def nR (X:Cx) (pins:List (Addr×Obj)) (H:Hp) (b:Addr):Prop :=
 H b=none/\b≠X.env.locals/\b∉X.fs/\(b∈X.ex\/X.s₀.heap.objs.size<=b)/\(∀ x c,X.env.cells.lookup x=some c->c≠b)/\∀ p∈X.pn++pins,p.1≠b
theorem Inv.Af {X:Cx}{pins:List (Addr×Obj)}{σ:St}{H H':Hp}{s:Shared}{b:Addr} (I:Inv X pins σ H s) (hb:s.heap.objs.size<=b) (hn:H' b=none):nR X pins H' b:=by
 refine⟨hn,Ī (å I.lt hb),I.V6 hb,.inr (Ą I.sz hb),fun x c e z=>?_,fun p hp z=>?_⟩
 ·obtain⟨v,q⟩:=I.cell x c e
  exact absurd (å q.lt (by rw [z]; exact hb)) (ć _)
 ·exact absurd (å (Ê (I.pin p hp).1) (by rw [z]; exact hb)) (ć _)
structure TurnG (Cm:Cx->Prop) (P:Program) (w:World) (K:Ü) (tg:Expr) (J:It) (fp:List Addr) (it:Addr) (tn:Nat->Heap->Prop):Prop where
 mem:it∈fp
 obj:∀ i h,tn i h->∀ b∈fp,∃ o,h.get? b=some o/\∀ v,o.data≠.cell v
 keep:∀ i h h',tn i h->(∀ b∈fp,∀ o,h.get? b=some o->h'.get? b=some o)->tn i h'
 item:∀ (X:Cx),X.prog=P->X.w=w->X.K=K->Cm X->∀ (i:Nat) (pins:List (Addr×Obj)) (s:Shared) (σ:St) (H:Hp) (E:Value->Shared->Prop),Inv X pins σ H s->(∀ b∈fp,nR X pins H b)->tn i s.heap->J.go i H ->
  wpAny (model P w) X.A (pyNext (.ref it)) (fun r s1=>∃ u,r=some u /\
   wpAny (model P w) X.A (letOwnedTupleGo tg (.ref it) u) (fun _ s2=>∃ x H',Inv X pins σ H' s2/\RelV x u/\J.yld i H x H'/\tn (i+1) s2.heap/\∀ b∈fp,H' b=none) E s1) E s
 done:∀ (X:Cx),X.prog=P->X.w=w->X.K=K->Cm X->∀ (i:Nat) (pins:List (Addr×Obj)) (s:Shared) (σ:St) (H:Hp) (E:Value->Shared->Prop),Inv X pins σ H s->(∀ b∈fp,nR X pins H b)->tn i s.heap->J.stop i H ->
  wpAny (model P w) X.A (pyNext (.ref it)) (fun r s1=>r=none/\Inv X pins σ H s1) E s
 self:∀ (A:Around) (i:Nat) (s:Shared) (Q:Value->Shared->Prop) (E:Value->Shared->Prop),tn i s.heap->Q (.ref it) s->wpAny (model P w) A (pyIter (.ref it)) Q E s
abbrev Turn (P:Program) (w:World) (K:Ü) (tg:Expr) (J:It) (fp:List Addr) (it:Addr) (tn:Nat->Heap->Prop):Prop:=TurnG (fun X=>X.calm=true) P w K tg J fp it tn
abbrev TI:=St->Hp->(It->Hp->Prop)->Prop
def VB (Cm:Cx->Prop) (X:Cx) (pins:List (Addr×Obj)) (σ:St) (tg:Expr) (R:It->Hp->Prop) (itv:Value) (s2:Shared):Prop :=
 ∃ (it:Addr) (fp:List Addr) (tn:Nat->Heap->Prop) (J:It) (H':Hp),itv=.ref it/\Inv X pins σ H' s2/\TurnG Cm X.prog X.w X.K tg J fp it tn/\tn 0 s2.heap/\(∀ b∈fp,nR X pins H' b)/\R J H'
def PIG (Cm:Cx->Prop) (X:Cx) (tg iter:Expr) (wi:TI):Prop :=
 ∀ (pins:List (Addr×Obj)) (s:Shared) (σ:St) (H:Hp) (R:It->Hp->Prop),Inv X pins σ H s->wi σ H R ->
  wpAny (model X.prog X.w) X.A (eval iter X.env) (fun v s1=>wpAny (model X.prog X.w) X.A (pyIter v) (VB Cm X pins σ tg R) X.xe s1) X.xe s
abbrev PIE (X:Cx):=VB (fun X=>X.calm=true) X
abbrev PI (X:Cx):=PIG (fun X=>X.calm=true) X
theorem KJ {M:Model}{A:Around}{E:Value->Shared->Prop}{s:Shared}{tg:Expr}{it:Addr}{u:Value}{o:Obj}{n:String}{vs:Array Value}{Q:Unit->Shared->Prop} (ho:s.heap.get? it=some o) (hc:o.cls=.type n) (hd:o.data=.fields vs)
  (hn:["enumerate","zip","dict_itemiterator","dict_reverseitemiterator","odict_iterator","itertools.zip_longest","itertools.pairwise"].contains n=false) (hQ:Q () s):wpAny M A (letOwnedTupleGo tg (.ref it) u) Q E s:=by
 unfold letOwnedTupleGo
 cases tg <;> first
  | exact Ë hQ
  | (cases u <;> first
    | exact Ë hQ
    | (refine Â (wpAny_load ho ?_)
       rw [hc,hd]
       show wpAny M A (if (["enumerate","zip","dict_itemiterator","dict_reverseitemiterator","odict_iterator","itertools.zip_longest","itertools.pairwise"].contains n&&vs[0]? == some (rawInt _))=true then _ else _) Q E s
       rw [if_neg (by intro h; rw [hn,Bool.false_and] at h; cases h)]
       exact Ë hQ))
def Itl (K:Ü) (a:Addr):It :=
 ⟨fun i H=>∃ xs x,SqL K H a xs/\xs[i]?=some x,fun i H x H'=>H'=H/\∀ xs,SqL K H a xs->xs[i]?=some x,fun i H=>∃ xs,SqL K H a xs/\xs.length<=i⟩
def Itt (K:Ü) (a:Addr):It :=
 ⟨fun i H=>∃ xs x,SqT K H a xs/\xs[i]?=some x,fun i H x H'=>H'=H/\∀ xs,SqT K H a xs->xs[i]?=some x,fun i H=>∃ xs,SqT K H a xs/\xs.length<=i⟩
def Itr (lo:Int) (n:Nat):It:=⟨fun i _=>i<n,fun i H x H'=>H'=H/\x=.int (lo+i),fun i _=>n<=i⟩
theorem Gk {P:Program}{w:World}{K:Ü}{tg:Expr} (a it:Addr):Turn P w K tg (Itl K a) [it] it (fun i h=>h.IsListIter it a i) where
 mem:=by simp
 obj:=fun i h st b hb=>by
  have e:b=it:=by simpa using hb
  subst e
  obtain⟨o,e,c,d⟩:=st
  exact⟨o,e,fun v z=>by rw [d] at z; cases z⟩
 keep:=fun i h h' st k=>st.at fun o e=>k it (by simp) o e
 item:=by
  intro X hP hw hK hc i pins s σ H E I hf st hg
  subst hP hw hK
  obtain⟨xs,x,hq,hx⟩:=hg
  obtain⟨its,rv,p,hz⟩:=I.list hq
  obtain⟨u,hu,ru⟩:=rv.get hx
  obtain⟨f0,f1,f2,f3,f4,f5⟩:=hf it (by simp)
  refine wpAny_pyNext_list_item st p.isList (x:=u) (by simpa using hu) fun h' st' sb=>?_
  have I1:Inv X pins σ H { s with heap:=h' }:=I.turned (t':=s.toks) (fun b o hb e=>(sb.2 b hb).trans e) f0 f1 f3 f4 f5
  obtain⟨o,e,c,d⟩:=id st'
  exact⟨u,rfl,KJ (s:={ s with heap:=h' }) e c d (by decide) ⟨x,H,I1,ru,⟨rfl,fun ys hy=>by rw [I.mO hy hq]; exact hx⟩,st',fun b hb=>(hf b hb).1⟩⟩
 done:=by
  intro X hP hw hK hc i pins s σ H E I hf st hg
  subst hP hw hK
  obtain⟨xs,hq,hx⟩:=hg
  obtain⟨its,rv,p,hz⟩:=I.list hq
  obtain⟨f0,f1,f2,f3,f4,f5⟩:=hf it (by simp)
  have hl:=rv.length
  exact wpAny_pyNext_list_end (I.ok.hd hc) st p.isList (by simp; omega) fun h' eb=>⟨rfl,I.turned (t':=s.toks) (fun b o hb e=>eb b o hb e) f0 f1 f3 f4 f5⟩
 self:=fun _ _ _ _ _ st h=>wpAny_pyIter_listiter st h
theorem Bm {P:Program}{w:World}{K:Ü}{tg:Expr} (a it:Addr):Turn P w K tg (Itt K a) [it] it (fun i h=>h.IsTupleIter it a i) where
 mem:=by simp
 obj:=fun i h st b hb=>by
  have e:b=it:=by simpa using hb
  subst e
  obtain⟨o,e,c,d⟩:=st
  exact⟨o,e,fun v z=>by rw [d] at z; cases z⟩
 keep:=fun i h h' st k=>st.at fun o e=>k it (by simp) o e
 item:=by
  intro X hP hw hK hc i pins s σ H E I hf st hg
  subst hP hw hK
  obtain⟨xs,x,hq,hx⟩:=hg
  obtain⟨its,rv,p,hz⟩:=I.tuple hq
  obtain⟨u,hu,ru⟩:=rv.get hx
  obtain⟨f0,f1,f2,f3,f4,f5⟩:=hf it (by simp)
  refine wpAny_pyNext_tuple_item st (show s.heap.IsTuple a its.toArray from p) (x:=u) (by simpa using hu) fun h' st' sb=>?_
  have I1:Inv X pins σ H { s with heap:=h' }:=I.turned (t':=s.toks) (fun b o hb e=>(sb.2 b hb).trans e) f0 f1 f3 f4 f5
  obtain⟨o,e,c,d⟩:=id st'
  exact⟨u,rfl,KJ (s:={ s with heap:=h' }) e c d (by decide) ⟨x,H,I1,ru,⟨rfl,fun ys hy=>by rw [I.uP hy hq]; exact hx⟩,st',fun b hb=>(hf b hb).1⟩⟩
 done:=by
  intro X hP hw hK hc i pins s σ H E I hf st hg
  subst hP hw hK
  obtain⟨xs,hq,hx⟩:=hg
  obtain⟨its,rv,p,hz⟩:=I.tuple hq
  obtain⟨f0,f1,f2,f3,f4,f5⟩:=hf it (by simp)
  have hl:=rv.length
  exact wpAny_pyNext_tuple_end (I.ok.hd hc) st (show s.heap.IsTuple a its.toArray from p) (by simp; omega) fun h' eb=>⟨rfl,I.turned (t':=s.toks) (fun b o hb e=>eb b o hb e) f0 f1 f3 f4 f5⟩
 self:=fun _ _ _ _ _ st h=>wpAny_pyIter_tupleiter st h
theorem Bo {P:Program}{w:World}{K:Ü}{tg:Expr} (it:Addr) (lo:Int) (n:Nat):Turn P w K tg (Itr lo n) [it] it (fun i h=>IsRangeIter h it (lo+(i:Nat) * 1) ((n:Int) - (i:Nat)) 1) where
 mem:=by simp
 obj:=fun i h st b hb=>by
  have e:b=it:=by simpa using hb
  subst e
  exact⟨_,st,fun v z=>by
   have z':Data.fields _=Data.cell v:=z
   cases z'⟩
 keep:=fun i h h' st k=>k it (by simp) _ st
 item:=by
  intro X hP hw hK hc i pins s σ H E I hf st hg
  subst hP hw hK
  obtain⟨f0,f1,f2,f3,f4,f5⟩:=hf it (by simp)
  have W:=Walks.range (prog:=X.prog) (w:=X.w) (I.ok.hd hc) it lo 1 n
  refine W.item i s _ _ hg st fun v h' tk hv st' kk=>?_
  obtain⟨t,rfl⟩:=hv
  have I1:Inv X pins σ H { s with heap:=h',toks:=tk }:=I.turned (fun b o hb e=>kk b o (by simpa using hb) e) f0 f1 f3 f4 f5
  refine⟨_,rfl,KJ (s:={ s with heap:=h',toks:=tk }) (n:="range_iterator") st' rfl rfl (by decide) ⟨.int (lo+i),H,I1,⟨t,?_⟩,⟨rfl,rfl⟩,st',fun b hb=>(hf b hb).1⟩⟩
  rw [Int.mul_one]
 done:=by
  intro X hP hw hK hc i pins s σ H E I hf st hg
  subst hP hw hK
  obtain⟨f0,f1,f2,f3,f4,f5⟩:=hf it (by simp)
  exact wpAny_pyNext_range_end (I.ok.hd hc) st (by have:n<=i:=hg; omega) fun h' eb=>⟨rfl,I.turned (t':=s.toks) (fun b o hb e=>eb b o hb e) f0 f1 f3 f4 f5⟩
 self:=fun _ _ _ _ _ st h=>wpAny_pyIter_rangeiter st h
section
variable {X:Cx}{tg:Expr}
theorem yX {pins:List (Addr×Obj)}{σ:St}{H:Hp}{s:Shared}{R:It->Hp->Prop}{E:Value->Shared->Prop}{lo hi:Int}{t u v:Tok}{tk:Nat} (I:Inv X pins σ H s) (h1:-(2 ^ 62)<=lo) (h2:lo<2 ^ 62) (h3:-(2 ^ 62)<=hi) (h4:hi<2 ^ 62)
  (q:R (Itr lo (hi - lo).toNat) H):wpAny (model X.prog X.w) X.A (pyIter (.ref s.heap.objs.size)) (PIE X pins σ tg R) E { s with heap:=s.heap.push { cls:=.type "range",data:=.fields #[.int lo t,.int hi u,.int 1 v] },toks:=tk }:=by
 refine wpAny_pyIter_range (IsRange.new ..) (small_one h1 h2 h3 h4) ?_
 have I1:Inv X pins σ H { s with heap:=s.heap.push { cls:=.type "range",data:=.fields #[.int lo t,.int hi u,.int 1 v] },toks:=tk }:=I.kept fun b o e=>Ì _ e
 refine⟨(s.heap.push { cls:=.type "range",data:=.fields #[.int lo t,.int hi u,.int 1 v] }).objs.size,[(s.heap.push { cls:=.type "range",data:=.fields #[.int lo t,.int hi u,.int 1 v] }).objs.size],_,_,H,rfl,
  I1.kept (t':=tk) fun b o e=>Ì _ e,Bo _ lo (hi - lo).toNat,?_,fun b hb=>?_,q⟩
 ·have e1:lo+((0:Nat):Int) * 1=lo:=by simp
  have e2:(((hi - lo).toNat:Nat):Int) - ((0:Nat):Int)=Builtin.Range.rangeSize lo hi 1:=by rw [rangeSize_one]; split <;> omega
  show IsRangeIter _ _ (lo+((0:Nat):Int) * 1) ((((hi - lo).toNat:Nat):Int) - ((0:Nat):Int)) 1
  rw [e1,e2]
  exact Û _ rfl
 ·have e:b=(s.heap.push { cls:=.type "range",data:=.fields #[.int lo t,.int hi u,.int 1 v] }).objs.size:=by simpa using hb
  subst e
  exact I1.Af (Ö _) (I1.hok.fresh (Ö _))
def Vh (ta:TA):TI:=fun σ H R=>ta σ H fun vs H1=>∃ j:Int,vs=[.int j]/\-(2 ^ 62)<=j/\j<2 ^ 62/\R (Itr 0 j.toNat) H1
def Vg (ta:TA):TI:=fun σ H R=>ta σ H fun vs H1=>∃ i j:Int,vs=[.int i,.int j]/\(-(2 ^ 62)<=i/\i<2 ^ 62/\-(2 ^ 62)<=j/\j<2 ^ 62)/\R (Itr i (j - i).toNat) H1
theorem GF {a:Expr}{ta:TA}{p pos:Pos} (hg:Gl X "range") (hm:X.mg "range"=none) (ha:PA X [a] ta) (hs:starEach [a] X.env=[(false,eval a X.env)]:=by rfl):PI X tg (.Call (.Name "range" p) [a] [] pos) (Vh ta):=by
 intro pins s σ H R I h
 refine Call_ (dF I hg hm boot_range (ü (thn (ha pos pins s σ H _ I h) fun us s1 ⟨vs,H1,I1,r1,q1⟩=>?_) hs rfl))
 obtain⟨j,e,q1,q2,q⟩:=q1
 subst e
 cases r1 with
 | cons r rr =>
  cases rr
  obtain⟨t,rfl⟩:=r
  exact call_range_1 (yX I1 (by omega) (by omega) q1 q2 (by simpa using q))
theorem GD {a b:Expr}{ta:TA}{p pos:Pos} (hg:Gl X "range") (hm:X.mg "range"=none) (ha:PA X [a,b] ta) (hs:starEach [a,b] X.env=[(false,eval a X.env),(false,eval b X.env)]:=by rfl) (hs2:starEach [b] X.env=[(false,eval b X.env)]:=by rfl) :
  PI X tg (.Call (.Name "range" p) [a,b] [] pos) (Vg ta):=by
 intro pins s σ H R I h
 refine Call_ (dF I hg hm boot_range (ü (thn (ha pos pins s σ H _ I h) fun us s1 ⟨vs,H1,I1,r1,q1⟩=>?_) (by rw [hs,hs2]) (by rw [hs2]; rfl)))
 obtain⟨i,j,e,⟨q1,q2,q3,q4⟩,q⟩:=q1
 subst e
 cases r1 with
 | cons r rr =>
  cases rr with
  | cons r' rr =>
   cases rr
   obtain⟨t,rfl⟩:=r
   obtain⟨t',rfl⟩:=r'
   exact call_range_2 (yX I1 q1 q2 q3 q4 q)
def VR (wi:TI) (g:TG) (tb:TS):TS:=fun D σ H=>wi σ H fun J H1=>∃ W:Nat->Nat->St->Hp->Prop,(∃ m,W 0 m σ H1)/\∀ i m σ H,W i m σ H ->
 (J.stop i H/\D.nx σ H)\/(J.go i H/\∃ N:St->Hp->Prop,(∀ σ' H',N σ' H'->∃ m',m'<m/\W (i+1) m' σ' H')/\∀ x H',J.yld i H x H'->g x σ H' fun σ2 H2=>tb { D with nx:=N,ct:=N,bk:=D.nx } σ2 H2)
def jd (fp:List Addr) (h:Heap):List (Addr×Obj):=fp.filterMap fun b=>(h.get? b).map fun o=>(b,o)
theorem gW {fp:List Addr}{h:Heap}{b:Addr}{o:Obj} (hb:b∈fp) (e:h.get? b=some o):(b,o)∈jd fp h:=List.mem_filterMap.mpr ⟨b,hb,by rw [e]; rfl⟩
theorem u9 {fp:List Addr}{h:Heap}{p:Addr×Obj} (hp:p∈jd fp h):p.1∈fp/\h.get? p.1=some p.2:=by
 obtain⟨b,hb,e⟩:=List.mem_filterMap.mp hp
 cases q:h.get? b with
 | none=>rw [q] at e; cases e
 | some o =>
  rw [q] at e
  have e':(b,o)=p:=Õ e
  subst e'
  exact⟨hb,q⟩
theorem Inv.pinned {pins:List (Addr×Obj)}{σ:St}{H:Hp}{s:Shared}{fp:List Addr} (I:Inv X pins σ H s) (hf:∀ b∈fp,nR X pins H b) (ho:∀ b∈fp,∃ o,s.heap.get? b=some o/\∀ v,o.data≠.cell v):Inv X (pins++jd fp s.heap) σ H s :=
 I.qL fun p hp=>(ñ.mp hp).elim (fun z=>I.pin p (ß _ z)) fun z=>by
  obtain⟨hb,e⟩:=u9 z
  obtain⟨f0,f1,f2,_⟩:=hf p.1 hb
  obtain⟨o,e',d⟩:=ho p.1 hb
  rw [e] at e'; cases e'
  exact⟨e,f0,f1,f2,d⟩
theorem Inv.lE {pins pl:List (Addr×Obj)}{σ:St}{H:Hp}{s:Shared} (I:Inv X (pins++pl) σ H s):Inv X pins σ H s:=I.qL fun p hp=>I.pin p (ß _ (í _ hp))
theorem Ri {iter:Expr}{body:List Stmt}{wi:TI}{g:TG}{tb:TS}{pos:Pos} (hp:PassesOwn (model X.prog X.w) X.A X.env X.xe) (hc:X.calm=true) (hi:PI X tg iter wi) (hg:PG X tg g) (hb:PSs X body tb)
  (hs:∀ x,foldedSetIterable iter X.env x=pure x:=by intro _; rfl):PS X (.For tg iter body [] pos) (VR wi g tb):=by
 intro pins s σ H D I h
 refine wpAny_For (thn (hi pins s σ H _ I h) fun v s1 h1=>thn h1 fun itv s2 h2=>?_) hs
 obtain⟨it,fp,tn,J,H2,e,I2,T,st2,f2,W,⟨m0,w0⟩,turn⟩:=h2
 subst e
 -- what stays true of the iterator's objects through the loop
 have stat:∀ {H':Hp},(∀ b∈fp,H' b=none)->∀ b∈fp,nR X pins H' b:=fun hn b hb=>⟨hn b hb,(f2 b hb).2⟩
 refine codeAny_forLoop_any (fun n s'=>∃ i σ' H',Inv X pins σ' H' s'/\tn i s'.heap/\(∀ b∈fp,H' b=none)/\W i n σ' H') ?_ m0 ⟨0,σ,H2,I2,st2,fun b hb=>(f2 b hb).1,w0⟩
 rintro n s3 ⟨i,σ3,H3,I3,st3,fr3,w3⟩
 rcases turn i n σ3 H3 w3 with ⟨stop,qn⟩ | ⟨go,N,hN,step⟩
 ·refine Ű hp (thn (T.done X rfl rfl rfl hc i pins s3 σ3 H3 X.xe I3 (stat fr3) st3 stop) fun r s4 ⟨hr,I4⟩=>?_)
  subst hr
  exact wpAny_execs_nil ⟨σ3,H3,I4,qn⟩
 ·refine Ű hp (thn (T.item X rfl rfl rfl hc i pins s3 σ3 H3 X.xe I3 (stat fr3) st3 go) fun r s4 ⟨u,hr,h4⟩=>?_)
  subst hr
  refine Ű hp (thn h4 fun _ s5 ⟨x,H5,I5,r5,y5,st5,fr5⟩=>?_)
  have I5':=I5.pinned (stat fr5) (T.obj _ _ st5)
  refine Ű hp (thn (hg _ s5 σ3 H5 x u _ I5' r5 (step x H5 y5)) fun _ s6 ⟨σ6,H6,I6,q6⟩=>?_)
  refine Ű hp (thn (hb _ s6 σ6 H6 _ I6 q6) fun f s7 q7=>?_)
  have again:∀ {σ7:St}{H7:Hp},Inv X (pins++jd fp s5.heap) σ7 H7 s7->N σ7 H7->∃ m,m<n/\∃ i σ' H',Inv X pins σ' H' s7/\tn i s7.heap/\(∀ b∈fp,H' b=none)/\W i m σ' H':=fun {σ7 H7} I7 n7=>by
   obtain⟨m',hm,w7⟩:=hN σ7 H7 n7
   refine⟨m',hm,i+1,σ7,H7,I7.lE,T.keep _ _ _ st5 fun b hb o e=>(I7.pin (b,o) (ß _ (ß _ (gW hb e)))).1,fun b hb=>?_,w7⟩
   obtain⟨o,e,d⟩:=T.obj _ _ st5 b hb
   exact (I7.pin (b,o) (ß _ (ß _ (gW hb e)))).2.1
  cases f with
  | next=>obtain⟨σ7,H7,I7,n7⟩:=q7; exact again I7 n7
  | cont=>obtain⟨σ7,H7,I7,n7⟩:=q7; exact again I7 n7
  | brk=>obtain⟨σ7,H7,I7,q7⟩:=q7; exact⟨σ7,H7,I7.lE,q7⟩
  | ret v=>obtain⟨x7,σ7,H7,I7,r7,q7⟩:=q7; exact⟨x7,σ7,H7,I7.lE,r7,q7⟩
end
abbrev R2:=V->V->Hp->VK->Prop
def OpR (X:Cx) (f:Value->Value->Sem Value) (r:R2):Prop :=
 ∀ (pins:List (Addr×Obj)) (s:Shared) (σ:St) (H:Hp) (x y:V) (v u:Value) (Q:VK),Inv X pins σ H s->RelV x v->RelV y u->r x y H Q ->
  wpAny (model X.prog X.w) X.A (f v u) (EP X pins σ Q) X.xe s
def UnR (X:Cx) (f:Value->Sem Value) (r:V->Hp->VK->Prop):Prop :=
 ∀ (pins:List (Addr×Obj)) (s:Shared) (σ:St) (H:Hp) (x:V) (v:Value) (Q:VK),Inv X pins σ H s->RelV x v->r x H Q ->
  wpAny (model X.prog X.w) X.A (f v) (EP X pins σ Q) X.xe s
def bA (X:Cx) (f:Value) (r:List V->Hp->VK->Prop):Prop :=
 ∀ (pins:List (Addr×Obj)) (s:Shared) (σ:St) (H:Hp) (xs:List V) (us:List Value) (Q:VK),Inv X pins σ H s->Vals xs us->r xs H Q ->
  wpAny (model X.prog X.w) X.A (call f us) (EP X pins σ Q) X.xe s
def Wk (X:Cx) (r:V->Hp->(Bool->Hp->Prop)->Prop):Prop :=
 ∀ (pins:List (Addr×Obj)) (s:Shared) (σ:St) (H:Hp) (x:V) (v:Value) (Q:Bool->Hp->Prop),Inv X pins σ H s->RelV x v->r x H Q ->
  wpAny (model X.prog X.w) X.A (truthy v) (TP X pins σ Q) X.xe s
def tOp (r:R2) (ta tb:TE):TE:=fun σ H Q=>ta σ H fun x H1=>tb σ H1 fun y H2=>r x y H2 Q
def tUn (r:V->Hp->VK->Prop) (ta:TE):TE:=fun σ H Q=>ta σ H fun x H1=>r x H1 Q
def rI (C:Int->Int->Prop) (g:Int->Int->V):R2:=fun x y H Q=>∃ i j,x=.int i/\y=.int j/\C i j/\Q (g i j) H
def rI0 (g:Int->Int->V):R2:=fun x y H Q=>∃ i j,x=.int i/\y=.int j/\Q (g i j) H
def rU (g:Int->V):V->Hp->VK->Prop:=fun x H Q=>∃ i,x=.int i/\Q (g i) H
section
variable {X:Cx}{a b c:Expr}{ta tb tc:TE}{pos:Pos}
theorem Tv (ha:PE X a ta) (hb:PE X b tb) {pins:List (Addr×Obj)}{s:Shared}{σ:St}{H:Hp}{R:V->V->Hp->Prop} (I:Inv X pins σ H s)
  (h:ta σ H fun x H1=>tb σ H1 fun y H2=>R x y H2) {Q:Value->Shared->Prop}{f:Value->Value->Sem Value}
  (hf:∀ v u s2 x y H2,Inv X pins σ H2 s2->RelV x v->RelV y u->R x y H2->wpAny (model X.prog X.w) X.A (f v u) Q X.xe s2) :
  wpAny (model X.prog X.w) X.A (eval a X.env) (fun v s₁=>wpAny (model X.prog X.w) X.A (eval b X.env) (fun u s₂=>wpAny (model X.prog X.w) X.A (f v u) Q X.xe s₂) X.xe s₁) X.xe s:=by
 refine thn (ha pins s σ H _ I h) fun v s1 ⟨x,H1,I1,r1,q1⟩=>?_
 refine thn (hb pins s1 σ H1 _ I1 q1) fun u s2 ⟨y,H2,I2,r2,q2⟩=>?_
 exact hf v u s2 x y H2 I2 r1 r2 q2
theorem bM {op:Operator}{r:R2} (ho:OpR X (binaryOp op) r) (ha:PE X a ta) (hb:PE X b tb):PE X (.BinOp a op b pos) (tOp r ta tb):=by
 intro pins s σ H Q I h
 exact wpAny_BinOp (Tv ha hb I h fun v u s2 x y H2 I2 rx ry q=>ho pins s2 σ H2 x y v u Q I2 rx ry q)
theorem Ux {op:UnaryOp}{r:V->Hp->VK->Prop} (ho:UnR X (unaryOp op) r) (ha:PE X a ta):PE X (.UnaryOp op a pos) (tUn r ta):=by
 intro pins s σ H Q I h
 exact UnaryOp_ (thn (ha pins s σ H _ I h) fun v s1 ⟨x,H1,I1,r1,q1⟩=>ho pins s1 σ H1 x v Q I1 r1 q1)
theorem opI {f:Value->Value->Sem Value}{C:Int->Int->Prop}{g:Int->Int->Int}
  (rule:∀ (i j:Int) (t u:Tok) (s:Shared) (Q:Value->Shared->Prop) (E:Value->Shared->Prop),C i j->Q (.int (g i j) s.toks) { s with toks:=s.toks+1 }->wpAny (model X.prog X.w) X.A (f (.int i t) (.int j u)) Q E s) :
  OpR X f (rI C fun i j=>.int (g i j)):=by
 intro pins s σ H x y v u Q I rx ry h
 obtain⟨i,j,rfl,rfl,hc,q⟩:=h
 obtain⟨t,rfl⟩:=rx
 obtain⟨t',rfl⟩:=ry
 exact rule i j t t' s _ _ hc ⟨.int (g i j),H,I.tok _,⟨_,rfl⟩,q⟩
theorem RL {f:Value->Value->Sem Value}{g:Int->Int->Int}
  (rule:∀ (i j:Int) (t u:Tok) (s:Shared) (Q:Value->Shared->Prop) (E:Value->Shared->Prop),Q (.int (g i j) s.toks) { s with toks:=s.toks+1 }->wpAny (model X.prog X.w) X.A (f (.int i t) (.int j u)) Q E s) :
  OpR X f (rI0 fun i j=>.int (g i j)):=by
 intro pins s σ H x y v u Q I rx ry h
 obtain⟨i,j,rfl,rfl,q⟩:=h
 obtain⟨t,rfl⟩:=rx
 obtain⟨t',rfl⟩:=ry
 exact rule i j t t' s _ _ ⟨.int (g i j),H,I.tok _,⟨_,rfl⟩,q⟩
theorem Ny {f:Value->Value->Sem Value}{g:Int->Int->Bool}
  (rule:∀ (i j:Int) (t u:Tok) (s:Shared) (Q:Value->Shared->Prop) (E:Value->Shared->Prop),Q (.bool (g i j)) s->wpAny (model X.prog X.w) X.A (f (.int i t) (.int j u)) Q E s) :
  OpR X f (rI0 fun i j=>.bl (g i j)):=by
 intro pins s σ H x y v u Q I rx ry h
 obtain⟨i,j,rfl,rfl,q⟩:=h
 obtain⟨t,rfl⟩:=rx
 obtain⟨t',rfl⟩:=ry
 exact rule i j t t' s _ _ ⟨.bl (g i j),H,I,rfl,q⟩
def TQ (i j:Int):Prop:=0<j/\j<1073741824
def TJ (i j:Int):Prop:=0<=j/\j<=1000000/\i.natAbs<2 ^ 64
def Mj (i j:Int):Prop:=(-(2 ^ 64)<i/\i<2 ^ 64)\/(-(2 ^ 64)<j/\j<2 ^ 64)
theorem Mj.ok {i j:Int} (h:Mj i j):IntMulOk i j:=by
 rcases h with ⟨h1,h2⟩ | ⟨h1,h2⟩
 ·exact .of_left (intBits_le_64 h1 h2)
 ·exact .of_right (intBits_le_64 h1 h2)
theorem jh:OpR X (binaryOp .Add) (rI0 fun i j=>.int (i+j)):=RL fun _ _ _ _ _ _ _ q=>add_int q
theorem RD:OpR X (binaryOp .Sub) (rI0 fun i j=>.int (i - j)):=RL fun _ _ _ _ _ _ _ q=>sub_int q
theorem kO:OpR X (binaryOp .Mult) (rI Mj fun i j=>.int (i * j)):=opI fun _ _ _ _ _ _ _ hc q=>mul_int q hc.ok
theorem qX:OpR X (binaryOp .FloorDiv) (rI TQ fun i j=>.int (i / j)):=opI fun i j _ _ _ _ _ hc q=>by
 have h1:(0:Int)<j:=hc.1
 have h2:j<1073741824:=hc.2
 exact floordiv_int (by omega) (by rw [Int.fdiv_eq_ediv_of_nonneg i (by omega)]; exact q) (.inl (PyProof.noPylong_small (by omega)))
theorem gU:OpR X (binaryOp .Mod) (rI (fun _ j=>0<j) fun i j=>.int (i % j)):=opI fun i j _ _ _ _ _ hc q=>by
 have h1:(0:Int)<j:=hc
 exact mod_int' (by omega) (by rw [Int.fmod_eq_emod_of_nonneg i (by omega)]; exact q)
theorem JR:OpR X (binaryOp .Pow) (rI TJ fun i j=>.int (i ^ j.toNat)):=opI fun _ _ _ _ _ _ _ hc q=>pow_int_small hc.1 hc.2.1 hc.2.2 q
theorem Ry:OpR X (binaryOp .BitXor) (rI0 fun i j=>.int (Builtin.bitXor i j)):=RL fun _ _ _ _ _ _ _ q=>xor_int q
theorem unI {f:Value->Sem Value}{g:Int->Int}
  (rule:∀ (i:Int) (t:Tok) (s:Shared) (Q:Value->Shared->Prop) (E:Value->Shared->Prop),Q (.int (g i) s.toks) { s with toks:=s.toks+1 }->wpAny (model X.prog X.w) X.A (f (.int i t)) Q E s) :
  UnR X f (rU fun i=>.int (g i)):=by
 intro pins s σ H x v Q I rx h
 obtain⟨i,rfl,q⟩:=h
 obtain⟨t,rfl⟩:=rx
 exact rule i t s _ _ ⟨.int (g i),H,I.tok _,⟨_,rfl⟩,q⟩
theorem Qy:UnR X (unaryOp .USub) (rU fun i=>.int (-i)):=unI fun _ _ _ _ _ q=>neg_int q
end
def Uj:V->V->Bool
 | .non,.non=>true | .non,.int _=>true | .int _,.non=>true | .non,.bl _=>true | .bl _,.non=>true | .non,.str _=>true | .str _,.non=>true
 | .int _,.int _=>true | .bl _,.bl _=>true | .str _,.str _=>true | .byt _,.byt _=>true
 | .int _,.str _=>true | .str _,.int _=>true | .bl _,.str _=>true | .str _,.bl _=>true
 | _,_=>false
def rEq:R2:=fun x y H Q=>Uj x y=true/\Q (.bl (decide (x=y))) H
def rNe:R2:=fun x y H Q=>Uj x y=true/\Q (.bl (!decide (x=y))) H
theorem Ga {i j:Int}:decide (V.int i=V.int j)=(i == j):=by
 rw [ĺ]
 simp
theorem Lk {i j:Bool}:decide (V.bl i=V.bl j)=(i == j):=by
 rw [ĺ]
 simp
theorem FZ {i j:Str}:decide (V.str i=V.str j)=(i == j):=by
 rw [ĺ]
 simp
theorem Gb {i j:Array UInt8}:decide (V.byt i=V.byt j)=(i.toList == j.toList):=by
 rw [ĺ]
 cases i
 cases j
 simp
section
variable {X:Cx}{a b c:Expr}{ta tb tc:TE}{pos:Pos}
theorem aM {pins:List (Addr×Obj)}{σ:St}{H:Hp}{s:Shared}{Q:VK}{k k':Bool} (I:Inv X pins σ H s) (q:Q (.bl k) H) (e:k=k'):EP X pins σ Q (.bool k') s:=by
 subst e
 exact⟨.bl k,H,I,rfl,q⟩
theorem Qf:OpR X (compareOp .Eq) rEq:=by
 intro pins s σ H x y v u Q I rx ry h
 obtain⟨hs,q⟩:=h
 cases x with
 | non =>
  cases rx
  cases y with
  | non=>cases ry; exact PySem.EqNone.eq_none_none (aM I q (by simp))
  | bl j=>cases ry; exact PySem.EqNone.eq_none_bool (aM I q (by simp))
  | int j=>obtain⟨t',rfl⟩:=ry; exact PySem.EqNone.eq_none_int (aM I q (by simp))
  | str j=>obtain⟨t',rfl⟩:=ry; exact PySem.EqNone.eq_none_str (aM I q (by simp))
  | _=>exact absurd (show false=true from hs) Î
 | bl i =>
  cases rx
  cases y with
  | non=>cases ry; exact PySem.EqNone.eq_bool_none (aM I q (by simp))
  | bl j=>cases ry; exact eq_bool (aM I q Lk)
  | str j=>obtain⟨t',rfl⟩:=ry; exact PySem.EqMixed.eq_bool_str (aM I q (by simp))
  | _=>exact absurd (show false=true from hs) Î
 | int i =>
  obtain⟨t,rfl⟩:=rx
  cases y with
  | non=>cases ry; exact PySem.EqNone.eq_int_none (aM I q (by simp))
  | int j=>obtain⟨t',rfl⟩:=ry; exact eq_int (aM I q Ga)
  | str j=>obtain⟨t',rfl⟩:=ry; exact PySem.EqMixed.eq_int_str (aM I q (by simp))
  | _=>exact absurd (show false=true from hs) Î
 | str i =>
  obtain⟨t,rfl⟩:=rx
  cases y with
  | non=>cases ry; exact PySem.EqNone.eq_str_none (aM I q (by simp))
  | bl j=>cases ry; exact PySem.EqMixed.eq_str_bool (aM I q (by simp))
  | int j=>obtain⟨t',rfl⟩:=ry; exact PySem.EqMixed.eq_str_int (aM I q (by simp))
  | str j=>obtain⟨t',rfl⟩:=ry; exact eq_str (aM I q FZ)
  | _=>exact absurd (show false=true from hs) Î
 | byt i =>
  obtain⟨t,rfl⟩:=rx
  cases y with
  | byt j=>obtain⟨t',rfl⟩:=ry; exact W.eq_bytes (aM I q Gb)
  | _=>exact absurd (show false=true from hs) Î
 | _=>cases y <;> exact absurd (show false=true from hs) Î
theorem UL:OpR X (compareOp .NotEq) rNe:=by
 intro pins s σ H x y v u Q I rx ry h
 obtain⟨hs,q⟩:=h
 cases x with
 | non =>
  cases rx
  cases y with
  | non=>cases ry; exact PySem.EqNone.ne_none_none (aM I q (by simp))
  | bl j=>cases ry; exact PySem.EqNone.ne_none_bool (aM I q (by simp))
  | int j=>obtain⟨t',rfl⟩:=ry; exact PySem.EqNone.ne_none_int (aM I q (by simp))
  | str j=>obtain⟨t',rfl⟩:=ry; exact PySem.EqNone.ne_none_str (aM I q (by simp))
  | _=>exact absurd (show false=true from hs) Î
 | bl i =>
  cases rx
  cases y with
  | non=>cases ry; exact PySem.EqNone.ne_bool_none (aM I q (by simp))
  | bl j=>cases ry; exact ne_bool (aM I q (congrArg not Lk))
  | str j=>obtain⟨t',rfl⟩:=ry; exact PySem.EqMixed.ne_bool_str (aM I q (by simp))
  | _=>exact absurd (show false=true from hs) Î
 | int i =>
  obtain⟨t,rfl⟩:=rx
  cases y with
  | non=>cases ry; exact PySem.EqNone.ne_int_none (aM I q (by simp))
  | int j=>obtain⟨t',rfl⟩:=ry; exact ne_int (aM I q (congrArg not Ga))
  | str j=>obtain⟨t',rfl⟩:=ry; exact PySem.EqMixed.ne_int_str (aM I q (by simp))
  | _=>exact absurd (show false=true from hs) Î
 | str i =>
  obtain⟨t,rfl⟩:=rx
  cases y with
  | non=>cases ry; exact PySem.EqNone.ne_str_none (aM I q (by simp))
  | bl j=>cases ry; exact PySem.EqMixed.ne_str_bool (aM I q (by simp))
  | int j=>obtain⟨t',rfl⟩:=ry; exact PySem.EqMixed.ne_str_int (aM I q (by simp))
  | str j=>obtain⟨t',rfl⟩:=ry; exact ne_str (aM I q (congrArg not FZ))
  | _=>exact absurd (show false=true from hs) Î
 | byt i =>
  obtain⟨t,rfl⟩:=rx
  cases y with
  | byt j=>obtain⟨t',rfl⟩:=ry; exact W.ne_bytes (aM I q (congrArg not Gb))
  | _=>exact absurd (show false=true from hs) Î
 | _=>cases y <;> exact absurd (show false=true from hs) Î
theorem JT:OpR X (compareOp .Lt) (rI0 fun i j=>.bl (decide (i<j))):=Ny fun _ _ _ _ _ _ _ q=>lt_int q
theorem UW:OpR X (compareOp .LtE) (rI0 fun i j=>.bl (decide (i<=j))):=Ny fun _ _ _ _ _ _ _ q=>le_int q
theorem EY:OpR X (compareOp .Gt) (rI0 fun i j=>.bl (decide (j<i))):=Ny fun _ _ _ _ _ _ _ q=>gt_int q
theorem Qe:OpR X (compareOp .GtE) (rI0 fun i j=>.bl (decide (j<=i))):=Ny fun _ _ _ _ _ _ _ q=>ge_int q
theorem Cj:OpR X (compareOp .Is) (fun x y H Q=>y=.non/\Q (.bl (decide (x=.non))) H):=by
 intro pins s σ H x y v u Q I rx ry h
 obtain⟨rfl,q⟩:=h
 cases ry
 refine is_none_gen (aM I q ?_)
 cases x <;> first
  | (cases rx; rfl)
  | (obtain⟨t,rfl⟩:=rx; rfl)
theorem Nu:OpR X (compareOp .IsNot) (fun x y H Q=>y=.non/\Q (.bl (!decide (x=.non))) H):=by
 intro pins s σ H x y v u Q I rx ry h
 obtain⟨rfl,q⟩:=h
 cases ry
 refine isnot_none_gen (aM I q ?_)
 cases x <;> first
  | (cases rx; rfl)
  | (obtain⟨t,rfl⟩:=rx; rfl)
theorem cA (b:Expr) {op:CmpOp} (h:op≠.In:=by decide) (h2:op≠.NotIn:=by decide):behindInMarks op b=false:=by
 have e1:(op == CmpOp.In)=false:=by cases op <;> first | rfl | exact absurd rfl h
 have e2:(op == CmpOp.NotIn)=false:=by cases op <;> first | rfl | exact absurd rfl h2
 cases b <;> simp [behindInMarks,e1,e2]
theorem Np {op:CmpOp}{r:R2} (ho:OpR X (compareOp op) r) (ha:PE X a ta) (hb:PE X b tb) (hm:behindInMarks op b=false):PE X (.Compare a [op] [b] pos) (tOp r ta tb):=by
 intro pins s σ H Q I h
 exact wpAny_Compare1 (Tv ha hb I h fun v u s2 x y H2 I2 rx ry q=>ho pins s2 σ H2 x y v u Q I2 rx ry q) hm
def T5 (t:TE):TT:=fun σ H Q=>t σ H fun x H'=>∃ k,x=.bl k/\Q k H'
theorem jL {op:CmpOp}{r:R2} (ho:OpR X (compareOp op) r) (ha:PE X a ta) (hb:PE X b tb) (hm:behindInMarks op b=false):PT X (.Compare a [op] [b] pos) (T5 (tOp r ta tb)):=by
 intro pins s σ H Q I h
 refine wpAny_isTrue_Compare1 (thn (ha pins s σ H _ I h) fun v s1 ⟨x,H1,I1,r1,q1⟩=>thn (hb pins s1 σ H1 _ I1 q1) fun u s2 ⟨y,H2,I2,r2,q2⟩ =>
  thn (ho pins s2 σ H2 x y v u _ I2 r1 r2 q2) fun c s3 ⟨z,H3,I3,r3,k,e,q3⟩=>?_) hm
 subst e
 cases r3
 exact ĭ ⟨H3,I3,q3⟩
def Iw (r r':R2) (ta tb tc:TE):TE:=fun σ H Q=>ta σ H fun x H1=>tb σ H1 fun y H2=>r x y H2 fun z H3=>∃ k,z=.bl k /\
 (if k=true then tc σ H3 fun w' H4=>r' y w' H4 Q else Q (.bl false) H3)
theorem JH {op op':CmpOp}{r r':R2} (ho:OpR X (compareOp op) r) (ho':OpR X (compareOp op') r') (ha:PE X a ta) (hb:PE X b tb) (hc:PE X c tc)
  (hm:lastMarks [op,op'] [b,c]=false:=by with_unfolding_all rfl):PE X (.Compare a [op,op'] [b,c] pos) (Iw r r' ta tb tc):=by
 intro pins s σ H Q I h
 refine Compare_chain (thn (ha pins s σ H _ I h) fun v s1 ⟨x,H1,I1,r1,q1⟩=>chain_link (thn (hb pins s1 σ H1 _ I1 q1) fun u s2 ⟨y,H2,I2,r2,q2⟩ =>
  thn (ho pins s2 σ H2 x y v u _ I2 r1 r2 q2) fun d s3 ⟨z,H3,I3,r3,k,e,q3⟩=>?_)) hm
 subst e
 cases r3
 refine ĭ ?_
 cases k with
 | false=>exact ite_ff ⟨.bl false,H3,I3,rfl,q3⟩
 | true=>exact ite_tt (chain_last (thn (hc pins s3 σ H3 _ I3 q3) fun w' s4 ⟨z',H4,I4,r4,q4⟩=>ho' pins s4 σ H4 y z' u w' Q I4 r2 r4 q4))
def Vy (K:Ü) (x:V) (H:Hp) (k:Bool):Prop :=
 match x with
 | .non=>k=false
 | .bl b=>k=b
 | .int i=>k=(i != 0)
 | .str y=>y.length<=sizeLine/\k=((y.length:Int) != 0)
 | .byt y=>y.size<=sizeLine/\k=((y.size:Int) != 0)
 | .ref p=>(∃ xs,SqL K H p xs/\k=!xs.isEmpty)\/(∃ xs,SqT K H p xs/\k=!xs.isEmpty)\/∃ kvs,H p=some (.dK kvs)/\k=!kvs.isEmpty
 | _=>False
theorem CQ {κ:Type}{kvs:List (κ×V)}{vs:List (κ×Value)} (r:KV kvs vs):(!vs.isEmpty)=!kvs.isEmpty:=by
 cases r <;> rfl
theorem tQ {xs:List V}{its:List Value} (r:Vals xs its):(!its.toArray.isEmpty)=!xs.isEmpty:=by
 cases r <;> simp
theorem tL:(sizeLine:Nat)<2 ^ 63:=by rw [ø]; decide
theorem QC:Wk X (fun x H Q=>∃ k,Vy X.K x H k/\Q k H):=by
 intro pins s σ H x v Q I rx h
 obtain⟨k,e,q⟩:=h
 have hl:=tL
 have hs:sizeLine=16777216:=ø
 cases x with
 | non =>
  cases rx
  have e':k=false:=e
  subst e'
  exact truthy_none ⟨H,I,q⟩
 | bl b =>
  cases rx
  have e':k=b:=e
  subst e'
  exact ĭ ⟨H,I,q⟩
 | int i =>
  obtain⟨t,rfl⟩:=rx
  have e':k=(i != 0):=e
  subst e'
  exact PySem.P.truthy_int ⟨H,I,q⟩
 | str y =>
  obtain⟨t,rfl⟩:=rx
  obtain⟨hy,e'⟩:y.length<=sizeLine/\k=((y.length:Int) != 0):=e
  subst e'
  exact PySem.P.truthy_str (by omega) ⟨H,I.tok _,q⟩
 | byt y =>
  obtain⟨t,rfl⟩:=rx
  obtain⟨hy,e'⟩:y.size<=sizeLine/\k=((y.size:Int) != 0):=e
  subst e'
  exact W.truthy_bytes (by omega) ⟨H,I.tok _,q⟩
 | ref p =>
  cases rx
  have e':(∃ xs,SqL X.K H p xs/\k=!xs.isEmpty)\/(∃ xs,SqT X.K H p xs/\k=!xs.isEmpty)\/∃ kvs,H p=some (.dK kvs)/\k=!kvs.isEmpty:=e
  rcases e' with ⟨xs,hx,e'⟩ | ⟨xs,hx,e'⟩ | ⟨kvs,hx,e'⟩
  ·subst e'
   obtain⟨its,r,pl,hz⟩:=I.list hx
   have hlen:=r.length
   exact wpAny_truthy_list pl.isList (by simp only [Ò]; omega) ⟨H,I.tok _,by rw [tQ r]; exact q⟩
  ·subst e'
   obtain⟨its,r,pl,hz⟩:=I.tuple hx
   have hlen:=r.length
   exact truthy_tuple pl (by simp only [Ò]; omega) ⟨H,I.tok _,by rw [tQ r]; exact q⟩
  ·subst e'
   obtain⟨hz,hS,vs,r,m⟩:kvs.length<=sizeLine/\(p == sysModules)=false/\∃ vs,KV kvs vs/\s.heap.DictOf (bf X.prog X.w) p vs:=I.hok p _ hx
   have hlen:kvs.length=vs.length:=Paired.length r
   exact wpAny_truthy_dict hS m (by omega) ⟨H,I.tok _,by rw [CQ r]; exact q⟩
 | _=>exact (show False from e).elim
theorem Jq (ha:PE X a ta) (he:∀ whole,isTrue a X.env whole=(do let v ← whole; standAt a.pos; holding [v] (truthy v))) :
  PT X a (fun σ H Q=>ta σ H fun x H'=>∃ k,Vy X.K x H' k/\Q k H'):=by
 intro pins s σ H Q I h
 exact isTrue_plain (thn (ha pins s σ H _ I h) fun v s1 ⟨x,H1,I1,r1,q1⟩=>QC pins s1 σ H1 x v Q I1 r1 q1) (he _)
theorem vals1 {x:V}{us:List Value} (r:Vals [x] us):∃ u,us=[u]/\RelV x u:=by
 cases r with
 | cons r1 r2=>cases r2; exact⟨_,rfl,r1⟩
theorem vals2 {x y:V}{us:List Value} (r:Vals [x,y] us):∃ u w',us=[u,w']/\RelV x u/\RelV y w':=by
 cases r with
 | cons r1 r2 =>
  cases r2 with
  | cons r3 r4=>cases r4; exact⟨_,_,rfl,r1,r3⟩
theorem uz:bA X (.builtin "abs") (fun xs H Q=>∃ i,xs=[.int i]/\Q (.int (if i<0 then -i else i)) H):=by
 intro pins s σ H xs us Q I r h
 obtain⟨i,rfl,q⟩:=h
 obtain⟨u,rfl,t,rfl⟩:=vals1 r
 exact call_abs_int fun u tk=>⟨.int (if i<0 then -i else i),H,I.tok _,⟨_,rfl⟩,q⟩
theorem HD (hc:X.calm=true):bA X (.builtin "max") (fun xs H Q=>∃ i j,xs=[.int i,.int j]/\Q (.int (if j > i then j else i)) H):=by
 intro pins s σ H xs us Q I r h
 obtain⟨i,j,rfl,q⟩:=h
 obtain⟨u,w',rfl,⟨t,rfl⟩,⟨t',rfl⟩⟩:=vals2 r
 refine max_two_ints (I.ok.hd hc) fun h' tk k=>⟨_,H,I.kept k,?_,q⟩
 by_cases hj:j > i
 ·rw [if_pos hj,if_pos hj]; exact⟨_,rfl⟩
 ·rw [if_neg hj,if_neg hj]; exact⟨_,rfl⟩
theorem HF:bA X (.type "int") (fun xs H Q=>(∃ i,xs=[.int i]/\Q (.int i) H)\/∃ k,xs=[.bl k]/\Q (.int (if k then 1 else 0)) H):=by
 intro pins s σ H xs us Q I r h
 rcases h with ⟨i,rfl,q⟩ | ⟨k,rfl,q⟩
 ·obtain⟨u,rfl,t,rfl⟩:=vals1 r
  exact call_int_int ⟨.int i,H,I,⟨_,rfl⟩,q⟩
 ·obtain⟨u,rfl,r1⟩:=vals1 r
  cases r1
  exact call_int_bool ⟨.int (if k then 1 else 0),H,I.tok _,⟨_,rfl⟩,q⟩
end
structure ObjM (h:Heap) (x dx C:Addr) (mA:Str->Option Value):Prop where
 obj:h.get? x=some (W.instObj C dx)
 ns:h.Ns1 dx mA
 ne:dx≠x
theorem G4 {h:Heap}{dx:Addr}{mA:Str->Option Value} (n:h.Ns1 dx mA):∃ od,h.get? dx=some od/\∀ name,W.lookIn name od=some (mA name):=by
 obtain⟨o,es,ep,ho,hd,hk,_,hm⟩:=n
 refine⟨o,ho,fun name=>?_⟩
 have e:=hm name
 unfold nsFind findBy at e
 rw [← Array.find?_toList] at e
 unfold W.lookIn
 rw [hd]
 dsimp only
 split
 ·rename_i y q
  rw [q] at e
  exact congrArg some e
 ·rename_i q
  rw [q] at e
  have a:es.toList.any (·.refKey)=false:=by
   rw [List.any_eq_false]
   intro y hy
   obtain⟨z,t,hkey⟩:=hk y (Array.mem_toList_iff.mp hy)
   simp [DictEntry.refKey,hkey]
  have a':¬ es.toList.any (·.refKey)=true:=by rw [a]; exact Î
  rw [if_neg a']
  exact congrArg some e
theorem ObjM.look {h:Heap}{x dx C:Addr}{mA:Str->Option Value} (I:ObjM h x dx C mA):∃ od,W.InstAt h x (W.instObj C dx) C (some od)/\∀ name,W.lookIn name od=some (mA name) :=
 let ⟨od,ho,hl⟩:=G4 I.ns
 ⟨od,⟨I.obj,rfl,rfl,ho⟩,hl⟩
section
variable {prog:Program}{w:World}{A:Around}{E:Value->Shared->Prop}{s:Shared}{K:Ü}{x dx C f:Addr}{mA:Str->Option Value}{name:Str}{v:Value}
end
theorem uE.some_of {v:V}{o:Option Value} (r:uE (some v) o):∃ u,o=some u/\RelV v u:=by
 cases o with
 | none=>exact (show False from r).elim
 | some u=>exact⟨u,rfl,r⟩
section
variable {P:Program}{w:World}{H H':Hp}{h h':Heap}{a C dx:Addr}{fs fs':List (Str×V)}
theorem Ow (hok:HOk P w H h) (e:H a=some (.ins C dx fs)):∃ mA,ObjM h a dx C mA/\(∀ f,uE (fs.lookup f) (mA f))/\PySem.Within mA (fs.map (·.1))/\fs.length<=1000/\H dx=some (.own a):=by
 obtain⟨d,z,ne,ob,mA,n,r,q⟩:=(show aP P w H h a (.ins C dx fs) from hok a _ e)
 exact⟨mA,⟨ob,n,ne⟩,r,q,z,d⟩
end
structure Cls (K:Ü) (C:Addr):Prop where
 pg:W.plainGet K C Str.empty=true
 hd:W.hasDictIn K C=true
 po:W.plainOver K C=true
 sa:W.findIn K (.ref C) "__setattr__"=some (some (.builtin "object.__setattr__"))
theorem Cls.get {K:Ü}{C:Addr} (c:Cls K C) (f:Str):W.plainGet K C f=true:=c.pg
structure Con (K:Ü) (C:Addr) (f:Str) (v:V) (u:Value):Prop where
 at_:W.findIn K (.ref C) f=some (some u)
 rel:RelV v u
 get:W.specialIn K u "__get__"=some none
 cp:W.copiedNames.contains f=false
structure Meth (K:Ü) (C:Addr) (m:Str) (f:Addr):Prop where
 at_:W.findIn K (.ref C) m=some (some (.ref f))
 fn:W.isFn K (.ref f)=true
 kp:W.keepIn K (.ref f)=true
section
variable {X:Cx}{pins:List (Addr×Obj)}{σ:St}{H:Hp}{s:Shared}{a C dx:Addr}{fs:List (Str×V)}{f:Str}{v:V}{A:Around}{E:Value->Shared->Prop}
end
section
variable {X:Cx}{o e value:Expr}{f:Str}{pos pos' tpos:Pos}{ta tv:TE}
end
section
variable {X:Cx}{pins:List (Addr×Obj)}{σ:St}{H:Hp}{s:Shared}{A:Around}{E:Value->Shared->Prop}{Q:Value->Shared->Prop}{c:Value}{b:Bool}
inductive TyOf (K:Ü) (H:Hp):V->Value->Prop where
 | non:TyOf K H .non (.type "NoneType")
 | bl (x:Bool):TyOf K H (.bl x) (.type "bool")
 | int (i:Int):TyOf K H (.int i) (.type "int")
 | str (x:Str):TyOf K H (.str x) (.type "str")
 | flt (x:UInt64):TyOf K H (.flt x) (.type "float")
 | lst {a:Addr}{xs:List V} (e:H a=some (.lst xs)):TyOf K H (.ref a) (.type "list")
 | frz {a:Addr}{o:Obj}{xs:List V} (e:H a=some (.frz o (.lst xs))):TyOf K H (.ref a) (.type "list")
 | tup {a:Addr}{xs:List V} (e:H a=some (.tup xs)):TyOf K H (.ref a) (.type "tuple")
 | dK {a:Addr}{kvs:List (Key×V)} (e:H a=some (.dK kvs)):TyOf K H (.ref a) (.type "dict")
 | dT {a:Addr}{kvs:List (List Key×V)} (e:H a=some (.dT kvs)):TyOf K H (.ref a) (.type "dict")
 | ins {a C dx:Addr}{fs:List (Str×V)} (e:H a=some (.ins C dx fs)) (cl:Cls K C) (ha:W.findIn K (.ref C) "__class__"=some (some (.builtin "object.__class__")))
   (hn:W.specialIn K (.builtin "object.__class__") "__get__"=some (some (.builtin "getset_descriptor.__get__"))) (htk:W.takesIn K (.builtin "object.__class__")=some true)
   (hm:W.mroIn K C (.type "object")=some true):TyOf K H (.ref a) (.ref C)
theorem Hg {x:V}{u t:Value} (I:Inv X pins σ H s) (rx:RelV x u) (ty:TyOf X.K H x t) (e:W.kitOne X.K t c=some b) (h:∀ tk,Q (.bool b) { s with toks:=tk }) :
  wpAny (model X.prog X.w) A (call (.builtin "isinstance") [u,c]) Q E s:=by
 cases ty with
 | non=>cases (show u=ċ from rx); exact W.kia_one W.kitx_none I.kIn Ş e (fun z=>nomatch z) h
 | bl y=>cases (show u=Ų y from rx); exact W.kia_one W.kitx_bool I.kIn Ş e (fun z=>nomatch z) h
 | int i=>obtain⟨t,q⟩:=(show ∃ t,u=Ŕ i t from rx); cases q; exact W.kia_one W.kitx_int I.kIn Ş e (fun z=>nomatch z) h
 | str y=>obtain⟨t,q⟩:=(show ∃ t,u=Value.str y t from rx); cases q; exact W.kia_one W.kitx_str I.kIn Ş e (fun z=>nomatch z) h
 | flt y=>obtain⟨t,q⟩:=(show ∃ t,u=Value.float y t from rx); cases q; exact W.kia_one W.kitx_float I.kIn Ş e (fun z=>nomatch z) h
 | @lst a xs ea =>
  cases (show u=Ā a from rx)
  obtain⟨_,_,n,_,h1⟩:=(show aP X.prog X.w H s.heap a (.lst xs) from I.hok a _ ea)
  exact W.kia_one W.kitx_list I.kIn ⟨_,h1,rfl⟩ e (fun z=>nomatch z) h
 | @frz a ob xs ea =>
  cases (show u=Ā a from rx)
  obtain⟨_,_,_,n,_,h1⟩:=(show aP X.prog X.w H s.heap a (.frz ob (.lst xs)) from I.hok a _ ea)
  exact W.kia_one W.kitx_list I.kIn ⟨_,h1,rfl⟩ e (fun z=>nomatch z) h
 | @tup a xs ea =>
  cases (show u=Ā a from rx)
  obtain⟨_,_,_,p⟩:=(show aP X.prog X.w H s.heap a (.tup xs) from I.hok a _ ea)
  obtain⟨o,h1,h2,_⟩:=p
  exact W.kia_one W.kitx_tuple I.kIn ⟨o,h1,h2⟩ e (fun z=>nomatch z) h
 | @dK a kvs ea =>
  cases (show u=Ā a from rx)
  obtain⟨_,_,vs,_,p⟩:=(show aP X.prog X.w H s.heap a (.dK kvs) from I.hok a _ ea)
  obtain⟨o,es,ep,h1,h2,_⟩:=p
  exact W.kia_one W.kitx_dict I.kIn ⟨o,h1,h2.1⟩ e (fun z=>nomatch z) h
 | @dT a kvs ea =>
  cases (show u=Ā a from rx)
  obtain⟨_,_,xs,_,o,es,ep,h1,h2,_⟩:=(show aP X.prog X.w H s.heap a (.dT kvs) from I.hok a _ ea)
  exact W.kia_one W.kitx_dict I.kIn ⟨o,h1,h2.1⟩ e (fun z=>nomatch z) h
 | @ins a C dx fs ea cl ha hn htk hm =>
  cases (show u=Ā a from rx)
  obtain⟨mA,O,_⟩:=Ow I.hok ea
  obtain⟨od,J,_⟩:=O.look
  exact W.kia_one (W.kitx_own (cl.get _) cl.hd ha hn htk hm) I.kIn J e (fun z=>nomatch z) h
end
structure Room (k:Nat) (A:Around):Prop where
 hd:A.handled=none
 dp:A.depth+3 * k+5<recursionLimit
 un:A.units+16 * k+200<cLine
 gd:A.guards=some []
theorem Room.mono {j k:Nat}{A:Around} (r:Room k A) (h:j<=k):Room j A:=⟨r.hd,by have:=r.dp; omega,by have:=r.un; omega,r.gd⟩
theorem Room.deeper {k:Nat}{A:Around} (r:Room (k+1) A) (env:Env):Room k (A.deeper env) :=
 ⟨r.hd,by have:=r.dp; show A.depth+1+3 * k+5<_; omega,by have:=r.un; show A.units+3+16 * k+200<_; omega,r.gd⟩
theorem Room.depth {k:Nat}{A:Around} (r:Room k A):A.depth<recursionLimit:=by have:=r.dp; omega
theorem Room.units {k:Nat}{A:Around} (r:Room k A):A.units+64<cLine:=by have:=r.un; omega
def QG:TA:=fun _ H Q=>Q [] H
def yM (ta:TE) (tr:TA):TA:=fun σ H Q=>ta σ H fun x H1=>tr σ H1 fun xs H2=>Q (x::xs) H2
section
variable {X:Cx}{e:Expr}{es:List Expr}{te:TE}{t:TA}{pos:Pos}
theorem cu:PA X [] QG:=fun _ _ _ _ H Q I h=>Calls.spliced_nil ⟨[],H,I,.nil,h⟩
theorem jO (ha:PE X e te) (hr:PA X es t) (hs:starEach (e::es) X.env=(false,eval e X.env)::starEach es X.env:=by rfl):PA X (e::es) (yM te t):=by
 intro pos pins s σ H Q I h
 rw [hs]
 show wpAny _ _ (spliced ((false,eval e X.env)::backTo pos (starEach es X.env))) _ _ s
 refine Calls.spliced_cons (thn (ha pins s σ H _ I h) fun u s1 ⟨x,H1,I1,r1,q1⟩=>?_)
 exact thn (hr pos pins s1 σ H1 _ I1 q1) fun us s2 ⟨xs,H2,I2,r2,q2⟩=>⟨x::xs,H2,I2,.cons r1 r2,q2⟩
def VG (t:TA):TE:=fun σ H Q=>t σ H fun xs H1=>xs.length<=sizeLine/\∀ p,H1 p=none->Q (.ref p) (upd H1 p (.tup xs))
def QJ (t:TA):TE:=fun σ H Q=>t σ H fun xs H1=>xs.length<=sizeLine/\∀ p,H1 p=none->Q (.ref p) (upd H1 p (.lst xs))
theorem Jz {x1} (h:PA X es t):PE X (.Tuple es x1 pos) (VG t):=by
 intro pins s σ H Q I hq
 refine wpAny_Tuple_spliced (thn (h pos pins s σ H _ I hq) fun us s1 ⟨xs,H1,I1,r,z,q⟩=>⟨by rw [← r.length]; exact z,?_⟩)
 have hf:H1 s1.heap.objs.size=none:=I1.hok.fresh (Ö _)
 refine⟨.ref s1.heap.objs.size,upd H1 s1.heap.objs.size (.tup xs),I1.laid (t':=s1.toks) (fun b u e=>Ì _ e) (Ö _) ?_,rfl,q _ hf⟩
 exact⟨z,us,r,⟨_,Û _ rfl,rfl,_,rfl⟩⟩
theorem BZ (h:PA X es t):PE X (.List es pos) (QJ t):=by
 intro pins s σ H Q I hq
 refine wpAny_List_spliced (thn (h pos pins s σ H _ I hq) fun us s1 ⟨xs,H1,I1,r,z,q⟩=>⟨by rw [← r.length]; exact z,?_⟩)
 have hf:H1 s1.heap.objs.size=none:=I1.hok.fresh (Ö _)
 refine⟨.ref s1.heap.objs.size,upd H1 s1.heap.objs.size (.lst xs),I1.laid (t':=s1.toks) (fun b u e=>Ì _ e) (Ö _) ?_,rfl,q _ hf⟩
 exact⟨z,us,0,r,Û _ rfl⟩
end
abbrev Sp:=List V->Hp->VK->XK->Prop
abbrev CXT:=List Env->Hp->Shared->XK->Value->Shared->Prop
structure Env0 (P:Program) (w:World) (K:Ü) (mg:Str->Option Value) (base:Heap) (A:Around) (outer:List Env) (s:Shared) (H:Hp):Prop where
 frames:A.frames=some outer
 mod:Mod K mg base
 bs:∀ b o,base.get? b=some o->s.heap.get? b=some o/\H b=none
 bsz:base.objs.size<=s.heap.objs.size
 qC:s.heap.FunFrames base outer
 frf:∀ b∈frs outer,H b=none
 hok:HOk P w H s.heap
 bare:AllBare s.gens
def CE (outer:List Env) (P:Program) (w:World) (H:Hp) (s:Shared) (Q:VK) (u:Value) (s':Shared):Prop :=
 ∃ v H',s'.os=s.os/\AllBare s'.gens/\Un (frs outer) [] H H' s.heap s'.heap/\HOk P w H' s'.heap/\RelV v u/\Q v H'
def CR (CX:CXT) (outer:List Env) (P:Program) (w:World) (H:Hp) (s:Shared) (Q:VK) (E:XK) (r:Result) (s':Shared):Prop :=
 match r with
 | .ok (.ret u)=>CE outer P w H s Q u s'
 | .ok _=>False
 | .error e=>CX outer H s E e s'
structure FnOk (P:Program) (w:World) (K:Ü) (mg:Str->Option Value) (base:Heap) (CX:CXT) (k:Nat) (f:Addr) (fd:FuncData) (ps:List Str) (sp:Sp):Prop where
 len:∀ vs H Q E,sp vs H Q E->vs.length=ps.length
 run:∀ (A:Around) (outer:List Env) (s:Shared) (H:Hp) (args:Args) (us:List Value) (vs:List V) (Q:VK) (E:XK),Room k A->Env0 P w K mg base A outer s H->BindsTo s fd args (ps.zip us)->Vals vs us->sp vs H Q E ->
  codeAny (model P w) A (.call (.ref f) args) (CR CX outer P w H s Q E) s
section
variable {X:Cx}{pins:List (Addr×Obj)}{σ:St}{H:Hp}{s s':Shared}
theorem Inv.env0 (I:Inv X pins σ H s):Env0 X.prog X.w X.K X.mg X.base X.A X.stack s H :=
 ⟨I.ok.frames,I.ok.mod,I.bs,Ą I.ok.bsz I.sz,I.stack,I.wg,I.hok,I.bare⟩
theorem Inv.after {Q:VK}{u:Value} (I:Inv X pins σ H s) (h:CE X.stack X.prog X.w H s Q u s'):EP X pins σ Q u s':=by
 obtain⟨v,H',os,bare,un,hok,r,q⟩:=h
 obtain⟨hh,g,d,t,os'⟩:=s'
 obtain rfl:os'=s.os:=os
 exact⟨v,H',I.call (h':=hh) (g':=g) (d':=d) (t':=t) (ch:=[]) un hok bare (fun b z=>absurd z (by simp)),r,q⟩
end
def rH (sp:Sp) (dvs:List V) (E:XK) (t:TA):TE:=fun σ H Q=>t σ H fun vs H1=>sp (vs++dvs) H1 Q E
def Binds (K:Ü) (fd:FuncData) (ps:List Str) (ds:List Value):Prop :=
 ∀ (s:Shared) (us:List Value),K.In s.heap->(us++ds).length=ps.length->BindsTo s fd ⟨us,[]⟩ (ps.zip (us++ds))
theorem Binds.all {K:Ü}{fd:FuncData}{ps:List Str} (h:∀ us:List Value,us.length=ps.length->bindArgs fd ⟨us,[]⟩=pure (ps.zip us)):Binds K fd ps []:=fun s us _ hl=>by
 rw [ÿ] at hl ⊢
 exact .of_eq (h us hl)
def Passes (CX:CXT) (X:Cx) (E:XK):Prop:=∀ (pins:List (Addr×Obj)) (σ:St) (H:Hp) (s:Shared) (e:Value) (s':Shared),Inv X pins σ H s->CX X.stack H s E e s'->X.xe e s'
section
variable {X:Cx}{CX:CXT}{k:Nat}{f C:Addr}{fd:FuncData}{ps:List Str}{sp:Sp}{dvs:List V}{ds:List Value}{E:XK}{x m:Str}{p pos apos:Pos}{e o:Expr}{es:List Expr}{ta:TE}{t:TA}
theorem QX {pins:List (Addr×Obj)}{σ:St}{H:Hp}{s:Shared}{Q:VK}{us:List Value}{vs:List V} (F:FnOk X.prog X.w X.K X.mg X.base CX k f fd ps sp) (hr:Room k X.A) (hb:Binds X.K fd ps ds) (hd:Vals dvs ds) (hx:Passes CX X E)
  (I:Inv X pins σ H s) (r:Vals vs us) (h:sp (vs++dvs) H Q E):wpAny (model X.prog X.w) X.A (call (.ref f) us) (EP X pins σ Q) X.xe s:=by
 have r2:Vals (vs++dvs) (us++ds):=r.append hd
 have hl:(us++ds).length=ps.length:=by rw [← r2.length]; exact F.len _ _ _ _ h
 refine wpAny_call (codeAny_mono (F.run X.A X.stack s H ⟨us,[]⟩ (us++ds) (vs++dvs) Q E hr I.env0 (hb s us I.kIn hl) r2 h) fun r s' hq=>?_)
 cases r with
 | error e=>exact hx pins σ H s e s' I hq
 | ok fl =>
  cases fl with
  | ret u=>exact I.after hq
  | next=>exact ġ hq
  | brk=>exact ġ hq
  | cont=>exact ġ hq
theorem Ew (F:FnOk X.prog X.w X.K X.mg X.base CX k f fd ps sp) (hr:Room k X.A) (hg:Gl X x) (hm:X.mg x=some (.ref f)) (hk:W.keepIn X.K (.ref f)=true) (hb:Binds X.K fd ps ds) (hd:Vals dvs ds) (hx:Passes CX X E)
  (ha:PA X (e::es) t) (hdb:(x == ("__debug__":Str))=false:=by decide) (he:starEach (e::es) X.env=(false,eval e X.env)::starEach es X.env:=by rfl) (hpl:(backTo pos (starEach es X.env)).any (·.1)=false:=by rfl) :
  PE X (.Call (.Name x p) (e::es) [] pos) (rH sp dvs E t):=by
 intro pins s σ H Q I h
 refine ń (mR I hg hm ?_ hdb)
 refine W.callWith_K (h₀:=X.base) I.ok.mod.kin hk (thn (ha pos pins s σ H _ I h) fun us s1 ⟨vs,H1,I1,r,q⟩=>⟨I1.kIn,?_⟩) he hpl
 exact QX F hr hb hd hx I1 r q
structure Mk (K:Ü) (C f:Addr):Prop where
 makes:W.makesIn K C=true
 init:W.findIn K (.ref C) "__init__"=some (some (.ref f))
 fn:W.isFn K (.ref f)=true
 kp:W.keepIn K (.ref C)=true
end
section
variable {X:Cx}{CX:CXT}{k:Nat}{f C:Addr}{fd:FuncData}{ps ks:List Str}{sp:Sp}{E:XK}{x m:Str}{p pos apos kpos:Pos}{e o:Expr}{es:List Expr}{kws:List Keyword}{te ta:TE}{t tk:TA}{nm:Option Str}
structure KBinds (K:Ü) (fd:FuncData) (ps ks:List Str) (g:List Value->List Value->List Value) (gV:List V->List V->List V):Prop where
 to:∀ (s:Shared) (us ws:List Value),K.In s.heap->(g us ws).length=ps.length->BindsTo s fd ⟨us,ks.zip ws⟩ (ps.zip (g us ws))
 rel:∀ {vs:List V}{us:List Value}{zs:List V}{ws:List Value},Vals vs us->Vals zs ws->Vals (gV vs zs) (g us ws)
variable {g:List Value->List Value->List Value}{gV:List V->List V->List V}
end
structure FnScope (N P:List Str) (sc:Scope):Prop where
 kind:sc.kind=.function
 co:sc.isCoroutine=false
 gen:sc.isGenerator=false
 nd:N.Nodup
 pre:N.take P.length=P
 par:∀ x∈P,sc.names.lookup x=some .local\/sc.names.lookup x=some .cell
 nofree:∀ y∈sc.names,y.2≠.free
theorem zC {N P:List Str}{sc:Scope} (a:sc.kind=.function:=by rfl) (b:sc.isCoroutine=false:=by rfl) (c:sc.isGenerator=false:=by rfl) (d:N.Nodup:=by decide +kernel) (e:N.take P.length=P:=by rfl) (f:∀ x∈P,sc.names.lookup x=some .local\/sc.names.lookup x=some .cell:=by decide +kernel) (g:∀ y∈sc.names,y.2≠.free:=by decide +kernel):FnScope N P sc:=⟨a,b,c,d,e,f,g⟩
theorem vO {kindOf:Str->Option NameKind}{x:Str}:∀ {binds:List (Str×Value)}{m:Str->Option Value},(∀ v,(x,v)∉binds)->bindL kindOf binds m x=m x
 | [],_,_=>rfl
 | (n,v)::r,m,h=>by
  unfold bindL
  rw [vO fun w hw=>h w (Ù _ hw)]
  split
  ·have:x≠n:=by rintro rfl; exact h v ä
   simp [this]
  ·rfl
theorem vQ {kindOf:Str->Option NameKind}{x:Str}:∀ {binds:List (Str×Value)}{m:Str->Option Value},(∀ v,(x,v)∉binds)->bindC kindOf binds m x=m x
 | [],_,_=>rfl
 | (n,v)::r,m,h=>by
  unfold bindC
  rw [vQ fun w hw=>h w (Ù _ hw)]
  split
  ·rfl
  ·have:x≠n:=by rintro rfl; exact h v ä
   simp [this]
theorem vP {kindOf:Str->Option NameKind}{x:Str}{v:Value}:∀ {P:List Str}{vs:List Value}{i:Nat}{m:Str->Option Value},P.Nodup->P[i]?=some x->vs[i]?=some v->kindOf x=some .local ->
  bindL kindOf (P.zip vs) m x=some v
 | [],_,_,_,_,h,_,_=>by simp at h
 | _::_,[],_,_,_,_,h,_=>by simp at h
 | p::P,w::vs,0,m,nd,h1,h2,hk=>by
  simp at h1 h2; subst h1; subst h2
  show bindL kindOf ((p,w)::P.zip vs) m p=_
  unfold bindL
  rw [vO fun v hv=>(Ť.mp nd).1 (List.of_mem_zip hv).1,if_pos hk]
  simp
 | p::P,w::vs,i+1,m,nd,h1,h2,hk=>by
  show bindL kindOf ((p,w)::P.zip vs) m x=_
  unfold bindL
  exact vP (i:=i) (Ť.mp nd).2 (by simpa using h1) (by simpa using h2) hk
theorem vR {kindOf:Str->Option NameKind}{x:Str}{v:Value}:∀ {P:List Str}{vs:List Value}{i:Nat}{m:Str->Option Value},P.Nodup->P[i]?=some x->vs[i]?=some v->kindOf x≠some .local ->
  bindC kindOf (P.zip vs) m x=some v
 | [],_,_,_,_,h,_,_=>by simp at h
 | _::_,[],_,_,_,_,h,_=>by simp at h
 | p::P,w::vs,0,m,nd,h1,h2,hk=>by
  simp at h1 h2; subst h1; subst h2
  show bindC kindOf ((p,w)::P.zip vs) m p=_
  unfold bindC
  rw [vQ fun v hv=>(Ť.mp nd).1 (List.of_mem_zip hv).1,if_neg hk]
  simp
 | p::P,w::vs,i+1,m,nd,h1,h2,hk=>by
  show bindC kindOf ((p,w)::P.zip vs) m x=_
  unfold bindC
  exact vR (i:=i) (Ť.mp nd).2 (by simpa using h1) (by simpa using h2) hk
def start (N:List Str) (vs:List V):St:=vs.map some++Ñ (N.length - vs.length) none
def Av (CX:CXT) (P:Program) (w:World) (K:Ü) (mg:Str->Option Value) (base:Heap) (N:List Str) (qual:Str) (scope:Scope) (f:Addr) (cd:Value) (A:Around) (outer:List Env) (s:Shared) (H:Hp) (E:XK):Cx where
 prog:=P
 w:=w
 K:=K
 mg:=mg
 base:=base
 A:=A.deeper (envOfC qual scope s.heap.objs.size f cd)
 N:=N
 s₀:=s
 H₀:=H
 env:=envOfC qual scope s.heap.objs.size f cd
 outer:=outer
 stack:=envOfC qual scope s.heap.objs.size f cd::outer
 ex:=[]
 calm:=true
 fn:=fun _=>true
 pn:=[]
 xe:=fun e s'=>wpAny (model P w) (A.deeper (envOfC qual scope s.heap.objs.size f cd)) (leaving (envOfC qual scope s.heap.objs.size f cd) e) (fun _ s''=>CX outer H s E e s'') (fun e' s''=>CX outer H s E e' s'') s'
theorem Az {sc:Scope}{n:Nat}{x:Str} (h:sc.names.lookup x=some .cell):∃ c,(cellsFrom n sc.names []).lookup x=some c:=by
 have q:=W.cellsFrom_some sc.names n [] (.inl h)
 exact Option.isSome_iff_exists.mp q
theorem Hh {CX:CXT}{P:Program}{w:World}{K:Ü}{mg:Str->Option Value}{base:Heap}{N ps:List Str}{qual:Str}{scope:Scope}{f:Addr}{cd:Value}{A:Around}{outer:List Env}{s s1:Shared}{H:Hp}{E:XK}{us:List Value}{vs:List V}
  (S:FnScope N ps scope) (hd:A.handled=none) (e0:Env0 P w K mg base A outer s H) (hl:vs.length=ps.length) (r:Vals vs us)
  (x:InCallC s s.heap.objs.size (bindL (envOfC qual scope s.heap.objs.size f cd).kindOf (ps.zip us) fun _=>none) (cellsFrom (s.heap.objs.size+1) scope.names []) (bindC (envOfC qual scope s.heap.objs.size f cd).kindOf (ps.zip us) fun _=>none) s1) :
  Inv (Av CX P w K mg base N qual scope f cd A outer s H E) [] (start N vs) H s1:=by
 have hpl:ps.length<=N.length:=by have:=congrArg List.length S.pre; rw [Ĕ] at this; omega
 obtain⟨h1,tk,rfl,hk⟩:=x.done
 have noA:∀ b:Addr,b∉(Av CX P w K mg base N qual scope f cd A outer s H E).ex:=fun b z=>absurd (show b∈([]:List Addr) from z) (by simp)
 refine⟨⟨e0.mod,S.kind,rfl,rfl,Ö _,fun y z c h1 h2=>?_,fun y hy=>?_,fun y c _ h=>?_,fun _=>hd,Around.frames_deeper e0.frames,.inr ⟨rfl,rfl⟩,fun b z=>absurd z (noA b),e0.bs,e0.bsz,fun b _ _=>noA b,fun b z=>absurd z (noA b),e0.qC,e0.frf,fun q z=>nomatch (show q∈([]:List (Addr×Obj×HO)) from z)⟩,
  rfl,e0.bare,Un.kept hk,⟨_,x.toInCall.ns,fun i y v h1 h2 h3=>?_⟩,fun y c h=>⟨_,x.cell y c h⟩,e0.hok.fresh (Ö _),fun y c h=>?_,fun p hp=>absurd (show p∈([]:List (Addr×Obj)) from hp) (by simp),e0.hok.kept hk,?_⟩
 ·exact name_of_addr x.apart (Ŋ h1) (Ŋ h2)
 ·have hy:scope.names.lookup y=some .cell\/scope.names.lookup y=some .free:=hy
  rcases hy with hy | hy
  ·exact Az hy
  ·exact absurd rfl (S.nofree _ (Ŋ hy))
 ·exact Nat.le_of_lt (x.above y c (Ŋ h))
 ·have hi:i<vs.length:=by
   unfold start at h2
   by_cases hi:i<vs.length
   ·exact hi
   ·rw [Ă (by simpa using hi)] at h2
    rw [ś] at h2
    split at h2 <;> cases h2
  have ha:vs[i]?=some v:=by
   unfold start at h2
   rw [ě (by simpa using hi),ç] at h2
   cases e:vs[i]? with
   | none=>rw [e] at h2; cases h2
   | some a=>rw [e] at h2; cases h2; rfl
  obtain⟨u,hu,rv⟩:=r.get ha
  have hp:ps[i]?=some y:=by
   rw [← S.pre,List.getElem?_take_of_lt (by omega)]; exact h1
  have ndP:ps.Nodup:=by rw [← S.pre]; exact S.nd.sublist (List.take_sublist _ _)
  refine⟨u,rv,?_⟩
  rcases S.par y (É hp) with k | k
  ·exact .inl ⟨k,vP ndP hp hu k⟩
  ·obtain⟨c,e⟩:=Az (n:=s.heap.objs.size+1) k
   refine .inr ⟨.inl k,c,e,?_⟩
   have q:=x.cell y c e
   rw [vR ndP hp hu (by show scope.names.lookup y≠_; rw [k]; decide)] at q
   exact q
 ·exact e0.hok.fresh (Nat.le_of_lt (x.above y c (Ŋ h)))
 ·unfold start
  show _=N.length
  rw [Ô,Ä,ŧ]
  omega
theorem Qo {CX:CXT}{P:Program}{w:World}{K:Ü}{mg:Str->Option Value}{base:Heap}{k:Nat}{f:Addr}{name qual:Str}{params:Arguments}{body:List Stmt}{scope:Scope}{dV kV doc pm cdv ct oc:Value}{an od:Option Addr}
  {osl:Array (Option Value)}{N ps:List Str}{sp:Sp} (lk:K.lookup f=some ⟨oc,od,.func (W.fnOf name qual params body scope dV kV doc pm an cdv ct),osl⟩) (hcd:W.codeIn K cdv qual=true) (S:FnScope N ps scope)
  (len:∀ vs H Q E,sp vs H Q E->vs.length=ps.length)
  (hbody:∀ (A:Around) (outer:List Env) (s:Shared) (H:Hp) (vs:List V) (Q:VK) (E:XK),Room k (A.deeper (envOfC qual scope s.heap.objs.size f cdv))->sp vs H Q E ->
   ∃ t,PSs (Av CX P w K mg base N qual scope f cdv A outer s H E) body t/\t { nx:=fun _ H'=>Q .non H',rt:=Q } (start N vs) H) :
  FnOk P w K mg base CX (k+1) f (W.fnOf name qual params body scope dV kV doc pm an cdv ct) ps sp:=by
 refine⟨len,fun A outer s H args us vs Q E hr e0 hb r hsp=>?_⟩
 have hl:=len _ _ _ _ hsp
 have KX:K.In s.heap:=e0.mod.kin.keeps fun b o e=>(e0.bs b o e).1
 have lim:s.heap.NoLimit:=e0.mod.nolimit.keeps fun b o e=>(e0.bs b o e).1
 have hkind:∀ y∈ps.zip us,scope.names.lookup y.1=some .local\/(scope.names.lookup y.1=some .cell/\((cellsFrom (s.heap.objs.size+1) scope.names []).lookup y.1).isSome=true):=fun ⟨n,v⟩ hy=>by
  rcases S.par n (List.of_mem_zip hy).1 with q | q
  ·exact .inl q
  ·exact .inr ⟨q,W.cellsFrom_some _ _ _ (.inl q)⟩
 refine codeAny_call_function hr.depth (KX _ _ lk) rfl S.co S.gen rfl (W.codeRec_of KX hcd) (hb _ _ _ _ ?_)
 refine wpAny_newFunctionEnv_cells S.kind hkind fun env he s1 x=>?_
 subst he
 refine⟨lim.keeps x.toInCall.keep,codeAny_func ?_⟩
 obtain⟨t,ht,hq⟩:=hbody A outer s H vs Q E (hr.deeper _) hsp
 have I:Inv (Av CX P w K mg base N qual scope f cdv A outer s H E) [] (start N vs) H s1:=Hh S hr.hd e0 hl r x
 refine Ĳ (ht [] s1 (start N vs) H _ I hq) (fun fl s' hs=>?_) fun e s' hs=>hs
 have fin:∀ {σ':St}{H':Hp}{v:V}{u:Value},Inv (Av CX P w K mg base N qual scope f cdv A outer s H E) [] σ' H' s'->RelV v u->Q v H'->CE outer P w H s Q u s' :=
  fun {σ' H' v u} J rv q=>⟨v,H',J.os,J.bare,J.base,J.hok,rv,q⟩
 cases fl with
 | ret u =>
  obtain⟨v,σ',H',J,rv,q⟩:=hs
  exact fin J rv q
 | next =>
  obtain⟨σ',H',J,q⟩:=hs
  exact fin (v:=V.non) (u:=ċ) J rfl q
 | brk =>
  obtain⟨_,_,_,q⟩:=hs
  exact ġ q
 | cont =>
  obtain⟨_,_,_,q⟩:=hs
  exact ġ q
section
variable {X:Cx}{x:Str}{p pos:Pos}{e:Expr}{es:List Expr}{t:TA}{id T:String}{r:List V->Hp->VK->Prop}
def tCB (r:List V->Hp->VK->Prop) (t:TA):TE:=fun σ H Q=>t σ H fun vs H1=>r vs H1 Q
theorem bQ (hc:bA X (.builtin id) r) (hg:Gl X x) (hm:X.mg x=none) (hv:bootBuiltins x=some (.builtin id)) (ha:PA X (e::es) t) (hn:x≠"__name__":=by decide) (hdb:(x == ("__debug__":Str))=false:=by decide)
  (he:starEach (e::es) X.env=(false,eval e X.env)::starEach es X.env:=by rfl) (hpl:(backTo pos (starEach es X.env)).any (·.1)=false:=by rfl):PE X (.Call (.Name x p) (e::es) [] pos) (tCB r t):=by
 intro pins s σ H Q I h
 refine ń (dF I hg hm hv ?_ hn hdb)
 exact PyProof.Rows.callWith_builtin1 (thn (ha pos pins s σ H _ I h) fun us s1 ⟨vs,H1,I1,r1,q1⟩=>hc pins s1 σ H1 vs us Q I1 r1 q1) he hpl
theorem uZ (hc:bA X (.type T) r) (hg:Gl X x) (hm:X.mg x=none) (hv:bootBuiltins x=some (.type T)) (ha:PA X (e::es) t) (hn:x≠"__name__":=by decide) (hdb:(x == ("__debug__":Str))=false:=by decide)
  (he:starEach (e::es) X.env=(false,eval e X.env)::starEach es X.env:=by rfl) (hpl:(backTo pos (starEach es X.env)).any (·.1)=false:=by rfl):PE X (.Call (.Name x p) (e::es) [] pos) (tCB r t):=by
 intro pins s σ H Q I h
 refine ń (dF I hg hm hv ?_ hn hdb)
 exact ü (thn (ha pos pins s σ H _ I h) fun us s1 ⟨vs,H1,I1,r1,q1⟩=>hc pins s1 σ H1 vs us Q I1 r1 q1) he hpl
end
end L2
namespace HT
open PySem PyProof.Rows
section
open PySem.SeqAt
open PySem.AutoSeq1 (wpAny_loadPart')
open PySem.MeetsSeq PySem.MeetsSeq2 PySem.MeetsSeq3
end
section
variable {prog:Program}{w:World}{A:Around}{E:Value->Shared->Prop}{s:Shared}
theorem Pq {t b:Addr}{vs ws:List Value}{Q:Value->Shared->Prop} (ht:IsTup s.heap t vs.toArray) (hb:IsTup s.heap b ws.toArray) (hv:vs≠[])
  (h1:ws=[]->Q (.ref t) s) (h2:ws≠[]->Q (.ref s.heap.objs.size) { s with heap:=s.heap.push { cls:=.type "tuple",data:=.seq (vs++ws).toArray } })
  (hsz:vs.length+ws.length<=sizeLine):wpAny (model prog w) A (binaryOp .Add (.ref t) (.ref b)) Q E s:=by
 obtain⟨⟨cls,dd,data,sl⟩,ho,hc,n,hd⟩:=id ht
 obtain⟨⟨cls2,dd2,data2,sl2⟩,ho2,hc2,n2,hd2⟩:=id hb
 simp only at hc hd hc2 hd2
 subst hc hd hc2 hd2
 have e:vs.toArray++ws.toArray=(vs++ws).toArray:=by simp
 by_cases hw:ws=[]
 ·exact concat_meets ⟨_,ho,rfl⟩ ⟨_,ho2,rfl⟩ noFill_tuple_add seq_tuple_add PySem.F.slot_tuple_add PySem.F.entry_tuple_add (PySem.F.args_tuple_add_2 _ _)
   (tuple_addW1 t b vs.toArray ws.toArray n n2 dd dd2 sl sl2 (by simpa using hv) (by simp [hw])) ⟨ho,ho2,h1 hw⟩
 ·refine concat_meets ⟨_,ho,rfl⟩ ⟨_,ho2,rfl⟩ noFill_tuple_add seq_tuple_add PySem.F.slot_tuple_add PySem.F.entry_tuple_add (PySem.F.args_tuple_add_2 _ _)
   (tuple_addW2 t b vs.toArray ws.toArray n n2 dd dd2 sl sl2 (by simpa using hv) (by simpa using hw) (by rw [Ò,Ò]; exact hsz)) ⟨ho,ho2,?_⟩
  rw [e]
  exact h2 hw
def sIx (n d:Nat):Option Int->Nat
 | none=>d
 | some v=>if v<0 then (v+(n:Int)).toNat else min v.toNat n
theorem QW (n d:Nat) (hd:d<=n) (o:Option Int):sIx n d o<=n:=by
 cases o with
 | none=>exact hd
 | some v =>
  show (if v<0 then (v+(n:Int)).toNat else min v.toNat n)<=n
  by_cases hv:v<0
  ·rw [if_pos hv]; omega
  ·rw [if_neg hv]; exact Nat.min_le_right _ _
theorem Ge (v:Int) (n d:Nat):(if v<0 then max (v+(n:Int)) 0 else min v (n:Int))=((sIx n d (some v):Nat):Int):=by
 show (if v<0 then max (v+(n:Int)) 0 else min v (n:Int))=(((if v<0 then (v+(n:Int)).toNat else min v.toNat n):Nat):Int)
 by_cases hv:v<0
 ·simp only [if_pos hv]; omega
 ·simp only [if_neg hv]; omega
theorem DY (lo hi:Option Int) (n:Nat):Builtin.Slice.sliceAdjust lo hi 1 (n:Int)=(((sIx n 0 lo:Nat):Int),((sIx n n hi:Nat):Int)):=by
 have h1:¬ ((1:Int)<0):=by omega
 unfold Builtin.Slice.sliceAdjust
 simp only [h1,if_false]
 refine Prod.ext ?_ ?_
 ·cases lo with
  | none=>rfl
  | some v=>exact Ge v n 0
 ·cases hi with
  | none=>rfl
  | some v=>exact Ge v n n
theorem BW (i j:Nat):ţ (i:Int) (j:Int) 1=j - i:=by
 unfold ţ
 have h1:(1:Int) > 0:=by omega
 simp only [h1,if_true,Int.ediv_one]
 split <;> omega
theorem rM {v:Value}{o:Option Int}{Q:Option Int->Shared->Prop} (p:IsPart v o) (h:Q o s):wpAny (model prog w) A (Builtin.Slice.slicePartIndex v) Q E s:=by
 cases p with
 | none=>exact slicePart_none h
 | int i t=>exact slicePart_int h
theorem nY {sl:Addr}{vl vu:Value}{lo hi:Option Int}{n:Nat}{Q:Int×Int×Nat->Shared->Prop} (hs:s.heap.IsSliceOf sl vl vu .none) (pl:IsPart vl lo) (pu:IsPart vu hi)
  (h:Q (((sIx n 0 lo:Nat):Int),1,sIx n n hi - sIx n 0 lo) s):wpAny (model prog w) A (Builtin.Slice.sliceApplied (.ref sl) (pure (n:Int))) Q E s:=by
 obtain⟨os,hos,hcs,hds⟩:=id hs
 unfold Builtin.Slice.sliceApplied Builtin.Slice.sliceFields
 refine Â (Â (Ĵ hos hds (x:=vl) rfl (Â (Ĵ hos hds (x:=vu) rfl (Â (Ĵ hos hds (x:=.none) rfl (Ë ?_)))))))
 refine Â (slicePart_none ?_)
 show wpAny _ _ (if ((1:Int) == 0)=true then _ else _) _ _ s
 rw [if_neg (by decide)]
 refine Â (rM pl (Â (rM pu (Â (Ë ?_)))))
 show wpAny _ _ (match Builtin.Slice.sliceAdjust lo hi 1 (n:Int) with | (lo,hi)=>pure (lo,(1:Int),ţ lo hi 1)) _ _ s
 rw [DY lo hi n]
 show wpAny _ _ (pure (((sIx n 0 lo:Nat):Int),(1:Int),ţ ((sIx n 0 lo:Nat):Int) ((sIx n n hi:Nat):Int) 1)) _ _ s
 rw [BW]
 exact Ë h
theorem Jv (xs:Array Value) (i k:Nat):((ã k).filterMap fun (m:Nat)=>xs[((i:Int)+(m:Int) * 1).toNat]?).toArray=((xs.toList.drop i).take k).toArray:=by
 have e:(fun (m:Nat)=>xs[((i:Int)+(m:Int) * 1).toNat]?)=fun m=>xs[i+m]?:=by
  funext m
  have:((i:Int)+(m:Int) * 1).toNat=i+m:=by omega
  rw [this]
 rw [e]
 have:=pick_run xs i k
 rw [List.filterMap_map] at this
 have e2:((fun x=>xs[x]?) ∘ fun x=>i+x)=fun m=>xs[i+m]?:=rfl
 rw [e2] at this
 rw [this]
theorem mY {t sl:Addr}{items:Array Value}{vl vu:Value}{lo hi:Option Int}{Q:Value->Shared->Prop} (ht:IsTup s.heap t items) (hs:s.heap.IsSliceOf sl vl vu .none) (pl:IsPart vl lo) (pu:IsPart vu hi)
  (hw:¬ (sIx items.size 0 lo=0/\sIx items.size items.size hi=items.size))
  (h:Q (.ref s.heap.objs.size) { s with heap:=s.heap.push { cls:=.type "tuple",data:=.seq ((items.toList.drop (sIx items.size 0 lo)).take (sIx items.size items.size hi - sIx items.size 0 lo)).toArray } })
  (hsz:items.size<=sizeLine):wpAny (model prog w) A (getItem (.ref t) (.ref sl)) Q E s:=by
 have htake:sizeOk (.seq ((items.toList.drop (sIx items.size 0 lo)).take (sIx items.size items.size hi - sIx items.size 0 lo)).toArray):=by
  show ((items.toList.drop (sIx items.size 0 lo)).take (sIx items.size items.size hi - sIx items.size 0 lo)).toArray.size<=sizeLine
  rw [Ò,Ĕ,List.length_drop,Ď]
  omega
 have hj:sIx items.size items.size hi<=items.size:=QW _ _ (Ö _) hi
 obtain⟨os,hos,hcs,hds⟩:=id hs
 have hTs:s.TypeIs (.ref sl) "slice":=⟨os,hos,hcs⟩
 unfold getItem
 try with_reducible refine ă ?_
 first | refine Â (Ë ?_) | skip
 refine Â (wpAny_sequenceKey ht.typeIs (by decide) ?_)
 refine Â (ĵ (name:=Ł "__getitem__") ht.typeIs PyProof.Rows.slot_tuple_getitem
  (ī PyProof.Rows.slot_tuple_getitem ht.typeIs entry_tuple_getitem ?_ (args_tuple_getitem _ _)))
 show wpAny _ _ (Builtin.Tuple.tupleItemsOf (.ref t) >>= _) _ _ s
 refine Â (tupleItemsOf_ ht ?_)
 refine Â (wpAny_typeOf hTs ?_)
 rw [if_pos (by decide)]
 refine Â (nY hs pl pu ?_)
 have hno:¬ ((((sIx items.size 0 lo:Nat):Int) == 0&&(1:Int) == 1&&(sIx items.size items.size hi - sIx items.size 0 lo) == items.size)=true):=by
  intro q
  rw [Ú,Ú] at q
  have q1:((sIx items.size 0 lo:Nat):Int)=0:=eq_of_beq q.1.1
  have q2:sIx items.size items.size hi - sIx items.size 0 lo=items.size:=eq_of_beq q.2
  exact hw ⟨by omega,by omega⟩
 show wpAny _ _ (if (((sIx items.size 0 lo:Nat):Int) == 0&&(1:Int) == 1&&(sIx items.size items.size hi - sIx items.size 0 lo) == items.size)=true then _ else _) _ _ s
 rw [if_neg hno,Jv]
 first
  | exact Â (m:=ū _) (ļ (Ë ⟨_,rfl,Ë h⟩) htake)
  | exact Â (m:=ū _) (ļ (Â (Ë (Ë ⟨_,rfl,Ë h⟩))) htake)
  | exact Â (Â (m:=ū _) (ļ (Ë (Ë ⟨_,rfl,Ë h⟩)) htake))
  | exact Â (Â (m:=ū _) (ļ (Ë ⟨_,rfl,Ë h⟩) htake))
end
end HT
namespace L2
open PySem PySem.Spec PyProof.Rows
abbrev TO:=St->Hp->(Option Int->Hp->Prop)->Prop
def PO (X:Cx) (e:Option Expr) (t:TO):Prop :=
 ∀ (pins:List (Addr×Obj)) (s:Shared) (σ:St) (H:Hp) (Q:Option Int->Hp->Prop),Inv X pins σ H s->t σ H Q ->
  wpAny (model X.prog X.w) X.A (evalPart e X.env) (fun u s'=>∃ o H',Inv X pins σ H' s'/\IsPart u o/\Q o H') X.xe s
def Mt:TO:=fun _ H Q=>Q none H
def T8 (t:TE):TO:=fun σ H Q=>t σ H fun x H1=>∃ i,x=.int i/\Q (some i) H1
theorem intsAre_of {ns:List Int}:∀ {us:List Value},Vals (ns.map V.int) us->IntsAre us ns:=by
 induction ns with
 | nil=>intro us r; rw [List.map_nil] at r; cases r; exact .nil
 | cons n ns ih =>
  intro us r
  rw [ý] at r
  cases r with
  | cons r1 r2 =>
   obtain⟨t,e⟩:=r1
   subst e
   exact .cons n t (ih r2)
section
variable {X:Cx}{e:Expr}{te:TE}{lo hi:Option Expr}{tl th:TO}{pos p2:Pos}
theorem Ng:PO X none Mt:=by
 intro pins s σ H Q I h
 rw [evalPart_none]
 exact Ë ⟨none,H,I,.none,h⟩
theorem Nb (h:PE X e te):PO X (some e) (T8 te):=by
 intro pins s σ H Q I hw
 rw [evalPart_some]
 refine thn (h pins s σ H _ I hw) fun u s1 ⟨x,H1,I1,r1,q1⟩=>?_
 obtain⟨i,rfl,q⟩:=q1
 obtain⟨t,rfl⟩:=r1
 exact⟨some i,H1,I1,.int i t,q⟩
def SlR (X:Cx) (r:V->Option Int->Option Int->Hp->VK->Prop):Prop :=
 ∀ (pins:List (Addr×Obj)) (s:Shared) (σ:St) (H:Hp) (x:V) (v vl vu:Value) (lo hi:Option Int) (sl:Addr) (Q:VK),Inv X pins σ H s->RelV x v->s.heap.IsSliceOf sl vl vu .none->IsPart vl lo->IsPart vu hi->r x lo hi H Q ->
  ∃ T id,typeLookup (.type T) "__getitem__"=pure (some (.builtin id))/\s.TypeIs v T/\wpAny (model X.prog X.w) X.A (getItem v (.ref sl)) (EP X pins σ Q) X.xe s
theorem SlR.or {r r':V->Option Int->Option Int->Hp->VK->Prop} (h:SlR X r) (h':SlR X r'):SlR X (fun x lo hi H Q=>r x lo hi H Q\/r' x lo hi H Q):=by
 intro pins s σ H x v vl vu lo hi sl Q I rx hs pl pu q
 rcases q with q | q
 ·exact h pins s σ H x v vl vu lo hi sl Q I rx hs pl pu q
 ·exact h' pins s σ H x v vl vu lo hi sl Q I rx hs pl pu q
def tSl (r:V->Option Int->Option Int->Hp->VK->Prop) (te:TE) (tl th:TO):TE:=fun σ H Q=>te σ H fun x H1=>tl σ H1 fun l H2=>th σ H2 fun u H3=>r x l u H3 Q
theorem JB {r:V->Option Int->Option Int->Hp->VK->Prop} (hr:SlR X r) (he:PE X e te) (hl:PO X lo tl) (hu:PO X hi th):PE X (.Subscript e (.Slice lo hi none p2) pos) (tSl r te tl th):=by
 intro pins s σ H Q I h
 refine Subscript_ (thn (he pins s σ H _ I h) fun v s1 ⟨x,H1,I1,r1,q1⟩=>?_)
 refine wpAny_Slice (thn (hl pins s1 σ H1 _ I1 q1) fun vl s2 ⟨l,H2,I2,pl,q2⟩=>thn (hu pins s2 σ H2 _ I2 q2) fun vu s3 ⟨u,H3,I3,pu,q3⟩=>?_)
 rw [evalPart_none]
 refine Ë ?_
 have I4:Inv X pins σ H3 { s3 with heap:=s3.heap.push { cls:=.type "slice",data:=.fields #[vl,vu,.none] } }:=I3.kept (t':=s3.toks) fun b ob q=>Ì _ q
 obtain⟨T,id,hT,ht,hg⟩:=hr pins { s3 with heap:=s3.heap.push { cls:=.type "slice",data:=.fields #[vl,vu,.none] } } σ H3 x v vl vu l u s3.heap.objs.size Q I4 r1 (Heap.IsSliceOf.new ..) pl pu q3
 show wpAny (model X.prog X.w) X.A (subscriptTail e (.Slice lo hi none p2) v (.ref s3.heap.objs.size)) (EP X pins σ Q) X.xe { s3 with heap:=s3.heap.push { cls:=.type "slice",data:=.fields #[vl,vu,.none] } }
 exact tail_any (ops:=[.ref s3.heap.objs.size,v]) ht hT hg (by with_unfolding_all rfl)
def uJ (xs:List V) (lo hi:Option Int):List V:=(xs.drop (HT.sIx xs.length 0 lo)).take (HT.sIx xs.length xs.length hi - HT.sIx xs.length 0 lo)
theorem p8 (xs:List V) (lo hi:Option Int):(uJ xs lo hi).length<=xs.length:=by
 unfold uJ
 rw [Ĕ,List.length_drop]
 omega
def V0 (K:Ü):V->Option Int->Option Int->Hp->VK->Prop:=fun x lo hi H Q=>∃ a xs,x=.ref a/\SqT K H a xs /\
 ¬ (HT.sIx xs.length 0 lo=0/\HT.sIx xs.length xs.length hi=xs.length)/\∀ p,H p=none->Q (.ref p) (upd H p (.tup (uJ xs lo hi)))
theorem QT:SlR X (V0 X.K):=by
 intro pins s σ H x v vl vu lo hi sl Q I rx hs pl pu h
 obtain⟨a,xs,rfl,hx,hw,q⟩:=h
 cases rx
 obtain⟨its,r,ht,hz⟩:=I.tuple hx
 have hlen:its.toArray.size=xs.length:=by rw [Ò]; exact r.length.symm
 refine⟨"tuple",_,PyProof.Rows.slot_tuple_getitem.lookup,ht.typeIs,?_⟩
 refine HT.mY ht hs pl pu (by rw [hlen]; exact hw) ?_ (by rw [hlen]; exact hz)
 rw [hlen]
 refine⟨.ref s.heap.objs.size,_,I.laid (t':=s.toks) (o:=.tup (uJ xs lo hi)) (fun b ob q=>Ì _ q) (Ö _) ?_,rfl,q _ (I.hok.fresh (Ö _))⟩
 exact⟨Ą (p8 xs lo hi) hz,_,(r.drop (HT.sIx xs.length 0 lo)).take (HT.sIx xs.length xs.length hi - HT.sIx xs.length 0 lo),IsTup.new _ _⟩
def Ur (K:Ü):R2:=fun x y H Q=>∃ a b xs ys,x=.ref a/\y=.ref b/\SqT K H a xs/\SqT K H b ys/\xs≠[]/\xs.length+ys.length<=sizeLine /\
 (ys=[]->Q (.ref a) H)/\(ys≠[]->∀ p,H p=none->Q (.ref p) (upd H p (.tup (xs++ys))))
theorem Vals.xu {xs:List V}{us:List Value} (r:Vals xs us):us=[]↔xs=[]:=by
 cases r with
 | nil=>simp
 | cons _ _=>simp
theorem Nv:OpR X (binaryOp .Add) (Ur X.K):=by
 intro pins s σ H x y v u Q I rx ry h
 obtain⟨a,b,xs,ys,rfl,rfl,ha,hb,hx,hz,q1,q2⟩:=h
 cases rx
 cases ry
 obtain⟨its,r1,p1,_⟩:=I.tuple ha
 obtain⟨its2,r2,p2,_⟩:=I.tuple hb
 refine HT.Pq p1 p2 (fun z=>hx (r1.xu.mp z)) (fun z=>⟨.ref a,H,I,rfl,q1 (r2.xu.mp z)⟩) (fun z=>?_) (by rw [← r1.length,← r2.length]; exact hz)
 refine⟨.ref s.heap.objs.size,_,I.laid (t':=s.toks) (o:=.tup (xs++ys)) (fun b ob q=>Ì _ q) (Ö _) ?_,rfl,q2 (fun w=>z (r2.xu.mpr w)) _ (I.hok.fresh (Ö _))⟩
 exact⟨by rw [Ô]; exact hz,_,r1.append r2,IsTup.new _ _⟩
end
def ixN (n:Nat) (i:Int):Option Nat:=if 0<=i then (if i<n then some i.toNat else none) else if -(n:Int)<=i then some (i+n).toNat else none
def atI {α:Type} (xs:List α) (i:Int):Option α:=(ixN xs.length i).bind fun j=>xs[j]?
theorem Fv {n:Nat}{i:Int}{j:Nat} (h:ixN n i=some j):seqIndex? i n=some j/\j<n/\-(n:Int)<=i/\i<n:=by
 unfold ixN at h
 by_cases h0:0<=i
 ·rw [if_pos h0] at h
  by_cases h1:i<n
  ·rw [if_pos h1] at h
   have e:i.toNat=j:=Õ h
   exact⟨by rw [seqIndex_of h0 h1,e],by omega,by omega,h1⟩
  ·rw [if_neg h1] at h; cases h
 ·rw [if_neg h0] at h
  by_cases h1:-(n:Int)<=i
  ·rw [if_pos h1] at h
   have e:(i+n).toNat=j:=Õ h
   exact⟨by rw [seqIndex_neg (by omega) h1,e],by omega,h1,by omega⟩
  ·rw [if_neg h1] at h; cases h
theorem Gf {α:Type}{xs:List α}{i:Int}{v:α} (h:atI xs i=some v):∃ j,seqIndex? i xs.length=some j/\xs[j]?=some v/\j<xs.length/\-(xs.length:Int)<=i/\i<xs.length:=by
 unfold atI at h
 cases e:ixN xs.length i with
 | none=>rw [e] at h; cases h
 | some j =>
  rw [e] at h
  obtain⟨h1,h2,h3,h4⟩:=Fv e
  exact⟨j,h1,h,h2,h3,h4⟩
theorem cj {α:Type}{xs:List α}{j:Nat}{v:α} (h:xs[j]?=some v):atI xs (j:Int)=some v:=by
 have hj:j<xs.length:=(Æ.mp h).1
 have e:ixN xs.length (j:Int)=some j:=by
  unfold ixN
  rw [if_pos (by omega),if_pos (by omega)]; simp
 unfold atI; rw [e]; exact h
def rC (b:Expr):Prop:=∀ o i,subscripted b false o i=operate [o,i] (getItem o i)
def IxR (X:Cx) (r:R2):Prop :=
 ∀ (value slice:Expr) (pins:List (Addr×Obj)) (s:Shared) (σ:St) (H:Hp) (x y:V) (v u:Value) (Q:VK),Inv X pins σ H s->RelV x v->RelV y u->r x y H Q ->
  subscripted slice false v u=operate [v,u] (getItem v u)->wpAny (model X.prog X.w) X.A (subscriptTail value slice v u) (EP X pins σ Q) X.xe s
def MtR (X:Cx) (id:String) (r:V->List V->Hp->VK->Prop):Prop :=
 ∀ (pins:List (Addr×Obj)) (s:Shared) (σ:St) (H:Hp) (x:V) (xs:List V) (v:Value) (us:List Value) (Q:VK),Inv X pins σ H s->RelV x v->Vals xs us->r x xs H Q ->
  wpAny (model X.prog X.w) X.A (call (.builtin id) (v::us)) (EP X pins σ Q) X.xe s
section
variable {X:Cx}{a b:Expr}{ta tb:TE}{pos:Pos}
theorem IxR.or {r r':R2} (h:IxR X r) (h':IxR X r'):IxR X (fun x y H Q=>r x y H Q\/r' x y H Q):=by
 intro value slice pins s σ H x y v u Q I rx ry q hs
 rcases q with q | q
 ·exact h value slice pins s σ H x y v u Q I rx ry q hs
 ·exact h' value slice pins s σ H x y v u Q I rx ry q hs
theorem je {r:R2} (hr:IxR X r) (ha:PE X a ta) (hb:PE X b tb) (hs:rC b):PE X (.Subscript a b pos) (tOp r ta tb):=by
 intro pins s σ H Q I h
 exact Subscript_ (Tv ha hb I h fun v u s2 x y H2 I2 rx ry q=>hr a b pins s2 σ H2 x y v u Q I2 rx ry q (hs _ _))
def Uq (K:Ü):R2:=fun x y H Q=>∃ p xs i v,x=.ref p/\y=.int i/\SqL K H p xs/\atI xs i=some v/\Q v H
def V3 (K:Ü):R2:=fun x y H Q=>∃ p xs i v,x=.ref p/\y=.int i/\SqT K H p xs/\atI xs i=some v/\Q v H
theorem cQ:IxR X (Uq X.K):=by
 intro value slice pins s σ H x y v u Q I rx ry h hs
 obtain⟨p,xs,i,z,rfl,rfl,hq,he,q⟩:=h
 cases rx
 obtain⟨t,rfl⟩:=ry
 obtain⟨its,r,pl,hz⟩:=I.list hq
 obtain⟨j,h1,h2,h3,h4,h5⟩:=Gf he
 obtain⟨w,ew,rw'⟩:=r.get h2
 have hl:=r.length
 have hn:=tL
 have fin:EP X pins σ Q w s:=⟨z,H,I,rw',q⟩
 by_cases h0:0<=i
 ·have hj:i.toNat=j:=by
   rw [seqIndex_of h0 h5] at h1
   exact Õ h1
  exact item_listR pl.isList h0 (by omega) (by rw [hj]; simpa using ew) fin hs
 ·have hj:(i+(its.toArray.size:Int)).toNat=j:=by
   rw [seqIndex_neg (by omega) h4] at h1
   rw [Ò,← hl]
   exact Õ h1
  exact subscriptTail_builtinR (x:=w) pl.isList.typeIs slot_list_getitem.lookup
   (wpAny_getItem_list_neg (Q:=fun r s'=>r=w/\EP X pins σ Q r s') pl.isList (by omega) (by rw [Ò] <;> omega) (by omega) (by rw [hj]; simpa using ew) ⟨rfl,fin⟩) hs
theorem Sv:IxR X (V3 X.K):=by
 intro value slice pins s σ H x y v u Q I rx ry h hs
 obtain⟨p,xs,i,z,rfl,rfl,hq,he,q⟩:=h
 cases rx
 obtain⟨t,rfl⟩:=ry
 obtain⟨its,r,pl,hz⟩:=I.tuple hq
 obtain⟨j,h1,h2,h3,h4,h5⟩:=Gf he
 obtain⟨w,ew,rw'⟩:=r.get h2
 have hl:=r.length
 have hn:=tL
 have fin:EP X pins σ Q w s:=⟨z,H,I,rw',q⟩
 exact subscriptTail_builtinR (x:=w) pl.typeIs slot_tuple_getitem.lookup
  (getItem_tuple (j:=j) (Q:=fun r s'=>r=w/\EP X pins σ Q r s') pl (by omega) (by omega) (by rw [Ò,← hl]; exact h1) (by simpa using ew) ⟨rfl,fin⟩) hs
theorem Cz (its:List Value) (n j:Nat) (u:Value):ð (·.setIfInBounds j u) { cls:=.type "list",data:=.seq its.toArray n }={ cls:=.type "list",data:=.seq (its.set j u).toArray n }:=by
 simp [ð]
theorem Inv.lst {pins:List (Addr×Obj)}{σ:St}{H:Hp}{s:Shared}{p:Addr}{xs:List V} (I:Inv X pins σ H s) (h:H p=some (.lst xs)) :
  ∃ (its:List Value) (n:Nat),Vals xs its/\s.heap.get? p=some { cls:=.type "list",data:=.seq its.toArray n }/\xs.length<=sizeLine:=by
 obtain⟨z,its,n,r,e⟩:=I.hok p _ h
 exact⟨its,n,r,e,z⟩
theorem Inv.R6 {pins:List (Addr×Obj)}{σ:St}{H:Hp}{s:Shared}{p:Addr}{xs ys:List V}{its its':List Value}{n n':Nat}{f:Obj->Obj} (I:Inv X pins σ H s) (h:H p=some (.lst xs))
  (ho:s.heap.get? p=some { cls:=.type "list",data:=.seq its.toArray n }) (hf:f { cls:=.type "list",data:=.seq its.toArray n }={ cls:=.type "list",data:=.seq its'.toArray n' }) (r:Vals ys its') (hz:ys.length<=sizeLine) (t:Nat) :
  Inv X pins σ (upd H p (.lst ys)) { s with heap:=s.heap.update p f,toks:=t }:=by
 have e:(s.heap.update p f).get? p=some { cls:=.type "list",data:=.seq its'.toArray n' }:=by
  rw [ĝ f ho (by rw [hf] <;> rfl),hf]
 refine I.write (x:=p) (e:=p) (by rw [h]; trivial) (.inl rfl) (fun b u hb q=>(ú _ _ (Ć hb)).trans q) ⟨_,e⟩ ?_
 exact⟨hz,its',n',r,e⟩
def Um:V->V->V->Hp->(Hp->Prop)->Prop:=fun o i v H Q=>∃ p xs k j,o=.ref p/\i=.int k/\H p=some (.lst xs)/\ixN xs.length k=some j/\Q (upd H p (.lst (xs.set j v)))
theorem set_list:Vz X Um:=by
 intro pins s σ H o i v ov iv u Q I ro ri rv h
 obtain⟨p,xs,k,j,rfl,rfl,hp,hj,q⟩:=h
 cases ro
 obtain⟨t,rfl⟩:=ri
 obtain⟨its,n,r,ho,hz⟩:=I.lst hp
 obtain⟨h1,h2,h3,h4⟩:=Fv hj
 have hl:=r.length
 have hn:=tL
 have I':Inv X pins σ (upd H p (.lst (xs.set j v))) { s with heap:=s.heap.update p (ð (·.setIfInBounds j u)) } :=
  I.R6 hp ho (Cz its n j u) (r.set rv j) (by rw [List.length_set]; exact hz) s.toks
 by_cases h0:0<=k
 ·have hk:k.toNat=j:=by
   rw [seqIndex_of h0 h4] at h1
   exact Õ h1
  exact W.ki_setAt ho h0 (by omega) (by rw [Ò,← hl]; exact h4) (by rw [hk]; exact⟨_,I',q⟩)
 ·have hk:(k+(its.toArray.size:Int)).toNat=j:=by
   rw [seqIndex_neg (by omega) h3] at h1
   rw [Ò,← hl]
   exact Õ h1
  exact W.ki_setBack ho (by omega) (by rw [Ò,← hl]; exact h3) (by omega) (by rw [hk]; exact⟨_,I',q⟩)
theorem wz (lo hi:Option Int) (n:Nat):(sliceBounds lo hi none n).1=((HT.sIx n 0 lo:Nat):Int)/\(sliceBounds lo hi none n).2.1=((HT.sIx n n hi:Nat):Int)/\(sliceBounds lo hi none n).2.2=1:=by
 refine⟨?_,?_,rfl⟩
 ·cases lo with
  | none=>simp [sliceBounds,HT.sIx]
  | some i =>
   simp only [sliceBounds,HT.sIx,Option.getD_none,show (1:Int) > 0 by decide,if_true]
   by_cases h:i<0
   ·simp only [h,if_true] <;> omega
   ·simp only [h,if_false] <;> omega
 ·cases hi with
  | none=>simp [sliceBounds,HT.sIx]
  | some i =>
   simp only [sliceBounds,HT.sIx,Option.getD_none,show (1:Int) > 0 by decide,if_true]
   by_cases h:i<0
   ·simp only [h,if_true] <;> omega
   ·simp only [h,if_false] <;> omega
theorem uG (its:List Value) (lo hi:Option Int):slicePick its.toArray lo hi none=((its.drop (HT.sIx its.length 0 lo)).take (HT.sIx its.length its.length hi - HT.sIx its.length 0 lo)).toArray:=by
 obtain⟨h1,h2,h3⟩:=wz lo hi its.toArray.size
 unfold slicePick
 rw [h1,h2,h3]
 simp only [sliceRange_one,pick_run,Ò] <;> rfl
def V1 (K:Ü):V->Option Int->Option Int->Hp->VK->Prop:=fun x lo hi H Q=>∃ a xs,x=.ref a/\SqL K H a xs/\∀ p,H p=none->Q (.ref p) (upd H p (.lst (uJ xs lo hi)))
theorem Mz:SlR X (V1 X.K):=by
 intro pins s σ H x v vl vu lo hi sl Q I rx hs pl pu h
 obtain⟨a,xs,rfl,hx,q⟩:=h
 cases rx
 obtain⟨its,r,ht,hz⟩:=I.list hx
 have hlen:=r.length
 refine⟨"list",_,slot_list_getitem.lookup,ht.isList.typeIs,?_⟩
 refine wpAny_getItem_list_slice ht.isList hs pl pu .none (by simp) ?_ (by rw [Ò] <;> omega)
 rw [uG,← hlen]
 refine⟨.ref s.heap.objs.size,_,I.laid (t':=s.toks) (o:=.lst (uJ xs lo hi)) (fun b ob q=>Ì _ q) (Ö _) ?_,rfl,q _ (I.hok.fresh (Ö _))⟩
 exact⟨Ą (p8 xs lo hi) hz,_,0,(r.drop (HT.sIx xs.length 0 lo)).take (HT.sIx xs.length xs.length hi - HT.sIx xs.length 0 lo),Û _ rfl⟩
theorem dX:bA X (.builtin "len") (fun xs H Q=>∃ p ys,xs=[.ref p]/\(SqL X.K H p ys\/SqT X.K H p ys)/\Q (.int ys.length) H):=by
 intro pins s σ H xs us Q I r h
 obtain⟨p,ys,rfl,hq,q⟩:=h
 obtain⟨u,rfl,rx⟩:=vals1 r
 cases rx
 have hn:=tL
 rcases hq with hq | hq
 ·obtain⟨its,r',pl,hz⟩:=I.list hq
  have hlen:=r'.length
  exact Calls.call_len_list pl.isList (by simp only [Ò] <;> omega) ⟨.int ys.length,H,I.tok _,⟨s.toks+1,by rw [Ò,hlen]⟩,q⟩
 ·obtain⟨its,r',pl,hz⟩:=I.tuple hq
  have hlen:=r'.length
  exact len_tuple pl (by simp only [Ò] <;> omega) ⟨.int ys.length,H,I.tok _,⟨s.toks+1,by rw [Ò,hlen]⟩,q⟩
theorem uK:bA X (.type "tuple") (fun xs H Q=>∃ p ys,xs=[.ref p]/\((SqL X.K H p ys/\∀ l,H l=none->Q (.ref l) (upd H l (.tup ys)))\/(SqT X.K H p ys/\Q (.ref p) H))):=by
 intro pins s σ H xs us Q I r h
 obtain⟨p,ys,rfl,h⟩:=h
 obtain⟨u,rfl,rx⟩:=vals1 r
 cases rx
 rcases h with ⟨hq,q⟩ | ⟨hq,q⟩
 ·obtain⟨its,r',pl,hz⟩:=I.list hq
  have hlen:=r'.length
  refine call_tuple_list pl.isList (fun h' kp=>?_) (by simp only [Ò] <;> omega)
  have I1:Inv X pins σ H { s with heap:=h' }:=I.kept (t':=s.toks) kp
  have I2:Inv X pins σ (upd H h'.objs.size (.tup ys)) { s with heap:=h'.push { cls:=.type "tuple",data:=.seq its.toArray } } :=
   I1.laid (t':=s.toks) (fun b o e=>Ì _ e) (Ö _) (show aP X.prog X.w _ _ _ (.tup ys) from ⟨hz,its,r',IsTup.new _ _⟩)
  exact⟨.ref h'.objs.size,_,I2,rfl,q _ (I1.hok.fresh (Ö _))⟩
 ·obtain⟨its,r',pl,hz⟩:=I.tuple hq
  exact call_tuple_same pl ⟨.ref p,H,I,rfl,q⟩
def tyV (K:Ü) (T:String) (x:V) (H:Hp):Prop:=match x with
 | .str _=>T="str"
 | .int _=>T="int"
 | .ref p=>(T="list"/\∃ xs,SqL K H p xs)\/(T="tuple"/\∃ o,K.lookup p=some o/\o.cls=.type "tuple"/\o.dict=none) ∨
   (T="dict"/\((∃ kvs,H p=some (.dK kvs))\/∃ kvs,H p=some (.dT kvs)))\/(T="set"/\∃ S n,H p=some (.set S n))
 | _=>False
theorem Qz {pins:List (Addr×Obj)}{σ:St}{H:Hp}{s:Shared}{T:String}{x:V}{v:Value} (I:Inv X pins σ H s) (r:RelV x v) (ty:tyV X.K T x H) :
  s.TypeIs v T/\∀ a,v=.ref a->∃ ob,s.heap.get? a=some ob/\ob.dict=none:=by
 cases x with
 | str z =>
  obtain⟨t,rfl⟩:=r
  cases (show T="str" from ty)
  exact⟨typeIs_str s z t,fun _ e=>nomatch e⟩
 | int i =>
  obtain⟨t,rfl⟩:=r
  cases (show T="int" from ty)
  exact⟨typeIs_int s i t,fun _ e=>nomatch e⟩
 | ref p =>
  cases r
  rcases ty with ⟨rfl,xs,hq⟩ | ⟨rfl,o,hk,hc,hd⟩ | ⟨rfl,hk⟩ | ⟨rfl,S,n,hk⟩
  ·obtain⟨its,_,pl,_⟩:=I.list hq
   refine⟨pl.isList.typeIs,fun a e=>?_⟩
   cases e
   obtain⟨o,n,e,c,hd,_⟩:=pl
   exact⟨o,e,hd⟩
  ·refine⟨⟨o,I.kIn p o hk,hc⟩,fun a e=>?_⟩
   cases e
   exact⟨o,I.kIn _ o hk,hd⟩
  ·have z:∃ o,s.heap.get? p=some o/\o.ExactDict:=by
    rcases hk with ⟨kvs,hk⟩ | ⟨kvs,hk⟩
    ·obtain⟨_,_,_,_,o,_,_,e,ex,_⟩:=I.hok p _ hk
     exact⟨o,e,ex⟩
    ·obtain⟨_,_,_,_,o,_,_,e,ex,_⟩:=I.hok p _ hk
     exact⟨o,e,ex⟩
   obtain⟨o,e,ex⟩:=z
   refine⟨⟨o,e,ex.1⟩,fun a e2=>?_⟩
   cases e2
   exact⟨o,e,ex.2.1⟩
  ·obtain⟨o,_,_,_,e,ex,_⟩:=I.hok p _ hk
   refine⟨⟨o,e,ex.1⟩,fun a e2=>?_⟩
   cases e2
   exact⟨o,e,ex.2.1⟩
 | _=>exact ġ ty
def tBM (K:Ü) (T:String) (r:V->List V->Hp->VK->Prop) (to:TE) (t:TA):TE:=fun σ H Q=>to σ H fun x H1=>tyV K T x H1/\t σ H1 fun xs H2=>r x xs H2 Q
variable {o e:Expr}{es:List Expr}{to:TE}{t:TA}{name:Str}{apos cpos:Pos}{T id:String}{r:V->List V->Hp->VK->Prop}
theorem Ey (pa:PlainAttrs T) (slot:Slot T name id) (hty:typeOf (.builtin id)=pure (.type "method_descriptor")) (hm:MtR X id r) (ho:PE X o to) (ha:PA X (e::es) t)
  (hbase:attributeBase o name X.env (eval o X.env)=eval o X.env:=by rfl)
  (hfew:((backTo cpos (starEach (e::es) X.env)).all (fun x=>!x.1)&&(backToKw cpos (keywordEach [] X.env)).all (fun x=>x.1.isSome)
  &&decide ((e::es).length+([]:List Keyword).length+(if ([]:List Keyword).isEmpty then 0 else 1)<30))=true:=by rfl)
  (hline:(apos.endLine == cpos.line)=true:=by rfl) (hs:starEach (e::es) X.env=(false,eval e X.env)::starEach es X.env:=by rfl) (hplain:(backTo cpos (starEach es X.env)).any (·.1)=false:=by rfl) :
  PE X (.Call (.Attribute o name apos) (e::es) [] cpos) (tBM X.K T r to t):=by
 intro pins s σ H Q I h
 refine wpAny_Call_method_late hbase hfew hline rfl (thn (ho pins s σ H _ I h) fun v s1 ⟨x,H1,I1,r1,ty,q1⟩=>?_)
 obtain⟨h1,h2⟩:=Qz I1 r1 ty
 refine⟨T,id,pa,slot,hty,h1,h2,?_⟩
 have hA:=ha cpos pins s1 σ H1 _ I1 q1
 rw [hs] at hA ⊢
 refine Calls.callWith_builtin (by show (false || (backTo cpos (starEach es X.env)).any (·.1))=false; rw [hplain] <;> rfl) (Calls.evalArgs_plain ?_)
 exact thn hA fun us s2 ⟨vs,H2,I2,r2,q2⟩=>hm pins s2 σ H2 x vs v us Q I2 r1 r2 q2
/- xs.append(e),list.index on a module's tuple .. are MtR facts of 06m -/
end
def MtM (X:Cx) (id:String) (r:V->List V->Hp->VK->Prop):Prop :=
 ∀ (pins:List (Addr×Obj)) (s:Shared) (σ:St) (H:Hp) (x:V) (xs:List V) (v:Value) (us:List Value) (Q:VK),Inv X pins σ H s->RelV x v->Vals xs us->r x xs H Q ->
  wpAny (model X.prog X.w) X.A (call (.builtin id) (v::us)) (EP X pins σ Q) X.xe s
theorem Vals.one:∀ {x:V}{us:List Value},Vals [x] us->∃ u,us=[u]/\RelV x u
 | _,_,.cons r .nil=>⟨_,rfl,r⟩
theorem Vals.two:∀ {x y:V}{us:List Value},Vals [x,y] us->∃ u v,us=[u,v]/\RelV x u/\RelV y v
 | _,_,_,.cons r (.cons q .nil)=>⟨_,_,rfl,r,q⟩
theorem Vals.reverse {xs:List V}{us:List Value} (h:Vals xs us):Vals xs.reverse us.reverse:=by
 induction h with
 | nil=>exact .nil
 | cons r t ih=>rw [Ŭ,Ŭ]; exact Vals.append ih (.cons r .nil)
theorem Vals.rep {xs:List V}{us:List Value} (h:Vals xs us):∀ k:Nat,Vals (Ñ k xs).flatten (Ñ k us).flatten
 | 0=>.nil
 | k+1=>by
  rw [ŋ,ŋ,ŭ,ŭ]
  exact Vals.append h (Vals.rep h k)
theorem foldl_rep (its:List Value):∀ (k:Nat) (acc:List Value),
  List.foldl (fun x1 x2=>x1++x2) acc.toArray (Ñ k its.toArray)=(acc++(Ñ k its).flatten).toArray
 | 0,acc=>by simp
 | k+1,acc=>by
  have e:acc.toArray++its.toArray=(acc++its).toArray:=by simp
  have e2:(acc++its)++(Ñ k its).flatten=acc++(Ñ (k+1) its).flatten:=by
   rw [ŋ,ŭ,Ķ]
  rw [← e2,← foldl_rep its k (acc++its),← e,ŋ,List.foldl_cons]
section
variable {X:Cx}{pins:List (Addr×Obj)}{σ:St}{H:Hp}{s:Shared}{l b:Addr}{xs ys zs:List V}
theorem Inv.R7 {its its':List Value}{n:Nat}{f:Array Value->Array Value}{t':Nat} (I:Inv X pins σ H s) (hH:H l=some (.lst xs))
  (e:s.heap.get? l=some { cls:=.type "list",data:=.seq its.toArray n }) (hf:f its.toArray=its'.toArray) (hv:Vals ys its') (hz:ys.length<=sizeLine) :
  Inv X pins σ (upd H l (.lst ys)) { s with heap:=s.heap.update l (ð f),toks:=t' }:=by
 have q:=PySem.IsL.update e f
 rw [hf] at q
 refine I.write (x:=l) (e:=l) (by rw [hH]; exact trivial) (.inl rfl) (fun b' u hb hu=>(ú s.heap (ð f) (Ć hb)).trans hu) ⟨_,q⟩ ?_
 exact⟨hz,its',_,hv,q⟩
theorem Inv.Vd {its:List Value}{t':Nat} (I:Inv X pins σ H s) (hv:Vals ys its) (hz:ys.length<=sizeLine) :
  Inv X pins σ (upd H s.heap.objs.size (.lst ys)) { s with heap:=s.heap.push { cls:=.type "list",data:=.seq its.toArray },toks:=t' } :=
 I.laid (fun _ _ q=>Ì _ q) (Ö _) ⟨hz,its,0,hv,Û _ rfl⟩
theorem Inv.fresh (I:Inv X pins σ H s):H s.heap.objs.size=none:=I.hok.fresh (Ö _)
theorem Inv.CG (I:Inv X pins σ H s) (hH:H l=some (.lst xs)):xs.length<=sizeLine/\∃ (its:List Value) (n:Nat),Vals xs its/\xs.length=its.length/\s.heap.get? l=some { cls:=.type "list",data:=.seq its.toArray n }:=by
 obtain⟨z,its,n,r,e⟩:=I.hok l _ hH
 exact⟨z,its,n,r,r.length,e⟩
theorem zG {n:Nat} (h:n<=sizeLine):Ů n=false:=by
 unfold Ů
 exact decide_eq_false (by omega)
end
section
variable {X:Cx}
def qK:V->List V->Hp->VK->Prop:=fun x vs H Q=>∃ l xs y,x=.ref l/\vs=[y]/\H l=some (.lst xs)/\xs.length<sizeLine/\Q .non (upd H l (.lst (xs++[y])))
theorem oX:MtM X "list.append" qK:=by
 intro pins s σ H x vs v us Q I rx rv h
 obtain⟨l,xs,y,rfl,rfl,hH,hz,q⟩:=h
 cases rx
 obtain⟨u,rfl,ru⟩:=rv.one
 obtain⟨z,its,n,r,hl,e⟩:=I.CG hH
 refine call_meets F.slot_list_append ⟨_,e,rfl⟩ F.entry_list_append (F.args_list_append_2 _ _) (PySem.list_append l its.toArray n u (by rw [Ò]; omega)) ⟨e,?_⟩
 refine⟨.non,_,I.R7 (its':=its++[u]) hH e (by simp) (r.append (.cons ru .nil)) ?_,rfl,q⟩
 rw [Ô,Ğ]
 omega
def MP:V->List V->Hp->VK->Prop:=fun x vs H Q=>∃ l b xs zs,x=.ref l/\vs=[.ref b]/\H l=some (.lst xs)/\H b=some (.lst zs)/\xs.length+zs.length<=sizeLine/\Q .non (upd H l (.lst (xs++zs)))
theorem TV:MtM X "list.extend" MP:=by
 intro pins s σ H x vs v us Q I rx rv h
 obtain⟨l,b,xs,zs,rfl,rfl,hH,hB,hz,q⟩:=h
 cases rx
 obtain⟨u,rfl,ru⟩:=rv.one
 cases ru
 obtain⟨z,its,n,r,hl,e⟩:=I.CG hH
 obtain⟨z2,its2,n2,r2,hl2,e2⟩:=I.CG hB
 have hsz:its.toArray.size+its2.toArray.size<=sizeLine:=by rw [Ò,Ò]; omega
 have hlong:¬ (!its.toArray.isEmpty&&Ů (its.toArray.size+its2.toArray.size))=true:=by
  rw [zG hsz,Bool.and_false]
  exact Î
 refine call_meets F.slot_list_extend ⟨_,e,rfl⟩ F.entry_list_extend (F.args_list_extend_2 _ _)
  (AutoSeq1.list_extend_list_list_0 l its.toArray n b its2.toArray n2 hlong (by rw [Ò]; omega) (by omega)) ⟨e,e2,?_⟩
 refine⟨.non,_,I.R7 (its':=its++its2) hH e (by simp) (r.append r2) ?_,rfl,q⟩
 rw [Ô]
 omega
def Us:R2:=fun x y H Q=>∃ l b xs zs,x=.ref l/\y=.ref b/\H l=some (.lst xs)/\H b=some (.lst zs)/\xs.length+zs.length<=sizeLine/\∀ p,H p=none->Q (.ref p) (upd H p (.lst (xs++zs)))
theorem RK:OpR X (binaryOp .Add) Us:=by
 intro pins s σ H x y v u Q I rx ry h
 obtain⟨l,b,xs,zs,rfl,rfl,hH,hB,hz,q⟩:=h
 cases rx
 cases ry
 obtain⟨z,its,n,r,hl,e⟩:=I.CG hH
 obtain⟨z2,its2,n2,r2,hl2,e2⟩:=I.CG hB
 refine PySem.P.add_list e e2 ?_ (by rw [Ò,Ò]; omega)
 have ea:its.toArray++its2.toArray=(its++its2).toArray:=by simp
 rw [ea]
 exact⟨.ref _,_,I.Vd (t':=s.toks) (r.append r2) (by rw [Ô]; omega),rfl,q _ I.fresh⟩
def Uo:R2:=fun x y H Q=>∃ l k xs,x=.ref l/\y=.int k/\H l=some (.lst xs)/\-(2 ^ 63)<=k/\k<2 ^ 63/\xs.length * k.toNat<=sizeLine /\
 ∀ p,H p=none->Q (.ref p) (upd H p (.lst (Ñ k.toNat xs).flatten))
theorem len_rep {α:Type} (xs:List α) (k:Nat):(Ñ k xs).flatten.length=k * xs.length:=by
 induction k with
 | zero=>simp
 | succ k ih=>rw [ŋ,ŭ,Ô,ih,Nat.succ_mul,Nat.add_comm]
theorem RG:OpR X (binaryOp .Mult) Uo:=by
 intro pins s σ H x y v u Q I rx ry h
 obtain⟨l,k,xs,rfl,rfl,hH,h1,h2,hz,q⟩:=h
 cases rx
 obtain⟨t,rfl⟩:=ry
 obtain⟨z,its,n,r,hl,e⟩:=I.CG hH
 have hlen:its.toArray.size * k.toNat<=sizeLine:=by rw [Ò,← hl]; exact hz
 have hcap:¬ its.toArray.size * k.toNat > (2 ^ 63 - 1) / 8:=by
  have:(sizeLine:Nat)<=(2 ^ 63 - 1) / 8:=by decide
  omega
 have hfit:¬ (!Builtin.List.listFitsIndex k)=true:=by
  rw [fitsIndex_both h1 h2]
  exact Î
 have hlong:¬ Ů (its.toArray.size * k.toNat)=true:=by
  rw [zG hlen]
  exact Î
 have hnew:List.foldl (fun x1 x2=>x1++x2) #[] (Ñ (if its.toArray.isEmpty=true then 0 else k.toNat) its.toArray)=(Ñ k.toNat its).flatten.toArray:=by
  have f0:∀ m:Nat,List.foldl (fun x1 x2=>x1++x2) #[] (Ñ m its.toArray)=(Ñ m its).flatten.toArray:=fun m=>by
   have:=foldl_rep its m []
   rw [List.nil_append] at this
   exact this
  rw [f0]
  cases its with
  | nil=>simp
  | cons a r'=>rw [if_neg (by simp)]
 refine wpAny_binaryOp_repeat_ref (T:="list") (U:="int") (by decide) ⟨_,e,rfl⟩ (fun s'=>typeIs_int s' k t) noFill_list_mul F.fills_int_mul F.slot_int_rmul repeat_list F.slot_int_index.lookup
  (call_meets F.slot_int_rmul (typeIs_int s k t) F.entry_int_rmul (F.args_int_rmul_2 _ _) (int___rmul___int_list k t l its.toArray n)
   ⟨e,rfl,⟨_,e,rfl⟩,call_meets F.slot_list_mul ⟨_,e,rfl⟩ F.entry_list_mul (F.args_list_mul_2 _ _) (AutoListH.list___mul___list_int_3 l its.toArray n k t hfit hcap hlong) ⟨e,?_⟩⟩)
 rw [hnew]
 exact⟨.ref _,_,I.Vd (t':=s.toks) (r.rep k.toNat) (by rw [len_rep,Nat.mul_comm]; exact hz),rfl,q _ I.fresh⟩
end
section
variable {prog:Program}{w:World}{A:Around}{E:Value->Shared->Prop}{s:Shared}
end
section
variable {X:Cx}
end
end L2
namespace Att
open PySem PySem.W PySem.Calls PyProof.Rows
theorem qz {P:Params}{h:Heap}:∀ (ns:List Int) (vs:List Value),WellAll P h vs (ns.map WData.int)->IntsAre vs ns:=by
 intro ns
 induction ns with
 | nil =>
  intro vs w
  rw [List.map_nil] at w
  cases w
  exact .nil
 | cons n ns ih =>
  intro vs w
  rw [ý] at w
  cases w with
  | cons a b =>
   cases a
   exact .cons _ _ (ih _ b)
theorem Gv {l:OpenLaw}{n:Nat} (hn:l.most=some n) {P:Params}{h:Heap}{args:List WData}{vals:List Value}
  (hpre:l.row.toRowW.claim.pre args=true) (hwl:WellAll P h vals args) :
  ∃ a vs ns,vals=[Ā a]/\args=[WData.list (ns.map WData.int)]/\h.get? a=some { cls:=.type "list",data:=.seq vs.toArray }/\IntsAre vs ns/\ns.length<=n:=by
 have hsh:WShape.hasAll [] args [.list .int]=true:=(pre_splitW hpre).1
 have hc:l.pre.holds [] { args:=args }=true:=(pre_splitW hpre).2
 obtain⟨d,r,rfl,h1,h2⟩:=hasAllW_cons hsh
 obtain rfl:=hasAllW_nil h2
 obtain⟨xs,rfl,h3⟩:=hasW_list h1
 obtain⟨ns,rfl⟩:=items_int h3
 have hlen:ns.length<=n:=by
  unfold OpenLaw.pre at hc
  have h4:(WTm.not (.lt (.lit (.int (n:Int))) (.len (.arg 0)))).holds [] { args:=[.list (ns.map .int)] }=true:=by
   have h4:=(holds_andW hc).1
   rw [hn] at h4
   exact h4
  have h5:=condW_of h4 (w_not (w_lt w_lit (w_len_list (w_arg rfl))))
  rw [Ä] at h5
  refine Nat.le_of_not_lt fun q=>?_
  have q':(n:Int)<((ns.length:Nat):Int):=by omega
  first
   | (rw [decide_eq_true q'] at h5; exact absurd h5 (by decide))
   | (simp at h5; omega)
 cases hwl with
 | cons w1 w2 =>
  cases w2
  cases w1 with
  | list ho hall=>exact⟨_,_,ns,rfl,rfl,ho,qz ns _ hall,hlen⟩
theorem Gz (l:OpenLaw) (args:List WData):l.row.toRowW.claim.post args (.bool true) args=true :=
 postW_of (r:=l.row.toRowW) (X:=(true == true))
  (show WShape.has [] (.bool true) .bool=true by first | rfl | decide | simp [WShape.has,WShape.arms,WShape.armsAll])
  (show (WTm.eq .res (.lit (.bool true))).value [] { args:=args,res:=some (.bool true),after:=args }=some (.bool (true == true)) from w_eq_bool (w_res rfl) w_lit) rfl
theorem Bf {l:OpenLaw}{n:Nat}{q:Program}{loose:List Str}{XP:(Str->Option Value)->Heap->Prop}{YP:World->Heap->Prop}{d:DefRec}
  (hn:l.most=some n) (hdf:d.params.defaults=[])
  (call:∀ (w:World) (s₀ s₁:Shared) (mg mb:Str->Option Value) (fa:Addr) (o:Obj) (pm cd doc:Value) (a:Addr) (vs:List Value) (ns:List Int),
   Ground q loose [] XP w s₀ mg mb s₁.heap->YP w s₁.heap ->
   s₁.heap.get? fa=some o->o.data=.func (docDef d.name d.params d.body d.scope pm cd doc)->s₁.heap.CodeRec cd d.name->mg d.name=some (.ref fa) ->
   s₁.heap.get? a=some { cls:=.type "list",data:=.seq vs.toArray }->IntsAre vs ns->ns.length<=n->s₁.gens=#[] ->
   codeAny (model l.prog w) callerA (.call (.ref fa) ⟨[.ref a],[]⟩) (fun r s'=>r=.ok (.ret (.bool true))/\OldK s₁.heap s'.heap/\s'.os=s₁.os/\AllBare s'.gens) s₁) :
  WalkO q loose XP YP l.row.toRowW d [] (fun f vs=>PySem.call f vs):=by
 intro w s₀ s₁ mg mb G Y fa o pm cd doc dV kV ho hd hcd hD hmg hg args vals as hpre hlay hrd hwl hlo
 obtain rfl:dV=.none:=Dflts.none hD hdf
 obtain rfl:kV=.none:=Dflts.noKw hD
 obtain⟨a,vs,ns,rfl,rfl,hobj,hints,hlen⟩:=Gv hn hpre hwl
 refine enter_call (codeAny_mono (call w s₀ s₁ mg mb fa o pm cd doc a vs ns G Y ho (fd_plain hd) hcd hmg hobj hints hlen hg) fun r s' hq=>?_)
 obtain⟨rfl,h2,h3,h4⟩:=hq
 exact⟨.inl ⟨.bool true,.bool true,[],rfl,fun _=>rfl,.bool true,Gz l _,fun _=>⟨List.Pairwise.nil,fun _ hm=>(nomatch hm)⟩⟩,h2,h3,h4⟩
section
variable {prog:Program}{w:World}{A:Around}{E:Value->Shared->Prop}{s:Shared}{K:Frag}
def ledger (h:Heap) (L d:Addr):List (Addr×Obj):=(ã h.objs.size).filterMap fun a=>if a=L\/a=d then none else (h.get? a).map fun o=>(a,o)
end
end Att
namespace L2
open PySem PySem.Spec PyProof.Rows
theorem jG:∀ {vs:List Value}{ns:List Int},IntsAre vs ns->Vals (ns.map V.int) vs
 | _,_,.nil=>.nil
 | _,_,.cons n t h=>.cons ⟨t,rfl⟩ (jG h)
def Only (H:Hp):Prop:=∀ b,H b=none\/∃ o xs,H b=some (.frz o (.lst xs))
theorem Ks {P:Program}{w:World}{K:Ü}{mg mb:Str->Option Value}{CX:CXT}{k:Nat}{fa a:Addr}{fd:FuncData}{x:Str}{sp:Sp}{s₁:Shared}{vs:List Value}{ns:List Int}
  (KX:K.In s₁.heap) (hns:s₁.heap.Ns mainGlobals mg) (hb:s₁.heap.Ns builtinsNs mb) (hbb:∀ x:Str,x≠"__name__"->mb x=bootBuiltins x) (hlim:s₁.heap.NoLimit) (hg:s₁.gens=#[])
  (ha:s₁.heap.get? a=some { cls:=.type "list",data:=.seq vs.toArray }) (hi:IntsAre vs ns) (hl:ns.length<=sizeLine) (hr:Room k callerA)
  (F:∀ base:Heap,K.In base->base.Ns mainGlobals mg->FnOk P w K mg base CX k fa fd [x] sp) (hbind:∀ (s:Shared) (u:Value),BindsTo s fd ⟨[u],[]⟩ [(x,u)])
  (hsp:∀ H:Hp,Only H->SqL K H a (ns.map V.int)->sp [.ref a] H (fun v _=>v=.bl true) fun _ _ _=>False)
  (hCX:∀ H e s',CX [] H s₁ (fun _ _ _=>False) e s'->False) :
  codeAny (model P w) callerA (.call (.ref fa) ⟨[.ref a],[]⟩) (fun r s'=>r=.ok (.ret (.bool true))/\OldK s₁.heap s'.heap/\s'.os=s₁.os/\AllBare s'.gens) s₁:=by
 have rv:=jG hi
 have lenV:=hi.length
 -- from an abstract heap in which nothing but the script may be tracked
 have core:∀ H:Hp,Only H->SqL K H a (ns.map V.int)->HOk P w H s₁.heap->(∀ b,H b≠none->b=a)->(H a≠none->K.lookup a=none) ->
   codeAny (model P w) callerA (.call (.ref fa) ⟨[.ref a],[]⟩) (fun r s'=>r=.ok (.ret (.bool true))/\OldK s₁.heap s'.heap/\s'.os=s₁.os/\AllBare s'.gens) s₁:=by
  intro H hO hS hok hA hK
  have base_of:∀ {b:Addr}{o:Obj},s₁.heap.get? b=some o->H b=none->(xQ s₁.heap H).get? b=some o:=fun e n=>Kz e n
  have noA:∀ {b:Addr}{o:Obj}{es:Array DictEntry}{ep:Nat},s₁.heap.get? b=some o->o.data=.dict es ep->H b=none:=fun {b o es ep} e d=>by
   cases q:H b with
   | none=>rfl
   | some u =>
    have e':b=a:=hA b (by rw [q]; simp)
    subst e'
    rw [ha] at e; cases e
    have d':Data.seq vs.toArray _=Data.dict es ep:=d
    cases d'
  have nsK:∀ {b:Addr}{m:Str->Option Value},s₁.heap.Ns b m->(xQ s₁.heap H).Ns b m:=fun {b m} ⟨o,es,ep,e,d,r⟩=>⟨o,es,ep,base_of e (noA e d),d,r⟩
  have hKb:K.In (xQ s₁.heap H):=fun b o e=>base_of (KX b o e) (by
   cases q:H b with
   | none=>rfl
   | some u =>
    have e':b=a:=hA b (by rw [q]; simp)
    subst e'
    rw [hK (by rw [q]; simp)] at e; cases e)
  have hM:Mod K mg (xQ s₁.heap H):=⟨hKb,nsK hns,⟨mb,nsK hb,hbb⟩,let ⟨mc,h1,h2⟩:=hlim; ⟨mc,nsK h1,h2⟩⟩
  have e0:Env0 P w K mg (xQ s₁.heap H) callerA [] s₁ H:=⟨rfl,hM,fun b o e=>NQ e,Nat.le_of_eq (Hi _ _),trivial,fun b hb=>absurd (show b∈([]:List Addr) from hb) (by simp),hok,.of_eq hg⟩
  refine codeAny_mono ((F _ hKb (nsK hns)).run callerA [] s₁ H ⟨[.ref a],[]⟩ [.ref a] [.ref a] _ _ hr e0 (hbind s₁ (.ref a)) (.cons rfl .nil) (hsp H hO hS)) fun r s' h=>?_
  cases r with
  | error e=>exact (hCX H e s' h).elim
  | ok fl =>
   cases fl with
   | next=>exact ġ h
   | brk=>exact ġ h
   | cont=>exact ġ h
   | ret u =>
    obtain⟨v,H',os,bare,un,hok',r',q⟩:=h
    have q':v=.bl true:=q
    subst q'
    obtain rfl:u=Ų true:=r'
    refine⟨rfl,OldK.of_keep fun b o e=>?_,os,bare⟩
    cases q:H b with
    | none=>exact un.keep b o e q (by intro z; exact absurd (show b∈([]:List Addr) from z) (by simp)) (by simp)
    | some u =>
     rcases hO b with z | ⟨ob,xs,z⟩
     ·rw [q] at z; cases z
     ·have z2:=un.frzs b ob _ z
      obtain⟨e1,_⟩:=hok b _ z
      obtain⟨e2,_⟩:=hok' b _ z2
      rw [e] at e1; cases e1
      exact e2
 cases hk:K.lookup a with
 | some o =>
  -- the script is one of the module's own objects
  have e:=KX a o hk
  rw [ha] at e
  cases e
  refine core (fun _=>none) (fun _=>.inl rfl) (.inr ⟨_,vs.toArray,_,hk,rfl,rfl,rfl,by rw [Ò,lenV]; exact hl,by simpa using rv⟩) (fun b u z=>by have z':(none:Option HO)=some u:=z; cases z') (fun b z=>absurd rfl z) fun z=>absurd rfl z
 | none =>
  refine core (fun b=>if b=a then some (.frz { cls:=.type "list",data:=.seq vs.toArray } (.lst (ns.map V.int))) else none) (fun b=>?_) (.inl (.inr ⟨{ cls:=.type "list",data:=.seq vs.toArray },if_pos rfl⟩)) (fun b u z=>?_) (fun b z=>?_) fun _=>hk
  ·by_cases hb:b=a
   ·exact .inr ⟨_,_,if_pos hb⟩
   ·exact .inl (if_neg hb)
  ·by_cases hb:b=a
   ·have z':=(if_pos hb).symm.trans z
    cases z'
    subst hb
    exact⟨ha,by rw [Ä]; exact hl,vs,_,rv,ha⟩
   ·have z':=(if_neg hb).symm.trans z
    cases z'
  ·by_cases hb:b=a
   ·exact hb
   ·exact absurd (if_neg hb) z
theorem Mr {l:W.OpenLaw}{n k:Nat}{q:Program}{loose:List Str}{XP:(Str->Option Value)->Heap->Prop}{YP:World->Heap->Prop}{d:DefRec}{K:Params->Ü}{CX:World->CXT}{sp:World->Sp}{x:Str}
  (hn:l.most=some n) (hn2:n<=sizeLine) (hdf:d.params.defaults=[]) (hr:Room k callerA)
  (hY:∀ (w:World) (h:Heap),YP w h->(K w.params).In h)
  (F:∀ (w:World) (mg:Str->Option Value) (fa:Addr) (h:Heap),(K w.params).In h->h.Ns mainGlobals mg->mg d.name=some (.ref fa) ->
   ∃ fd:FuncData,(∀ (s:Shared) (u:Value),BindsTo s fd ⟨[u],[]⟩ [(x,u)]) /\
    ∀ base:Heap,(K w.params).In base->base.Ns mainGlobals mg->FnOk l.prog w (K w.params) mg base (CX w) k fa fd [x] (sp w))
  (hsp:∀ (w:World) (H:Hp) (a:Addr) (ns:List Int),ns.length<=n->Only H->SqL (K w.params) H a (ns.map V.int)->sp w [.ref a] H (fun v _=>v=.bl true) fun _ _ _=>False)
  (hCX:∀ (w:World) (H:Hp) (s:Shared) (e:Value) (s':Shared),CX w [] H s (fun _ _ _=>False) e s'->False) :
  W.WalkO q loose XP YP l.row.toRowW d [] (fun f vs=>PySem.call f vs):=by
 refine Att.Bf hn hdf fun w s₀ s₁ mg mb fa o pm cd doc a vs ns G Y ho hd hcd hmg hobj hints hlen hg=>?_
 have KX:=hY w _ Y
 obtain⟨fd,hb,hF⟩:=F w mg fa _ KX G.T.g hmg
 exact Ks KX G.T.g G.T.b G.T.builtins G.T.nolimit hg hobj hints (Ą hlen hn2) hr hF hb (fun H hO hS=>hsp w H a ns hlen hO hS) fun H e s'=>hCX w H s₁ e s'
def jQ (s:Stmt):Arguments:=match s with
 | .FunctionDef _ a _ _ _ _ _ _ _ _=>a
 | _=>{ posonlyargs:=[],args:=[],vararg:=none,kwonlyargs:=[],kw_defaults:=[],kwarg:=none,defaults:=[] }
def fK (s:Stmt):List Stmt:=match s with
 | .FunctionDef _ _ b _ _ _ _ _ _ _=>b
 | _=>[]
def ak (s:Stmt):Scope:=match s with
 | .FunctionDef _ _ _ _ _ _ sc _ _ _=>sc
 | _=>{ kind:=.function,names:=[],isGenerator:=false,isCoroutine:=false }
abbrev CX0:CXT:=fun _ _ _ _ _ _=>False
abbrev E0:XK:=fun _ _ _=>False
theorem UJ {X:Cx}:Passes CX0 X E0:=fun _ _ _ _ _ _ _ h=>h.elim
structure Fun (K:Ü) (x qual:Str) (st:Stmt) (f:Addr) (fd:FuncData):Prop where
 ex:∃ (oc:Value) (od:Option Addr) (kV doc pm:Value) (an:Option Addr) (cdv ct:Value) (osl:Array (Option Value)),
  fd=W.fnOf x qual (jQ st) (fK st) (ak st) .none kV doc pm an cdv ct/\K.lookup f=some ⟨oc,od,.func fd,osl⟩/\W.codeIn K cdv qual=true
 kp:W.keepIn K (.ref f)=true
section
variable {P:Program}{w:World}{K:Ü}{mg:Str->Option Value}{base:Heap}
theorem Fun.ok {x qual:Str}{st:Stmt}{f:Addr}{fd:FuncData}{N ps:List Str}{k:Nat}{sp:Sp} (F:Fun K x qual st f fd) (S:FnScope N ps (ak st)) (len:∀ vs H Q E,sp vs H Q E->vs.length=ps.length)
  (hbody:∀ (cdv:Value) (A:Around) (outer:List Env) (s:Shared) (H:Hp) (vs:List V) (Q:VK) (E:XK),Room k (A.deeper (envOfC qual (ak st) s.heap.objs.size f cdv))->sp vs H Q E ->
   ∃ t,PSs (Av CX0 P w K mg base N qual (ak st) f cdv A outer s H E).nox (fK st) t/\t { nx:=fun _ H'=>Q .non H',rt:=Q } (start N vs) H):FnOk P w K mg base CX0 (k+1) f fd ps sp:=by
 obtain⟨oc,od,kV,doc,pm,an,cdv,ct,osl,rfl,lk,hcd⟩:=F.ex
 refine Qo lk hcd S len fun A outer s H vs Q E hr hsp=>?_
 obtain⟨t,h,q⟩:=hbody cdv A outer s H vs Q E hr hsp
 exact⟨t,h.nox,q⟩
theorem Fun.binds {x qual:Str}{st:Stmt}{f:Addr}{fd:FuncData}{ps:List Str} (F:Fun K x qual st f fd)
  (h:∀ (kV doc pm:Value) (an:Option Addr) (cdv ct:Value) (us:List Value),us.length=ps.length->bindArgs (W.fnOf x qual (jQ st) (fK st) (ak st) .none kV doc pm an cdv ct) ⟨us,[]⟩=pure (ps.zip us):=by intro _ _ _ _ _ _ us hl; first | (obtain⟨_,rfl⟩:=Nf.len1 us hl; rfl) | (obtain⟨_,_,rfl⟩:=Nf.len2 us hl; rfl) | (obtain⟨_,_,_,rfl⟩:=Nf.V8 us hl; rfl)):Binds K fd ps []:=by
 obtain⟨oc,od,kV,doc,pm,an,cdv,ct,osl,rfl,lk,hcd⟩:=F.ex
 exact .all (h kV doc pm an cdv ct)
theorem S9 {x qual:Str}{st:Stmt}{f:Addr}{oc:Value}{od an:Option Addr}{osl:Array (Option Value)}{kV doc pm cdv ct:Value} (l:K.lookup f=some ⟨oc,od,.func (W.fnOf x qual (jQ st) (fK st) (ak st) .none kV doc pm an cdv ct),osl⟩)
  (c:W.codeIn K cdv qual=true) (k:W.keepIn K (.ref f)=true):Fun K x qual st f (W.fnOf x qual (jQ st) (fK st) (ak st) .none kV doc pm an cdv ct):=⟨⟨oc,od,kV,doc,pm,an,cdv,ct,osl,rfl,l,c⟩,k⟩
end
section
variable {X:Cx}
theorem pv (i:Nat) {x:Str}{pos:Pos} (hN:X.N[i]?=some x:=by rfl) (hv:Vis X.env.scope x:=by first | exact Or.inl rfl | exact Or.inr (Or.inl rfl) | exact Or.inr (Or.inr rfl)) (hd:(x == ("__debug__":Str))=false:=by decide)
  (hcd:(x == ("__classdict__":Str))=false:=by decide):PE X (.Name x pos) (qj i):=Rr hN hv hd hcd
end
theorem aL {A B:Prop} (h:B):if false=true then A else B:=by
 rw [if_neg Î]
 exact h
theorem aG {A B:Prop} (h:A):if true=true then A else B:=by
 rw [if_pos rfl]
 exact h
theorem eV {c A B:Prop} [Decidable c] (h1:c->A) (h2:¬ c->B):if c then A else B:=by
 by_cases h:c
 ·rw [if_pos h]
  exact h1 h
 ·rw [if_neg h]
  exact h2 h
def Same (H H':Hp):Prop:=∀ b o,H b=some o->H' b=some o
theorem Same.refl (H:Hp):Same H H:=fun _ _ h=>h
theorem Same.trans {H H1 H2:Hp} (a:Same H H1) (b:Same H1 H2):Same H H2:=fun c o h=>b c o (a c o h)
structure CB where
 cl:List (Str×Addr)
 C:Addr
 s:Shared
 H:Hp
 ex:List Addr
abbrev Cx.bI (X:Cx) (own M:List Str) (scope:Scope) (c:CB):Cx where
 prog:=X.prog
 w:=X.w
 K:=X.K
 mg:=X.mg
 base:=X.base
 A:=X.A
 N:=own++M
 s₀:=c.s
 H₀:=c.H
 env:=compEnvC scope c.cl c.C X.env
 outer:=X.stack
 stack:=X.stack
 ex:=c.ex
 fn:=fun x=>scope.names.lookup x == some .cell
 calm:=X.calm
 pn:=[]
 sf:=X.sf
 xe:=fun _ _=>False
abbrev Cx.comp (X:Cx) (own:List Str) (scope:Scope) (c:CB):Cx:=X.bI own X.N scope c
def cI (cells:List (Str×Addr)):List (Str×NameKind)->List (Str×Addr)->List (Str×Addr)
 | [],acc=>acc
 | (n,k)::r,acc=>if k == .free then cI cells r ((n,(cells.lookup n).getD 0)::acc) else cI cells r acc
theorem gZ {env:Env}:∀ (names:List (Str×NameKind)) (acc:List (Str×Addr)),(∀ x∈names,x.2=.free->∃ c,env.cells.lookup x.1=some c) ->
  (forIn names acc fun (p:Str×NameKind) (r:List (Str×Addr))=>match p with
   | (name,kind)=>if (kind == ù)=true then do let a ← cellOf env name; pure (Ġ ((name,a)::r)) else pure (Ġ r):Sem (List (Str×Addr)))=pure (cI env.cells names acc)
 | [],acc,_=>by simp [cI]
 | (n,k)::r,acc,h=>by
  rw [List.forIn_cons]
  by_cases hk:(k == ù)=true
  ·obtain⟨c,hc⟩:=h (n,k) ä (by simpa using hk)
   have e:cellOf env n=pure c:=by unfold cellOf; rw [hc]
   have ih:=gZ (env:=env) r ((n,c)::acc) fun x hx=>h x (Ù _ hx)
   show ((if (k == ù)=true then do let a ← cellOf env n; pure (Ġ ((n,a)::acc)) else pure (Ġ acc)) >>= _:Sem _)=_
   rw [if_pos hk,e]
   unfold cI
   rw [if_pos hk,hc]
   exact ih
  ·have ih:=gZ (env:=env) r acc fun x hx=>h x (Ù _ hx)
   show ((if (k == ù)=true then do let a ← cellOf env n; pure (Ġ ((n,a)::acc)) else pure (Ġ acc)) >>= _:Sem _)=_
   rw [if_neg hk]
   unfold cI
   rw [if_neg hk]
   exact ih
theorem DP {scope:Scope}{env:Env} (h:∀ x∈scope.names,x.2=.free->∃ c,env.cells.lookup x.1=some c):closureFor scope env=pure (cI env.cells scope.names []):=by
 have e:=gZ (env:=env) scope.names [] h
 unfold closureFor
 show (forIn scope.names [] _ >>= fun cs=>pure cs:Sem _)=_
 have e2:(forIn scope.names ([]:List (Str×Addr)) fun (p:Str×NameKind) (r:List (Str×Addr))=>match p with
   | (name,kind)=>if (kind == ù)=true then do let a ← cellOf env name; pure (Ġ ((name,a)::r)) else pure (Ġ r):Sem (List (Str×Addr)))=pure (cI env.cells scope.names []):=e
 rw [e2]
 rfl
theorem nH {cells:List (Str×Addr)}{x:Str}{c:Addr}:∀ {names:List (Str×NameKind)}{acc:List (Str×Addr)},(cI cells names acc).lookup x=some c->acc.lookup x=some c\/((x,ù)∈names/\c=(cells.lookup x).getD 0)
 | [],acc,h=>.inl h
 | (n,k)::r,acc,h=>by
  unfold cI at h
  by_cases hk:(k == ù)=true
  ·rw [if_pos hk] at h
   have hk':k=.free:=by simpa using hk
   rcases nH h with q | ⟨q1,q2⟩
   ·rw [ľ] at q
    cases hx:x == n with
    | true =>
     rw [hx] at q
     have e:x=n:=by simpa using hx
     subst e hk'
     exact .inr ⟨ä,(Õ q).symm⟩
    | false=>rw [hx] at q; exact .inl q
   ·exact .inr ⟨Ù _ q1,q2⟩
  ·rw [if_neg hk] at h
   rcases nH h with q | ⟨q1,q2⟩
   ·exact .inl q
   ·exact .inr ⟨Ù _ q1,q2⟩
theorem ux {cells:List (Str×Addr)}{x:Str}:∀ {names:List (Str×NameKind)}{acc:List (Str×Addr)},(acc.lookup x).isSome=true->((cI cells names acc).lookup x).isSome=true
 | [],_,h=>h
 | (n,k)::r,acc,h=>by
  unfold cI
  split
  ·refine ux ?_
   rw [ľ]
   cases hx:x == n <;> simp [h]
  ·exact ux h
theorem jz {cells:List (Str×Addr)}{x:Str}:∀ {names:List (Str×NameKind)}{acc:List (Str×Addr)},(x,ù)∈names->((cI cells names acc).lookup x).isSome=true
 | (n,k)::r,acc,h=>by
  unfold cI
  rcases Þ.mp h with e | h
  ·cases e
   rw [if_pos (by rfl)]
   exact ux (by simp [ľ])
  ·split
   ·exact jz h
   ·exact jz h
def eY (env:Env) (scope:Scope) (N:List Str):Bool :=
 (scope.kind == .function)&&scope.names.all fun y=>match y.2 with
  | .local=>!(N.contains y.1)&&(scope.names.lookup y.1 == some .local)
  | .cell=>!(N.contains y.1)&&(scope.names.lookup y.1 == some .cell)
  | .free=>(scope.names.lookup y.1 == some .free)&&(env.kindOf y.1 == some .cell || env.kindOf y.1 == some .free)
  | _=>true
theorem cF {env:Env}:∀ {names:List (Str×NameKind)}{x:Str}{q:NameKind},(names.map fun (n,k)=>if (k == ù&&env.scope.kind == .function&&env.kindOf n == some .cell) then (n,Č) else (n,k)).lookup x=some q ->
  ∃ k,(x,k)∈names/\names.lookup x=some k/\(q=k\/(q=.cell/\k=.free))
 | [],_,_,h=>by simp at h
 | (n,k)::r,x,q,h=>by
  have ih:=@cF env r x q
  have h':List.lookup x ((if (k == ù&&env.scope.kind == .function&&env.kindOf n == some .cell)=true then (n,Č) else (n,k))::(r.map fun (n,k)=>if (k == ù&&env.scope.kind == .function&&env.kindOf n == some .cell) then (n,Č) else (n,k)))=some q:=h
  by_cases hc:(k == ù&&env.scope.kind == .function&&env.kindOf n == some .cell)=true
  ·rw [if_pos hc,ľ] at h'
   cases hx:x == n with
   | true =>
    rw [hx] at h'
    have e:x=n:=by simpa using hx
    subst e
    have hk:k=.free:=by simp at hc; exact hc.1.1
    exact⟨k,ä,by simp [ľ],.inr ⟨(Õ h').symm,hk⟩⟩
   | false =>
    rw [hx] at h'
    obtain⟨k',h1,h2,h3⟩:=ih h'
    exact⟨k',Ù _ h1,by rw [ľ,hx]; exact h2,h3⟩
  ·rw [if_neg hc,ľ] at h'
   cases hx:x == n with
   | true =>
    rw [hx] at h'
    have e:x=n:=by simpa using hx
    subst e
    exact⟨k,ä,by simp [ľ],.inl (Õ h').symm⟩
   | false =>
    rw [hx] at h'
    obtain⟨k',h1,h2,h3⟩:=ih h'
    exact⟨k',Ù _ h1,by rw [ľ,hx]; exact h2,h3⟩
theorem HOk.track {P:Program}{w:World}{H:Hp}{h:Heap}{a:Addr}{o:HO} (x:HOk P w H h) (hn:H a=none) (new:aP P w (upd H a o) h a o):HOk P w (upd H a o) h:=fun b u e=>by
 by_cases hb:b=a
 ·subst hb; rw [aq] at e; cases e; exact new
 ·rw [aj hb] at e
  exact (x b u e).stay (fun c v _ q=>q) (fun c q=>by rw [aj (ao q hn)]; exact q) fun c xs q=>by rw [aj (ao q hn)]; exact q
theorem Hw {prog:Program}{w:World}{A:Around}{s:Shared}{elt target iter:Expr}{ifs:List Expr}{scope:Scope}{pos:Pos}{it acc:Value}{env:Env}{R:Result->Shared->Prop} (I:Nat->Shared->Prop)
  (turn:∀ n s,I n s->wpAny (model prog w) A (pyNext it) (fun r s₁=>match r with
   | none=>R (.ok .next) s₁
   | some v=>wpAny (model prog w) A (letOwnedTupleGo target it v) (fun _ s₀=>wpAny (model prog w) A (assign target env v) (fun _ s₂ =>
     wpAny (model prog w) A (forIn ifs true fun c r=>if r=true then do let ok ← isTrue c env (eval c env); pure (Ġ ok) else pure (Ġ r)) (fun ok s₃ =>
      if ok=true then wpAny (model prog w) A (eval elt env) (fun x s₄ =>
       wpAny (model prog w) A (call (.builtin "list.append") [acc,x]) (fun _ s₅=>∃ m,m<n/\I m s₅) (fun _ _=>False) s₄) (fun _ _=>False) s₃
      else ∃ m,m<n/\I m s₃) (fun _ _=>False) s₂) (fun _ _=>False) s₀) (fun _ _=>False) s₁) (fun _ _=>False) s)
  (n:Nat) (h:I n s):codeAny (model prog w) A (.compLoop (.ListComp elt [⟨target,iter,ifs,0⟩] scope pos) 0 it acc env) R s:=by
 refine codeAny_loop rfl I (fun n s hI=>?_) n h
 show wpAny _ A ((compTurn (.ListComp elt [⟨target,iter,ifs,0⟩] scope pos) 0 it acc env).onRaise (fun x=>do noteFrame x env; theTreesLotGoes x)) _ _ s
 refine wpAny_noted ?_
 rw [compTurn_list]
 refine Â (wpAny_standAt (Â (Ĳ (turn n s hI) (fun r s₁ h₁=>?_) fun _ _ h'=>h'.elim)))
 cases r with
 | none=>exact Ë h₁
 | some v =>
  refine Â (Ĳ h₁ (fun _ s₀ h₀'=>?_) fun _ _ h'=>h'.elim)
  refine Â (Ĳ h₀' (fun _ s₂ h₂=>Â (Ĳ h₂ (fun ok s₃ h₃=>?_) fun _ _ h'=>h'.elim)) fun _ _ h'=>h'.elim)
  cases ok with
  | false=>exact Ë ⟨rfl,h₃⟩
  | true =>
   exact Â (Â (Ĳ h₃ (fun x s₄ h₄=>Â (Ĳ h₄ (fun _ s₅ h₅=>Ë (Ë ⟨rfl,h₅⟩)) fun _ _ h'=>h'.elim)) fun _ _ h'=>h'.elim))
def PTs (X:Cx) (ifs:List Expr) (t:TT):Prop :=
 ∀ (pins:List (Addr×Obj)) (s:Shared) (σ:St) (H:Hp) (Q:Bool->Hp->Prop),Inv X pins σ H s->t σ H Q ->
  wpAny (model X.prog X.w) X.A (forIn ifs true fun c r=>if r=true then do let ok ← isTrue c X.env (eval c X.env); pure (Ġ ok) else pure (Ġ r)) (TP X pins σ Q) X.xe s
theorem M6 {X:Cx}:PTs X [] (fun _ H Q=>Q true H):=fun _ _ _ H _ I h=>wpAny_tests_nil ⟨H,I,h⟩
theorem M5 {X:Cx}{c:Expr}{t:TT} (hc:PT X c t):PTs X [c] t:=fun pins s σ H Q I h=>wpAny_tests_one (hc pins s σ H Q I h)
def VD (J:It) (n:Nat) (g:CB->TG) (tt:CB->TT) (te:CB->TE) (σ:St) (Q:VK) (H:Hp):Prop:=∃ W:Nat->Nat->List V->Hp->Prop,(∃ m,W 0 m [] H)/\∀ (c:CB) i m ys H,W i m ys H ->
 (J.stop i H/\∀ p,H p=none->Q (.ref p) (upd H p (.lst ys))) ∨
 (J.go i H/\ys.length<sizeLine/\∃ N:List V->Hp->Prop,(∀ ys' H',N ys' H'->∃ m',m'<m/\W (i+1) m' ys' H')/\∀ x H',J.yld i H x H'->g c x (Ñ n none++σ) H' fun σ2 H2=>tt c σ2 H2 fun b H3 =>
  if b=true then te c σ2 H3 fun v H4=>N (ys++[v]) H4 else N ys H3)
def tLC (n:Nat) (wi:TI) (g:CB->TG) (tt:CB->TT) (te:CB->TE):TE:=fun σ H Q=>wi σ H fun J H1=>VD J n g tt te σ Q H1
section
variable {X:Cx}{own:List Str}{scope:Scope}{tg iter elt:Expr}{ifs:List Expr}{pos:Pos}{wi:TI}{g:CB->TG}{tt:CB->TT}{te:CB->TE}
def bw (env:Env) (scope:Scope) (N M:List Str):Bool :=
 eY env scope M&&((N.length == M.length)&&(N.zip M).all fun y=>y.1 == y.2 || ((y.2 == ("":Str))&&scope.names.all fun z=>!(z.1 == ("":Str))))
theorem Ax {env:Env}{N:List Str} (h:eY env scope N=true):bw env scope N N=true:=by
 unfold bw
 rw [h,Bool.true_and,beq_self_eq_true,Bool.true_and,Ŀ]
 rintro ⟨a,b⟩ hy
 obtain⟨i,hi,e⟩:=List.mem_iff_getElem.mp hy
 rw [List.getElem_zip] at e
 cases e
 simp
variable {M:List Str}
theorem dW (h:bw X.env scope X.N M=true):scope.kind=.function:=by
 unfold bw eY at h
 simp only [Ú,beq_iff_eq] at h
 exact h.1.1
theorem bN (h:bw X.env scope X.N M=true):∀ y∈scope.names,(y.2=.local->y.1∉M/\scope.names.lookup y.1=some .local)/\(y.2=.cell->y.1∉M/\scope.names.lookup y.1=some .cell)/\(y.2=.free->scope.names.lookup y.1=some .free/\(X.env.kindOf y.1=some .cell\/X.env.kindOf y.1=some .free)):=by
 unfold bw at h
 rw [Ú] at h
 have h:=h.1
 unfold eY at h
 rw [Ú,Ŀ] at h
 intro y hy
 have q:=h.2 y hy
 obtain⟨n,k⟩:=y
 cases k with
 | «local»=>simp at q ⊢; exact q
 | cell=>simp at q ⊢; exact q
 | free=>simp at q ⊢; exact q
 | globalExplicit=>simp
 | globalImplicit=>simp
theorem aV:∀ (names:List (Str×NameKind)) (n:Nat) (acc:List (Str×Addr)),cellsFrom n names acc=cellsFrom n names []++acc
 | [],_,_=>rfl
 | (nm,k)::r,n,acc=>by
  show (if (k == Č)=true then cellsFrom (n+1) r ((nm,n)::acc) else cellsFrom n r acc)=(if (k == Č)=true then cellsFrom (n+1) r [(nm,n)] else cellsFrom n r [])++acc
  split
  ·rw [aV r (n+1) ((nm,n)::acc),aV r (n+1) [(nm,n)],Ķ]
   rfl
  ·exact aV r n acc
theorem dZ:∀ (names:List (Str×NameKind)) (n:Nat) (x:Str) (c:Addr),(x,c)∈cellsFrom n names []->(x,Č)∈names/\n<=c
 | [],_,_,_,h=>nomatch h
 | (nm,k)::r,n,x,c,h=>by
  have h:(x,c)∈(if (k == Č)=true then cellsFrom (n+1) r [(nm,n)] else cellsFrom n r []):=h
  split at h
  ·rename_i hk
   rw [aV] at h
   rcases ñ.mp h with z | z
   ·obtain⟨h1,h2⟩:=dZ r (n+1) x c z
    exact⟨Ù _ h1,by omega⟩
   ·have z:(x,c)=(nm,n):=by simpa using z
    cases z
    have hk:k=.cell:=by simpa using hk
    subst hk
    exact⟨ä,Ö _⟩
  ·obtain⟨h1,h2⟩:=dZ r n x c h
   exact⟨Ù _ h1,h2⟩
theorem pC:∀ (names:List (Str×NameKind)) (n:Nat) (x y:Str) (c:Addr),(x,c)∈cellsFrom n names []->(y,c)∈cellsFrom n names []->x=y
 | [],_,_,_,_,h,_=>nomatch h
 | (nm,k)::r,n,x,y,c,h,h'=>by
  have h:(x,c)∈(if (k == Č)=true then cellsFrom (n+1) r [(nm,n)] else cellsFrom n r []):=h
  have h':(y,c)∈(if (k == Č)=true then cellsFrom (n+1) r [(nm,n)] else cellsFrom n r []):=h'
  by_cases hk:(k == Č)=true
  ·rw [if_pos hk,aV] at h h'
   rcases ñ.mp h with z | z <;> rcases ñ.mp h' with z' | z'
   ·exact pC r (n+1) x y c z z'
   ·have:=(dZ r (n+1) x c z).2
    have z':(y,c)=(nm,n):=by simpa using z'
    cases z'
    exact absurd this (Nat.not_succ_le_self _)
   ·have:=(dZ r (n+1) y c z').2
    have z:(x,c)=(nm,n):=by simpa using z
    cases z
    exact absurd this (Nat.not_succ_le_self _)
   ·have z:(x,c)=(nm,n):=by simpa using z
    have z':(y,c)=(nm,n):=by simpa using z'
    cases z
    cases z'
    rfl
  ·rw [if_neg hk] at h h'
   exact pC r n x y c h h'
theorem jK:∀ (names:List (Str×NameKind)) (h:Heap) (b:Addr) (o:Obj),h.get? b=some o->(pushCells h names).get? b=some o
 | [],_,_,_,e=>e
 | (nm,k)::r,h,b,o,e=>by
  show (if (k == Č)=true then pushCells (h.push { cls:=û "cell",data:=Data.cell none }) r else pushCells h r).get? b=some o
  split
  ·exact jK r _ b o (Ì _ e)
  ·exact jK r h b o e
theorem n6:∀ (names:List (Str×NameKind)) (h:Heap) (x:Str) (c:Addr),(x,c)∈cellsFrom h.objs.size names []->(pushCells h names).IsCell c none
 | [],_,_,_,e=>nomatch e
 | (nm,k)::r,h,x,c,e=>by
  have e:(x,c)∈(if (k == Č)=true then cellsFrom (h.objs.size+1) r [(nm,h.objs.size)] else cellsFrom h.objs.size r []):=e
  show (if (k == Č)=true then pushCells (h.push { cls:=û "cell",data:=Data.cell none }) r else pushCells h r).IsCell c none
  by_cases hk:(k == Č)=true
  ·rw [if_pos hk,aV] at e
   rw [if_pos hk]
   rcases ñ.mp e with z | z
   ·exact n6 r _ x c (by rw [Ń]; exact z)
   ·have z:(x,c)=(nm,h.objs.size):=by simpa using z
    cases z
    exact⟨_,jK r _ _ _ (Û _ rfl),rfl⟩
  ·rw [if_neg hk] at e ⊢
   exact n6 r h x c e
theorem Cu {M:Model}{A:Around}{E:Value->Shared->Prop}{s:Shared}{scope:Scope}{globals:Addr}{closure:List (Str×Addr)}{qual:Str}{func:Option Addr}{code:Value}{around:Option Env}{builtins:Addr}{Q:Env->Shared->Prop}
  (h:Q (newEnv scope s.heap.objs.size globals (cellsFrom (s.heap.objs.size+1) scope.names closure) qual func code around builtins) { s with heap:=pushCells (s.heap.push { cls:=û (if around.isSome=true then "dict" else "frame"),data:=Data.dict #[] }) scope.names }) :
  wpAny M A (newFunctionEnv scope globals closure [] qual func code around builtins) Q E s:=by
 unfold newFunctionEnv
 refine Â (wpAny_alloc ?_)
 refine Â (wpAny_layCells _ (fun _ _ _=>rfl) _ _ _ _ ?_)
 rw [Ń]
 exact Â (Ë (Ë h))
theorem Tr {n:Nat}{names:List (Str×NameKind)}{cl:List (Str×Addr)}{x:Str}{c:Addr} (h:(cellsFrom n names cl).lookup x=some c):(x,c)∈cellsFrom n names []\/cl.lookup x=some c:=by
 rw [aV,List.lookup_append] at h
 cases e:(cellsFrom n names []).lookup x with
 | none=>rw [e] at h; exact .inr h
 | some d =>
  rw [e] at h
  cases h
  exact .inl (Ŋ e)
theorem Lz {n:Nat}{names:List (Str×NameKind)}{cl:List (Str×Addr)}{x:Str} (h:∀ c,(x,c)∈cellsFrom n names []->False):(cellsFrom n names cl).lookup x=cl.lookup x:=by
 rw [aV,List.lookup_append]
 cases e:(cellsFrom n names []).lookup x with
 | none=>rfl
 | some d=>exact (h d (Ŋ e)).elim
theorem Ae (h:bw X.env scope X.N M=true) {n:Nat}{x:Str} (hx:(x,ù)∈scope.names):∀ c,(x,c)∈cellsFrom n scope.names []->False:=fun c z=>by
 have h1:=((bN h _ hx).2.2 rfl).1
 have h2:=((bN h _ (dZ _ _ _ _ z).1).2.1 rfl).2
 rw [h1] at h2
 cases h2
theorem jy (h:bw X.env scope X.N M=true):X.N.length=M.length:=by
 unfold bw at h
 rw [Ú,Ú] at h
 exact eq_of_beq h.2.1
theorem vM {i:Nat}{x:Str}{k:NameKind} (h:bw X.env scope X.N M=true) (hx:M[i]?=some x) (_:x∈M) (hn:(x,k)∈scope.names):X.N[i]?=some x:=by
 have hl:=jy h
 unfold bw at h
 rw [Ú,Ú,Ŀ] at h
 have hi:i<M.length:=(Æ.mp hx).1
 have hx':M[i]=x:=(Æ.mp hx).2
 have hi':i<X.N.length:=by omega
 have q:=h.2.2 (X.N[i],M[i]) (by
  refine List.mem_iff_getElem.mpr ⟨i,by rw [List.length_zip]; omega,?_⟩
  rw [List.getElem_zip])
 rw [Bool.or_eq_true] at q
 rcases q with q | q
 ·have q:X.N[i]=M[i]:=eq_of_beq q
  rw [Ó hi',q,hx']
 ·rw [Ú,Ŀ] at q
  have e:M[i]=("":Str):=eq_of_beq q.1
  have z:=q.2 (x,k) hn
  rw [← hx',e] at z
  simp at z
theorem DN {pins:List (Addr×Obj)}{σ:St}{H:Hp}{s:Shared}{fp:List Addr}{h₁:Heap}{tk:Nat} (hk:bw X.env scope X.N M=true) (I:Inv X pins σ H s) (hf:∀ b∈fp,nR X pins H b) (hfo:∀ b∈fp,∃ o,s.heap.get? b=some o)
  (hns:h₁.Ns (s.heap.objs.size+1) fun _=>none) (old:∀ b o,s.heap.get? b=some o->h₁.get? b=some o) (hD:h₁.get? s.heap.objs.size=some { cls:=.type "list",data:=.seq #[] 0 }) (hnc:∀ x c,(x,c)∈cellsFrom (s.heap.objs.size+2) scope.names []->h₁.IsCell c none) :
  Inv (X.bI own M scope ⟨cellsFrom (s.heap.objs.size+2) scope.names (cI X.env.cells scope.names []),s.heap.objs.size+1,s,H,fp⟩) [(s.heap.objs.size,{ cls:=.type "list",data:=.seq #[] 0 })] (Ñ own.length none++σ) H { s with heap:=h₁,toks:=tk }:=by
 have hkk:=dW hk
 have hka:=bN hk
 have hhas:∀ x,(x,ù)∈scope.names->∃ c,X.env.cells.lookup x=some c:=fun x hx=>I.ok.has x ((hka _ hx).2.2 rfl).2
 have hcl:∀ x c,(cI X.env.cells scope.names []).lookup x=some c->X.env.cells.lookup x=some c/\(x,ù)∈scope.names:=fun x c e=>by
  rcases nH e with q | ⟨q1,q2⟩
  ·simp at q
  ·obtain⟨c',e'⟩:=hhas x q1
   rw [e'] at q2
   exact⟨by rw [e',q2]; rfl,q1⟩
 have hcc:∀ x c,(cellsFrom (s.heap.objs.size+2) scope.names (cI X.env.cells scope.names [])).lookup x=some c->(X.env.cells.lookup x=some c/\(x,ù)∈scope.names/\c<s.heap.objs.size)\/((x,c)∈cellsFrom (s.heap.objs.size+2) scope.names []/\(x,Č)∈scope.names/\s.heap.objs.size+2<=c):=fun x c e=>by
  rcases Tr e with z | z
  ·exact .inr ⟨z,dZ _ _ _ _ z⟩
  ·obtain⟨h1,h2⟩:=hcl x c z
   obtain⟨v,o,ho,_⟩:=I.cell x c h1
   exact .inl ⟨h1,h2,Ê ho⟩
 have hvis:∀ x,(relabel scope X.env).names.lookup x=some .cell\/(relabel scope X.env).names.lookup x=some .free->(x,ù)∈scope.names\/(x,Č)∈scope.names:=fun x hx=>by
  have key:∀ q,(relabel scope X.env).names.lookup x=some q->q=.cell\/q=.free->(x,ù)∈scope.names\/(x,Č)∈scope.names:=fun q hq hq'=>by
   obtain⟨k,h1,h2,h3⟩:=cF (env:=X.env) (names:=scope.names) hq
   rcases h3 with h3 | ⟨_,h3⟩
   ·subst h3
    rcases hq' with z | z
    ·rw [z] at h1; exact .inr h1
    ·rw [z] at h1; exact .inl h1
   ·rw [h3] at h1; exact .inl h1
  rcases hx with hx | hx
  ·exact key _ hx (.inl rfl)
  ·exact key _ hx (.inr rfl)
 have hlt:∀ b o,s.heap.get? b=some o->b<s.heap.objs.size:=fun b o e=>Ê e
 refine⟨⟨I.ok.mod,hkk,I.ok.glob,I.ok.blt,Ņ _,fun x y c h1 h2=>?inj,fun x hx=>?_,fun x c z e=>?cab,I.ok.hd,I.ok.frames,.inl rfl,fun b hb=>⟨?_,fun x c e=>?exf⟩,I.bs,
   Ą I.ok.bsz I.sz,fun b o e hb=>?_,fun b hb hs=>?_,I.stack,I.wg,fun q hq=>⟨(I.ok.sof q hq).1,I.base.frzs _ _ _ (I.ok.sof q hq).2.1,(I.ok.sof q hq).2.2⟩⟩,rfl,I.bare,Un.kept old,⟨_,hns,fun i x v h1 h2 h3=>?_⟩,fun x c e=>?_,?_,fun x c e=>?frc,fun p hp=>?_,I.hok.kept old,?_⟩
 case inj =>
  rcases hcc x c h1 with ⟨a1,_,a3⟩ | ⟨a1,_,a3⟩ <;> rcases hcc y c h2 with ⟨b1,_,b3⟩ | ⟨b1,_,b3⟩
  ·exact I.ok.inj x y c a1 b1
  ·exact absurd (å a3 (Ą (ź _ 2) b3)) (ć _)
  ·exact absurd (å b3 (Ą (ź _ 2) a3)) (ć _)
  ·exact pC _ _ _ _ _ a1 b1
 case cab =>
  show s.heap.objs.size<=c
  rcases hcc x c e with ⟨_,a2,_⟩ | ⟨_,_,a3⟩
  ·have h1:=((hka _ a2).2.2 rfl).1
   have z:(scope.names.lookup x == some Č)=true:=z
   rw [h1] at z
   exact absurd z (by decide)
  ·omega
 case exf =>
  rcases hcc x c e with ⟨a1,_,_⟩ | ⟨_,_,a3⟩
  ·exact (hf b hb).2.2.2.2.1 x c a1
  ·obtain⟨o,e⟩:=hfo b hb
   have:=hlt b o e
   intro z
   subst z
   exact absurd (å this (Ą (ź _ 2) a3)) (ć _)
 case frc =>
  rcases hcc x c e with ⟨a1,_,_⟩ | ⟨_,_,a3⟩
  ·exact I.freeC x c a1
  ·exact I.hok.fresh (by omega)
 ·have hx':(relabel scope X.env).names.lookup x=some .cell\/(relabel scope X.env).names.lookup x=some .free:=hx
  refine Option.isSome_iff_exists.mp (W.cellsFrom_some _ _ _ ?_)
  rcases hvis x hx' with z | z
  ·exact .inr (jz z)
  ·exact .inl ((hka _ z).2.1 rfl).2
 ·obtain⟨o,e⟩:=hfo b hb
  exact à (ď (hlt b o e))
 ·have hb':b∈fp:=hb
  rcases (hf b hb').2.2.2.1 with z | z
  ·exact I.ok.noex b o e z
  ·exact absurd (å (Ê (I.ok.bs b o e).1) z) (ć _)
 ·have hb':b∈fp:=hb
  rcases Þ.mp (I.v9 b hs) with z | z
  ·exact (hf b hb').2.1 z
  ·exact (hf b hb').2.2.1 z
 ·have hi:own.length<=i:=by
   by_cases hi:i<own.length
   ·rw [ě (by simpa using hi),ś] at h2
    split at h2 <;> cases h2
   ·omega
  have h1':M[i - own.length]?=some x:=by
   have q:(own++M)[i]?=some x:=h1
   rwa [Ă hi] at q
  have h2':σ[i - own.length]?=some (some v):=by
   rw [Ă (by simpa using hi)] at h2
   simpa using h2
  have h3':Vis (relabel scope X.env) x:=h3
  have hfr:(x,ù)∈scope.names:=by
   rcases h3' with z | z
   ·obtain⟨k,q1,q2,q3⟩:=cF (env:=X.env) (names:=scope.names) z
    rcases q3 with q3 | ⟨q3,_⟩
    ·subst q3
     exact absurd (É h1') ((hka _ q1).1 rfl).1
    ·cases q3
   ·rcases hvis x z with y | y
    ·exact y
    ·exact absurd (É h1') ((hka _ y).2.1 rfl).1
  have hkx:=((hka _ hfr).2.2 rfl).2
  obtain⟨m,hm,hl⟩:=I.loc
  obtain⟨u,ru,lu⟩:=hl _ x v (vM hk h1' (É h1') hfr) h2' (by rcases hkx with z | z; exact .inr (.inl z); exact .inr (.inr z))
  refine⟨u,ru,.inr ⟨?_,?_⟩⟩
  ·rcases h3' with z | z | z
   ·obtain⟨k,q1,q2,q3⟩:=cF (env:=X.env) (names:=scope.names) z
    rcases q3 with q3 | ⟨q3,_⟩
    ·subst q3
     exact absurd (É h1') ((hka _ q1).1 rfl).1
    ·cases q3
   ·exact .inl z
   ·exact .inr z
  ·rcases lu with ⟨z,_⟩ | ⟨_,c,e,ic⟩
   ·rcases hkx with q | q
    ·rw [q] at z; cases z
    ·rw [q] at z; cases z
   ·obtain⟨c',e'⟩:=Option.isSome_iff_exists.mp (jz (cells:=X.env.cells) (acc:=[]) hfr)
    have e2:=(hcl x c' e').1
    rw [e] at e2
    cases e2
    obtain⟨o,ho,hd⟩:=ic
    exact⟨c,(Lz (Ae hk hfr)).trans e',o,old _ _ ho,hd⟩
 ·rcases hcc x c e with ⟨z,_,_⟩ | ⟨z,_,_⟩
  ·obtain⟨v,o,ho,hd⟩:=I.cell x c z
   exact⟨v,o,old _ _ ho,hd⟩
  ·exact⟨none,hnc x c z⟩
 ·exact I.hok.fresh (Ņ _)
 ·have hp':p=(s.heap.objs.size,{ cls:=.type "list",data:=.seq #[] 0 }):=by simpa using hp
  subst hp'
  refine⟨hD,I.hok.fresh (Ö _),à (Ŝ _),fun z=>?_,fun v z=>nomatch z⟩
  obtain⟨_,o,ho,_⟩:=I.stack.mem z
  exact absurd (Ê ho) (ć _)
 ·show (Ñ own.length none++σ).length=(own++M).length
  rw [Ô,Ô,ŧ,I.len,jy hk]
theorem Dz {pins pn:List (Addr×Obj)}{σ σ':St}{H H':Hp}{s s':Shared}{fp:List Addr}{cl:List (Str×Addr)}{ys:List V}{us:List Value}{n:Nat} (I:Inv X pins σ H s) (hf:∀ b∈fp,nR X pins H b)
  (J:Inv (X.bI own M scope ⟨cl,s.heap.objs.size+1,s,H,fp⟩) pn σ' H' s') (hp:(s.heap.objs.size,({ cls:=.type "list",data:=.seq us.toArray n }:Obj))∈pn) (hv:Vals ys us) (hz:ys.length<=sizeLine) :
  Inv X pins σ (upd H' s.heap.objs.size (.lst ys)) s'/\H' s.heap.objs.size=none:=by
 obtain⟨hD,hDn,_⟩:=J.pin _ (ß _ hp)
 refine⟨I.call' J.os ⟨fun b o e n hb hx=>J.base.keep b o e n hb hx,fun b o e n hb hx=>J.base.slot b o e n hb hx,fun b o e n hx=>?_,fun b o e hx=>J.base.there b o e hx,fun b xs e=>?_,fun b o u e=>?_,fun b ps e=>?_⟩ ?_ J.bare ?_,hDn⟩
 ·rw [aj (à (Ê e))]
  exact J.base.free b o e n hx
 ·have q:=J.base.tups b xs e
  rw [aj (ao q hDn)]
  exact q
 ·have q:=J.base.frzs b o u e
  rw [aj (ao q hDn)]
  exact q
 ·obtain⟨more,q⟩:=J.base.tbls b ps e
  exact⟨more,by rw [aj (ao q hDn)]; exact q⟩
 ·exact J.hok.track hDn ⟨hz,us,n,hv,hD⟩
 ·intro b hb
  exact⟨(hf b hb).2.2.2.1,(hf b hb).2.1,(hf b hb).2.2.2.2.1,(hf b hb).2.2.2.2.2⟩
theorem uo {pins pn:List (Addr×Obj)}{σ σ':St}{H H':Hp}{s s':Shared}{fp:List Addr}{cl:List (Str×Addr)} (hk:bw X.env scope X.N M=true) (I:Inv X pins σ H s) (hf:∀ b∈fp,nR X pins H b)
  (hcl:∀ x,(x,ù)∈scope.names->∃ c,cl.lookup x=some c/\X.env.cells.lookup x=some c)
  (J:Inv (X.bI own M scope ⟨cl,s.heap.objs.size+1,s,H,fp⟩) pn σ' H' s'):Inv (X.bI own M scope ⟨cl,s.heap.objs.size+1,s,H,fp⟩) pn (Ñ own.length none++σ) H' s':=by
 have hka:=bN hk
 refine⟨J.ok,J.os,J.bare,J.base,?_,J.cell,J.free,J.freeC,J.pin,J.hok,?_⟩
 ·obtain⟨mC,hmC,_⟩:=J.loc
  refine⟨mC,hmC,fun i x v h1 h2 h3=>?_⟩
  have hi:own.length<=i:=by
   by_cases hi:i<own.length
   ·rw [ě (by simpa using hi),ś] at h2
    split at h2 <;> cases h2
   ·omega
  have h1':M[i - own.length]?=some x:=by
   have q:(own++M)[i]?=some x:=h1
   rwa [Ă hi] at q
  have h2':σ[i - own.length]?=some (some v):=by
   rw [Ă (by simpa using hi)] at h2
   simpa using h2
  have h3':Vis (relabel scope X.env) x:=h3
  have nloc:¬ (relabel scope X.env).names.lookup x=some .local:=fun z=>by
   obtain⟨k,q1,q2,q3⟩:=cF (env:=X.env) (names:=scope.names) z
   rcases q3 with q3 | ⟨q3,_⟩
   ·subst q3
    exact absurd (É h1') ((hka _ q1).1 rfl).1
   ·cases q3
  have hkk:(relabel scope X.env).names.lookup x=some .cell\/(relabel scope X.env).names.lookup x=some .free:=by
   rcases h3' with z | z
   ·exact absurd z nloc
   ·exact z
  have hfr:(x,ù)∈scope.names:=by
   have key:∀ q,(relabel scope X.env).names.lookup x=some q->q=.cell\/q=.free->(x,ù)∈scope.names:=fun q hq hq'=>by
    obtain⟨k,h1,h2,h3⟩:=cF (env:=X.env) (names:=scope.names) hq
    rcases h3 with h3 | ⟨_,h3⟩
    ·subst h3
     rcases hq' with z | z
     ·rw [z] at h1; exact absurd (É h1') ((hka _ h1).2.1 rfl).1
     ·rw [z] at h1; exact h1
    ·rw [h3] at h1; exact h1
   rcases hkk with hx | hx
   ·exact key _ hx (.inl rfl)
   ·exact key _ hx (.inr rfl)
  have hkx:=((hka _ hfr).2.2 rfl).2
  obtain⟨m,hm,hl⟩:=I.loc
  obtain⟨u,ru,lu⟩:=hl _ x v (vM hk h1' (É h1') hfr) h2' (by rcases hkx with z | z; exact .inr (.inl z); exact .inr (.inr z))
  refine⟨u,ru,.inr ⟨hkk,?_⟩⟩
  rcases lu with ⟨z,_⟩ | ⟨_,c,e,ic⟩
  ·rcases hkx with q | q
   ·rw [q] at z; cases z
   ·rw [q] at z; cases z
  ·obtain⟨c',e',e2⟩:=hcl x hfr
   rw [e] at e2
   cases e2
   obtain⟨o,ho,hd⟩:=ic
   obtain⟨sl,q⟩:=J.base.any ho (I.freeC x c e) fun z=>(hf c z).2.2.2.2.1 x c e rfl
   exact⟨c,e',_,q,hd⟩
 ·show (Ñ own.length none++σ).length=(own++M).length
  rw [Ô,Ô,ŧ,I.len,jy hk]
theorem vJ {pins:List (Addr×Obj)}{σ:St}{H:Hp}{s:Shared}{it:Addr}{fp:List Addr}{tn:Nat->Heap->Prop}{J:It}{W:Nat->Nat->List V->Hp->Prop}{E:Value->Shared->Prop}{RR:Value->Addr->Result->Shared->Prop}{Cm:Cx->Prop} (hc:∀ c,Cm (X.bI own M scope c))
  (hk:bw X.env scope X.N M=true) (hg:∀ c,PG (X.bI own M scope c) tg (g c)) (ht:∀ c,PTs (X.bI own M scope c) ifs (tt c)) (he:∀ c,PE (X.bI own M scope c) elt (te c))
  (I:Inv X pins σ H s) (T:TurnG Cm X.prog X.w X.K tg J fp it tn) (st:tn 0 s.heap) (hf:∀ b∈fp,nR X pins H b) {m0:Nat} (w0:W 0 m0 [] H) {D:List V->Hp->Prop}
  (turn:∀ (c:CB) i m ys H,W i m ys H->(J.stop i H/\D ys H) ∨
   (J.go i H/\ys.length<sizeLine/\∃ N:List V->Hp->Prop,(∀ ys' H',N ys' H'->∃ m',m'<m/\W (i+1) m' ys' H')/\∀ x H',J.yld i H x H'->g c x (Ñ own.length none++σ) H' fun σ2 H2=>tt c σ2 H2 fun b H3 =>
    if b=true then te c σ2 H3 fun v H4=>N (ys++[v]) H4 else N ys H3))
  (fin:∀ s' m' ys H',(s'.heap.Ns (s.heap.objs.size+1) m')->H' (s.heap.objs.size+1)=none->H' s.heap.objs.size=none->Inv X pins σ (upd H' s.heap.objs.size (.lst ys)) s'->D ys H'->RR (.ref s.heap.objs.size) (s.heap.objs.size+1) (.ok .next) s') :
  wpAny (model X.prog X.w) X.A (newList []) (fun acc s₃=>wpAny (model X.prog X.w) X.A (newFunctionEnv scope X.env.globals (cI X.env.cells scope.names []) [] X.env.qual none .none (some X.env)) (fun cenv s₄ =>
   codeAny (model X.prog X.w) X.A (.compStart (.ListComp elt [⟨tg,iter,ifs,0⟩] scope pos) 0 (.ref it) acc { cenv with scope:=relabel scope X.env }) (RR acc cenv.locals) s₄) E s₃) E s:=by
 have hkk:=dW hk
 have hka:=bN hk
 refine ļ (Cu ?_)
 dsimp only
 have hC:(s.heap.push { cls:=.type "list",dict:=none,data:=.seq ([]:List Value).toArray }).objs.size=s.heap.objs.size+1:=Ń ..
 rw [hC]
 generalize hH2:s.heap.push { cls:=.type "list",dict:=none,data:=.seq ([]:List Value).toArray }=H2 at hC ⊢
 generalize hH3:H2.push { cls:=û (if (some X.env:Option Env).isSome=true then "dict" else "frame"),data:=Data.dict #[] }=H3
 generalize hh1:pushCells H3 scope.names=h₁
 have hC3:H3.objs.size=s.heap.objs.size+2:=by rw [← hH3,Ń,hC]
 have old3:∀ b o,H3.get? b=some o->h₁.get? b=some o:=fun b o e=>hh1 ▸ jK _ _ _ _ e
 have old2:∀ b o,H2.get? b=some o->h₁.get? b=some o:=fun b o e=>old3 b o (hH3 ▸ Ì _ e)
 have old:∀ b o,s.heap.get? b=some o->h₁.get? b=some o:=fun b o e=>old2 b o (hH2 ▸ Ì _ e)
 have hacc:h₁.get? s.heap.objs.size=some { cls:=.type "list",data:=.seq #[] 0 }:=old2 _ _ (hH2 ▸ Û _ rfl)
 have hns:h₁.Ns (s.heap.objs.size+1) fun _=>none:=by
  have z:=Heap.Ns.new H2 (û (if (some X.env:Option Env).isSome=true then "dict" else "frame"))
  rw [hC,hH3] at z
  exact z.keeps old3
 have hnc:∀ x c,(x,c)∈cellsFrom (s.heap.objs.size+2) scope.names []->h₁.IsCell c none:=fun x c e=>by
  rw [← hC3] at e
  exact hh1 ▸ n6 _ _ _ _ e
 have hfo:∀ b∈fp,∃ o,s.heap.get? b=some o:=fun b hb=>let ⟨o,e,_⟩:=T.obj 0 _ st b hb; ⟨o,e⟩
 have st₁:tn 0 h₁:=T.keep 0 _ _ st fun b _ o e=>old b o e
 have I₁:=DN (own:=own) (tk:=s.toks) hk I hf hfo hns old hacc hnc
 have loop:∀ s₃:Shared,s₃={ s with heap:=h₁,toks:=s.toks } ->
   codeAny (model X.prog X.w) X.A (.compLoop (.ListComp elt [⟨tg,iter,ifs,0⟩] scope pos) 0 (.ref it) (.ref s.heap.objs.size) (compEnvC scope (cellsFrom (s.heap.objs.size+2) scope.names (cI X.env.cells scope.names [])) (s.heap.objs.size+1) X.env))
    (RR (.ref s.heap.objs.size) (s.heap.objs.size+1)) s₃:=by
  rintro s₃ rfl
  have neD:∀ b∈fp,b≠s.heap.objs.size:=fun b hb=>by
   obtain⟨o,e⟩:=hfo b hb
   exact à (Ê e)
  have stat:∀ {H':Hp}{o:Obj},(∀ b∈fp,H' b=none)->∀ b∈fp,nR (X.bI own M scope ⟨cellsFrom (s.heap.objs.size+2) scope.names (cI X.env.cells scope.names []),s.heap.objs.size+1,s,H,fp⟩) [(s.heap.objs.size,o)] H' b:=fun {H' o} hn b hb =>
   ⟨hn b hb,(I₁.ok.exf b hb).1,I₁.ok.exfs b hb,.inl hb,(I₁.ok.exf b hb).2,fun p hp=>by
    have hp':p=(s.heap.objs.size,o):=by simpa using hp
    subst hp'
    exact Ć (neD b hb)⟩
  refine Hw (fun k s'=>∃ i ys us n H',Inv (X.bI own M scope ⟨cellsFrom (s.heap.objs.size+2) scope.names (cI X.env.cells scope.names []),s.heap.objs.size+1,s,H,fp⟩) [(s.heap.objs.size,{ cls:=.type "list",data:=.seq (us:List Value).toArray n })] (Ñ own.length none++σ) H' s' /\
    Vals ys us/\ys.length<=sizeLine/\tn i s'.heap/\(∀ b∈fp,H' b=none)/\W i k ys H') ?_ m0 ⟨0,[],[],0,H,I₁,.nil,Ě _,st₁,fun b hb=>(hf b hb).1,w0⟩
  rintro k s3 ⟨i,ys,us,n,H3,I3,hv,hz,st3,fr3,w3⟩
  rcases turn ⟨cellsFrom (s.heap.objs.size+2) scope.names (cI X.env.cells scope.names []),s.heap.objs.size+1,s,H,fp⟩ i k ys H3 w3 with ⟨stop,d⟩ | ⟨go,hlt,N,hN,step⟩
  ·refine thn (T.done (X.bI own M scope ⟨cellsFrom (s.heap.objs.size+2) scope.names (cI X.env.cells scope.names []),s.heap.objs.size+1,s,H,fp⟩) rfl rfl rfl (hc _) i _ s3 _ H3 _ I3 (stat fr3) st3 stop) fun r s4 ⟨hr,I4⟩=>?_
   subst hr
   obtain⟨m',hm',_⟩:=I4.loc
   obtain⟨J4,hDn⟩:=Dz I hf I4 (Í.mpr rfl) hv hz
   exact fin s4 m' ys H3 hm' I4.free hDn J4 d
  ·refine thn (T.item (X.bI own M scope ⟨cellsFrom (s.heap.objs.size+2) scope.names (cI X.env.cells scope.names []),s.heap.objs.size+1,s,H,fp⟩) rfl rfl rfl (hc _) i _ s3 _ H3 _ I3 (stat fr3) st3 go) fun r s4 ⟨u,hr,h4⟩=>?_
   subst hr
   refine thn h4 fun _ s5 ⟨x,H5,I5,r5,y5,st5,fr5⟩=>?_
   have I5':=I5.pinned (stat fr5) (T.obj _ _ st5)
   refine thn (hg _ _ s5 _ H5 x u _ I5' r5 (step x H5 y5)) fun _ s6 ⟨σ6,H6,I6,q6⟩=>?_
   refine thn (ht _ _ s6 σ6 H6 _ I6 q6) fun b s7 ⟨H7,I7,q7⟩=>?_
   -- the turn's end: the iterator's records stand,the names are forgotten
   have clH:∀ x,(x,ù)∈scope.names->∃ c,(cellsFrom (s.heap.objs.size+2) scope.names (cI X.env.cells scope.names [])).lookup x=some c/\X.env.cells.lookup x=some c:=fun x hx=>by
    obtain⟨c,e⟩:=I.ok.has x ((hka _ hx).2.2 rfl).2
    obtain⟨c',e'⟩:=Option.isSome_iff_exists.mp (jz (cells:=X.env.cells) (acc:=[]) hx)
    rcases nH e' with q | ⟨_,q⟩
    ·simp at q
    ·rw [e] at q
     exact⟨c',(Lz (Ae hk hx)).trans e',by rw [e,q]; rfl⟩
   have keepT:∀ {H':Hp}{σ':St}{s':Shared}{pn:List (Addr×Obj)},(∀ p∈jd fp s5.heap,p∈pn)->Inv (X.bI own M scope ⟨cellsFrom (s.heap.objs.size+2) scope.names (cI X.env.cells scope.names []),s.heap.objs.size+1,s,H,fp⟩) pn σ' H' s'->tn (i+1) s'.heap/\∀ b∈fp,H' b=none:=fun {H' σ' s' pn} hs I' =>
    ⟨T.keep _ _ _ st5 fun b hb o e=>(I'.pin (b,o) (ß _ (hs _ (gW hb e)))).1,fun b hb=>by
     obtain⟨o,e,_⟩:=T.obj _ _ st5 b hb
     exact (I'.pin (b,o) (ß _ (hs _ (gW hb e)))).2.1⟩
   cases b with
   | false =>
    rw [if_neg Î]
    rw [if_neg Î] at q7
    obtain⟨m',hm',w7⟩:=hN _ _ q7
    obtain⟨t7,f7⟩:=keepT (fun p hp=>ß _ hp) I7
    exact⟨m',hm',i+1,ys,us,n,H7,uo hk I hf clH I7.lE,hv,hz,t7,f7,w7⟩
   | true =>
    rw [if_pos rfl]
    rw [if_pos rfl] at q7
    refine thn (he _ _ s7 σ6 H7 _ I7 q7) fun u8 s8 ⟨v8,H8,I8,r8,q8⟩=>?_
    obtain⟨m',hm',w8⟩:=hN _ _ q8
    obtain⟨t8,f8⟩:=keepT (fun p hp=>ß _ hp) I8
    obtain⟨hD8,nD8,lD8,fD8,_⟩:=I8.pin (s.heap.objs.size,{ cls:=.type "list",data:=.seq us.toArray n }) (ß _ (í _ (Í.mpr rfl)))
    refine append_at (hsz:=by rw [Ò,← hv.length]; exact Nat.le_of_lt hlt) hD8 fun h9 hs9 hD9=>?_
    have J8:Inv (X.bI own M scope ⟨cellsFrom (s.heap.objs.size+2) scope.names (cI X.env.cells scope.names []),s.heap.objs.size+1,s,H,fp⟩) (jd fp s5.heap) σ6 H8 s8:=I8.qL fun p hp=>I8.pin p (ß _ (ß _ hp))
    have J9:Inv (X.bI own M scope ⟨cellsFrom (s.heap.objs.size+2) scope.names (cI X.env.cells scope.names []),s.heap.objs.size+1,s,H,fp⟩) (jd fp s5.heap) σ6 H8 { s8 with heap:=h9 }:=J8.turned (t':=s8.toks) (it:=s.heap.objs.size) (fun b o hb e=>(hs9.2 b hb).trans e) nD8 lD8 (.inr (Ö _))
     (fun x c e z=>by
      obtain⟨v,o,ho,hd⟩:=J8.cell x c e
      rw [z,hD8] at ho
      cases ho
      cases hd)
     (fun p hp=>by
      have hp':p∈jd fp s5.heap:=by simpa using hp
      exact neD _ (u9 hp').1)
    obtain⟨t9,f9⟩:=keepT (fun p hp=>hp) J9
    have e9:h9.get? s.heap.objs.size=some { cls:=.type "list",data:=.seq (us++[u8]).toArray (n+1) }:=by
     rw [hD9,List.push_toArray]
    have J9':Inv (X.bI own M scope ⟨cellsFrom (s.heap.objs.size+2) scope.names (cI X.env.cells scope.names []),s.heap.objs.size+1,s,H,fp⟩) [(s.heap.objs.size,{ cls:=.type "list",data:=.seq (us++[u8]).toArray (n+1) })] σ6 H8 { s8 with heap:=h9 }:=J9.qL fun p hp=>by
     have hp':p=(s.heap.objs.size,{ cls:=.type "list",data:=.seq (us++[u8]).toArray (n+1) }):=by simpa using hp
     subst hp'
     exact⟨e9,nD8,lD8,fD8,fun v z=>nomatch z⟩
    exact⟨m',hm',i+1,ys++[v8],us++[u8],n+1,H8,uo hk I hf clH J9',hv.append (.cons r8 .nil),by rw [Ô,Ğ]; exact hlt,t9,f9,w8⟩
 exact codeAny_compStart_list (loop _ rfl) (T.self _ 0 _ _ _ st₁ (loop _ rfl))
theorem vL {pins:List (Addr×Obj)}{σ:St}{H:Hp}{s:Shared} (hk:bw X.env scope X.N M=true) (I:Inv X pins σ H s):closureFor scope X.env=pure (cI X.env.cells scope.names []) :=
 DP fun x hx hf=>I.ok.has x.1 ((bN hk x hx).2.2 hf).2
theorem vK {pins:List (Addr×Obj)}{σ:St}{H:Hp}{s s':Shared}{C:Addr}{h':Heap}{m:Str->Option Value} (I:Inv X pins σ H s') (hs:X.s₀.heap.objs.size<=C) (hC:C≠X.env.locals) (hcl:∀ x c,X.env.cells.lookup x=some c->c≠C) (hp:∀ p∈X.pn++pins,p.1≠C) (hn:H C=none)
  (hb:Heap.SameBut C s'.heap h'):Inv X pins σ H { s' with heap:=h' }:=I.turned (t':=s'.toks) (fun b o hb' e=>(hb.2 b hb').trans e) hn hC (.inr hs) hcl hp
theorem Rw (own M:List Str) (hc:X.calm=true) (hi:PI X tg iter wi) (hg:∀ c,PG (X.bI own M scope c) tg (g c)) (ht:∀ c,PTs (X.bI own M scope c) ifs (tt c)) (he:∀ c,PE (X.bI own M scope c) elt (te c))
  (hk:bw X.env scope X.N M=true:=by rfl) (hs:∀ x,foldedSetIterable iter X.env x=pure x:=by intro _; rfl) :
  PE X (.ListComp elt [⟨tg,iter,ifs,0⟩] scope pos) (tLC own.length wi g tt te):=by
 intro pins s σ H Q I h
 rw [eval_ListComp]
 have hka:=bN hk
 refine wpAny_comprehension_free (use:=none) rfl hs (vL hk I) (dW hk) (fun x hx hl=>((hka x hx).1 hl).2) (thn (hi pins s σ H _ I h) fun v s1 h1=>thn h1 fun itv s2 h2=>?_)
 obtain⟨it,fp,tn,J,H2,e,I2,T,st2,f2,W,⟨m0,w0⟩,turn⟩:=h2
 subst e
 refine vJ (RR:=fun acc C=>compPost (model X.prog X.w) X.A X.xe none (EP X pins σ Q) acc C) (D:=fun ys H=>∀ p,H p=none->Q (.ref p) (upd H p (.lst ys))) (fun _=>hc) hk hg ht he I2 T st2 f2 w0 turn ?_
 intro s' m' ys H' hns hCn hDn J' d
 have lt2:∀ {b:Addr}{o:Obj},s2.heap.get? b=some o->b≠s2.heap.objs.size+1:=fun e=>à (ď (Ê e))
 refine⟨m',hns,fun h' hb=>⟨.ref s2.heap.objs.size,_,vK (m:=m') (s:=s2) J' (Ą I2.sz (Ņ _)) (Ć (à (ď I2.lt))) (fun x c e=>?_) (fun p hp=>?_) ?_ hb,rfl,d _ hDn⟩⟩
 ·obtain⟨v,o,ho,_⟩:=I2.cell x c e
  exact lt2 ho
 ·exact lt2 (I2.pin p hp).1
 ·rw [aj (Ī (Ŝ _))]
  exact hCn
theorem M7 {Cm:Cx->Prop} (own M:List Str) {i:Nat}{y:Str}{py spos:Pos} (hc:∀ c,Cm (X.bI own M scope c)) (hN:X.N.Nodup) (hiN:X.N[i]?=some y) (hx:Loc X.env.scope y) (hi:PIG Cm X tg iter wi) (hg:∀ c,PG (X.bI own M scope c) tg (g c)) (ht:∀ c,PTs (X.bI own M scope c) ifs (tt c)) (he:∀ c,PE (X.bI own M scope c) elt (te c))
  (hsw:swapsWith (.ListComp elt [⟨tg,iter,ifs,0⟩] scope pos) (some (.Name y py)) spos.line X.env=pure true:=by rfl)
  (hk:bw X.env scope X.N M=true:=by rfl) (hs:∀ x,foldedSetIterable iter X.env x=pure x:=by intro _; rfl) (hf:X.fn y=true\/X.env.scope.names.lookup y=some .local:=by first | exact .inl rfl | exact .inr rfl | assumption) :
  PS X (.Assign [.Name y py] (.ListComp elt [⟨tg,iter,ifs,0⟩] scope pos) spos) (uF (tLC own.length wi g tt te) (ju i)):=by
 intro pins s σ H D I h
 rw [exec_Assign_Name_used _ _ _ _ hsw]
 have hka:=bN hk
 refine Â (wpAny_standAt (Â ?_))
 show wpAny _ X.A (do let _ ← comprehension (.ListComp elt [⟨tg,iter,ifs,0⟩] scope pos) scope X.env _ (newList []) false (eval iter X.env) (some (assign (.Name y py) X.env))) _ _ s
 refine Â (Ĳ (wpAny_comprehension_free (use:=some (assign (.Name y py) X.env)) (Q:=fun _ s'=>SP X pins D .next s') rfl hs (vL hk I) (dW hk) (fun x hx hl=>((hka x hx).1 hl).2)
  (thn (hi pins s σ H _ I h) fun v s1 h1=>thn h1 fun itv s2 h2=>?_)) (fun _ s' hq=>Ë (Ë hq)) fun _ _ e=>e)
 obtain⟨it,fp,tn,J,H2,e,I2,T,st2,f2,W,⟨m0,w0⟩,turn⟩:=h2
 subst e
 refine vJ (RR:=fun acc C=>compPost (model X.prog X.w) X.A X.xe (some (assign (.Name y py) X.env)) (fun _ s'=>SP X pins D .next s') acc C) (D:=fun ys H=>∀ p,H p=none->ju i (.ref p) σ (upd H p (.lst ys)) D.nx) hc hk hg ht he I2 T st2 f2 w0 turn ?_
 intro s' m' ys H' hns hCn hDn J' d
 have lt2:∀ {b:Addr}{o:Obj},s2.heap.get? b=some o->b≠s2.heap.objs.size+1:=fun e=>à (ď (Ê e))
 show wpAny _ X.A (assign (.Name y py) X.env (.ref s2.heap.objs.size)) _ _ _
 refine wpAny_assign_Name (uT (v:=.ref s2.heap.objs.size) J' (fun j h=>tE hN h hiN) hiN hx rfl (fun s'' J'' ⟨a,hsb,ha⟩=>?_) hf)
 have hLne:X.env.locals≠s2.heap.objs.size+1:=à (ď I2.lt)
 have hCa:s2.heap.objs.size+1≠a:=by
  rcases ha with ha | ha
  ·rw [ha]; exact Ć hLne
  ·obtain⟨v,o,ho,_⟩:=I2.cell _ _ ha
   exact Ć (lt2 ho)
 refine⟨m',hns.sameBut hsb hCa,fun h' hb=>⟨_,_,vK (m:=m') (s:=s2) J'' (Ą I2.sz (Ņ _)) (Ć hLne) (fun x c e=>?_) (fun p hp=>?_) ?_ hb,d _ hDn⟩⟩
 ·obtain⟨v,o,ho,_⟩:=I2.cell x c e
  exact lt2 ho
 ·exact lt2 (I2.pin p hp).1
 ·rw [aj (Ī (Ŝ _))]
  exact hCn
theorem Rg (own M:List Str) {i:Nat}{y:Str}{py spos:Pos} (hc:X.calm=true) (hN:X.N.Nodup) (hiN:X.N[i]?=some y) (hx:Loc X.env.scope y) (hi:PI X tg iter wi) (hg:∀ c,PG (X.bI own M scope c) tg (g c)) (ht:∀ c,PTs (X.bI own M scope c) ifs (tt c)) (he:∀ c,PE (X.bI own M scope c) elt (te c))
  (hsw:swapsWith (.ListComp elt [⟨tg,iter,ifs,0⟩] scope pos) (some (.Name y py)) spos.line X.env=pure true:=by rfl)
  (hk:bw X.env scope X.N M=true:=by rfl) (hs:∀ x,foldedSetIterable iter X.env x=pure x:=by intro _; rfl) (hf:X.fn y=true\/X.env.scope.names.lookup y=some .local:=by first | exact .inl rfl | exact .inr rfl | assumption) :
  PS X (.Assign [.Name y py] (.ListComp elt [⟨tg,iter,ifs,0⟩] scope pos) spos) (uF (tLC own.length wi g tt te) (ju i)):=M7 own M (fun _=>hc) hN hiN hx hi hg ht he hsw hk hs hf
theorem Uz (own:List Str) (hc:X.calm=true) (hi:PI X tg iter wi) (hg:∀ c,PG (X.comp own scope c) tg (g c)) (ht:∀ c,PTs (X.comp own scope c) ifs (tt c)) (he:∀ c,PE (X.comp own scope c) elt (te c))
  (hk:eY X.env scope X.N=true:=by rfl) (hs:∀ x,foldedSetIterable iter X.env x=pure x:=by intro _; rfl) :
  PE X (.ListComp elt [⟨tg,iter,ifs,0⟩] scope pos) (tLC own.length wi g tt te):=Rw own X.N hc hi hg ht he (Ax hk) hs
theorem Qc (own:List Str) {i:Nat}{y:Str}{py spos:Pos} (hc:X.calm=true) (hN:X.N.Nodup) (hiN:X.N[i]?=some y) (hx:Loc X.env.scope y) (hi:PI X tg iter wi) (hg:∀ c,PG (X.comp own scope c) tg (g c)) (ht:∀ c,PTs (X.comp own scope c) ifs (tt c)) (he:∀ c,PE (X.comp own scope c) elt (te c))
  (hsw:swapsWith (.ListComp elt [⟨tg,iter,ifs,0⟩] scope pos) (some (.Name y py)) spos.line X.env=pure true:=by rfl)
  (hk:eY X.env scope X.N=true:=by rfl) (hs:∀ x,foldedSetIterable iter X.env x=pure x:=by intro _; rfl) (hf:X.fn y=true\/X.env.scope.names.lookup y=some .local:=by first | exact .inl rfl | exact .inr rfl | assumption) :
  PS X (.Assign [.Name y py] (.ListComp elt [⟨tg,iter,ifs,0⟩] scope pos) spos) (uF (tLC own.length wi g tt te) (ju i)):=Rg own X.N hc hN hiN hx hi hg ht he hsw (Ax hk) hs hf
end
section
variable {X:Cx}{tg:Expr}{K:Ü}{g:CB->TG}{tt:CB->TT}{te:CB->TE}{σ:St}{H:Hp}{Q:VK}{n:Nat}
def Wa (K:Ü) (tl:TE):TI:=fun σ H R=>tl σ H fun x H1=>∃ a,x=.ref a/\(((∃ xs,SqL K H1 a xs)/\R (Itl K a) H1)\/((∃ xs,SqT K H1 a xs)/\R (Itt K a) H1))
theorem Rk {l:Expr}{tl:TE} (hl:PE X l tl):PI X tg l (Wa X.K tl):=by
 intro pins s σ H R I h
 refine thn (hl pins s σ H _ I h) fun v s1 ⟨x,H1,I1,r1,q1⟩=>?_
 obtain⟨a,e,q1⟩:=q1
 subst e
 cases r1
 rcases q1 with ⟨⟨xs,hq⟩,q⟩ | ⟨⟨xs,hq⟩,q⟩
 ·obtain⟨its,rv,p,hz⟩:=I1.list hq
  refine wpAny_pyIter_list p.isList ?_
  refine⟨s1.heap.objs.size,[s1.heap.objs.size],_,_,H1,rfl,I1.kept (t':=s1.toks) fun b o e=>Ì _ e,Gk a _,⟨_,Û _ rfl,rfl,rfl⟩,fun b hb=>?_,q⟩
  have e:b=s1.heap.objs.size:=by simpa using hb
  subst e
  exact I1.Af (Ö _) (I1.hok.fresh (Ö _))
 ·obtain⟨its,rv,p,hz⟩:=I1.tuple hq
  refine ũ (show s1.heap.IsTuple a its.toArray from p) ?_
  refine⟨s1.heap.objs.size,[s1.heap.objs.size],_,_,H1,rfl,I1.kept (t':=s1.toks) fun b o e=>Ì _ e,Bm a _,⟨_,Û _ rfl,rfl,rfl⟩,fun b hb=>?_,q⟩
  have e:b=s1.heap.objs.size:=by simpa using hb
  subst e
  exact I1.Af (Ö _) (I1.hok.fresh (Ö _))
end
end L2
namespace NfSort
open PySem PySem.W PyProof.Rows
def kwp {α:Type} (n:Nat) (key:Nat->Int):KasT α->(α->Prop)->Prop
 | .ret a,Q=>Q a
 | .ask i j k,Q=>i<n/\j<n/\kwp n key (k (decide (key i<key j))) Q
theorem bZ {α:Type}{n:Nat}{key:Nat->Int}{Q Q':α->Prop} (h:∀ a,Q a->Q' a):∀ {t:KasT α},kwp n key t Q->kwp n key t Q'
 | .ret a,q=>h a q
 | .ask _ _ k,q=>⟨q.1,q.2.1,bZ h q.2.2⟩
theorem gw {α β:Type}{n:Nat}{key:Nat->Int}{f:α->KasT β}{Q:β->Prop}:∀ {t:KasT α},kwp n key t (fun a=>kwp n key (f a) Q)->kwp n key (t.bind f) Q
 | .ret a,q=>q
 | .ask _ _ k,q=>⟨q.1,q.2.1,gw q.2.2⟩
theorem Fq {α:Type}{n:Nat}{key:Nat->Int}{cmp:Nat->Nat->(Bool->Shared->Prop)->Shared->Prop}{s:Shared}{G:α->Shared->Prop} (hc:∀ i j C,i<n->j<n->C (decide (key i<key j)) s->cmp i j C s) :
  ∀ {t:KasT α},kwp n key t (fun a=>G a s)->t.kasWp cmp G s
 | .ret _,q=>q
 | .ask i j k,q=>hc i j _ q.1 q.2.1 (Fq hc q.2.2)
section
variable {n:Nat}{key:Nat->Int}{p:Array Nat}
def Pm (n:Nat) (p:Array Nat):Prop:=p.Perm (ã n).toArray
def kk (key:Nat->Int) (p:Array Nat) (i:Nat):Int:=key (p.getD i 0)
theorem Pm.size (h:Pm n p):p.size=n:=by
 have:=Array.Perm.size_eq h
 simpa using this
theorem getD_eq (p:Array Nat) (i:Nat):p.getD i 0=(p[i]?).getD 0:=by
 by_cases h:i<p.size <;> simp [Array.getD,h]
theorem Pm.lt (h:Pm n p) {i:Nat} (hi:i<n):p.getD i 0<n:=by
 have hs:=h.size
 have hi':i<p.size:=by omega
 have hm:p[i]∈p.toList:=by
  have:=Array.getElem_mem hi'
  simpa using this
 have hp:p.toList.Perm (ã n):=by
  have:=Array.perm_iff_toList_perm.mp h
  simpa using this
 have e:p.getD i 0=p[i]:=by simp [Array.getD,hi']
 rw [e]
 exact ģ.mp (hp.mem_iff.mp hm)
theorem Pm.rev (h:Pm n p) (i j:Nat):Pm n (kas_rev p i j):=Array.Perm.trans (mirror_perm _ _ _ _) h
theorem Pm.bub (h:Pm n p) (i j:Nat):Pm n (bubble p i j):=Array.Perm.trans (bubble_perm _ _ _) h
theorem xM (h:Pm n p) {i j:Nat} (hj:j<=n) (t:Nat):kk key (kas_rev p i j) t=if i<=t/\t<j then kk key p (i+j - 1 - t) else kk key p t:=by
 unfold kk kas_rev
 rw [getD_eq,getElem?_mirror_all (by rw [h.size]; exact hj)]
 split
 ·rw [getD_eq]
 ·rw [getD_eq]
theorem Sd (h:Pm n p) {k l:Nat} (hk:k<n) (hl:l<=k) (t:Nat):kk key (bubble p k (k - l)) t=if t=l then kk key p k else if l<t/\t<=k then kk key p (t - 1) else kk key p t:=by
 unfold kk
 rw [getD_eq,getElem?_bubble (by rw [h.size]; exact hk) _ (by omega)]
 have e:k - (k - l)=l:=by omega
 rw [e]
 split
 ·rw [getD_eq]
 ·split
  ·rw [getD_eq]
  ·rw [getD_eq]
def Up (key:Nat->Int) (p:Array Nat) (m:Nat):Prop:=∀ i j,i<=j->j<m->kk key p i<=kk key p j
def Dn (key:Nat->Int) (p:Array Nat) (m:Nat):Prop:=∀ i j,i<=j->j<m->kk key p j<=kk key p i
def Rn (key:Nat->Int) (p:Array Nat) (m q:Nat):Prop:=q+1<=m/\∀ t,m<=t+q+1->t<m->kk key p t=kk key p (m - 1)
theorem Up.more {a:Nat} (h:Up key p a) (h1:1<=a) (hx:kk key p (a - 1)<=kk key p a):Up key p (a+1):=fun i j hij hj=>by
 by_cases hja:j<a
 ·exact h i j hij hja
 ·obtain rfl:j=a:=by omega
  by_cases hi:i=j
  ·subst hi; exact Ļ _
  ·exact Int.le_trans (h i (j - 1) (by omega) (by omega)) hx
theorem Dn.more {a:Nat} (h:Dn key p a) (h1:1<=a) (hx:kk key p a<=kk key p (a - 1)):Dn key p (a+1):=fun i j hij hj=>by
 by_cases hja:j<a
 ·exact h i j hij hja
 ·obtain rfl:j=a:=by omega
  by_cases hi:i=j
  ·subst hi; exact Ļ _
  ·exact Int.le_trans hx (h i (j - 1) (by omega) (by omega))
theorem DX (hp:Pm n p):∀ (f a:Nat),1<=a->a+f<=n->Up key p a->kwp n key (kas_asc p f a) (fun m=>a<=m/\m<=a+f/\Up key p m/\(m<a+f->kk key p m<kk key p (m - 1)))
 | 0,a,h1,hf,hu=>⟨Ö _,Ö _,hu,fun h=>absurd h (by omega)⟩
 | f+1,a,h1,hf,hu=>by
  refine⟨hp.lt (by omega),hp.lt (by omega),?_⟩
  by_cases hc:key (p.getD a 0)<key (p.getD (a - 1) 0)
  ·(rw [decide_eq_true hc]; dsimp only; rw [if_pos rfl])
   exact⟨Ö _,by omega,hu,fun _=>hc⟩
  ·(rw [decide_eq_false hc]; dsimp only; rw [if_neg Î])
   refine bZ (fun m ⟨a1,a2,a3,a4⟩=>⟨by omega,by omega,a3,fun h=>a4 (by omega)⟩) (DX hp f (a+1) (by omega) (by omega) (hu.more h1 (Int.not_lt.mp hc)))
theorem Es (hp:Pm n p) {a q:Nat} (ha:a<=n) (hr:Rn key p a q) (t:Nat):kk key (kas_rev p (a - (q+1)) a) t=kk key p t:=by
 rw [xM hp ha]
 split
 ·rename_i h
  rw [hr.2 t (by omega) h.2]
  exact hr.2 _ (by have:=hr.1; omega) (by omega)
 ·rfl
theorem Dn.eq {p':Array Nat}{m:Nat} (h:Dn key p m) (e:∀ t,kk key p' t=kk key p t):Dn key p' m:=fun i j a b=>by rw [e,e]; exact h i j a b
theorem FW:∀ (f:Nat) (p:Array Nat) (a q:Nat),Pm n p->1<=a->a+f<=n->Dn key p a->Rn key p a q ->
  kwp n key (kas_desc f p a q) (fun r=>Pm n r.1/\a<=r.2.1/\r.2.1<=a+f/\Dn key r.1 r.2.1/\Rn key r.1 r.2.1 r.2.2)
 | 0,p,a,q,hp,h1,hf,hd,hr=>⟨hp,Ö _,Ö _,hd,hr⟩
 | f+1,p,a,q,hp,h1,hf,hd,hr=>by
  refine⟨hp.lt (by omega),hp.lt (by omega),?_⟩
  have fin:∀ {p':Array Nat}{q':Nat},Pm n p'->Dn key p' (a+1)->Rn key p' (a+1) q'->kwp n key (kas_desc f p' (a+1) q') (fun r=>Pm n r.1/\a<=r.2.1/\r.2.1<=a+(f+1)/\Dn key r.1 r.2.1/\Rn key r.1 r.2.1 r.2.2):=fun x y z =>
   bZ (fun r ⟨a1,a2,a3,a4,a5⟩=>⟨a1,by omega,by omega,a4,a5⟩) (FW f _ (a+1) _ x (by omega) (by omega) y z)
  have rn0:∀ p':Array Nat,Rn key p' (a+1) 0:=fun p'=>⟨by omega,fun t h1 h2=>by
   have e:t=a+1 - 1:=by omega
   rw [e]⟩
  by_cases hc:key (p.getD a 0)<key (p.getD (a - 1) 0)
  ·(rw [decide_eq_true hc]; dsimp only; rw [if_pos rfl])
   have hc':kk key p a<kk key p (a - 1):=hc
   by_cases hq:q > 0
   ·rw [if_pos hq]
    have e:=Es (key:=key) hp (by omega) hr
    exact fin (hp.rev _ _) ((hd.more h1 (Int.le_of_lt hc')).eq e) (rn0 _)
   ·rw [if_neg hq]
    exact fin hp (hd.more h1 (Int.le_of_lt hc')) (rn0 _)
  ·(rw [decide_eq_false hc]; dsimp only; rw [if_neg Î])
   refine⟨hp.lt (by omega),hp.lt (by omega),?_⟩
   by_cases hc2:key (p.getD (a - 1) 0)<key (p.getD a 0)
   ·(rw [decide_eq_true hc2]; dsimp only; rw [if_pos rfl])
    exact⟨hp,Ö _,(by show a<=a+(f+1); omega),hd,hr⟩
   ·(rw [decide_eq_false hc2]; dsimp only; rw [if_neg Î])
    have e:kk key p a=kk key p (a - 1):=Int.le_antisymm (Int.not_lt.mp hc2) (Int.not_lt.mp hc)
    refine fin hp (hd.more h1 (Int.le_of_eq e)) ⟨by have:=hr.1; omega,fun t t1 t2=>?_⟩
    show _=kk key p a
    by_cases ht:t=a
    ·rw [ht]
    ·rw [e]
     exact hr.2 t (by omega) (by omega)
theorem yK {a:Nat} (hp:Pm n p) (h1:1<=a) (ha:a<=n) (hd:Dn key p a):kwp n key (kas_tail3 a n p) (fun r=>Pm n r.2/\1<=r.1/\r.1<=n/\Up key r.2 r.1):=by
 unfold kas_tail3
 have hu:Up key (kas_rev p 0 a) a:=fun i j hij hj=>by
  rw [xM hp ha,xM hp ha,if_pos ⟨by omega,by omega⟩,if_pos ⟨by omega,hj⟩]
  exact hd _ _ (by omega) (by omega)
 refine gw (bZ (fun m ⟨a1,a2,a3,_⟩=>?_) (DX (hp.rev 0 a) (n - a) a h1 (by omega) hu))
 exact⟨hp.rev 0 a,by omega,by omega,a3⟩
theorem p7 {a:Nat} (hp:Pm n p) (ha:a+1<=n) (hd:Dn key p (a+1)):kwp n key (kas_descPart a n p) (fun r=>Pm n r.2/\1<=r.1/\r.1<=n/\Up key r.2 r.1):=by
 unfold kas_descPart
 refine gw (bZ (fun r ⟨a1,a2,a3,a4,a5⟩=>?_) (FW (n - (a+1)) p (a+1) 0 hp (by omega) (by omega) hd ⟨by omega,fun t h1 h2=>by
  have e:t=a+1 - 1:=by omega
  rw [e]⟩))
 split
 ·exact yK (a1.rev _ _) (by omega) (by omega) (a4.eq (Es a1 (by omega) a5))
 ·exact yK a1 (by omega) (by omega) a4
theorem Lx (hp:Pm n p) (h1:1<=n):kwp n key (kas_count n p) (fun r=>Pm n r.2/\1<=r.1/\r.1<=n/\Up key r.2 r.1):=by
 unfold kas_count
 have u1:Up key p 1:=fun i j hij hj=>by
  have e:i=j:=by omega
  rw [e]; exact Ļ _
 refine gw (bZ (fun m ⟨a1,a2,a3,a4⟩=>?_) (DX hp (n - 1) 1 (Ö _) (by omega) u1))
 by_cases hm:m=n
 ·rw [if_pos (by simpa using hm)]
  exact⟨hp,by omega,by omega,a3⟩
 ·rw [if_neg (by simpa using hm)]
  have hlt:=a4 (by omega)
  by_cases hm1:m > 1
  ·rw [if_pos hm1]
   refine⟨hp.lt (by omega),hp.lt (by omega),?_⟩
   by_cases hc:key (p.getD 0 0)<key (p.getD (m - 1) 0)
   ·(rw [decide_eq_true hc]; dsimp only; rw [if_pos rfl])
    exact⟨hp,by omega,by omega,a3⟩
   ·(rw [decide_eq_false hc]; dsimp only; rw [if_neg Î])
    have hall:∀ t,t<m->kk key p t=kk key p 0:=fun t ht=>by
     have e1:=a3 0 t (by omega) ht
     have e2:=a3 t (m - 1) (by omega) (by omega)
     have e3:kk key p (m - 1)<=kk key p 0:=Int.not_lt.mp hc
     omega
    have e:∀ t,kk key (kas_rev p 0 m) t=kk key p t:=fun t=>by
     rw [xM hp (by omega)]
     split
     ·rename_i h
      rw [hall t h.2,hall _ (by omega)]
     ·rfl
    refine p7 (hp.rev 0 m) (by omega) (Dn.eq (p:=p) (Dn.more (fun i j hij hj=>?_) (by omega) (Int.le_of_lt hlt)) e)
    rw [hall i (by omega),hall j hj]
    exact Ļ _
  ·rw [if_neg hm1]
   obtain rfl:m=1:=by omega
   refine p7 hp (by omega) (Dn.more (fun i j hij hj=>?_) (by omega) (Int.le_of_lt hlt))
   have e:i=j:=by omega
   rw [e]; exact Ļ _
theorem rY {k:Nat} (hp:Pm n p) (hk:k<n) (hu:Up key p k):∀ (f l r:Nat),l<=r->r<=k->r<=l+f->(∀ t,t<l->kk key p t<=kk key p k)->(∀ t,r<=t->t<k->kk key p k<kk key p t) ->
  kwp n key (kas_place p k f l r) (fun l'=>l'<=k/\(∀ t,t<l'->kk key p t<=kk key p k)/\(∀ t,l'<=t->t<k->kk key p k<kk key p t))
 | 0,l,r,h1,h2,h3,h4,h5=>⟨by omega,h4,fun t a b=>h5 t (by omega) b⟩
 | f+1,l,r,h1,h2,h3,h4,h5=>by
  unfold kas_place
  by_cases hlr:l ≥ r
  ·rw [if_pos hlr]
   exact⟨by omega,h4,fun t a b=>h5 t (by omega) b⟩
  ·rw [if_neg hlr]
   have hm:(l+r) / 2<r:=by omega
   refine⟨hp.lt hk,hp.lt (by omega),?_⟩
   by_cases hc:key (p.getD k 0)<key (p.getD ((l+r) / 2) 0)
   ·(rw [decide_eq_true hc]; dsimp only; rw [if_pos rfl])
    have hc':kk key p k<kk key p ((l+r) / 2):=hc
    exact rY hp hk hu f l _ (by omega) (by omega) (by omega) h4 fun t a b=>Int.lt_of_lt_of_le hc' (hu _ t a b)
   ·(rw [decide_eq_false hc]; dsimp only; rw [if_neg Î])
    have hc':kk key p ((l+r) / 2)<=kk key p k:=Int.not_lt.mp hc
    exact rY hp hk hu f _ r (by omega) (by omega) (by omega) (fun t a=>Int.le_trans (hu t _ (by omega) (by omega)) hc') h5
theorem LQ:∀ (f:Nat) (p:Array Nat) (k:Nat),Pm n p->k+f<=n->Up key p k->kwp n key (kas_bin f p k) (fun p'=>Pm n p'/\Up key p' (k+f))
 | 0,p,k,hp,hk,hu=>⟨hp,hu⟩
 | f+1,p,k,hp,hk,hu=>by
  unfold kas_bin
  refine gw (bZ (fun l ⟨a1,a2,a3⟩=>?_) (rY hp (by omega) hu k 0 k (Ě _) (Ö _) (by omega) (fun t h=>absurd h (by omega)) (fun t h1 h2=>absurd h1 (by omega))))
  have e:=Sd (key:=key) hp (k:=k) (by omega) a1
  have hu':Up key (bubble p k (k - l)) (k+1):=fun i j hij hj=>by
   rw [e,e]
   by_cases hi:i=l
   ·rw [if_pos hi]
    by_cases hj':j=l
    ·rw [if_pos hj']; exact Ļ _
    ·rw [if_neg hj',if_pos ⟨by omega,by omega⟩]
     exact Int.le_of_lt (a3 _ (by omega) (by omega))
   ·rw [if_neg hi]
    by_cases hi2:l<i/\i<=k
    ·rw [if_pos hi2,if_neg (by omega),if_pos ⟨by omega,by omega⟩]
     exact hu _ _ (by omega) (by omega)
    ·rw [if_neg hi2]
     by_cases hj':j=l
     ·rw [if_pos hj']
      exact a2 i (by omega)
     ·rw [if_neg hj']
      by_cases hj2:l<j/\j<=k
      ·rw [if_pos hj2]
       exact hu _ _ (by omega) (by omega)
      ·rw [if_neg hj2]
       exact hu _ _ hij (by omega)
  refine bZ (fun p' ⟨b1,b2⟩=>⟨b1,?_⟩) (LQ f _ (k+1) (hp.bub _ _) (by omega) hu')
  have e2:k+(f+1)=k+1+f:=by omega
  rw [e2]; exact b2
theorem Mx (h1:1<=n):kwp n key (kas_sort n) (fun p=>Pm n p/\Up key p n):=by
 unfold kas_sort
 refine gw (bZ (fun r ⟨a1,a2,a3,a4⟩=>?_) (Lx (p:=(ã n).toArray) (Array.Perm.refl _) h1))
 have e:max r.1 1=r.1:=by omega
 rw [e]
 split
 ·refine bZ (fun p' ⟨b1,b2⟩=>⟨b1,?_⟩) (LQ (n - r.1) r.2 r.1 a1 (by omega) a4)
  have e2:r.1+(n - r.1)=n:=by omega
  rw [e2] at b2; exact b2
 ·have e2:r.1=n:=by omega
  rw [e2] at a4
  exact⟨a1,a4⟩
end
end NfSort
namespace L2
open PySem PySem.Spec PyProof.Rows
section
variable {prog:Program}{w:World}{A:Around}{E:Value->Shared->Prop}{s:Shared}
end
section
variable {X:Cx}{pos:Pos}
def Wf (K:Ü) (n:Nat) (t:TGs):TG:=fun v σ H Q=>∃ a xs,v=.ref a/\SqL K H a xs/\xs.length=n/\t xs σ H Q
end
section
variable {X:Cx}
theorem yw:bA X (.builtin "isinstance") (fun xs H Q=>∃ x c t b,xs=[x,.ty c]/\TyOf X.K H x t/\W.kitOne X.K t (.type c)=some b/\Q (.bl b) H):=by
 intro pins s σ H xs us Q I r h
 obtain⟨x,c,t,b,rfl,ty,e,q⟩:=h
 obtain⟨u,u2,rfl,rx,rc⟩:=vals2 r
 cases rc
 exact Hg I rx ty e fun tk=>⟨.bl b,H,I.tok _,rfl,q⟩
theorem zm:OpR X (compareOp .IsNot) (fun x y H Q=>∃ a b,x=.bl a/\y=.bl b/\Q (.bl (!decide (a=b))) H):=by
 intro pins s σ H x y v u Q I rx ry h
 obtain⟨a,b,rfl,rfl,q⟩:=h
 cases rx
 cases ry
 refine Ë ?_
 refine⟨.bl (!decide (a=b)),H,I,?_,q⟩
 cases a <;> cases b <;> rfl
theorem vZ:∀ {bs:List Bool}{us:List Value},Vals (bs.map V.bl) us->us=bs.map Ų
 | [],_,h=>by cases h; rfl
 | b::bs,_,h=>by
  cases h with
  | cons r t =>
   cases r
   rw [vZ t]
   rfl
theorem all_range (bs:List Bool):(ã bs.length).all (fun i=>bs.getD i true)=bs.all id:=by
 rw [ĺ]
 simp only [Ŀ,ģ]
 constructor
 ·intro h x hx
  obtain⟨i,hi,e⟩:=List.mem_iff_getElem.mp hx
  have q:=h i hi
  simp [hi] at q
  rw [← e]; exact q
 ·intro h i hi
  have q:=h bs[i] (ŏ hi)
  simpa [hi] using q
theorem HN (hc:X.calm=true):bA X (.builtin "all") (fun xs H Q=>∃ (p:Addr) (bs:List Bool),xs=[.ref p]/\SqL X.K H p (bs.map V.bl)/\Q (.bl (bs.all id)) H):=by
 intro pins s σ H xs us Q I r h
 obtain⟨p,bs,rfl,hp,q⟩:=h
 obtain⟨u,rfl,rx⟩:=vals1 r
 cases rx
 obtain⟨its,rv,pl,hz⟩:=I.list hp
 have e:=vZ rv
 subst e
 have hlt:p≠s.heap.objs.size:=by obtain⟨o,ho,_⟩:=pl.isList; exact à (Ê ho)
 refine call_all_walk (wpAny_pyIter_list pl.isList ?_)
 refine⟨_,_,_,_,_,_,fun i=>bs.getD i true,rfl,Walks.list (A:=X.A.in1) (I.ok.hd hc) _ p hlt _,⟨⟨_,Û _ rfl,rfl,rfl⟩,pl.isList.push _⟩,?_,fun h' tk hk=>?_⟩
 ·intro i v s Q E hP hQ
  have hP':(bs.map Ų)[i]?=some v:=by simpa using hP
  rw [ç] at hP'
  cases hb:bs[i]? with
  | none=>rw [hb] at hP'; cases hP'
  | some b =>
   rw [hb] at hP'
   cases hP'
   refine ĭ ?_
   have e:bs.getD i true=b:=by rw [ĕ,hb]; rfl
   have hQ':Q (bs.getD i true) s:=hQ
   rw [e] at hQ'
   exact hQ'
 ·have e:(ã (bs.map Ų).toArray.size).all (fun i=>bs.getD i true)=bs.all id:=by
   rw [Ò,Ä]
   exact all_range bs
  rw [e]
  refine⟨.bl (bs.all id),H,I.kept fun b o eb=>hk b o ?_ (Ì _ eb),rfl,q⟩
  intro hm
  have:b=s.heap.objs.size:=by simpa using hm
  exact absurd (Ê eb) (by rw [this]; exact ć _)
theorem Hx (hc:X.calm=true):bA X (.builtin "min") (fun xs H Q=>∃ p a b,xs=[.ref p]/\SqT X.K H p [.int a,.int b]/\Q (.int (if b<a then b else a)) H):=by
 intro pins s σ H xs us Q I r h
 obtain⟨p,a,b,rfl,hp,q⟩:=h
 obtain⟨u,rfl,rx⟩:=vals1 r
 cases rx
 obtain⟨its,rv,pl,hz⟩:=I.tuple hp
 obtain⟨v1,v2,rfl,⟨t1,rfl⟩,⟨t2,rfl⟩⟩:=vals2 rv
 have pl':s.heap.IsTuple p (intItems #[(a,t1),(b,t2)]):=by
  have z:s.heap.IsTuple p #[Ŕ a t1,Ŕ b t2]:=pl
  simpa [intItems] using z
 have hlt:p<s.heap.objs.size:=by obtain⟨o,ho,_⟩:=pl; exact Ê ho
 refine call_min_walk (ũ pl' ?_)
 refine⟨_,[s.heap.objs.size,p],[s.heap.objs.size],_,_,_,_,rfl,Walks.tuple (A:=X.A.in1) (I.ok.hd hc) _ p (à hlt) (intItems #[(a,t1),(b,t2)]),⟨⟨_,Û _ rfl,rfl,rfl⟩,pl'.push _⟩,fun c hc=>?_,by simp [intItems],
  CmpOf.ints_lt (numAt #[(a,t1),(b,t2)]) (fun _ _=>intItems_at),fun v h' tk hP hk=>?_⟩
 ·show c<(s.heap.push _).objs.size
  rw [Ń]
  rcases Þ.mp hc with rfl | hc
  ·exact Ŝ _
  ·have:c=p:=by simpa using hc
   rw [this]; exact ď hlt
 ·have hv:v=if b<a then Ŕ b t2 else Ŕ a t1:=by
   have hP':(intItems #[(a,t1),(b,t2)])[argBest (fun i j=>decide (numAt #[(a,t1),(b,t2)] i<numAt #[(a,t1),(b,t2)] j)) 1]?=some v:=by
    have hsz2:(intItems #[(a,t1),(b,t2)]).size - 1=1:=by simp [intItems]
    rw [← hsz2]; exact hP
   by_cases hba:b<a
   ·have e:argBest (fun i j=>decide (numAt #[(a,t1),(b,t2)] i<numAt #[(a,t1),(b,t2)] j)) 1=1:=by simp [argBest,numAt,hba]
    rw [e] at hP'
    simpa [intItems,hba] using hP'.symm
   ·have e:argBest (fun i j=>decide (numAt #[(a,t1),(b,t2)] i<numAt #[(a,t1),(b,t2)] j)) 1=0:=by simp [argBest,numAt,hba]
    rw [e] at hP'
    simpa [intItems,hba] using hP'.symm
  subst hv
  refine⟨.int (if b<a then b else a),H,I.kept fun b o eb=>hk b o ?_ (Ì _ eb),?_,q⟩
  ·intro hm
   have:b=s.heap.objs.size:=by simpa using hm
   exact absurd (Ê eb) (by rw [this]; exact ć _)
  ·by_cases hba:b<a
   ·rw [if_pos hba,if_pos hba]; exact⟨_,rfl⟩
   ·rw [if_neg hba,if_neg hba]; exact⟨_,rfl⟩
theorem Hz (hc:X.calm=true):bA X (.builtin "max") (fun xs H Q=>∃ p a b,xs=[.ref p]/\SqT X.K H p [.int a,.int b]/\Q (.int (if b > a then b else a)) H):=by
 intro pins s σ H xs us Q I r h
 obtain⟨p,a,b,rfl,hp,q⟩:=h
 obtain⟨u,rfl,rx⟩:=vals1 r
 cases rx
 obtain⟨its,rv,pl,hz⟩:=I.tuple hp
 obtain⟨v1,v2,rfl,⟨t1,rfl⟩,⟨t2,rfl⟩⟩:=vals2 rv
 have pl':s.heap.IsTuple p (intItems #[(a,t1),(b,t2)]):=by
  have z:s.heap.IsTuple p #[Ŕ a t1,Ŕ b t2]:=pl
  simpa [intItems] using z
 have hlt:p<s.heap.objs.size:=by obtain⟨o,ho,_⟩:=pl; exact Ê ho
 refine call_max_walk (ũ pl' ?_)
 refine⟨_,[s.heap.objs.size,p],[s.heap.objs.size],_,_,_,_,rfl,Walks.tuple (A:=X.A.in1) (I.ok.hd hc) _ p (à hlt) (intItems #[(a,t1),(b,t2)]),⟨⟨_,Û _ rfl,rfl,rfl⟩,pl'.push _⟩,fun c hc=>?_,by simp [intItems],
  CmpOf.ints_gt (numAt #[(a,t1),(b,t2)]) (fun _ _=>intItems_at),fun v h' tk hP hk=>?_⟩
 ·show c<(s.heap.push _).objs.size
  rw [Ń]
  rcases Þ.mp hc with rfl | hc
  ·exact Ŝ _
  ·have:c=p:=by simpa using hc
   rw [this]; exact ď hlt
 ·have hv:v=if b > a then Ŕ b t2 else Ŕ a t1:=by
   have hP':(intItems #[(a,t1),(b,t2)])[argBest (fun i j=>decide (numAt #[(a,t1),(b,t2)] i > numAt #[(a,t1),(b,t2)] j)) 1]?=some v:=by
    have hsz2:(intItems #[(a,t1),(b,t2)]).size - 1=1:=by simp [intItems]
    rw [← hsz2]; exact hP
   by_cases hba:b > a
   ·have e:argBest (fun i j=>decide (numAt #[(a,t1),(b,t2)] i > numAt #[(a,t1),(b,t2)] j)) 1=1:=by simp [argBest,numAt,hba]
    rw [e] at hP'
    simpa [intItems,hba] using hP'.symm
   ·have e:argBest (fun i j=>decide (numAt #[(a,t1),(b,t2)] i > numAt #[(a,t1),(b,t2)] j)) 1=0:=by simp [argBest,numAt,hba]
    rw [e] at hP'
    simpa [intItems,hba] using hP'.symm
  subst hv
  refine⟨.int (if b > a then b else a),H,I.kept fun b o eb=>hk b o ?_ (Ì _ eb),?_,q⟩
  ·intro hm
   have:b=s.heap.objs.size:=by simpa using hm
   exact absurd (Ê eb) (by rw [this]; exact ć _)
  ·by_cases hba:b > a
   ·rw [if_pos hba,if_pos hba]; exact⟨_,rfl⟩
   ·rw [if_neg hba,if_neg hba]; exact⟨_,rfl⟩
theorem Sx {prog:Program}{w:World}{A:Around}{E:Value->Shared->Prop}{s:Shared}{l:Addr}{n:Nat}{x:Int}{t:Tok}{u:Value}{Q:Value->Shared->Prop}{its:List Value} (ho:s.heap.get? l=some { cls:=.type "list",data:=.seq its.toArray n })
  (hfit:¬ (!Builtin.List.listFitsIndex x)=true) (hsz:its.toArray.size<=sizeLine)
  (h:Q .none { s with heap:=s.heap.update l (ð fun xs=>(xs.extract 0 (if x<0 then (x+(xs.size:Int)).toNat else min x.toNat xs.size)).push u++xs.extract (if x<0 then (x+(xs.size:Int)).toNat else min x.toNat xs.size)),toks:=s.toks }) :
  wpAny (model prog w) A (call (.builtin "list.insert") [.ref l,.int x t,u]) Q E s:=by
 generalize its.toArray=ia at ho hsz
 exact call_meets PySem.F.slot_list_insert ⟨_,ho,rfl⟩ PySem.F.entry_list_insert (PySem.F.args_list_insert_3 _ _ _) (PySem.AutoSeq1.list_insert_list_int_val_1 l ia n x t u hfit hsz) ⟨ho,h⟩
def Et:V->List V->Hp->VK->Prop:=fun x vs H Q=>∃ l xs k y,x=.ref l/\vs=[.int (k:Nat),y]/\H l=some (.lst xs)/\k<=xs.length/\xs.length<sizeLine/\Q .non (upd H l (.lst (xs.take k++y::xs.drop k)))
theorem GZ:MtM X "list.insert" Et:=by
 intro pins s σ H x vs v us Q I rx rv h
 obtain⟨l,xs,k,y,rfl,rfl,hH,hk,hz,q⟩:=h
 cases rx
 obtain⟨u1,u,rfl,⟨t,rfl⟩,ru⟩:=rv.two
 obtain⟨z,its,n,r,hl,e⟩:=I.CG hH
 have h24:(sizeLine:Nat)=16777216:=ø
 have hfit:¬ (!Builtin.List.listFitsIndex (k:Int))=true:=by
  have q1:decide (-(2 ^ 63:Int)<=(k:Int))=true:=decide_eq_true (by omega)
  have q2:decide ((k:Int)<2 ^ 63)=true:=decide_eq_true (by omega)
  unfold Builtin.List.listFitsIndex
  rw [q1,q2]
  exact Î
 have hsz:its.toArray.size<=sizeLine:=by
  have e1:its.toArray.size=xs.length:=(Ò ..).trans hl.symm
  rw [e1]
  exact z
 have hx0:¬ ((k:Int)<0):=by omega
 have hxk:(k:Int).toNat=k:=ŗ k
 generalize hx:(k:Int)=x at hfit hx0 hxk
 refine Sx (its:=its) e hfit hsz ?_
 refine⟨.non,_,I.R7 (its':=its.take k++u::its.drop k) hH e ?_ ?_ ?_,rfl,q⟩
 ·have hm:min k its.length=k:=by omega
  have e2:=W.kl_ins_eq its k u
  simp only [hx0,if_false,hxk,Ò,hm]
  exact e2
 ·exact (r.take k).append (.cons ru (r.drop k))
 ·rw [Ô,ĉ,Ĕ,List.length_drop]
  omega
end
abbrev Tie:=Int×Int
def Pr (H:Hp) (v:V) (t:Tie):Prop:=∃ p,v=.ref p/\H p=some (.tup [.int t.1,.int t.2])
abbrev Prs (H:Hp):List V->List Tie->Prop:=Paired (Pr H)
def bB (t:Tie):Int:=64 * t.1+t.2
def Bj (t:Tie):Prop:=0<=t.2/\t.2<64
def jE (h:Heap) (u:Value) (t:Tie):Prop:=∃ a o t1 t2 n,u=.ref a/\h.get? a=some o/\o.cls=.type "tuple"/\o.data=.seq #[.int t.1 t1,.int t.2 t2] n
theorem jE.keep {h h':Heap}{u:Value}{t:Tie} (x:jE h u t) (k:∀ a o,h.get? a=some o->o.cls=.type "tuple"->h'.get? a=some o):jE h' u t:=by
 obtain⟨a,o,t1,t2,n,e,ho,hc,hd⟩:=x
 exact⟨a,o,t1,t2,n,e,k a o ho hc,hc,hd⟩
theorem Uw {α β:Type}{F:α->β->Prop}{l₁:List α}{l₂:List β} (h:Paired F l₁ l₂):∀ {i:Nat}{b:β},l₂[i]?=some b->∃ a,l₁[i]?=some a/\F a b:=by
 induction h with
 | nil=>intro i x e; simp at e
 | cons r t ih =>
  intro i x e
  cases i with
  | zero=>simp at e; subst e; exact⟨_,rfl,r⟩
  | succ i =>
   obtain⟨c,e1,f⟩:=ih (by simpa using e)
   exact⟨c,by simpa using e1,f⟩
theorem Ju {α β:Type}{F:α->β->Prop}{l₁:List α}{l₂:List β} (h:Paired F l₁ l₂) (da:α) (db:β):∀ (p:List Nat),(∀ i∈p,i<l₂.length)->Paired F (p.map fun i=>l₁.getD i da) (p.map fun i=>l₂.getD i db)
 | [],_=>.nil
 | i::p,hp=>by
  have hi:i<l₂.length:=hp i ä
  obtain⟨a,e,f⟩:=Uw h (i:=i) (b:=l₂[i]) (by simp [hi])
  refine .cons ?_ (Ju h da db p fun j hj=>hp j (Ù _ hj))
  have e1:l₁.getD i da=a:=by rw [ĕ,e]; rfl
  have e2:l₂.getD i db=l₂[i]:=by simp [hi]
  show F (l₁.getD i da) (l₂.getD i db)
  rw [e1,e2]
  exact f
theorem Ui {α:Type}:∀ us:List α,List.map (fun x=>x.snd) (us.zip us)=us
 | []=>rfl
 | u::us=>by rw [List.zip_cons_cons,ý,Ui us]
theorem jo {α:Type} (l:List α) (d:α):(ã l.length).map (fun i=>l.getD i d)=l:=by
 apply List.ext_getElem
 ·simp
 ·intro i h1 h2
  simp at h1 ⊢
  simp [h1]
section
variable {X:Cx}{pins:List (Addr×Obj)}{σ:St}{H:Hp}{s:Shared}
theorem Inv.pairs (I:Inv X pins σ H s):∀ {vs:List V}{ts:List Tie}{us:List Value},Prs H vs ts->Vals vs us->Paired (jE s.heap) us ts
 | _,_,_,.nil,r=>by cases r; exact .nil
 | _,_,_,.cons p q,r=>by
  cases r with
  | cons r rr =>
   refine .cons ?_ (I.pairs q rr)
   obtain⟨a,rfl,e⟩:=p
   cases r
   obtain⟨_,its,rv,⟨o,ho,hc,n,hd⟩⟩:=I.hok a _ e
   obtain⟨v1,v2,rfl,⟨t1,rfl⟩,⟨t2,rfl⟩⟩:=vals2 rv
   exact⟨a,o,t1,t2,n,rfl,ho,hc,hd⟩
end
section
variable {prog:Program}{w:World}{A:Around}{E:Value->Shared->Prop}{s:Shared}
theorem Kf {x y:Value}{a b:Tie}{Q:Bool->Shared->Prop} (hx:jE s.heap x a) (hy:jE s.heap y b) (na:Bj a) (nb:Bj b) (h:Q (decide (bB a<bB b)) s):wpAny (model prog w) A (keyLt' (tuples' true) x y) Q E s:=by
 obtain⟨p,o,t1,t2,n,rfl,ho,hc,hd⟩:=hx
 obtain⟨p',o',t1',t2',n',rfl,ho',hc',hd'⟩:=hy
 obtain⟨a1,a2⟩:=a
 obtain⟨b1,b2⟩:=b
 unfold Bj at na nb
 simp only at na nb
 refine W.kat_lt ho hd ho' hd' ?_
 refine W.kat_cons (wpAny_eqBool_int ?_)
 by_cases e1:a1=b1
 ·subst e1
  rw [beq_self_eq_true]
  refine W.kat_yes (W.kat_cons (wpAny_eqBool_int ?_))
  by_cases e2:a2=b2
  ·subst e2
   rw [beq_self_eq_true]
   refine W.kat_yes (W.kat_nil ?_)
   have e:decide (bB (a1,a2)<bB (a1,a2))=false:=decide_eq_false (Int.lt_irrefl _)
   rw [e] at h
   exact h
  ·rw [beq_eq_false_iff_ne.mpr e2]
   refine W.kat_no (W.kat_one _ _ (lt_int ?_))
   have e:decide (bB (a1,a2)<bB (a1,b2))=decide (a2<b2):=by
    apply decide_eq_decide.mpr
    unfold bB
    omega
   rw [e] at h
   exact h
 ·rw [beq_eq_false_iff_ne.mpr e1]
  refine W.kat_no (oneLt_int ?_)
  have e:decide (bB (a1,a2)<bB (b1,b2))=decide (a1<b1):=by
   apply decide_eq_decide.mpr
   unfold bB
   simp only
   constructor
   ·intro h; omega
   ·intro h; omega
  rw [e] at h
  exact h
theorem Kv:∀ {us:List Value}{ts:List Tie},Paired (jE s.heap) us ts->∃ fs,W.KatTups s.heap us fs/\fs.length=us.length/\∀ v∈fs,∃ i t,v=Ŕ i t
 | _,_,.nil=>⟨[],.nil,rfl,fun _ h=>nomatch h⟩
 | _,_,.cons p q=>by
  obtain⟨a,o,t1,t2,n,rfl,ho,hc,hd⟩:=p
  obtain⟨fs,k,hl,hv⟩:=Kv q
  refine⟨_::fs,.cons ho hc hd (f:=Ŕ _ t1) rfl k,by simp [hl],fun v hv'=>?_⟩
  rcases Þ.mp hv' with rfl | h
  ·exact⟨_,_,rfl⟩
  ·exact hv v h
theorem Gu {a:Addr}{us:List Value}{ts:List Tie}{n:Nat}{P:PySem.Fin->Shared->Prop} (ho:s.heap.get? a=some (seqObj "list" us.toArray n))
  (hp:Paired (jE s.heap) us ts) (hn:∀ t∈ts,Bj t) (h64:us.length<64)
  (h:∀ p:List Nat,p.Perm (ã us.length)->(∀ i j,i<=j->j<us.length->bB (ts.getD (p.getD i 0) (0,0))<=bB (ts.getD (p.getD j 0) (0,0))) ->
   P (.done (.ret .none)) { s with heap:=sortedHeap s.heap a us (p.map fun i=>us.getD i ċ).toArray }) :
  wpAny (model prog w) A (Builtin.«list.sort» ⟨[.ref a],[]⟩) P E s:=by
 have hlen:=hp.length
 have h24:=ø
 rw [list_sort_plain]
 have ha:a<s.heap.objs.size:=Ê ho
 refine Â (listItems_at ho rfl ?_)
 refine Â (listUpdate_at ho rfl ?_ (by rw [Ò,ø]; omega) (Ě _))
 obtain⟨e1,ho1⟩:∃ e1,(s.heap.update a (ð fun _=>(#[]:Array Value))).get? a=some (seqObj "list" #[] e1):=⟨_,get?_update_seq ho (fun _=>#[])⟩
 refine Â (seqEpoch_at ho1 rfl ?_)
 refine Â (wpAny_newTuple ?_ (by show us.length<=_; rw [ø]; omega))
 refine Â (wpAny_newList ?_ (Ě _))
 refine ă ?_
 have ho6:(((s.heap.update a (ð fun _=>(#[]:Array Value))).push (seqObj "tuple" us.toArray 0)).push (seqObj "list" #[] 0)).get? a=some (seqObj "list" #[] e1):=by
  rw [Ū _ _ _ (by rw [size_push',ō]; exact à (ď ha)),Ū _ _ _ (by rw [ō]; exact à ha)]
  exact ho1
 have kept:∀ b o,s.heap.get? b=some o->o.cls=.type "tuple"->(((s.heap.update a (ð fun _=>(#[]:Array Value))).push (seqObj "tuple" us.toArray 0)).push (seqObj "list" #[] 0)).get? b=some o:=fun b o q hc=>by
  have hlt:b<s.heap.objs.size:=Ê q
  have hne:b≠a:=fun z=>by
   rw [z,ho] at q
   cases q
   have z2:(û "list")=û "tuple":=hc
   injection z2 with z3
   exact absurd z3 (by decide)
  rw [Ū _ _ _ (by rw [size_push',ō]; exact à (ď hlt)),Ū _ _ _ (by rw [ō]; exact à hlt),Heap.get?_update_ne _ _ _ _ hne]
  exact q
 show wpAny (model prog w) A _ P E { s with heap:=((s.heap.update a (ð fun _=>(#[]:Array Value))).push (seqObj "tuple" us.toArray 0)).push (seqObj "list" #[] 0) }
 dsimp only
 have hsz:us.toArray.size=us.length:=by simp
 have hp6:Paired (jE (((s.heap.update a (ð fun _=>(#[]:Array Value))).push (seqObj "tuple" us.toArray 0)).push (seqObj "list" #[] 0))) us ts:=Paired.G3 hp fun u t x=>x.keep kept
 by_cases h2:us.toArray.size<2
 ·rw [if_pos h2,if_pos h2]
  refine Â (Ë ?_)
  rw [StateT.run_pure]
  refine Â (Ë ?_)
  dsimp only
  have eout:(arrOf (SortSt.mk' general' (us.toArray.zip us.toArray) #[] 7 none)).map (·.2)=((ã us.length).map fun i=>us.getD i ċ).toArray:=by
   rw [jo]
   show (us.toArray.zip us.toArray).map (·.2)=us.toArray
   apply Array.toList_inj.mp
   simp
   exact Ui us
  rw [eout]
  refine Â (seqEpoch_at ho6 rfl ?_)
  refine Â (listUpdate_at ho6 rfl ?_ (Ě _) (by rw [Ò,Ä,Ę,ø]; omega))
  simp only [bne_self_eq_false,ĥ,if_false]
  refine Ë (h _ (List.Perm.refl _) fun i j hij hj=>?_)
  have:i=j:=by omega
  subst this
  exact Ļ _
 ·rw [if_neg h2,if_neg h2]
  have h2':2<=us.length:=by omega
  obtain⟨fs,hk,hfl,hfi⟩:=Kv (s:={ s with heap:=((s.heap.update a (ð fun _=>(#[]:Array Value))).push (seqObj "tuple" us.toArray 0)).push (seqObj "list" #[] 0) }) hp6
  refine Â (W.kat_kind (T:=.type "int") hk (by omega) (fun v hv=>by obtain⟨i,t,rfl⟩:=hfi v hv; exact W.Looks.of_pure rfl) rfl ?_)
  have hcmp:∀ i j C,i<us.length->j<us.length->C (decide (bB (ts.getD i (0,0))<bB (ts.getD j (0,0)))) { s with heap:=((s.heap.update a (ð fun _=>(#[]:Array Value))).push (seqObj "tuple" us.toArray 0)).push (seqObj "list" #[] 0) } ->
    W.kas_cmp prog w A (tuples' true) (us.toArray.zip us.toArray) i j C { s with heap:=((s.heap.update a (ð fun _=>(#[]:Array Value))).push (seqObj "tuple" us.toArray 0)).push (seqObj "list" #[] 0) }:=fun i j C hi hj hC=>by
   unfold W.kas_cmp
   rw [W.kat_item rfl,W.kat_item rfl]
   have key:∀ k,k<us.length->jE (((s.heap.update a (ð fun _=>(#[]:Array Value))).push (seqObj "tuple" us.toArray 0)).push (seqObj "list" #[] 0)) (us.getD k ċ) (ts.getD k (0,0))/\Bj (ts.getD k (0,0)):=fun k hk=>by
    have hk':k<ts.length:=by omega
    have ek:ts.getD k (0,0)=ts[k]:=by simp [hk']
    obtain⟨u,eu,pu⟩:=Uw hp6 (i:=k) (b:=ts[k]) (by simp [hk'])
    have eu':us.getD k ċ=u:=by rw [ĕ,eu]; rfl
    rw [ek,eu']
    exact⟨pu,hn _ (ŏ hk')⟩
   exact Kf (key i hi).1 (key j hj).1 (key i hi).2 (key j hj).2 hC
  have G:=W.kas_runs (prog:=prog) (w:=w) (A:=A) (E:=E) (κ:=tuples' true) (it:=us.toArray.zip us.toArray) (n:=us.length) (s:={ s with heap:=((s.heap.update a (ð fun _=>(#[]:Array Value))).push (seqObj "tuple" us.toArray 0)).push (seqObj "list" #[] 0) })
   (Q:=fun _ st' s'=>∃ p:Array Nat,s'={ s with heap:=((s.heap.update a (ð fun _=>(#[]:Array Value))).push (seqObj "tuple" us.toArray 0)).push (seqObj "list" #[] 0) }/\arrOf st'=p.map (W.kas_item (us.toArray.zip us.toArray))/\failedOf st'=none/\NfSort.Pm us.length p/\NfSort.Up (fun i=>bB (ts.getD i (0,0))) p us.length)
   (G:=fun p s'=>s'={ s with heap:=((s.heap.update a (ð fun _=>(#[]:Array Value))).push (seqObj "tuple" us.toArray 0)).push (seqObj "list" #[] 0) }/\NfSort.Pm us.length p/\NfSort.Up (fun i=>bB (ts.getD i (0,0))) p us.length) h2' h64 (fun p' st' s' a1 a2 a3 a4=>⟨p',a4.1,a2,a3,a4.2⟩)
   (NfSort.Fq hcmp (NfSort.bZ (fun p hp=>⟨rfl,hp⟩) (NfSort.Mx (by omega))))
  have est:SortSt.mk' (tuples' true) (us.toArray.zip us.toArray) #[] 7 none=W.kas_st (tuples' true) (us.toArray.zip us.toArray) (List.toArray (ã us.length)):=by
   have e:=W.kas_range (us.toArray.zip us.toArray)
   rw [show (us.toArray.zip us.toArray).size=us.length by simp] at e
   show SortSt.mk' (tuples' true) (us.toArray.zip us.toArray) #[] 7 none=SortSt.mk' (tuples' true) ((List.toArray (ã us.length)).map (W.kas_item (us.toArray.zip us.toArray))) #[] 7 none
   rw [e]
  have eT:tuples' (û "int" != û "tuple")=tuples' true:=rfl
  rw [eT,est]
  refine Â (Ĳ G ?_ fun _ _ e=>e)
  rintro ⟨⟨⟩,st'⟩ s' ⟨p,rfl,har,hf,hpm,hup⟩
  dsimp only
  have hout:=W.kat_snds (ks:=us) (vs:=us) rfl har
  rw [hout]
  have hsz2:p.size=us.length:=hpm.size
  refine Â (seqEpoch_at ho6 rfl ?_)
  refine Â (listUpdate_at ho6 rfl ?_ (Ě _) (by rw [Ò,Ä,Ď,hsz2,ø]; omega))
  rw [hf]
  simp only [bne_self_eq_false,ĥ,if_false]
  refine Ë (h p.toList ?_ fun i j hij hj=>?_)
  ·have:=Array.perm_iff_toList_perm.mp hpm
   simpa using this
  ·have q:=hup i j hij hj
   unfold NfSort.kk at q
   have eg:∀ k,p.toList.getD k 0=p.getD k 0:=fun k=>by
    rw [NfSort.getD_eq,ĕ]
    simp
   rw [eg,eg]
   exact q
theorem ur {l:Addr}{vs:List Value}{Q:List Value->Shared->Prop} (hl:IsTup s.heap l vs.toArray)
  (h:Q vs { s with heap:=(s.heap.push (seqObj "list" #[] 0)).update s.heap.objs.size (ð (·++vs.toArray)) }) (hsz:vs.length<=sizeLine) :
  wpAny (model prog w) A (collect (.ref l)) Q E s:=by
 obtain⟨o,ho,hc,n,hd⟩:=id hl
 unfold collect
 refine Â (wpAny_runValue (ű entry_proto_collect' ?_))
 show wpAny _ _ (do again (.builtin "list.__iadd__" ⟨[← newList [],.ref l],[]⟩)) _ _ s
 refine Â (wpAny_newList (Ë ⟨Code.quiet_builtin _ (by decide +kernel),ű entry_list_iadd' ?_⟩))
 show wpAny _ _ (Ĝ (.ref s.heap.objs.size) (.ref l) (.ref s.heap.objs.size)) _ _ { s with heap:=s.heap.push (seqObj "list" #[] 0) }
 unfold Ĝ
 have ho':(s.heap.push (seqObj "list" #[] 0)).get? l=some o:=Ì _ ho
 refine Â (wpAny_typeOf (T:="tuple") ⟨o,ho',hc⟩ ?_)
 have ht:(û "tuple" == û "tuple")=true:=by rfl
 rw [if_pos (by rw [ht]; simp)]
 refine Â (listItems_at ho' hd ?_)
 refine Â (listItems_at (xs:=#[]) (n:=0) (Û _ rfl) rfl ?_)
 rw [if_neg (by simp)]
 refine Â (listUpdate_at (xs:=#[]) (n:=0) (Û _ rfl) rfl ?_ (Ě _) (by show (#[]++vs.toArray).size<=sizeLine+1; simp only [Array.size_append,Ò,List.length_nil]; omega))
 refine Ë ?_
 show wpAny (model prog w) A (do
   let o ← load s.heap.objs.size
   match o.data with
   | .seq xs _=>pure xs.toList
   | _=>unsupported "internal:collect") Q E { s with heap:=(s.heap.push (seqObj "list" #[] 0)).update s.heap.objs.size (ð (·++vs.toArray)) }
 refine Â (wpAny_load (get?_update_seq (Û _ rfl) _) ?_)
 show wpAny _ _ (pure ((#[]:Array Value)++vs.toArray).toList) Q E _
 rw [show ((#[]:Array Value)++vs.toArray).toList=vs by simp]
 exact Ë h
theorem wu {l:Addr}{us:List Value}{ts:List Tie}{Q:Value->Shared->Prop} (hl:s.heap.IsList l us.toArray\/IsTup s.heap l us.toArray) (hp:Paired (jE s.heap) us ts) (hn:∀ t∈ts,Bj t) (h64:us.length<64)
  (h:∀ p:List Nat,p.Perm (ã us.length)->(∀ i j,i<=j->j<us.length->bB (ts.getD (p.getD i 0) (0,0))<=bB (ts.getD (p.getD j 0) (0,0))) ->
   Q (.ref (s.heap.objs.size+1)) { s with heap:=sortedAll s.heap us (p.map fun i=>us.getD i ċ).toArray }) :
  wpAny (model prog w) A (call (.builtin "sorted") [.ref l]) Q E s:=by
 have h24:=ø
 refine Calls.call_function_entry kind_sorted plain_sorted entry_sorted (args_sorted1 _) ?_
 unfold Builtin.«sorted»
 refine Â (m:=checkCount "sorted" 1 1 _) (Ë ?_)
 have hsz:((s.heap.push (seqObj "list" #[] 0)).update s.heap.objs.size (ð (·++us.toArray))).objs.size=s.heap.objs.size+1:=by
  rw [ō,size_push']
 have hoL:(((s.heap.push (seqObj "list" #[] 0)).update s.heap.objs.size (ð (·++us.toArray))).push (seqObj "list" us.toArray 0)).get? (s.heap.objs.size+1)=some (seqObj "list" us.toArray 0):=by
  rw [← hsz]; exact Û _ rfl
 have keep:∀ b o,s.heap.get? b=some o->(((s.heap.push (seqObj "list" #[] 0)).update s.heap.objs.size (ð (·++us.toArray))).push (seqObj "list" us.toArray 0)).get? b=some o:=fun b o q=>by
  have hlt:b<s.heap.objs.size:=Ê q
  rw [Ū _ _ _ (by rw [hsz]; exact à (ď hlt)),Heap.get?_update_ne _ _ _ _ (à hlt),Ū _ _ _ (à hlt)]
  exact q
 have go:∀ {Q':List Value->Shared->Prop},Q' us { s with heap:=(s.heap.push (seqObj "list" #[] 0)).update s.heap.objs.size (ð (·++us.toArray)) }->wpAny (model prog w) A.in1 (collect (.ref l)) Q' (fun e s'=>E e s') s:=fun {Q'} hq=>by
  rcases hl with hl | hl
  ·exact collect_list hl hq (by omega)
  ·exact ur hl hq (by omega)
 refine Â (go ?_)
 refine Â (wpAny_newList ?_ (by omega))
 show wpAny _ _ _ _ _ { s with heap:=((s.heap.push (seqObj "list" #[] 0)).update s.heap.objs.size (ð (·++us.toArray))).push (seqObj "list" us.toArray 0) }
 rw [hsz]
 refine Â (ă (ī slot_list_sort ⟨_,hoL,rfl⟩ entry_list_sort (Gu hoL (Paired.G3 hp fun u t x=>x.keep fun a o e _=>keep a o e) hn h64 fun p a1 a2=>⟨_,rfl,?_⟩) (args_list_sort _)))
 exact Ë ⟨_,rfl,h p a1 a2⟩
end
section
variable {X:Cx}
theorem yO {ts:List Tie}{p:List Nat} (hp:p.Perm (ã ts.length)) (h:∀ i j,i<=j->j<ts.length->bB (ts.getD (p.getD i 0) (0,0))<=bB (ts.getD (p.getD j 0) (0,0))) :
  (p.map fun i=>ts.getD i (0,0)).Perm ts/\(p.map fun i=>ts.getD i (0,0)).Pairwise (fun a b=>bB a<=bB b):=by
 refine⟨?_,?_⟩
 ·have q:=hp.map fun i=>ts.getD i (0,0)
  rw [jo] at q
  exact q
 ·have hl:p.length=ts.length:=by simpa using hp.length_eq
  rw [List.pairwise_iff_getElem]
  intro i j hi hj hij
  rw [Ä] at hi hj
  have q:=h i j (by omega) (by omega)
  have ei:p.getD i 0=p[i]:=by simp [hi]
  have ej:p.getD j 0=p[j]:=by simp [hj]
  rw [ei,ej] at q
  simpa using q
theorem yq:bA X (.builtin "sorted") (fun xs H Q=>∃ (p:Addr) (vs:List V) (ts:List Tie),xs=[.ref p]/\(SqL X.K H p vs\/SqT X.K H p vs)/\Prs H vs ts/\(∀ t∈ts,Bj t)/\ts.length<64 /\
  ∀ l ws us,H l=none->Prs H ws us->us.Perm ts->us.Pairwise (fun a b=>bB a<=bB b)->Q (.ref l) (upd H l (.lst ws))):=by
 intro pins s σ H xs us Q I r h
 obtain⟨p,vs,ts,rfl,hp,hpr,hn,h64,q⟩:=h
 obtain⟨u,rfl,rx⟩:=vals1 r
 cases rx
 have h24:=ø
 have fin:∀ its:List Value,Vals vs its->(s.heap.IsList p its.toArray\/IsTup s.heap p its.toArray)->wpAny (model X.prog X.w) X.A (call (.builtin "sorted") [.ref p]) (EP X pins σ Q) X.xe s:=fun its rv hl=>by
  have hpv:=I.pairs hpr rv
  have hlen:=hpr.length
  have hlen2:=rv.length
  refine wu hl hpv hn (by omega) fun pp hpp hord=>?_
  have eits:its.length=ts.length:=by omega
  rw [eits] at hpp hord
  obtain⟨hperm,hpw⟩:=yO hpp hord
  have hlt:∀ i∈pp,i<ts.length:=fun i hi=>ģ.mp (hpp.mem_iff.mp hi)
  have hw:=Ju hpr V.non (0,0) pp hlt
  have hvv:Vals (pp.map fun i=>vs.getD i V.non) (pp.map fun i=>its.getD i ċ):=Ju rv V.non ċ pp fun i hi=>by have:=hlt i hi; omega
  obtain⟨e,he⟩:=sortedAll_at s.heap its (pp.map fun i=>its.getD i ċ).toArray
  refine⟨.ref (s.heap.objs.size+1),upd H (s.heap.objs.size+1) (.lst (pp.map fun i=>vs.getD i V.non)),I.laid (t':=s.toks) (fun b o eb=>sortedAll_old eb) (Ņ _) ?_,rfl,q _ _ _ (I.hok.fresh (Ņ _)) hw hperm hpw⟩
  refine⟨?_,_,e,hvv,he⟩
  have hl3:pp.length=ts.length:=by simpa using hpp.length_eq
  rw [Ä]
  omega
 rcases hp with hp | hp
 ·obtain⟨its,rv,pl,hz⟩:=I.list hp
  exact fin its rv (.inl pl.isList)
 ·obtain⟨its,rv,pl,hz⟩:=I.tuple hp
  exact fin its rv (.inr pl)
def pD (t:Tie):PyData:=.tuple [.int t.1,.int t.2]
inductive DatV (K:Ü) (H:Hp):V->PyData->Prop
 | lst {a:Addr}{vs:List V}{ts:List Tie}:SqL K H a vs->Prs H vs ts->DatV K H (.ref a) (.list (ts.map pD))
 | tup {a:Addr}{vs:List V}{ts:List Tie}:SqT K H a vs->Prs H vs ts->DatV K H (.ref a) (.tuple (ts.map pD))
 | web {a b:Addr}{n:Int}{vs:List V}{ts:List Tie}:SqT K H a [.int n,.ref b]->SqT K H b vs->Prs H vs ts->DatV K H (.ref a) (.tuple [.int n,.tuple (ts.map pD)])
end
end L2
namespace L2
open PySem PySem.Spec PyProof.Rows HT
section
variable {prog:Program}{w:World}{A:Around}{E:Value->Shared->Prop}{s:Shared}
end
section
variable {X:Cx}{e:Expr}{te:TE}{p1 p2 p3 pos:Pos}
end
end L2
namespace PySem
open Sem (wp)
open AutoSeq1 (wpAny_loadPart')
theorem jm (l:Addr) (items:Array Value) (n:Nat) (dct:Option Addr) (sl:Array (Option Value)) :
  Meets (Builtin.«enumerate.__new__» ⟨[.type "enumerate",.ref l],[]⟩) (fun _ R s=>s.heap.get? l=some { cls:=.type "tuple",dict:=dct,data:=.seq items n,slots:=sl } /\
   R (.ok (.ret (.ref (s.heap.push { cls:=.type "tuple_iterator",data:=.fields #[.ref l,.int 0 0] }).objs.size)))
    { s with heap:=(s.heap.push { cls:=.type "tuple_iterator",data:=.fields #[.ref l,.int 0 0] }).push { cls:=.type "enumerate",data:=.fields #[.none,.bool false,.ref s.heap.objs.size,rawInt 0,.none,.none] } }) :=
 .of_wp fun prog w A R s h=>by
  obtain⟨hp,g,d,tk,os⟩:=s; obtain⟨hl,h⟩:=h
  have hsub:=sub_enumerate
  have hL:Heap.IsTuple (Shared.heap ⟨hp,g,d,tk,os⟩) l items:=⟨_,hl,rfl,n,rfl⟩
  wp_walk using wpAny_loadPart' hl
  refine wpAny_stack_any fun st=>Ë ?_
  split
  ·rename_i c _ _ _ _ _
   cases (c == û "enumerate")
   ·wp_walk using wpAny_loadPart' hl,ũ hL
    exact⟨_,rfl,h⟩
   ·wp_walk using wpAny_loadPart' hl,ũ hL
    exact⟨_,rfl,h⟩
  ·wp_walk using wpAny_loadPart' hl,ũ hL
   exact⟨_,rfl,h⟩
section
variable {prog:Program}{w:World}{A:Around}{E:Value->Shared->Prop}{s:Shared}
theorem jB {l:Addr}{items:Array Value}{Q:Value->Shared->Prop} (hL:s.heap.IsTuple l items)
  (h:∀ h',IsEnum h' (s.heap.objs.size+1) s.heap.objs.size 0 .none->h'.IsTupleIter s.heap.objs.size l 0->h'.objs.size=s.heap.objs.size+2 ->
   (∀ b o,s.heap.get? b=some o->h'.get? b=some o)->Q (.ref (s.heap.objs.size+1)) { s with heap:=h' }) :
  wpAny (model prog w) A (call (.type "enumerate") [.ref l]) Q E s:=by
 obtain⟨⟨c,dct,dt,sl⟩,hl,hc,n,hd⟩:=hL
 replace hc:c=.type "tuple":=hc
 replace hd:dt=.seq items n:=hd
 subst hc hd
 refine callType_new F.called_enumerate (by decide) (F.typeCall_enumerate_1 _) (F.newCall_enumerate_1 _) (fun obj=>F.args_object_init_2 obj _) F.entry_enumerate_new
  (jm l items n dct sl) ⟨hl,?_⟩
 have hz:(s.heap.push { cls:=.type "tuple_iterator",data:=.fields #[.ref l,.int 0 0] }).objs.size=s.heap.objs.size+1:=Ń ..
 show _/\_
 rw [hz]
 have he:IsEnum ((s.heap.push { cls:=.type "tuple_iterator",data:=.fields #[.ref l,.int 0 0] }).push
   { cls:=.type "enumerate",data:=.fields #[.none,.bool false,.ref s.heap.objs.size,rawInt 0,.none,.none] }) (s.heap.objs.size+1) s.heap.objs.size 0 .none:=by
  have:=Û (s.heap.push { cls:=.type "tuple_iterator",data:=.fields #[.ref l,.int 0 0] })
   (o:={ cls:=.type "enumerate",data:=.fields #[.none,.bool false,.ref s.heap.objs.size,rawInt 0,.none,.none] }) rfl
  rw [hz] at this; exact this
 refine⟨⟨_,he,rfl⟩,h _ he ⟨_,Ì _ (Û _ rfl),rfl,rfl⟩ (by rw [Ń,hz]) fun b o x=>Ì _ (Ì _ x)⟩
theorem mz {it l:Addr}{i:Nat}{items}{x:Value}{Q:Value->Shared->Prop} (hit:s.heap.IsTupleIter it l i)
  (hl:s.heap.IsTuple l items) (hx:items[i]?=some x)
  (hQ:∀ h',h'.IsTupleIter it l (i+1)->Heap.SameBut it s.heap h'->Q x { s with heap:=h' }) :
  wpAny (model prog w) A (đ (.ref it)) Q E s:=by
 obtain⟨o,ho,hc,hd⟩:=id hit
 obtain⟨ol,hol,_,nl,hdl⟩:=hl
 unfold đ
 refine Â (ĵ (name:=Ł "__next__") hit.typeIs Ŏ
  (ī Ŏ hit.typeIs PyProof.Rows.entry_tupleiter_next ?_ (PyProof.Rows.args_tupleiter_next _)))
 show wpAny _ _ (field (.ref it) 0 >>= _) _ _ s
 refine Â (Ĵ ho hd (x:=.ref l) rfl ?_)
 show wpAny _ _ (if (Ā l == ċ)=true then _ else _) _ _ s
 rw [if_neg (show ¬ ((Ā l == ċ)=true) from Î)]
 show wpAny _ _ (field (.ref it) 1 >>= _) _ _ s
 refine Â (Ĵ ho hd (x:=.int i 0) rfl ?_)
 show wpAny _ _ (seqItems? (.ref l) >>= _) _ _ s
 refine Â (wpAny_seqItems hol hdl ?_)
 simp only [ŗ,hx]
 refine Â (wpAny_setField ho hd (by simp) (Ë ⟨x,rfl,Ë (hQ _ ?_ (Heap.SameBut.update ..))⟩))
 exact⟨_,ĝ _ ho (Obj.isFreed_of_fields (Obj.data_mapFields hd _)),(Obj.cls_mapFields ..).trans hc,by
  rw [Obj.data_mapFields hd]; simp [rawInt]⟩
theorem gj {it l:Addr}{i:Nat}{items}{Q:Value->Shared->Prop} (hh:A.handled=none)
  (hit:s.heap.IsTupleIter it l i) (hl:s.heap.IsTuple l items) (hx:items[i]?=none)
  (hE:∀ h' e,Heap.ExtBut it s.heap h'->(∃ o,h'.get? e=some o/\o.cls=.type "StopIteration")->E (.ref e) { s with heap:=h' }) :
  wpAny (model prog w) A (đ (.ref it)) Q E s:=by
 obtain⟨o,ho,hc,hd⟩:=id hit
 obtain⟨ol,hol,_,nl,hdl⟩:=hl
 unfold đ
 refine Â (ĵ (name:=Ł "__next__") hit.typeIs Ŏ
  (ī Ŏ hit.typeIs PyProof.Rows.entry_tupleiter_next ?_ (PyProof.Rows.args_tupleiter_next _)))
 show wpAny _ _ (field (.ref it) 0 >>= _) _ _ s
 refine Â (Ĵ ho hd (x:=.ref l) rfl ?_)
 show wpAny _ _ (if (Ā l == ċ)=true then _ else _) _ _ s
 rw [if_neg (show ¬ ((Ā l == ċ)=true) from Î)]
 show wpAny _ _ (field (.ref it) 1 >>= _) _ _ s
 refine Â (Ĵ ho hd (x:=.int i 0) rfl ?_)
 show wpAny _ _ (seqItems? (.ref l) >>= _) _ _ s
 refine Â (wpAny_seqItems hol hdl ?_)
 simp only [ŗ,hx]
 refine Â (wpAny_rule (Â (wpAny_setField ho hd (by simp) ?_)))
 show wpAny _ _ (newExc (.type "StopIteration") [] >>= _) _ _ _
 refine Â ?_
 simp only [newExc,newTuple]
 refine Â (ļ ?_ (by size_fits))
 refine Â (m:=firstArgMember _ _) (wpAny_of_eq (a:=ċ) (by first | rfl | (simp only [firstArgMember]; rfl)) ?_)
 refine ļ ?_ (by size_fits)
 simp only [raiseNew]
 refine Â (wpAny_handled ?_)
 first | rw [show A.in1.handled=none from hh] | rw [hh]
 refine Â (Ë (wpAny_throw ?_))
 exact hE _ _ (((Heap.SameBut.update ..).extBut.push _).push _) ⟨_,Û _ rfl,rfl⟩
end
theorem Draws.tuple {prog:Program}{w:World}{A:Around} (hh:A.handled=none) (it l:Addr) (hne:l≠it) (items:Array Value) :
  Draws prog w A it [it,l] items.size (fun i v=>items[i]?=some v) (fun i h=>h.IsTupleIter it l i/\h.IsTuple l items) where
 live:=fun _ _ st=>let ⟨o,ho,_⟩:=st.1; ⟨o,ho⟩
 frame:=fun _ _ _ st hk=>⟨let ⟨o,ho,r⟩:=st.1; ⟨o,hk it (by simp) o ho,r⟩,let ⟨o,ho,r⟩:=st.2; ⟨o,hk l (by simp) o ho,r⟩⟩
 item:=fun i s Q E hi st hQ=>by
  refine mz st.1 st.2 (x:=items[i]) (by simp [hi]) fun h' hit' hs'=>?_
  exact hQ _ h' s.toks (by simp [hi]) ⟨hit',st.2.extBut hs'.extBut hne⟩ hs'
 done:=fun s Q E st hE=>gj hh st.1 st.2 (by simp) hE
end PySem
namespace L2
open PySem PySem.Spec PyProof.Rows
def Ite (K:Ü) (a:Addr):It :=
 ⟨fun i H=>∃ xs x,SqT K H a xs/\xs[i]?=some x,fun i H x H'=>∃ t v,x=.ref t/\H t=none/\H'=upd H t (.tup [.int i,v])/\∀ xs,SqT K H a xs->xs[i]?=some v,fun i H=>∃ xs,SqT K H a xs/\xs.length<=i⟩
theorem Gm {P:Program}{w:World}{K:Ü}{elts:List Expr}{kk:Nat}{pos:Pos} (a e it:Addr) (hei:e≠it) :
  Turn P w K (.Tuple elts kk pos) (Ite K a) [e,it] e (fun i h=>(∃ old,IsEnum h e it i old)/\h.IsTupleIter it a i) where
 mem:=by simp
 obj:=fun i h st b hb=>by
  obtain⟨⟨old,he⟩,o,ho,hc,hd⟩:=st
  rcases Þ.mp hb with rfl | hb
  ·exact⟨_,he,fun v z=>nomatch z⟩
  ·have e1:b=it:=by simpa using hb
   subst e1
   exact⟨o,ho,fun v z=>by rw [hd] at z; cases z⟩
 keep:=fun i h h' st k=>by
  obtain⟨⟨old,he⟩,o,ho,r⟩:=st
  exact⟨⟨old,k e (by simp) _ he⟩,o,k it (by simp) _ ho,r⟩
 item:=by
  intro X hP hw hK hc i pins s σ H E I hf st hg
  subst hP hw hK
  obtain⟨xs,x,hq,hx⟩:=hg
  obtain⟨its,rv,p,hz⟩:=I.tuple hq
  obtain⟨u,hu,ru⟩:=rv.get hx
  obtain⟨⟨old,he⟩,hit⟩:=st
  have hai:a≠it:=fun z=>by
   obtain⟨o,ho,hc1,_⟩:=p
   obtain⟨o',ho',hc2,_⟩:=hit
   rw [z,ho'] at ho
   cases ho
   rw [hc2] at hc1
   injection hc1 with z2
   exact absurd z2 (by decide)
  have hae:e≠a:=fun z=>by
   obtain⟨o,ho,hc1,_⟩:=p
   have he':s.heap.get? e=some _:=he
   rw [z,ho] at he'
   cases he'
   have z1:û "enumerate"=û "tuple":=hc1
   injection z1 with z2
   exact absurd z2 (by decide)
  have hlt:i<its.toArray.size:=by have:=(Æ.mp hu).1; simpa using this
  obtain⟨e0,e1,e2,e3,e4,e5⟩:=hf e (by simp)
  obtain⟨f0,f1,f2,f3,f4,f5⟩:=hf it (by simp)
  have D:=Draws.tuple (prog:=X.prog) (w:=X.w) (A:=X.A.in1) (I.ok.hd hc) it a hai its.toArray
  refine wpAny_pyNext_enum_itemD D he ⟨hit,show s.heap.IsTuple a its.toArray from p⟩ hlt hei (by simp [hei,hae]) fun x' h' tk hP ho hs' hT hsz hk=>⟨_,rfl,?_⟩
  have ex:x'=u:=by
   have hP':its[i]?=some x':=by simpa using hP
   rw [hu] at hP'
   exact (Õ hP').symm
  subst ex
  refine wpAny_letOwnedTupleGo_enum ho fun h2 he2 hs2=>?_
  have hTn:H s.heap.objs.size=none:=I.hok.fresh (Ö _)
  have keep2:∀ b o,b≠e->b≠it->s.heap.get? b=some o->h2.get? b=some o:=fun b o hb1 hb2 q=>(hs2.2 b hb1).trans (hk b o hb1 hb2 q)
  have hTe:s.heap.objs.size≠e:=Ī (Ê he)
  have hTup:h2.get? s.heap.objs.size=some { cls:=.type "tuple",data:=.seq #[.int i tk,x'] }:=(hs2.2 _ hTe).trans hT
  have J:Inv X pins σ (upd H s.heap.objs.size (.tup [.int i,x])) { s with heap:=h2,toks:=tk+1 }:=by
   refine I.step (g':=s.gens) (d':=s.drawn) (t':=tk+1) (ch:=[e,it]) (fun b hb=>?_) (fun b o _ _ hcb q _=>keep2 b o (fun z=>hcb (by simp [z])) (fun z=>hcb (by simp [z])) q)
    (fun b o _ _ hcb q _=>⟨o.slots,keep2 b o (fun z=>hcb (by simp [z])) (fun z=>hcb (by simp [z])) q⟩) (fun b o _ q n=>by rw [aj (à (Ê q))]; exact n)
    (fun b o hcb q=>⟨o,keep2 b o (fun z=>hcb (by simp [z])) (fun z=>hcb (by simp [z])) q⟩) (fun b ys q=>by rw [aj (ao q hTn)]; exact q) (fun b o y q=>by rw [aj (ao q hTn)]; exact q)
    (fun b ps q=>⟨#[],by rw [aj (ao q hTn),q]; simp⟩) (fun m hm=>?_) ?_ I.bare
   ·rcases Þ.mp hb with rfl | hb
    ·exact⟨e3,e1,e4,e5⟩
    ·have z:b=it:=by simpa using hb
     subst z
     exact⟨f3,f1,f4,f5⟩
   ·obtain⟨o,es,ep,ho',r⟩:=hm
    exact⟨o,es,ep,keep2 _ o (Ć e1) (Ć f1) ho',r⟩
   ·intro b u' q
    have nT:∀ {c y},H c=some y->c≠e/\c≠it:=fun {c y} z=>⟨fun v=>(by rw [v,e0] at z; exact nomatch z),fun v=>(by rw [v,f0] at z; exact nomatch z)⟩
    by_cases hb:b=s.heap.objs.size
    ·subst hb
     rw [aq] at q
     cases q
     exact⟨(by show 2<=sizeLine; decide),[.int i tk,x'],.cons ⟨_,rfl⟩ (.cons ru .nil),_,hTup,rfl,_,rfl⟩
    ·rw [aj hb] at q
     refine (I.hok b u' q).stay (fun c v hcv y=>keep2 c v ?_ ?_ y) (fun c y=>by rw [aj (ao y hTn)]; exact y) fun c ys y=>by rw [aj (ao y hTn)]; exact y
     ·rcases hcv with rfl | z
      ·exact (nT q).1
      ·exact (nT z).1
     ·rcases hcv with rfl | z
      ·exact (nT q).2
      ·exact (nT z).2
  refine⟨.ref s.heap.objs.size,_,J,rfl,⟨_,x,rfl,hTn,rfl,fun ys hy=>by rw [I.uP hy hq]; exact hx⟩,⟨⟨x',?_⟩,?_⟩,fun b hb=>?_⟩
  ·have he3:IsEnum h2 e it ((i:Int)+1) x':=by simpa using he2
   have ec:((i+1:Nat):Int)=(i:Int)+1:=by omega
   rw [ec]
   exact he3
  ·obtain⟨o,ho2,r⟩:=hs'.1
   exact⟨o,(hs2.2 it (Ć hei)).trans ho2,r⟩
  ·rw [aj]
   ·exact (hf b hb).1
   ·rcases Þ.mp hb with rfl | hb
    ·exact Ć hTe
    ·have z:b=it:=by simpa using hb
     subst z
     obtain⟨o,ho2,_⟩:=hit
     exact à (Ê ho2)
 done:=by
  intro X hP hw hK hc i pins s σ H E I hf st hg
  subst hP hw hK
  obtain⟨xs,hq,hx⟩:=hg
  obtain⟨its,rv,p,hz⟩:=I.tuple hq
  obtain⟨⟨old,he⟩,hit⟩:=st
  obtain⟨f0,f1,f2,f3,f4,f5⟩:=hf it (by simp)
  have hl:=rv.length
  have hT:s.TypeIs (.ref e) "enumerate":=⟨_,he,rfl⟩
  unfold pyNext
  refine Â (wpAny_attempt (ĵ (name:=Ł "__next__") hT į
   (ī į hT PySem.F.entry_enumerate_next ?_ (PySem.F.args_enumerate_next_1 _))))
  show wpAny _ _ (field (.ref e) 2 >>= _) _ _ _
  refine Â (Ĵ he rfl (x:=.ref it) rfl ?_)
  refine Â (gj (I.ok.hd hc) hit (show s.heap.IsTuple a its.toArray from p) (by simp; omega) fun h' x he' hx'=>?_)
  obtain⟨o,ho,hc'⟩:=hx'
  refine Â (wpAny_isInstance (T:="StopIteration") (b:=true) ⟨o,ho,hc'⟩ isSubtype_stop ?_)
  exact Ë ⟨rfl,I.turned (t':=s.toks) (fun b o hb e=>he' b o hb e) f0 f1 f3 f4 f5⟩
 self:=fun A i s Q E st h=>by
  obtain⟨⟨old,he⟩,_⟩:=st
  have hT:s.TypeIs (.ref e) "enumerate":=⟨_,he,rfl⟩
  refine wpAny_pyIter_slot hT Ţ (ī Ţ hT PySem.F.entry_enumerate_iter ?_ (PySem.F.args_enumerate_iter_1 _))
  show wpAny _ _ (ret (.ref e)) _ _ s
  exact Ë ⟨_,rfl,"enumerate",_,hT,į.lookup,h⟩
theorem boot_enumerate:bootBuiltins "enumerate"=some (.type "enumerate"):=by decide +kernel
def Vi (K:Ü) (ta:TA):TI:=fun σ H R=>ta σ H fun vs H1=>∃ a,vs=[.ref a]/\(∃ xs,SqT K H1 a xs)/\R (Ite K a) H1
theorem Nh {X:Cx}{elts:List Expr}{kk:Nat}{tpos:Pos}{a:Expr}{ta:TA}{p pos:Pos} (hg:Gl X "enumerate") (hm:X.mg "enumerate"=none) (ha:PA X [a] ta) (hs:starEach [a] X.env=[(false,eval a X.env)]:=by rfl):PI X (.Tuple elts kk tpos) (.Call (.Name "enumerate" p) [a] [] pos) (Vi X.K ta):=by
 intro pins s σ H R I h
 refine Call_ (dF I hg hm boot_enumerate (ü (thn (ha pos pins s σ H _ I h) fun us s1 ⟨vs,H1,I1,r1,q1⟩=>?_) hs rfl))
 obtain⟨b,e,⟨xs,hq⟩,q⟩:=q1
 subst e
 obtain⟨u,rfl,rx⟩:=vals1 r1
 cases rx
 obtain⟨its,rv,pt,hz⟩:=I1.tuple hq
 refine jB (show s1.heap.IsTuple b its.toArray from pt) fun h' he hit hsz hk=>?_
 have I2:Inv X pins σ H1 { s1 with heap:=h' }:=I1.kept (t':=s1.toks) hk
 have T:Turn X.prog X.w X.K (.Tuple elts kk tpos) (Ite X.K b) [s1.heap.objs.size+1,s1.heap.objs.size] (s1.heap.objs.size+1) (fun i h=>(∃ old,IsEnum h (s1.heap.objs.size+1) s1.heap.objs.size i old)/\h.IsTupleIter s1.heap.objs.size b i):=Gm b _ _ (Ī (Ŝ _))
 refine T.self _ 0 _ _ _ ⟨⟨_,he⟩,hit⟩ ⟨_,_,_,_,H1,rfl,I2,T,⟨⟨_,he⟩,hit⟩,fun c hc=>?_,q⟩
 rcases Þ.mp hc with rfl | hc
 ·exact I1.Af (Ņ _) (I1.hok.fresh (Ņ _))
 ·have z:c=s1.heap.objs.size:=by simpa using hc
  subst z
  exact I1.Af (Ö _) (I1.hok.fresh (Ö _))
section
variable {κ:Type} [DecidableEq κ]
def iK (kvs:List (κ×V)) (k:κ):Option V:=(kvs.find? fun kv=>decide (kv.1=k)).map (·.2)
def putK (kvs:List (κ×V)) (k:κ) (v:V):List (κ×V) :=
 if (kvs.any fun kv=>decide (kv.1=k))=true then kvs.map (fun kv=>if kv.1=k then (kv.1,v) else kv) else kvs++[(k,v)]
theorem lD {p:κ×V}{r:List (κ×V)}{k:κ} (e:p.1=k):iK (p::r) k=some p.2:=by simp [iK,Ň,e]
theorem rE {p:κ×V}{r:List (κ×V)}{k:κ} (e:¬ p.1=k):iK (p::r) k=iK r k:=by simp [iK,Ň,e]
theorem yI (k:κ):∀ kvs:List (κ×V),(kvs.any fun kv=>decide (kv.1=k))=(iK kvs k).isSome
 | []=>rfl
 | p::r=>by
  rw [List.any_cons]
  by_cases e:p.1=k
  ·simp only [lD e,decide_eq_true e,Bool.true_or,Option.isSome_some]
  ·rw [rE e,decide_eq_false e,Bool.false_or]; exact yI k r
theorem jq (kvs:List (κ×V)) (k:κ) (v:V):(putK kvs k v).length<=kvs.length+1:=by
 unfold putK
 split
 ·rw [Ä]; omega
 ·rw [Ô,ĉ,List.length_nil]; omega
theorem uE.oZ {o:Option V}{u:Option Value} (r:uE o u):o.isSome=u.isSome:=by
 cases o with
 | none=>cases u with
  | none=>rfl
  | some _=>exact (show False from r).elim
 | some _=>cases u with
  | none=>exact (show False from r).elim
  | some _=>rfl
theorem KV.val {kvs:List (κ×V)}{vs:List (κ×Value)} (r:KV kvs vs) (k:κ):uE (iK kvs k) (valueAt vs k):=by
 unfold KV at r
 induction r with
 | nil=>exact Ş
 | @cons p q ps qs h t ih =>
  obtain⟨h1,h2⟩:=h
  by_cases e:p.1=k
  ·have e':q.1=k:=h1.symm.trans e
   have b:valueAt (q::qs) k=some q.2:=by simp [valueAt,Ň,e']
   rw [lD e,b]; exact h2
  ·have e':¬ q.1=k:=fun z=>e (h1.trans z)
   have b:valueAt (q::qs) k=valueAt qs k:=by simp [valueAt,Ň,e']
   rw [rE e,b]; exact ih
theorem KV.any {kvs:List (κ×V)}{vs:List (κ×Value)} (r:KV kvs vs) (k:κ):(kvs.any fun kv=>decide (kv.1=k))=vs.any fun kv=>decide (kv.1=k):=by
 unfold KV at r
 induction r with
 | nil=>rfl
 | cons h t ih=>rw [List.any_cons,List.any_cons,ih,h.1]
theorem KV.repl {kvs:List (κ×V)}{vs:List (κ×Value)} (r:KV kvs vs) (k:κ) {y:V}{u:Value} (ry:RelV y u) :
  KV (kvs.map fun kv=>if kv.1=k then (kv.1,y) else kv) (vs.map fun kv=>if kv.1=k then (kv.1,u) else kv):=by
 unfold KV at r ⊢
 induction r with
 | nil=>exact .nil
 | @cons p q ps qs h t ih =>
  rw [ý,ý]
  refine .cons ?_ ih
  obtain⟨h1,h2⟩:=h
  by_cases e:p.1=k
  ·rw [if_pos e,if_pos (h1.symm.trans e)]; exact⟨h1,ry⟩
  ·rw [if_neg e,if_neg (fun z=>e (h1.trans z))]; exact⟨h1,h2⟩
theorem KV.put {kvs:List (κ×V)}{vs:List (κ×Value)} (r:KV kvs vs) (k:κ) {y:V}{u:Value} (ry:RelV y u):KV (putK kvs k y) (stored vs k u):=by
 unfold putK stored
 rw [r.any k]
 by_cases e:(vs.any fun kv=>decide (kv.1=k))=true
 ·rw [if_pos e,if_pos e]; exact r.repl k ry
 ·rw [if_neg e,if_neg e]; exact Paired.snoc r ⟨rfl,ry⟩
theorem KV.keys {kvs:List (κ×V)}{vs:List (κ×Value)} (r:KV kvs vs):kvs.map (·.1)=vs.map (·.1):=by
 unfold KV at r
 induction r with
 | nil=>rfl
 | cons h t ih=>rw [ý,ý,ih,h.1]
theorem KV.length {kvs:List (κ×V)}{vs:List (κ×Value)} (r:KV kvs vs):kvs.length=vs.length:=Paired.length r
end
theorem zY {P:Program}{w:World}{k:Key}{u:Value} (r:RelV (kV k) u):(bf P w).is k u=true:=by
 cases k with
 | inl i=>obtain⟨t,e⟩:=(show ∃ t,u=Ŕ i t from r); subst e; exact zN P w i t
 | inr x=>obtain⟨t,e⟩:=(show ∃ t,u=Value.str x t from r); subst e; exact zM P w x t
theorem vp {P:Program}{w:World}:∀ {ks:List Key}{us:List Value},Vals (ks.map kV) us->ItemsAre (bf P w) ks us
 | [],_,r=>by rw [List.map_nil] at r; cases r; exact .nil
 | k::ks,_,r=>by
  rw [ý] at r
  cases r with
  | cons h t=>exact .cons (zY h) (vp t)
abbrev KT (H:Hp):List (List Key×V)->List (List Key×Addr×Value)->Prop:=Paired fun p q=>p.1=q.1/\H q.2.1=some (.tup (p.1.map kV))/\RelV p.2 q.2.2
theorem KT.val {H:Hp}{kvs:List (List Key×V)}{xs:List (List Key×Addr×Value)} (r:KT H kvs xs) (k:List Key):uE (iK kvs k) ((atKey xs k).map (·.2)):=by
 induction r with
 | nil=>exact Ş
 | @cons p q ps qs h t ih =>
  obtain⟨h1,_,h2⟩:=h
  by_cases e:p.1=k
  ·have e':q.1=k:=h1.symm.trans e
   have b:atKey (q::qs) k=some q.2:=by simp [atKey,Ň,e']
   rw [lD e,b]; exact h2
  ·have e':¬ q.1=k:=fun z=>e (h1.trans z)
   have b:atKey (q::qs) k=atKey qs k:=by simp [atKey,Ň,e']
   rw [rE e,b]; exact ih
theorem KT.repl {H:Hp}{kvs:List (List Key×V)}{xs:List (List Key×Addr×Value)} (r:KT H kvs xs) (k:List Key) {y:V}{u:Value} (ry:RelV y u) :
  KT H (kvs.map fun kv=>if kv.1=k then (kv.1,y) else kv) (xs.map (putAt k u)):=by
 induction r with
 | nil=>exact .nil
 | @cons p q ps qs h t ih =>
  rw [ý,ý]
  refine .cons ?_ ih
  obtain⟨h1,h2,h3⟩:=h
  unfold putAt
  by_cases e:p.1=k
  ·rw [if_pos e,if_pos (h1.symm.trans e)]; exact⟨h1,h2,ry⟩
  ·rw [if_neg e,if_neg (fun z=>e (h1.trans z))]; exact⟨h1,h2,h3⟩
theorem KT.put {H:Hp}{kvs:List (List Key×V)}{xs:List (List Key×Addr×Value)} (r:KT H kvs xs) (k:List Key) {b:Addr}{y:V}{u:Value} (hb:H b=some (.tup (k.map kV))) (ry:RelV y u) :
  KT H (putK kvs k y) (storedH xs k b u):=by
 have e:(kvs.any fun kv=>decide (kv.1=k))=(atKey xs k).isSome:=by
  rw [yI,(r.val k).oZ,Option.isSome_map]
 unfold putK storedH
 rw [e]
 by_cases q:(atKey xs k).isSome=true
 ·rw [if_pos q,if_pos q]; exact r.repl k ry
 ·rw [if_neg q,if_neg q]; exact Paired.snoc r ⟨rfl,hb,ry⟩
theorem KT.keeps {H H':Hp}{kvs:List (List Key×V)}{xs:List (List Key×Addr×Value)} (r:KT H kvs xs) (ht:∀ b ys,H b=some (.tup ys)->H' b=some (.tup ys)):KT H' kvs xs :=
 Paired.G3 r fun _ _ z=>⟨z.1,ht _ _ z.2.1,z.2.2⟩
section
variable {P:Program}{w:World}{H:Hp}{h:Heap}{a:Addr}
theorem P0 {u:HO} (ok:HOk P w H h) (e:Rd H a u):aP P w H h a u:=e.ok ok
theorem FT {kvs:List (Key×V)} (ok:HOk P w H h) (e:Rd H a (.dK kvs)):kvs.length<=sizeLine/\(a == sysModules)=false/\∃ vs,KV kvs vs/\h.DictOf (bf P w) a vs :=
 show aP P w H h a (.dK kvs) from P0 ok e
theorem Li {kvs:List (Key×V)} (ok:HOk P w H h) (e:H a=some (.dK kvs)):kvs.length<=sizeLine/\(a == sysModules)=false/\∃ vs,KV kvs vs/\h.DictOf (bf P w) a vs:=FT ok (.inl e)
theorem xO {ks:List Key} (ok:HOk P w H h) (e:H a=some (.tup (ks.map kV))):(tupleKind (bf P w)).is h ks a:=by
 obtain⟨_,its,r,o,h1,h2,n,h3⟩:=(show aP P w H h a (.tup (ks.map kV)) from ok a _ e)
 exact⟨o,its.toArray,n,h1,h2,h3,by simpa using vp r⟩
theorem FQ {kvs:List (List Key×V)} (ok:HOk P w H h) (e:Rd H a (.dT kvs)):kvs.length<=sizeLine/\(a == sysModules)=false /\
  ∃ xs,KT H kvs xs/\h.DictOfH (tupleKind (bf P w)) a xs:=by
 obtain⟨z,y,xs,r,o,es,ep,h1,h2,h3,h4,h5⟩:=(show aP P w H h a (.dT kvs) from P0 ok e)
 refine⟨z,y,xs,r,o,es,ep,h1,h2,h3,h4,fun x hx=>?_,h5⟩
 have all:∀ {l:List (List Key×V)}{m:List (List Key×Addr×Value)},KT H l m->∀ x∈m,(tupleKind (bf P w)).is h x.1 x.2.1:=by
  intro l m q
  induction q with
  | nil=>intro x hx; exact nomatch hx
  | @cons p q ps qs hq t ih =>
   intro x hx
   rcases Þ.mp hx with e | hx
   ·subst e
    exact xO ok (by rw [← hq.1]; exact hq.2.1)
   ·exact ih x hx
 exact all r x hx
theorem Vu {kvs:List (List Key×V)} (ok:HOk P w H h) (e:H a=some (.dT kvs)):kvs.length<=sizeLine/\(a == sysModules)=false /\
  ∃ xs,KT H kvs xs/\h.DictOfH (tupleKind (bf P w)) a xs:=FQ ok (.inl e)
end
def yC (H:Hp) (a:Addr) (y:V) (r:Option V):Prop :=
 (∃ kvs k,Rd H a (.dK kvs)/\y=kV k/\r=iK kvs k)\/∃ kvs k b,Rd H a (.dT kvs)/\y=.ref b/\H b=some (.tup (k.map kV))/\r=iK kvs k
def Mi (H:Hp) (a:Addr) (y v:V) (H':Hp):Prop :=
 (∃ kvs k,H a=some (.dK kvs)/\y=kV k/\kvs.length<sizeLine/\H'=upd H a (.dK (putK kvs k v))) ∨
 ∃ kvs k b,H a=some (.dT kvs)/\y=.ref b/\H b=some (.tup (k.map kV))/\kvs.length<sizeLine/\H'=upd H a (.dT (putK kvs k v))
theorem yC.k {H:Hp}{a:Addr}{kvs:List (Key×V)}{k:Key} (e:H a=some (.dK kvs)):yC H a (kV k) (iK kvs k):=.inl ⟨kvs,k,.inl e,rfl,rfl⟩
theorem Mi.k {H:Hp}{a:Addr}{kvs:List (Key×V)}{k:Key}{v:V} (e:H a=some (.dK kvs)) (hl:kvs.length<sizeLine):Mi H a (kV k) v (upd H a (.dK (putK kvs k v))):=.inl ⟨kvs,k,e,rfl,hl,rfl⟩
section
variable {X:Cx}{pins:List (Addr×Obj)}{σ:St}{H:Hp}{s:Shared}{a:Addr}{y v:V}{u r:Value}{o:Option V}{A:Around}{E:Value->Shared->Prop}
theorem Inv.big (I:Inv X pins σ H s):sysModules<s.heap.objs.size:=by
 have h:mainGlobals<s.heap.objs.size:=(I.mod.glob.keeps I.bk).lt
 exact Nat.lt_trans (by decide) h
theorem Hv {Q:Value->Shared->Prop} (hu:A.units+1<cLine) (I:Inv X pins σ H s) (g:yC H a y (some v)) (ry:RelV y u) (h:∀ w' s',Inv X pins σ H s'->RelV v w'->Q w' s') :
  wpAny (model X.prog X.w) A (getItem (.ref a) u) Q E s:=by
 rcases g with ⟨kvs,k,e,ey,l⟩ | ⟨kvs,k,b,e,ey,eb,l⟩
 ·subst ey
  obtain⟨z,hd,vs,rel,dd⟩:=FT I.hok e
  obtain⟨w',hw,rw'⟩:=uE.some_of (v:=v) (o:=valueAt vs k) (by rw [l]; exact rel.val k)
  exact wpAny_getItem_of (zY ry) dd.mapOf hw (h w' _ (I.tok _) rw')
 ·subst ey
  cases (show u=Ā b from ry)
  obtain⟨z,hd,xs,rel,dd⟩:=FQ I.hok e
  obtain⟨w',hw,rw'⟩:=uE.some_of (v:=v) (o:=(atKey xs k).map (·.2)) (by rw [l]; exact rel.val k)
  obtain⟨p,hp,hp2⟩:=Option.map_eq_some_iff.mp hw
  refine wpAny_getItem_heap (tupleKind_room_in1 hu) (xO I.hok eb) dd hp ?_
  rw [hp2]
  exact h w' _ (I.tok _) rw'
theorem Pg {Q:Value->Shared->Prop} (hu:A.units+1<cLine) (I:Inv X pins σ H s) (g:yC H a y o) (ry:RelV y u) (h:∀ s',Inv X pins σ H s'->Q (.bool (!o.isSome)) s') :
  wpAny (model X.prog X.w) A (compareOp .NotIn u (.ref a)) Q E s:=by
 rcases g with ⟨kvs,k,e,ey,l⟩ | ⟨kvs,k,b,e,ey,eb,l⟩
 ·subst ey
  obtain⟨z,hd,vs,rel,dd⟩:=FT I.hok e
  refine wpAny_notIn_of (zY ry) hd dd.mapOf ?_
  rw [← (rel.val k).oZ,← l]
  exact h _ (I.tok _)
 ·subst ey
  cases (show u=Ā b from ry)
  obtain⟨z,hd,xs,rel,dd⟩:=FQ I.hok e
  refine wpAny_notIn_heap (tupleKind_room_in1 hu) (xO I.hok eb) hd dd ?_
  have q:=(rel.val k).oZ
  rw [Option.isSome_map] at q
  rw [← q,← l]
  exact h _ (I.tok _)
theorem yh {h':Heap}{t':Nat}{ob:HO} (I:Inv X pins σ H s) (mu:Mut (H a)) (hs:Heap.SameBut a s.heap h') (he:∃ q,h'.get? a=some q) (new:aP X.prog X.w (upd H a ob) h' a ob) :
  Inv X pins σ (upd H a ob) { s with heap:=h',toks:=t' } :=
 I.write (x:=a) (e:=a) mu (.inl rfl) (fun b q hb z=>(hs.2 b hb).trans z) he new
theorem Lj {P:Program}{w:World}{H':Hp}{h':Heap}{kvs:List (Key×V)}{vs:List (Key×Value)} (z:kvs.length<=sizeLine) (hd:(a == sysModules)=false) (rel:KV kvs vs) (dd:h'.DictOf (bf P w) a vs) :
  aP P w H' h' a (.dK kvs):=⟨z,hd,vs,rel,dd⟩
theorem Hu {H':Hp}{Q:Unit->Shared->Prop} (hu:A.units+1<cLine) (I:Inv X pins σ H s) (g:Mi H a y v H') (ry:RelV y u) (rv:RelV v r) (h:∀ s',Inv X pins σ H' s'->Q () s') :
  wpAny (model X.prog X.w) A (setItem (.ref a) u r) Q E s:=by
 rcases g with ⟨kvs,k,e,ey,l,eH⟩ | ⟨kvs,k,b,e,ey,eb,l,eH⟩
 ·subst ey eH
  obtain⟨z,hd,vs,rel,dd⟩:=Li I.hok e
  have hz:vs.length<=sizeLine:=by rw [← rel.length]; exact z
  have hl:(putK kvs k v).length<=sizeLine:=by have:=jq kvs k v; omega
  refine wpAny_setItem_pairs (hsz:=hz) (zY ry) dd fun h' dd' hs=>h _ ?_
  have he:∃ q,h'.get? a=some q:=let ⟨q,_,_,hq,_⟩:=dd'; ⟨q,hq⟩
  exact yh I (by rw [e]; exact Ş) hs he (Lj hl hd (rel.put k rv) dd')
 ·subst ey eH
  cases (show u=Ā b from ry)
  obtain⟨z,hd,xs,rel,dd⟩:=Vu I.hok e
  have hz:xs.length<=sizeLine:=by rw [← Paired.length rel]; exact z
  have hl:(putK kvs k v).length<=sizeLine:=by have:=jq kvs k v; omega
  refine wpAny_setItem_heap (hsz:=hz) (tupleKind_room_in1 hu) (xO I.hok eb) dd fun h' dd' hs=>h _ ?_
  obtain⟨q,es,ep,hq,h2,h3,h4,_,h5⟩:=dd'
  refine yh I (by rw [e]; exact Ş) hs ⟨q,hq⟩ ⟨hl,hd,_,(rel.put k eb rv).keeps fun c ys ec=>?_,q,es,ep,hq,h2,h3,h4,h5⟩
  rw [aj (Vb ec e (fun z=>nomatch z))]
  exact ec
end
section
variable {X:Cx}{pins:List (Addr×Obj)}{σ:St}{H:Hp}{s:Shared}{a:Addr}{kvs:List (Key×V)}{k:Key}{u:Value}{A:Around}{E:Value->Shared->Prop}
end
def Py (i:Expr):Prop:=∀ ov iv,subscripted i false ov iv=operate [ov,iv] (getItem ov iv)
theorem Mv {prog:Program}{w:World}{A:Around}{E:Value->Shared->Prop}{s:Shared}{env:Env}{value slice:Expr}{pos:Pos}{T id:String}{Q:Value->Shared->Prop}
  (hl:typeLookup (.type T) "__getitem__"=pure (some (.builtin id))) (hs:Py slice)
  (h:wpAny (model prog w) A (eval value env) (fun o s₁=>wpAny (model prog w) A (eval slice env) (fun i s₂=>s₂.TypeIs o T/\wpAny (model prog w) A (getItem o i) Q E s₂) E s₁) E s) :
  wpAny (model prog w) A (eval (.Subscript value slice pos) env) Q E s:=by
 refine Subscript_ (Ĳ h (fun o s₁ h₁=>Ĳ h₁ (fun i s₂ h₂=>?_) fun _ _ x=>x) fun _ _ x=>x)
 obtain⟨hT,h₂⟩:=h₂
 unfold subscriptTail
 refine Â ?_
 rw [getitemInPython_of_ne hT.not_modules]
 refine Â (wpAny_specialOf hT hl ?_)
 have fin:wpAny (model prog w) A (subscripted slice false o i) (fun r s₃=>wpAny (model prog w) A (letTemporaryGo value o r >>= fun _=>pure r) Q E s₃) E s₂:=by
  rw [hs o i]
  exact wpAny_operating (Ĳ h₂ (fun r s₃ h₃=>Â (wpAny_letTemporaryGo (Ë h₃))) fun _ _ x=>x)
 first
  | exact Ë (Â fin)
  | exact Â (Ë (Â fin))
  | exact Â fin
theorem Am {X:Cx}{pins:List (Addr×Obj)}{σ:St}{H:Hp}{s:Shared}{a:Addr}{y:V}{o:Option V} (I:Inv X pins σ H s) (g:yC H a y o):s.TypeIs (.ref a) "dict":=by
 rcases g with ⟨kvs,k,e,_,_⟩ | ⟨kvs,k,b,e,_,_,_⟩
 ·obtain⟨_,_,vs,_,dd⟩:=FT I.hok e
  exact dd.typeIs
 ·obtain⟨_,_,xs,_,dd⟩:=FQ I.hok e
  exact dd.typeIs
def Ue (td ty:TE):TE:=fun σ H Q=>td σ H fun x H1=>ty σ H1 fun y H2=>∃ a v,x=.ref a/\yC H2 a y (some v)/\Q v H2
def Ef (ty td:TE):TE:=fun σ H Q=>ty σ H fun y H1=>td σ H1 fun x H2=>∃ a o,x=.ref a/\yC H2 a y o/\Q (.bl (!o.isSome)) H2
def PX (td ty tv:TE):TS:=fun D σ H=>tv σ H fun v H1=>td σ H1 fun x H2=>ty σ H2 fun y H3=>∃ a H4,x=.ref a/\Mi H3 a y v H4/\D.nx σ H4
section
variable {X:Cx}{o i e value:Expr}{pos pos' tpos:Pos}{td ty tv:TE}
theorem Nm (hu:X.A.units+1<cLine) (ho:PE X o td) (hi:PE X i ty) (hs:Py i):PE X (.Subscript o i pos) (Ue td ty):=by
 intro pins s σ H Q I h
 refine Mv PySem.F.slot_dict_getitem.lookup hs (thn (ho pins s σ H _ I h) fun u s1 ⟨x,H1,I1,rx,q1⟩=>thn (hi pins s1 σ H1 _ I1 q1) fun iv s2 ⟨y,H2,I2,ry,a,v,ex,g,q2⟩=>?_)
 subst ex
 obtain rfl:u=Ā a:=rx
 exact⟨Am I2 g,Hv hu I2 g ry fun w' s3 I3 rw'=>⟨v,H2,I3,rw',q2⟩⟩
theorem GJ (hu:X.A.units+1<cLine) (hi:PE X i ty) (ho:PE X o td):PC X .NotIn i o (Ef ty td):=by
 intro pins s σ H Q I h
 refine thn (hi pins s σ H _ I h) fun iv s1 ⟨y,H1,I1,ry,q1⟩=>thn (ho pins s1 σ H1 _ I1 q1) fun u s2 ⟨x,H2,I2,rx,a,ov,ex,g,q2⟩=>?_
 subst ex
 obtain rfl:u=Ā a:=rx
 exact Pg hu I2 g ry fun s3 I3=>⟨.bl (!ov.isSome),H2,I3,rfl,q2⟩
theorem M8 (hu:X.A.units+1<cLine) (ho:PE X o td) (hi:PE X i ty) (hv:PE X value tv) (hs:swapsWith value (some (.Subscript o i pos')) pos.line X.env=pure false) :
  PS X (.Assign [.Subscript o i pos'] value pos) (PX td ty tv):=by
 intro pins s σ H D I h
 refine wpAny_Assign_Subscript (thn (hv pins s σ H _ I h) fun r s1 ⟨v,H1,I1,rv,q1⟩=>thn (ho pins s1 σ H1 _ I1 q1) fun u s2 ⟨x,H2,I2,rx,q2⟩=>thn (hi pins s2 σ H2 _ I2 q2) fun iv s3 ⟨y,H3,I3,ry,a,H4,ex,g,q3⟩=>?_) hs
 subst ex
 obtain rfl:u=Ā a:=rx
 exact Hu hu I3 g ry rv fun s4 I4=>⟨σ,H4,I4,q3⟩
end
theorem Al {P:Program}{w:World}{H:Hp} (h:Heap) (hb:sysModules<h.objs.size):aP P w H (h.push { cls:=.type "dict",data:=.dict #[] }) h.objs.size (.dK []) :=
 ⟨Ě _,beq_eq_false_iff_ne.mpr (Ć (à hb)),[],.nil,Heap.DictOf.new h⟩
def QM:TE:=fun _ H Q=>∀ p,H p=none->Q (.ref p) (upd H p (.dK []))
section
variable {X:Cx}{pos:Pos}
theorem JG:PE X (.Dict [] [] pos) QM:=fun pins s σ H Q I h =>
 wpAny_Dict_empty ⟨.ref s.heap.objs.size,_,I.laid (a:=s.heap.objs.size) (o:=.dK []) (t':=s.toks) (fun _ _ q=>Ì _ q) (Ö _) (Al s.heap I.big),rfl,h _ (I.hok.fresh (Ö _))⟩
end
def Br:List (TE×TE)->St->Hp->(List (V×V)->Hp->Prop)->Prop
 | [],_,H,Q=>Q [] H
 | (tk,tv)::r,σ,H,Q=>tk σ H fun x H1=>tv σ H1 fun y H2=>Br r σ H2 fun ps H3=>Q ((x,y)::ps) H3
abbrev VV:List (V×V)->List (Value×Value)->Prop:=Paired fun p q=>RelV p.1 q.1/\RelV p.2 q.2
def PPs (X:Cx) (pos:Pos) (keys:List (Option Expr)) (values:List Expr) (trs:List (TE×TE)):Prop :=
 ∀ (pins:List (Addr×Obj)) (s:Shared) (σ:St) (H:Hp) (Q:List (V×V)->Hp->Prop),Inv X pins σ H s->Br trs σ H Q ->
  wpAny (model X.prog X.w) X.A (evalPairs (pairTrees keys values X.env pos)) (fun vs s'=>∃ ps H',Inv X pins σ H' s'/\VV ps vs/\Q ps H') X.xe s
theorem M9 {X:Cx}{pos:Pos}:PPs X pos [] [] []:=fun pins s σ H Q I h=>pairTrees_nil_walk ⟨[],H,I,.nil,h⟩
theorem Jt {X:Cx}{pos:Pos}{k v:Expr}{ks:List (Option Expr)}{vs:List Expr}{tk tv:TE}{trs:List (TE×TE)} (hk:PE X k tk) (hv:PE X v tv) (hr:PPs X pos ks vs trs) :
  PPs X pos (some k::ks) (v::vs) ((tk,tv)::trs):=fun pins s σ H Q I h =>
 pairTrees_cons_walk (thn (hk pins s σ H _ I h) fun u s1 ⟨x,H1,I1,rx,q1⟩=>thn (hv pins s1 σ H1 _ I1 q1) fun w2 s2 ⟨y,H2,I2,ry,q2⟩ =>
  thn (hr pins s2 σ H2 _ I2 q2) fun ws s3 ⟨ps,H3,I3,rel,q3⟩=>⟨(x,y)::ps,H3,I3,.cons ⟨rx,ry⟩ rel,q3⟩)
def tH (kvs more:List (Key×V)):List (Key×V):=more.foldl (fun acc kv=>putK acc kv.1 kv.2) kvs
theorem KV.merge:∀ {more:List (Key×V)}{rs:List (Key×Value)}{kvs:List (Key×V)}{vs:List (Key×Value)},KV more rs->KV kvs vs->KV (tH kvs more) (merged vs rs):=by
 intro more rs kvs vs r
 unfold KV at r
 induction r generalizing kvs vs with
 | nil=>intro q; exact q
 | @cons p q ps qs h t ih =>
  intro r0
  have e:KV (putK kvs p.1 p.2) (stored vs q.1 q.2):=by
   have:=r0.put p.1 h.2
   rw [← h.1]; exact this
  exact ih e
theorem j6:∀ (more kvs:List (Key×V)),(tH kvs more).length<=kvs.length+more.length
 | [],kvs=>by show kvs.length<=kvs.length+0; omega
 | p::r,kvs=>by
  have h1:=j6 r (putK kvs p.1 p.2)
  have h2:=jq kvs p.1 p.2
  show (tH (putK kvs p.1 p.2) r).length<=_
  rw [ĉ]; omega
theorem uy {P:Program}{w:World}:∀ {kvs:List (Key×V)}{ws:List (Value×Value)},VV (kvs.map fun kv=>(kV kv.1,kv.2)) ws->∃ rs,Carries (bf P w) ws rs/\KV kvs rs
 | [],_,r=>by rw [List.map_nil] at r; cases r; exact⟨[],Ş,.nil⟩
 | p::kvs,_,r=>by
  rw [ý] at r
  cases r with
  | @cons a b as bs h t =>
   obtain⟨rs,c,q⟩:=uy (P:=P) (w:=w) t
   obtain⟨b1,b2⟩:=b
   exact⟨(p.1,b2)::rs,⟨zY h.1,rfl,c⟩,.cons ⟨rfl,h.2⟩ q⟩
def Ud (trs:List (TE×TE)):TE:=fun σ H Q=>∀ p,H p=none->Br trs σ (upd H p (.dK [])) fun ps H2=>H2 p=some (.dK [])/\∃ kvs:List (Key×V),ps=kvs.map (fun kv=>(kV kv.1,kv.2))/\kvs.length<=15/\Q (.ref p) (upd H2 p (.dK (tH [] kvs)))
theorem Nk {X:Cx}{pos:Pos}{keys:List (Option Expr)}{values:List Expr}{trs:List (TE×TE)} (h:PPs X pos keys values trs) (hall:keys.all (·.isSome)=true) (hl:keys.length=values.length) (h0:keys≠[])
  (h15:keys.length<=15):PE X (.Dict keys values pos) (Ud trs):=by
 intro pins s σ H Q I q
 have hn:=I.hok.fresh (Ö s.heap.objs.size)
 have I1:=I.laid (a:=s.heap.objs.size) (o:=.dK []) (h':=s.heap.push { cls:=.type "dict",data:=.dict #[] }) (t':=s.toks) (fun _ _ q=>Ì _ q) (Ö _) (Al s.heap I.big)
 refine wpAny_Dict_walk (knd:=bf X.prog X.w) hall hl h0 h15 (thn (h pins _ σ _ _ I1 (q _ hn)) fun ws s2 ⟨ps,H2,I2,rel,e,kvs,ep,lk,q2⟩=>?_)
 subst ep
 obtain⟨rs,c,rk⟩:=uy (P:=X.prog) (w:=X.w) rel
 obtain⟨z,hd,vs0,r0,dd⟩:=Li I2.hok e
 cases r0
 refine⟨rs,c,dd,fun h' dd' hs=>⟨.ref s.heap.objs.size,_,?_,rfl,q2⟩⟩
 have hz:(tH [] kvs).length<=sizeLine:=by
  have h1:=j6 kvs []
  rw [List.length_nil] at h1
  rw [ø]; omega
 have he:∃ q,h'.get? s.heap.objs.size=some q:=let ⟨q,_,_,hq,_⟩:=dd'; ⟨q,hq⟩
 exact yh I2 (by rw [e]; exact Ş) hs he (Lj hz hd (rk.merge .nil) dd')
structure M1 (X:Cx) (o:Expr) (m:Str) (apos:Pos) (e:Expr) (cpos:Pos):Prop where
 base:attributeBase o m X.env (eval o X.env)=eval o X.env
 few:((backTo cpos (starEach [e] X.env)).all (fun x=>!x.1)&&(backToKw cpos (keywordEach [] X.env)).all (fun x=>x.1.isSome)
 &&decide (([e]:List Expr).length+([]:List Keyword).length+(if ([]:List Keyword).isEmpty then 0 else 1)<30))=true
 line:(apos.endLine == cpos.line)=true
 trees:backTo cpos (starEach [e] X.env)=[(false,eval e X.env)]
structure M2 (X:Cx) (o:Expr) (m:Str) (apos:Pos) (e f:Expr) (cpos:Pos):Prop where
 base:attributeBase o m X.env (eval o X.env)=eval o X.env
 few:((backTo cpos (starEach [e,f] X.env)).all (fun x=>!x.1)&&(backToKw cpos (keywordEach [] X.env)).all (fun x=>x.1.isSome)
 &&decide (([e,f]:List Expr).length+([]:List Keyword).length+(if ([]:List Keyword).isEmpty then 0 else 1)<30))=true
 line:(apos.endLine == cpos.line)=true
 trees:backTo cpos (starEach [e,f] X.env)=[(false,eval e X.env),(false,eval f X.env)]
section
variable {X:Cx}{pins:List (Addr×Obj)}{σ:St}{H:Hp}{s:Shared}{a:Addr}{y d:V}{u r:Value}{o:Option V}{A:Around}{E:Value->Shared->Prop}
end
section
variable {X:Cx}{o e f:Expr}{apos cpos:Pos}{td ty tx:TE}
end
section
variable {X:Cx}{pins:List (Addr×Obj)}{σ:St}{H:Hp}{s:Shared}{a:Addr}{kvs:List (Key×V)}{A:Around}{E:Value->Shared->Prop}
end
section
variable {X:Cx}{pins:List (Addr×Obj)}{σ:St}{H:Hp}{s:Shared}{a:Addr}{y:V}{u:Value}{A:Around}{E:Value->Shared->Prop}
end
section
variable {prog:Program}{w:World}{A:Around}{E:Value->Shared->Prop}{s:Shared}
theorem Ay {T:String}{r d:Addr}{n:Nat}{P:Nat->Value->Prop}{OK:Heap->Prop}{R:List Value->Shared->Prop} (K:W.KdlSrc prog w T r d n P OK) (hh:A.handled=none) (hok:OK s.heap) (hn:n<=sizeLine)
  (h:∀ (h':Heap) (tk:Nat) (acc:Array Value),s.heap.objs.size<h'.objs.size->(∀ b o,s.heap.get? b=some o->h'.get? b=some o)->ItemsOf P acc n->R acc.toList { s with heap:=h',toks:=tk }) :
  wpAny (model prog w) A (collect (.ref r)) R E s:=by
 have hlt:=K.there _ hok
 unfold collect
 refine Â (wpAny_runValue (ű entry_proto_collect' ?_))
 rw [Around.under_plainId PySem.F.plain_proto_collect _]
 show wpAny _ A.in1 (newList [] >>= fun l=>again (.builtin "list.__iadd__" ⟨[l,.ref r],[]⟩)) _ _ s
 refine Â (ļ ?_)
 refine Ë ⟨plainId_quiet PySem.F.plain_list_iadd _,ű entry_list_iadd' ?_⟩
 rw [Around.under_plainId PySem.F.plain_list_iadd _]
 have hS₁:(s.heap.push { cls:=.type "list",data:=.seq ([]:List Value).toArray }).get? s.heap.objs.size=some { cls:=.type "list",data:=.seq #[] }:=Û _ rfl
 show wpAny _ A.in1 (Ĝ (.ref s.heap.objs.size) (.ref r) (.ref s.heap.objs.size)) _ _ _
 have key:=W.kdl_extend (A:=A) (s:={ s with heap:=s.heap.push { cls:=.type "list",data:=.seq ([]:List Value).toArray } }) K
  (R:=fun (q:Result) (s':Shared)=>∃ (h':Heap) (tk:Nat) (acc':Array Value) (c':Nat),q=.ok (.ret (.ref s.heap.objs.size))/\s'={ s with heap:=h',toks:=tk } /\
   (∀ b o,s.heap.get? b=some o->h'.get? b=some o)/\h'.get? s.heap.objs.size=some { cls:=.type "list",dict:=none,data:=.seq acc' c',slots:=#[] }/\ItemsOf P acc' n)
  hh (K.keep _ _ hok fun b _ o e=>Ì _ e) s.heap.objs.size (Ī hlt.1) (Ī hlt.2) (.ref s.heap.objs.size) 0 hS₁
  (fun h' tk acc' c' hk hS' hacc=>⟨h',tk,acc',c',rfl,rfl,fun b o e=>hk b o (à (Ê e)) (Ì _ e),hS',hacc⟩) hn
 refine Ĳ key (fun fin s' x=>?_) fun e s' x=>?_
 ·cases fin with
  | done f =>
   obtain⟨h',tk,acc',c',e,rfl,hk,hS',hacc⟩:=x
   cases e
   show wpAny _ A (load s.heap.objs.size >>= _) _ _ _
   refine Â (wpAny_load hS' ?_)
   exact Ë (h h' tk acc' (Ê hS') hk hacc)
  | again c₁ =>
   refine⟨x.1,codeAny_mono x.2 fun q s₂ y=>?_⟩
   obtain⟨h',tk,acc',c',rfl,rfl,hk,hS',hacc⟩:=y
   show wpAny _ A (load s.heap.objs.size >>= _) _ _ _
   refine Â (wpAny_load hS' ?_)
   exact Ë (h h' tk acc' (Ê hS') hk hacc)
 ·obtain⟨_,_,_,_,e',_⟩:=x
  cases e'
theorem Bx {T:String}{r d:Addr}{n:Nat}{P:Nat->Value->Prop}{OK:Heap->Prop}{Q:Value->Shared->Prop}{ns:List Int} (K:W.KdlSrc prog w T r d n P OK) (hh:A.handled=none) (hok:OK s.heap) (hn:n<64)
  (hP:∀ us:List Value,us.length=n->(∀ j v,us[j]?=some v->P j v)->IntsAre us ns)
  (h:∀ (h':Heap) (tk:Nat) (D:Addr) (e:Nat) (out:Array Value) (ns':List Int),s.heap.objs.size<=D->(∀ b o,s.heap.get? b=some o->h'.get? b=some o)->h'.get? D=some { cls:=.type "list",data:=.seq out e }->IntsAre out.toList ns'->ns'.Perm ns->ns'.Pairwise (·<=·)->Q (.ref D) { s with heap:=h',toks:=tk }) :
  wpAny (model prog w) A (call (.builtin "sorted") [.ref r]) Q E s:=by
 have h24:=ø
 refine Calls.call_function_entry kind_sorted plain_sorted entry_sorted (args_sorted1 _) ?_
 unfold Builtin.«sorted»
 refine Â (m:=checkCount "sorted" 1 1 _) (Ë ?_)
 refine Â (Ay (A:=A.in1) K hh hok (by omega) fun h1 tk acc hsz hk hacc=>?_)
 have hlen:acc.toList.length=n:=by rw [Ď]; exact hacc.1
 have hI:IntsAre acc.toList ns:=hP acc.toList hlen fun j v e=>hacc.2 j v (by rw [← Array.getElem?_toList]; exact e)
 have hz:s.heap.objs.size<=h1.objs.size:=Nat.le_of_lt hsz
 refine Â (wpAny_newList ?_ (by omega))
 have hoL:(h1.push (seqObj "list" acc.toList.toArray 0)).get? h1.objs.size=some (seqObj "list" acc.toList.toArray 0):=Û _ rfl
 refine Â (ă (ī slot_list_sort ⟨_,hoL,rfl⟩ entry_list_sort (list_sort_tree hoL hI (by omega) fun out ns' a1 a2 a3=>⟨_,rfl,?_⟩) (args_list_sort _)))
 obtain⟨e,he⟩:=sortedHeap_at (out:=out) hoL
 refine Ë ⟨_,rfl,h _ tk h1.objs.size e out ns' hz (fun b o q=>?_) he a1 a2 a3⟩
 have q1:=hk b o q
 have hlt:b<h1.objs.size:=Ê q1
 rw [sortedHeap_old (à hlt) (by rw [size_push']; exact ď hlt)]
 exact Ì _ q1
end
section
variable {X:Cx}
theorem yt:bA X (.builtin "sorted") (fun xs H Q=>∃ (p:Addr) (ns:List Int),xs=[.ref p]/\SqL X.K H p (ns.map V.int)/\ns.length<64 /\
  ∀ (l:Addr) (out:List Int),H l=none->out.Perm ns->out.Pairwise (·<=·)->Q (.ref l) (upd H l (.lst (out.map V.int)))):=by
 intro pins s σ H xs us Q I r h
 obtain⟨p,ns,rfl,hp,h64,q⟩:=h
 obtain⟨u,rfl,rx⟩:=vals1 r
 cases rx
 obtain⟨its,rv,pl,hz⟩:=I.list hp
 have hI:IntsAre its ns:=intsAre_of rv
 have hl:=rv.length
 rw [Ä] at hl
 refine sorted_ints (vs:=its) (ns:=ns) pl.isList hI (by omega) fun out ns' a1 a2 a3=>?_
 obtain⟨e,he⟩:=sortedAll_at s.heap its out
 have hv:=jG a1
 have hlo:=hv.length
 rw [Ä] at hlo
 have hpl:=a2.length_eq
 have h24:=ø
 refine⟨.ref (s.heap.objs.size+1),upd H (s.heap.objs.size+1) (.lst (ns'.map V.int)),I.laid (t':=s.toks) (fun b o eb=>sortedAll_old eb) (Ņ _) ⟨?_,out.toList,e,hv,by simpa using he⟩,rfl,q _ _ (I.hok.fresh (Ņ _)) a2 a3⟩
 rw [Ä]
 omega
theorem G7 {P:Program}{w:World}{vs:List (Key×Value)}{ks:List Int} (hk:vs.map (·.1)=ks.map ó):∀ us:List Value,us.length=vs.length->(∀ (j:Nat) (v:Value),us[j]?=some v->∃ k x,vs[j]?=some (k,x)/\(bf P w).is k v=true)->IntsAre us ks:=by
 intro us
 induction us generalizing vs ks with
 | nil =>
  intro hl _
  have e:vs=[]:=List.eq_nil_of_length_eq_zero (by simpa using hl.symm)
  subst e
  cases ks with
  | nil=>exact .nil
  | cons k ks=>simp at hk
 | cons u us ih =>
  intro hl h
  cases vs with
  | nil=>simp at hl
  | cons v vs =>
   cases ks with
   | nil=>simp at hk
   | cons k ks =>
    rw [ý,ý] at hk
    injection hk with hk1 hk2
    obtain⟨k',x,e,is⟩:=h 0 u (by simp)
    simp at e
    subst e
    simp only at hk1
    subst hk1
    have is':tO (ó k) u=true:=is
    rcases aU is' with ⟨i,t,e1,e2⟩ | ⟨y,t,e1,e2⟩
    ·injection e1 with e1
     subst e1 e2
     exact .cons _ t (ih hk2 (by simpa using hl) fun j v hj=>by simpa using h (j+1) v (by simpa using hj))
    ·cases e1
theorem yu (hc:X.calm=true):bA X (.builtin "sorted") (fun xs H Q=>∃ (d:Addr) (kvs:List (Key×V)) (ks:List Int),xs=[.ref d]/\H d=some (.dK kvs)/\kvs.map (·.1)=ks.map ó/\ks.length<64 /\
  ∀ (l:Addr) (out:List Int),H l=none->out.Perm ks->out.Pairwise (·<=·)->Q (.ref l) (upd H l (.lst (out.map V.int)))):=by
 intro pins s σ H xs us Q I r h
 obtain⟨d,kvs,ks,rfl,hd,hks,h64,q⟩:=h
 obtain⟨u,rfl,rx⟩:=vals1 r
 cases rx
 obtain⟨hz,lo,vs,kv,o,es,ep,ho,hx,hda,hk1,hk2,hk3⟩:=Li I.hok hd
 have hm:s.heap.DictAt (bf X.prog X.w) d vs ep:=⟨o,es,ho,hx,hda,hk1,hk2,hk3⟩
 have hkeys:vs.map (·.1)=ks.map ó:=by rw [← KV.keys kv]; exact hks
 have hlv:vs.length=ks.length:=by have:=congrArg List.length hkeys; simpa using this
 refine Bx (ns:=ks) (W.kdl_dict (ep:=ep) lo) (I.ok.hd hc) hm (by omega) (fun us hl h=>G7 hkeys us hl h) fun h' tk D e out ns' hD hk he a1 a2 a3=>?_
 have hv:=jG a1
 have hpl:=a2.length_eq
 have h24:=ø
 refine⟨.ref D,upd H D (.lst (ns'.map V.int)),I.laid (fun b o eb=>hk b o eb) hD ⟨?_,out.toList,e,hv,by simpa using he⟩,rfl,q _ _ (I.hok.fresh hD) a2 a3⟩
 rw [Ä]
 omega
end
section
variable {X:Cx}
def iD (l:List Int):PyData:=.list (l.map È)
theorem Kr:∀ l:List Int,ĳ (l.map È)=true
 | []=>rfl
 | t::ts=>by
  show (PyData.canLay0 (È t)&&ĳ (ts.map È))=true
  rw [Kr ts]
  rfl
theorem Ao:∀ l:List Int,œ (l.map È)=0
 | []=>rfl
 | t::ts=>by
  show max (PyData.depth (È t)) (œ (ts.map È))=0
  rw [Ao ts]
  rfl
inductive DatL (K:Ü) (H:Hp):V->PyData->Prop
 | flt {a:Addr}{l:List Int}:SqL K H a (l.map V.int)->DatL K H (.ref a) (iD l)
 | lists {a:Addr}{as:List Addr}{ls:List (List Int)}:SqL K H a (as.map V.ref)->Paired (fun (a:Addr) (l:List Int)=>SqL K H a (l.map V.int)) as ls->DatL K H (.ref a) (.list (ls.map iD))
end
end L2
namespace PySem
open PyProof.Rows
def pK (h:Heap) (e:Addr):Prop:=∃ oe vs,h.get? e=some oe/\oe.data=.fields vs/\vs[2]?=some .none
section
variable {M:Model}{A:Around}{E:Value->Shared->Prop}{s:Shared}{base:Heap}{env:Env}{outer:List Env}{L e:Addr}{Q:Unit->Shared->Prop}
theorem pK.other {h:Heap}{T:Addr}{f:Obj->Obj} (x:pK h e) (ne:T≠e):pK (h.update T f) e:=by
 obtain⟨oe,vs,a,b,c⟩:=x
 exact⟨oe,vs,(ú _ _ ne).trans a,b,c⟩
theorem zJ {oe:Obj}{vs:Array Value}{hd a0:Value}{hn:Bool} (fr:A.frames=some (env::outer)) (fl:s.heap.FunFrames base (env::outer)) (ef:env.frame=some L) (ge:s.heap.get? e=some oe) (kb:base.StaysIn s.heap) (bn:base.get? e=none) (da:oe.data=.fields vs) (sz:1<vs.size) (v0:vs[0]?=some a0) (v2:vs[2]?=some .none)
  (q:∀ g,Heap.NotedW base (env::outer) e oe.cls a0 (rawInt L) s.heap g->pK g e->Q () { s with heap:=g }) :
  wpAny M A (do let a ← frameOf env; let pl ← entryPlaceOf L hn; let b ← EntryCells.newEntry hd a .none (rawInt L) .none pl; setField (.ref e) 1 b) Q E s:=by
 have ne:e∉(env::outer).filterMap (·.frame):=fun z=>by
  obtain⟨_,o,eo,nf⟩:=fl.mem z
  rw [ge] at eo
  cases eo
  exact nf vs da
 refine Â (wpAny_frameOf_fun fr fl ef fun g1 s1=>Â (wpAny_entryPlaceOf fun pl hp=>?_))
 unfold EntryCells.newEntry newFields
 refine Â (ļ ?_ (hp.sizeOk5 _ _ _ _ _))
 generalize eT:({ cls:=.type "traceback",dict:=none,data:=.fields ([hd,.ref L,.none,rawInt L,.none]++(if pl.isEmpty then Ñ 6 ċ else pl)).toArray }:Obj)=oT
 have dT:oT.data=.fields ([hd,.ref L,.none,rawInt L,.none]++(if pl.isEmpty then Ñ 6 ċ else pl)).toArray:=by rw [← eT]
 have g1e:g1.get? e=some oe:=(s1.2.1 e ne).trans ge
 have kb1:base.StaysIn g1:=fun b o eb=>(s1.2.1 b fun z=>by rw [(fl.mem z).1] at eb; cases eb).trans (kb b o eb)
 have g2e:(g1.push oT).get? e=some oe:=Ì _ g1e
 refine wpAny_setField g2e da sz ?_
 have nT:g1.objs.size≠e:=Ī (Ê g1e)
 have d3:=Obj.data_mapFields da (·.setIfInBounds 1 (Ā g1.objs.size))
 have e3:=ĝ (Obj.mapFields (·.setIfInBounds 1 (Ā g1.objs.size))) g2e (Obj.isFreed_of_fields d3)
 have nfT:oT.isFreed=false:=Obj.isFreed_of_fields dT
 have gT:((g1.push oT).update e (Obj.mapFields (·.setIfInBounds 1 (Ā g1.objs.size)))).get? g1.objs.size=some oT:=(ú _ _ (Ć nT)).trans (Û _ nfT)
 have keep:∀ b o,b≠e->g1.get? b=some o->((g1.push oT).update e (Obj.mapFields (·.setIfInBounds 1 (Ā g1.objs.size)))).get? b=some o:=fun b o nb eb=>(ú _ _ (Ć nb)).trans (Ì _ eb)
 have rec0:∀ b o,s.heap.get? b=some o->(∀ vs,o.data≠.fields vs)->b≠e:=fun b o eb nf z=>by
  rw [z,ge] at eb
  cases eb
  exact nf vs da
 refine q _ ⟨fun b o eb=>keep b o (fun z=>by rw [z,bn] at eb; cases eb) (kb1 b o eb),fl.of_keeps fun b o eb nf=>?_,⟨_,_,g1.objs.size,oT,_,e3,⟨Obj.cls_mapFields _ _,?_⟩,d3,?_,kb1.fresh,nT,gT,dT,?_⟩,fun b o eb nf=>?_⟩ ⟨_,_,e3,d3,?_⟩
 ·obtain⟨sl,z⟩:=s1.2.2 b o eb
  exact⟨_,keep b _ (rec0 b o eb nf) z,rfl⟩
 ·rw [Array.getElem?_setIfInBounds_ne (by decide)]
  exact v0
 ·simp [sz]
 ·first | (simp; done) | (rcases hp with rfl | ⟨_,_,_,_,_,_,_,rfl⟩ <;> simp)
 ·obtain⟨sl,z⟩:=s1.2.2 b o eb
  exact⟨sl,keep b _ (rec0 b o eb nf) z⟩
 ·rw [Array.getElem?_setIfInBounds_ne (by decide)]
  exact v2
theorem Ka {oe:Obj}{vs:Array Value}{a0:Value} (fr:A.frames=some (env::outer)) (fl:s.heap.FunFrames base (env::outer)) (ef:env.frame=some L) (ge:s.heap.get? e=some oe) (kb:base.StaysIn s.heap) (bn:base.get? e=none) (da:oe.data=.fields vs) (v1:vs[1]?=some .none) (v0:vs[0]?=some a0) (v2:vs[2]?=some .none)
  (q:∀ g,Heap.NotedW base (env::outer) e oe.cls a0 (rawInt L) s.heap g->pK g e->Q () { s with heap:=g }):wpAny M A (noteFrame (.ref e) env) Q E s:=by
 unfold noteFrame
 simp only [ef]
 refine Â (Ĵ ge da v1 ?_)
 rw [if_neg (by decide)]
 exact zJ fr fl ef ge kb bn da (ų.mp v1).1 v0 v2 q
theorem N6 {cls a0:Value} (fr:A.frames=some (env::outer)) (fl:s.heap.FunFrames base (env::outer)) (ef:env.frame=some L) (tr:s.heap.TracedW base e cls a0) (nc:pK s.heap e) (kb:base.StaysIn s.heap) (bn:base.get? e=none)
  (q:∀ g,Heap.NotedW base (env::outer) e cls a0 (rawInt L) s.heap g->pK g e->Q () { s with heap:=g }):wpAny M A (noteFrame (.ref e) env) Q E s:=by
 obtain⟨oe,vs,T,oT,ts,ge,⟨rfl,v0⟩,da,v1,bT,nT,gT,dT,t3⟩:=tr
 obtain⟨oe',vs',ge',da',v2⟩:=nc
 rw [ge] at ge'
 cases ge'
 rw [da] at da'
 cases da'
 unfold noteFrame
 simp only [ef]
 refine Â (Ĵ ge da v1 ?_)
 rw [if_pos (show (Ā T != ċ)=true by simp)]
 refine Â (Ĵ gT dT t3 ?_)
 rw [if_neg (show ¬ ((ċ == rawInt L)=true) by simp [rawInt])]
 refine Â (wpAny_setField gT dT (ų.mp t3).1 ?_)
 have oth:∀ b,b≠T->(s.heap.update T (Obj.mapFields (·.setIfInBounds 3 ċ))).get? b=s.heap.get? b:=fun b nb=>ú _ _ (Ć nb)
 have rec0:∀ b o,s.heap.get? b=some o->(∀ vs,o.data≠.fields vs)->b≠T:=fun b o eb nf z=>by
  rw [z,gT] at eb
  cases eb
  exact nf ts dT
 refine zJ fr (fl.of_keeps fun b o eb nf=>⟨o,(oth b (rec0 b o eb nf)).trans eb,rfl⟩) ef ((oth e (Ć nT)).trans ge) (fun b o eb=>(oth b fun z=>by rw [z,bT] at eb; cases eb).trans (kb b o eb)) bn da (ų.mp v1).1 v0 v2 fun g ⟨x1,x2,x3,x4⟩ y=>?_
 exact q g ⟨x1,x2,x3,fun b o eb nf=>x4 b o ((oth b (rec0 b o eb nf)).trans eb) nf⟩ y
theorem vf {l:List Env}{cls a0 fl:Value} (kb:base.StaysIn s.heap) (hl:s.heap.FunFrames base l) (tr:s.heap.TracedAtW base e cls a0 fl) (nc:pK s.heap e)
  (q:∀ g,base.StaysIn g->g.FunFrames base l->g.TracedW base e cls a0->(∀ b o,s.heap.get? b=some o->(∀ vs,o.data≠.fields vs)->g.get? b=some o)->pK g e->Q () { s with heap:=g }):wpAny M A (setFlight (.ref e) none) Q E s:=by
 obtain⟨oe,vs,T,oT,ts,ge,hc,da,v1,bT,nT,gT,dT,t3⟩:=tr
 have sz:3<ts.size:=(ų.mp t3).1
 have oth:∀ b,b≠T->(s.heap.update T (Obj.mapFields (·.setIfInBounds 3 ((none:Option Addr).elim ċ fun f=>rawInt f)))).get? b=s.heap.get? b:=fun b nb=>ú _ _ (Ć nb)
 have rec0:∀ b o,s.heap.get? b=some o->(∀ vs,o.data≠.fields vs)->b≠T:=fun b o eb nf z=>by
  rw [z,gT] at eb
  cases eb
  exact nf ts dT
 unfold setFlight
 refine Â (Ĵ ge da v1 ?_)
 rw [if_pos (show (Ā T != ċ)=true by simp)]
 refine wpAny_setField gT dT sz (q _ (fun b o eb=>(oth b fun z=>by rw [z,bT] at eb; cases eb).trans (kb b o eb)) (hl.of_keeps fun b o eb nf=>⟨o,(oth b (rec0 b o eb nf)).trans eb,rfl⟩) ?_ (fun b o eb nf=>(oth b (rec0 b o eb nf)).trans eb) (nc.other nT))
 exact⟨oe,vs,T,_,_,(oth e (Ć nT)).trans ge,hc,da,v1,bT,nT,ĝ _ gT (Obj.isFreed_of_fields (Obj.data_mapFields dT _)),Obj.data_mapFields dT _,by simp [sz]⟩
theorem GX {oe:Obj}{vs:Array Value}{a0:Value} (fr:A.frames=some (env::outer)) (fl:s.heap.FunFrames base (env::outer)) (ef:env.frame=some L) (ge:s.heap.get? e=some oe) (kb:base.StaysIn s.heap) (bn:base.get? e=none) (da:oe.data=.fields vs) (v1:vs[1]?=some .none) (v0:vs[0]?=some a0) (v2:vs[2]?=some .none)
  (q:∀ g,Heap.LeftW base (env::outer) e oe.cls a0 s.heap g->pK g e->Q () { s with heap:=g }):wpAny M A (leaving env (.ref e)) Q E s:=by
 unfold leaving
 refine Â (Ka fr fl ef ge kb bn da v1 v0 v2 fun g ⟨x1,x2,x3,x4⟩ y=>vf x1 x2 x3 y fun g2 y1 y2 y3 y4 y5=>q g2 ⟨y1,y2,y3,fun b o eb nf=>?_⟩ y5)
 obtain⟨sl,z⟩:=x4 b o eb nf
 exact⟨sl,y4 b _ z nf⟩
theorem Kc {cls a0:Value} (fr:A.frames=some (env::outer)) (fl:s.heap.FunFrames base (env::outer)) (ef:env.frame=some L) (tr:s.heap.TracedW base e cls a0) (nc:pK s.heap e) (kb:base.StaysIn s.heap) (bn:base.get? e=none)
  (q:∀ g,Heap.LeftW base (env::outer) e cls a0 s.heap g->pK g e->Q () { s with heap:=g }):wpAny M A (leaving env (.ref e)) Q E s:=by
 unfold leaving
 refine Â (N6 fr fl ef tr nc kb bn fun g ⟨x1,x2,x3,x4⟩ y=>vf x1 x2 x3 y fun g2 y1 y2 y3 y4 y5=>q g2 ⟨y1,y2,y3,fun b o eb nf=>?_⟩ y5)
 obtain⟨sl,z⟩:=x4 b o eb nf
 exact⟨sl,y4 b _ z nf⟩
end
end PySem
namespace L2
open PySem PySem.Spec PyProof.Rows
def Wm (base:Heap) (l:List Env) (e:Addr) (cls a0:Value) (h:Heap):Prop:=base.StaysIn h/\base.get? e=none/\h.FunFrames base l/\h.TracedW base e cls a0/\pK h e
def CX1 (P:Program) (w:World):CXT:=fun outer H s E e s'=>∃ (a:Addr) (cls a0:Value) (H1:Hp) (hb:Heap),e=.ref a/\s'.os=s.os/\AllBare s'.gens/\Un (frs outer) [] H H1 s.heap s'.heap/\HOk P w H1 hb/\Wm hb outer a cls a0 s'.heap /\
 (∀ b o,s.heap.get? b=some o->H b=none->b∉frs outer->hb.get? b=some o)/\(∀ b o,s.heap.get? b=some o->b∉frs outer->∃ o',hb.get? b=some o')/\E cls none H1
structure Lets (X:Cx) (E:XK):Prop where
 xe:∀ e s',wpAny (model X.prog X.w) X.A (leaving X.env e) (fun _ s''=>CX1 X.prog X.w X.outer X.H₀ X.s₀ E e s'') (fun e' s''=>CX1 X.prog X.w X.outer X.H₀ X.s₀ E e' s'') s'->X.xe e s'
 stk:X.stack=X.env::X.outer
 fr:X.env.frame=some X.env.locals
 ex:X.ex=[]
theorem Eb {fs:List Addr}{H H1:Hp}{h h1 h2 hb:Heap} (u:Un fs [] H H1 h h1) (k1:∀ b o,h.get? b=some o->H b=none->b∉fs->hb.get? b=some o) (k4:∀ b o,h.get? b=some o->b∉fs->∃ o',hb.get? b=some o') (st:hb.StaysIn h2)
  (fr:∀ b∈fs,∃ o,h1.get? b=some o/\∀ vs,o.data≠.fields vs) (up:∀ b o,h1.get? b=some o->(∀ vs,o.data≠.fields vs)->∃ sl,h2.get? b=some { o with slots:=sl }):Un fs [] H H1 h h2 where
 keep:=fun b o e n hb' _=>st b o (k1 b o e n hb')
 slot:=fun b o e n hb' hx=>by
  obtain⟨sl,e1⟩:=u.slot b o e n hb' hx
  obtain⟨o1,e2,nf⟩:=fr b hb'
  rw [e1] at e2
  cases e2
  obtain⟨sl2,e3⟩:=up b _ e1 nf
  exact⟨sl2,e3⟩
 free:=u.free
 there:=fun b o e hx=>by
  by_cases hb':b∈fs
  ·obtain⟨o1,e2,nf⟩:=fr b hb'
   obtain⟨sl2,e3⟩:=up b _ e2 nf
   exact⟨_,e3⟩
  ·obtain⟨o',e'⟩:=k4 b o e hb'
   exact⟨o',st b o' e'⟩
 tups:=u.tups
 frzs:=u.frzs
 tbls:=u.tbls
theorem Ac {h h' base hb:Heap} (k:∀ b o,h.get? b=some o->h'.get? b=some o):∀ {l:List Env},h.FunFrames base l->(∀ b∈frs l,hb.get? b=none)->h'.FunFrames hb l
 | [],_,_=>trivial
 | env::r,hl,hn=>by
  obtain⟨hk,⟨L,o,hf,hn',ho,hd⟩,hr⟩:=hl
  have hL:L∈frs (env::r):=by unfold frs; rw [Ś,hf]; exact ä
  exact⟨hk,⟨L,o,hf,hn L hL,k _ _ ho,hd⟩,Ac k hr fun b hb'=>hn b (by
   unfold frs; rw [Ś,hf]; exact Ù _ hb')⟩
theorem vC {h hb:Heap}{env:Env}{l:List Env} (x:h.FunFrames hb (env::l)):h.FunFrames hb l:=x.2.2
section
variable {X:Cx}{pins:List (Addr×Obj)}{σ:St}{H H1:Hp}{s:Shared}{E:XK}
theorem Inv.zE (L:Lets X E) (I:Inv X pins σ H s) {b:Addr}{o:Obj} (e:X.s₀.heap.get? b=some o) (h:b∉frs X.outer):b∉frs X.stack:=fun z=>by
 rcases Þ.mp (I.v9 b z) with z | z
 ·have h1:=Ê e
  have h2:=I.ok.above
  rw [z] at h1
  exact absurd (å h1 h2) (ć _)
 ·exact h z
theorem Fp {h1 h2 hb:Heap} (L:Lets X E) (I:Inv X pins σ H s) (un:Un (frs X.stack) [] H H1 s.heap h1) (k1:∀ b o,s.heap.get? b=some o->H b=none->b∉frs X.stack->hb.get? b=some o) (k4:∀ b o,s.heap.get? b=some o->b∉frs X.stack->∃ o',hb.get? b=some o')
  (f1:h1.FunFrames hb X.stack) (st:hb.StaysIn h2) (up:∀ b o,h1.get? b=some o->(∀ vs,o.data≠.fields vs)->∃ sl,h2.get? b=some { o with slots:=sl }) :
  Un (frs X.outer) [] X.H₀ H1 X.s₀.heap h2/\(∀ b o,X.s₀.heap.get? b=some o->X.H₀ b=none->b∉frs X.outer->hb.get? b=some o)/\(∀ b o,X.s₀.heap.get? b=some o->b∉frs X.outer->∃ o',hb.get? b=some o'):=by
 have nx:∀ b:Addr,b∉X.ex:=fun b=>by rw [L.ex]; simp
 have sub:∀ b∈frs X.outer,b∈frs X.stack:=fun b hb'=>by
  rw [L.stk]
  unfold frs
  rw [Ś,L.fr]
  exact Ù _ hb'
 have K1:∀ b o,X.s₀.heap.get? b=some o->X.H₀ b=none->b∉frs X.outer->hb.get? b=some o:=fun b o e n hb' =>
  k1 b o (I.base.keep b o e n hb' (nx b)) (I.base.free b o e n (nx b)) (I.zE L e hb')
 have K4:∀ b o,X.s₀.heap.get? b=some o->b∉frs X.outer->∃ o',hb.get? b=some o':=fun b o e hb'=>by
  obtain⟨o',e'⟩:=I.base.there b o e (nx b)
  exact k4 b o' e' (I.zE L e hb')
 refine⟨⟨fun b o e n hb' _=>st b o (K1 b o e n hb'),fun b o e n hb' _=>?_,fun b o e n _=>?_,fun b o e _=>?_,fun b xs q=>un.tups b xs (I.base.tups b xs q),fun b o u q=>un.frzs b o u (I.base.frzs b o u q),fun b ps q=>?_⟩,K1,K4⟩
 ·obtain⟨sl,e1⟩:=I.base.slot b o e n hb' (nx b)
  obtain⟨sl1,e2⟩:=un.slot b _ e1 (I.base.free b o e n (nx b)) (sub b hb') (by simp)
  obtain⟨_,o1,e3,nf⟩:=f1.mem (sub b hb')
  rw [e2] at e3
  cases e3
  obtain⟨sl2,e4⟩:=up b _ e2 nf
  exact⟨sl2,e4⟩
 ·obtain⟨o',e'⟩:=I.base.there b o e (nx b)
  exact un.free b o' e' (I.base.free b o e n (nx b)) (by simp)
 ·by_cases hb':b∈frs X.stack
  ·obtain⟨_,o1,e3,nf⟩:=f1.mem hb'
   obtain⟨sl2,e4⟩:=up b _ e3 nf
   exact⟨_,e4⟩
  ·obtain⟨o',e'⟩:=K4 b o e (fun z=>hb' (sub b z))
   exact⟨o',st b o' e'⟩
 ·obtain⟨m1,e1⟩:=I.base.tbls b ps q
  obtain⟨m2,e2⟩:=un.tbls b _ e1
  exact⟨m1++m2,by rw [e2,Array.append_assoc]⟩
theorem jZ (L:Lets X E):Passes (CX1 X.prog X.w) X E:=fun pins σ H s e s' I h=>by
 obtain⟨a,cls,a0,H1,hb,rfl,os,bare,un,hok,⟨st,hn,fs,tr⟩,k1,k4,q⟩:=h
 refine L.xe _ _ (Kc (base:=hb) (by rw [I.ok.frames,L.stk]) (L.stk ▸ fs) L.fr tr.1 tr.2 st hn fun h2 ⟨l1,l2,l3,l4⟩ l5=>?_)
 obtain⟨u,K1,K4⟩:=Fp L I un k1 k4 fs l1 l4
 exact⟨a,cls,a0,H1,hb,rfl,os.trans I.os,bare,u,hok,⟨l1,hn,vC l2,l3,l5⟩,K1,K4,q⟩
theorem KC (I:Inv X pins σ H s):HOk X.prog X.w H (W.hideAll s.heap (frs X.stack)):=fun b u e=>by
 have nf:∀ {c v},H c=some v->c∉frs X.stack:=fun {c v} q z=>by rw [I.wg c z] at q; cases q
 refine (I.hok b u e).stay (fun c v hcv y=>W.hideAll_get _ y ?_) (fun _ q=>q) fun _ _ q=>q
 rcases hcv with rfl | z
 ·exact nf e
 ·exact nf z
theorem Gy (L:Lets X E) (I:Inv X pins σ H s) {h':Heap}{e:Addr}{cls:Value}{args:List Value} (m:s.heap.MadeExcOf h' e cls args) (q:E cls none H):X.xe (.ref e) { s with heap:=h' }:=by
 obtain⟨k,new,t,he,ht,_⟩:=m
 have hbn:(W.hideAll s.heap (frs X.stack)).get? e=none:=by
  cases z:(W.hideAll s.heap (frs X.stack)).get? e with
  | none=>rfl
  | some o=>rw [W.of_hideAll _ z] at new; cases new
 have st0:(W.hideAll s.heap (frs X.stack)).StaysIn h':=fun b o z=>k b o (W.of_hideAll _ z)
 have f1:h'.FunFrames (W.hideAll s.heap (frs X.stack)) X.stack:=Ac k I.stack fun b hb=>W.hideAll_none _ hb
 have k1:∀ b o,s.heap.get? b=some o->H b=none->b∉frs X.stack->(W.hideAll s.heap (frs X.stack)).get? b=some o:=fun b o z _ nb=>W.hideAll_get _ z nb
 have k4:∀ b o,s.heap.get? b=some o->b∉frs X.stack->∃ o',(W.hideAll s.heap (frs X.stack)).get? b=some o':=fun b o z nb=>⟨o,W.hideAll_get _ z nb⟩
 have hok:=KC I
 generalize W.hideAll s.heap (frs X.stack)=hb at hbn st0 f1 k1 k4 hok
 have f2:h'.FunFrames hb (X.env::X.outer):=by rw [← L.stk]; exact f1
 refine L.xe _ _ (GX (base:=hb) (a0:=.ref t) (by rw [I.ok.frames,L.stk]) f2 L.fr he st0 hbn rfl rfl rfl rfl fun h2 ⟨l1,l2,l3,l4⟩ l5=>?_)
 obtain⟨u,K1,K4⟩:=Fp (H1:=H) (h1:=h') L I (Un.kept k) k1 k4 f1 l1 l4
 exact⟨e,cls,.ref t,H,hb,rfl,I.os,I.bare,u,hok,⟨l1,hbn,vC l2,l3,l5⟩,K1,K4,q⟩
end
theorem cB {P:Program}{w:World}{K:Ü}{mg:Str->Option Value}{base:Heap}{N:List Str}{qual:Str}{scope:Scope}{f:Addr}{cd:Value}{A:Around}{outer:List Env}{s:Shared}{H:Hp}{E:XK}:Lets (Av (CX1 P w) P w K mg base N qual scope f cd A outer s H E) E:=⟨fun _ _ h=>h,rfl,rfl,rfl⟩
theorem Fun.ok1 {P:Program}{w:World}{K:Ü}{mg:Str->Option Value}{base:Heap}{x qual:Str}{st:Stmt}{f:Addr}{fd:FuncData}{N ps:List Str}{k:Nat}{sp:Sp} (F:Fun K x qual st f fd) (S:FnScope N ps (ak st)) (len:∀ vs H Q E,sp vs H Q E->vs.length=ps.length)
  (hbody:∀ (cdv:Value) (A:Around) (outer:List Env) (s:Shared) (H:Hp) (vs:List V) (Q:VK) (E:XK),Room k (A.deeper (envOfC qual (ak st) s.heap.objs.size f cdv))->sp vs H Q E ->
   ∃ t,PSs (Av (CX1 P w) P w K mg base N qual (ak st) f cdv A outer s H E) (fK st) t/\t { nx:=fun _ H'=>Q .non H',rt:=Q } (start N vs) H):FnOk P w K mg base (CX1 P w) (k+1) f fd ps sp:=by
 obtain⟨oc,od,kV,doc,pm,an,cdv,ct,osl,rfl,lk,hcd⟩:=F.ex
 refine Qo lk hcd S len fun A outer s H vs Q E hr hsp=>?_
 obtain⟨t,h,q⟩:=hbody cdv A outer s H vs Q E hr hsp
 exact⟨t,h,q⟩
structure ExcCls (K:Ü) (C:Addr) (newId:String) (bmB:List Value):Prop where
 ex:∃ (nm q:Str) (N:Addr) (bs bm:List Value) (hdct:Bool) (sn:List Str) (sub:List Value) (ab:Bool) (col:Option Bool) (dd:Option Addr) (k0 k1 k2 k3 k5:Option Value),
  K.lookup C=some (excClassObj nm q C N bs bm hdct sn sub ab col dd k0 k1 k2 k3 k5 newId)/\W.tailIn K bmB bm=true/\W.nsOkIn K N=true/\W.nsIn K N "__init__"=some none/\bm.contains (.type "BaseException")=true
section
variable {X:Cx}{E:XK}{x:Str}{C:Addr}{newId Bn initId:String}{bmB:List Value}{e:Expr}{es:List Expr}{t:TA}{np cpos pos:Pos}
def QF (E:XK) (C:Addr) (t:TA):TS:=fun _ σ H=>t σ H fun vs H1=>vs.length<=sizeLine/\E (.ref C) none H1
theorem Js (L:Lets X E) (hc:X.calm=true) (hg:Gl X x) (hm:X.mg x=some (.ref C)) (hx:ExcCls X.K C newId bmB) (B:ExcBaseFacts Bn newId initId bmB) (ha:PA X (e::es) t) (hdb:(x == ("__debug__":Str))=false:=by decide)
  (he:starEach (e::es) X.env=(false,eval e X.env)::starEach es X.env:=by rfl) (hpl:(backTo cpos (starEach (e::es) X.env)).any (·.1)=false:=by rfl) (hcons:backTo cpos (starEach (e::es) X.env)=(false,eval e X.env)::backTo cpos (starEach es X.env):=by rfl) :
  PS X (.Raise (some (.Call (.Name x np) (e::es) [] cpos)) none pos) (QF E C t):=by
 intro pins s σ H D I h
 obtain⟨nm,q,N,bs,bm,hdct,sn,sub,ab,col,dd,k0,k1,k2,k3,k5,lk,tl,nso,nin,bmc⟩:=hx.ex
 have nsb:X.base.Ns N (X.base.nsMap N):=Heap.Ns.of_isNs (W.isNs_of_in I.ok.mod.kin nso)
 refine wpAny_Raise_call_subT (nm:=nm) (q:=q) (N:=N) (bs:=bs) (bm:=bm) (hdct:=hdct) (sn:=sn) (sub:=sub) (ab:=ab) (col:=col) (dd:=dd) (k0:=k0) (k1:=k1) (k2:=k2) (k3:=k3) (k5:=k5) (mN:=X.base.nsMap N) B bmc (I.ok.hd hc) hpl (W.nsMap_none_of_in I.ok.mod.kin nso nin) (mR I hg hm ⟨rfl,?_⟩ hdb)
 rw [hcons]
 refine PySem.Calls.evalArgs_plain ?_
 rw [← hcons]
 refine thn (ha cpos pins s σ H _ I h) fun us s1 ⟨vs,H1,I1,r,hl,q⟩=>⟨rfl,by rw [← r.length]; exact hl,I1.kIn _ _ lk,nsb.keeps I1.bk,W.tail_of_in I1.kIn tl,fun h' a m=>Gy L I1 m q⟩
end
abbrev Cx.handling (X:Cx) (e:Value):Cx:={ X with A:=X.A.mark (some e),calm:=false,xe:=fun _ _=>False,sf:=[] }
section
variable {X:Cx}{pins:List (Addr×Obj)}{σ:St}{H:Hp}{s:Shared}{ev:Value}
theorem Inv.handling (I:Inv X pins σ H s) (ev:Value):Inv (X.handling ev) pins σ H s :=
 ⟨⟨I.ok.mod,I.ok.kind,I.ok.glob,I.ok.blt,I.ok.above,I.ok.inj,I.ok.has,I.ok.cab,(fun h=>nomatch h),I.ok.frames,I.ok.stk,I.ok.exf,I.ok.bs,I.ok.bsz,I.ok.noex,I.ok.exfs,I.ok.qC,I.ok.frf,fun q z=>nomatch z⟩,I.os,I.bare,I.base,I.loc,I.cell,I.free,I.freeC,I.pin,I.hok,I.len⟩
theorem Inv.handled (ok:X.Ok) (I:Inv (X.handling ev) pins σ H s):Inv X pins σ H s:=⟨ok,I.os,I.bare,I.base,I.loc,I.cell,I.free,I.freeC,I.pin,I.hok,I.len⟩
def iH (a:Addr) (cls:Value):Heap->Prop:=fun h=>∃ oe vs,h.get? a=some oe/\oe.cls=cls/\oe.data=.fields vs
def Aj (a:Addr) (cls:Value):HO:=.ext (iH a cls)
theorem iH.ok {P:Program}{w:World}{H:Hp}{h:Heap}{a:Addr}{cls:Value} (x:iH a cls h):aP P w H h a (Aj a cls) :=
 ⟨x,let ⟨oe,_,e,_⟩:=x; ⟨oe,e⟩,fun h1 h2 ⟨oe,vs,e,c,d⟩ k=>⟨oe,vs,k _ e,c,d⟩⟩
theorem Inv.track {a:Addr}{o:HO} (I:Inv X pins σ H s) (hn:H a=none) (h0:∀ ob,X.s₀.heap.get? a≠some ob) (hL:a≠X.env.locals) (hC:∀ x c,X.env.cells.lookup x=some c->c≠a) (hp:∀ p∈X.pn++pins,p.1≠a)
  (new:aP X.prog X.w (upd H a o) s.heap a o):Inv X pins σ (upd H a o) s:=by
 refine⟨I.ok,I.os,I.bare,⟨I.base.keep,I.base.slot,fun b ob e n hx=>?_,I.base.there,fun b xs e=>?_,fun b ob u e=>?_,fun b ps e=>?_⟩,I.loc,I.cell,?_,fun x c e=>?_,fun p q=>?_,I.hok.track hn new,I.len⟩
 ·rw [aj (show b≠a from fun z=>h0 ob (by rw [← z]; exact e))]
  exact I.base.free b ob e n hx
 ·have q:=I.base.tups b xs e
  rw [aj (ao q hn)]
  exact q
 ·have q:=I.base.frzs b ob u e
  rw [aj (ao q hn)]
  exact q
 ·obtain⟨m,q⟩:=I.base.tbls b ps e
  exact⟨m,by rw [aj (ao q hn)]; exact q⟩
 ·rw [aj (Ć hL)]
  exact I.free
 ·rw [aj (hC x c e)]
  exact I.freeC x c e
 ·obtain⟨q1,q2,q3⟩:=I.pin p q
  exact⟨q1,by rw [aj (hp p q)]; exact q2,q3⟩
end
theorem aP.there {P:Program}{w:World}{H:Hp}{h:Heap}{a:Addr}{o:HO} (x:aP P w H h a o):∃ ob,h.get? a=some ob:=by
 cases o with
 | lst xs=>obtain⟨_,_,_,_,e⟩:=x; exact⟨_,e⟩
 | tup xs=>obtain⟨_,_,_,o,e,_⟩:=x; exact⟨_,e⟩
 | dK kvs=>obtain⟨_,_,_,_,o,_,_,e,_⟩:=x; exact⟨_,e⟩
 | dT kvs=>obtain⟨_,_,_,_,o,_,_,e,_⟩:=x; exact⟨_,e⟩
 | set S n=>obtain⟨o,_,_,_,e,_⟩:=x; exact⟨_,e⟩
 | ins C dx fs=>obtain⟨_,_,_,e,_⟩:=x; exact⟨_,e⟩
 | own y=>exact x
 | xd fs=>obtain⟨_,⟨_,_,_,e,_⟩,_⟩:=x; exact⟨_,e⟩
 | rng lo hi=>obtain⟨_,_,_,e⟩:=x; exact⟨_,e⟩
 | frz ob u=>exact⟨_,x.1⟩
 | tbl ps=>exact⟨_,(show h.get? a=some _ from x)⟩
 | met f y=>exact⟨_,(show h.get? a=some _ from x)⟩
 | ext φ=>exact x.2.1
theorem Inv.unbound {X:Cx}{pins:List (Addr×Obj)}{σ:St}{H:Hp}{s:Shared}{j:Nat}{n:Str}{m:Str->Option Value}{v:Option Value}{h':Heap}{tk:Nat} (I:Inv X pins σ H s) (hN:X.N.Nodup) (hj:X.N[j]?=some n) (hm:s.heap.Ns X.env.locals m)
  (hn:h'.Ns X.env.locals fun x=>if x=n then v else m x) (hs:Heap.SameBut X.env.locals s.heap h'):Inv X pins (σ.set j none) H { s with heap:=h',toks:=tk }:=by
 obtain⟨m0,hm0,hl⟩:=id I.loc
 have em:m0=m:=by
  obtain⟨o1,es1,ep1,e1,d1,_,f1⟩:=id hm0
  obtain⟨o2,es2,ep2,e2,d2,_,f2⟩:=id hm
  rw [e1] at e2
  cases e2
  rw [d1] at d2
  cases d2
  funext y
  rw [← f1,← f2]
 subst em
 have neL:∀ b o,X.s₀.heap.get? b=some o->b≠X.env.locals:=fun b o e=>à (å (Ê e) I.ok.above)
 have cne:=I.cne
 refine⟨I.ok,I.os,I.bare,⟨fun b o e n' hb hx=>(hs.2 b (neL b o e)).trans (I.base.keep b o e n' hb hx),fun b o e n' hb hx=>?_,I.base.free,fun b o e hx=>?_,I.base.tups,I.base.frzs,I.base.tbls⟩,⟨_,hn,fun i y v' e1 e2 e3=>?_⟩,fun y c e=>?_,I.free,I.freeC,fun p hp=>?_,fun b u e=>?_,by rw [List.length_set]; exact I.len⟩
 ·obtain⟨sl,e1⟩:=I.base.slot b o e n' hb hx
  exact⟨sl,(hs.2 b (neL b o e)).trans e1⟩
 ·obtain⟨o',e1⟩:=I.base.there b o e hx
  exact⟨o',(hs.2 b (neL b o e)).trans e1⟩
 ·by_cases hij:i=j
  ·subst hij
   rw [List.getElem?_set] at e2
   simp at e2
  ·rw [Ĥ (Ć hij)] at e2
   obtain⟨u',r',q⟩:=hl i y v' e1 e2 e3
   refine⟨u',r',?_⟩
   rcases q with ⟨k,e⟩ | ⟨k,c,e,z⟩
   ·refine .inl ⟨k,?_⟩
    have:y≠n:=fun e=>hij (tE hN e1 (e ▸ hj))
    simp [this,e]
   ·exact .inr ⟨k,c,e,z.sameBut hs (cne y c e)⟩
 ·obtain⟨u,z⟩:=I.cell y c e
  exact⟨u,z.sameBut hs (cne y c e)⟩
 ·obtain⟨q1,q2,q3,q4⟩:=I.pin p hp
  exact⟨(hs.2 p.1 q3).trans q1,q2,q3,q4⟩
 ·refine (I.hok b u e).stay (fun c w' hc q=>(hs.2 c ?_).trans q) (fun _ q=>q) fun _ _ q=>q
  intro z
  rcases hc with hc | hc
  ·rw [← hc,z,I.free] at e; cases e
  ·rw [z,I.free] at hc; cases hc
section
variable {X:Cx}{k:Nat}{f CF:Addr}{fd:FuncData}{ps:List Str}{sp:Sp}{E:XK}{x hx n:Str}{p np cpos epos hpos pos:Pos}{e:Expr}{es:List Expr}{t:TA}{b₀:Stmt}{suite:List Stmt}{ts:TS}{j:Nat}
def VH (sp:Sp) (E:XK) (t:TA) (ts:TS) (j:Nat):TS:=fun D σ H=>t σ H fun vs H1=>sp vs H1 (fun _ H2=>D.nx σ H2) E/\∀ cls H2 a,E cls none H2->H2 a=none ->
 ts { nx:=fun σ3 H3=>D.nx (σ3.set j none) H3,rt:=D.rt } (σ.set j (some (.ref a))) (upd H2 a (Aj a cls))
theorem Rf (hstk:X.stack=X.env::X.outer) (hfr:X.env.frame=some X.env.locals) (F:FnOk X.prog X.w X.K X.mg X.base (CX1 X.prog X.w) k f fd ps sp) (hr:Room k X.A) (hg:Gl X x) (hm:X.mg x=some (.ref f)) (hk:W.keepIn X.K (.ref f)=true) (hb:Binds X.K fd ps [])
  (ha:PA X.nox (e::es) t) (hgF:Gl X hx) (hmF:X.mg hx=some (.ref CF)) (hE:∀ cls H',E cls none H'->W.exmOne X.K cls (.ref CF)=some true) (hN:X.N.Nodup) (hj:X.N[j]?=some n) (hloc:X.env.kindOf n=some .local) (hsu:∀ ev,PSs (X.handling ev) (b₀::suite) ts)
  (hdb:(x == ("__debug__":Str))=false:=by decide) (hdF:(hx == ("__debug__":Str))=false:=by decide) (he:starEach (e::es) X.env=(false,eval e X.env)::starEach es X.env:=by rfl) (hpl:(backTo cpos (starEach es X.env)).any (·.1)=false:=by rfl)
  (hs:swapsWith (.Call (.Name x p) (e::es) [] cpos) none epos.line X.env=pure false:=by rfl)
  (hex:X.ex=[]:=by rfl):PS X (.Try [.Expr (.Call (.Name x p) (e::es) [] cpos) epos] [.ExceptHandler (some (.Name hx np)) (some n) (b₀::suite) hpos] [] [] pos) (VH sp E t ts j):=by
 intro pins s σ H D I h
 refine wpAny_Try_except (wpAny_execs_cons (wpAny_Expr_any (ń (mR I hg hm ?_ hdb)) I.quiet hs))
 refine W.callWith_K (h₀:=X.base) I.ok.mod.kin hk (Ĳ (ha cpos pins s σ H _ (I.wish _) h) (fun us s1 ⟨vs,H1,I1,r,q,qE⟩=>⟨I1.kIn,?_⟩) fun _ _ z=>ġ z) he hpl
 have I1:=I1.gK
 have hl:us.length=ps.length:=by rw [← r.length]; exact F.len _ _ _ _ q
 have hb1:=hb s1 us I1.kIn (by rw [ÿ]; exact hl)
 rw [ÿ] at hb1
 refine wpAny_call (codeAny_mono (F.run X.A X.stack s1 H1 ⟨us,[]⟩ us vs _ E hr I1.env0 hb1 r q) fun rr s' hq=>?_)
 cases rr with
 | ok fl =>
  cases fl with
  | ret u =>
   obtain⟨v,H',I',r',q'⟩:=I1.after hq
   exact wpAny_execs_nil (wpAny_execs_nil ⟨σ,H',I',q'⟩)
  | next=>exact ġ hq
  | brk=>exact ġ hq
  | cont=>exact ġ hq
 | error er =>
  obtain⟨a,cls,a0,H2,hb',rfl,os,bare,un,hok,⟨st,hn,fs,tr,nc⟩,k1,k4,hq⟩:=hq
  have hmem:∀ b∈frs X.stack,∃ o,s'.heap.get? b=some o/\∀ vs,o.data≠.fields vs:=fun b z=>(fs.mem z).2
  have fs':s'.heap.FunFrames hb' (X.env::X.outer):=hstk ▸ fs
  refine wpAny_noteFrame_onW (base:=hb') (by rw [I.ok.frames,hstk]) fs' hfr tr st hn fun h2 ⟨n1,n2,n3,n4⟩=>?_
  refine wpAny_setFlight_noneW (base:=hb') (l:=X.env::X.outer) n1 n2 n3 fun h3 m1 m2 m3 m4=>?_
  -- the state where the handler is asked
  have up3:∀ b o,s'.heap.get? b=some o->(∀ vs,o.data≠.fields vs)->∃ sl,h3.get? b=some { o with slots:=sl }:=fun b o e nf=>by
   obtain⟨sl,e2⟩:=n4 b o e nf
   exact⟨sl,m4 b _ e2 nf⟩
  have un3:Un (frs X.stack) [] H1 H2 s1.heap h3:=Eb un k1 k4 m1 hmem up3
  have I3:Inv X pins σ H2 { s' with heap:=h3 }:=I1.call' (s':={ s' with heap:=h3 }) os un3 (hok.kept m1) bare (fun b z=>absurd z (by simp))
  have hH2:H2 a=none:=by
   cases z:H2 a with
   | none=>rfl
   | some u=>obtain⟨ob,e⟩:=(hok a u z).there; rw [hn] at e; cases e
  obtain⟨oe',vs',T',oT',ts',tr1,_,tr3,_⟩:=id tr
  have newA:∀ ob,s1.heap.get? a≠some ob:=fun ob e=>by
   by_cases hf:a∈frs X.stack
   ·obtain⟨o,e2,nf⟩:=hmem a hf
    rw [tr1] at e2
    cases e2
    exact nf _ tr3
   ·obtain⟨o',e'⟩:=k4 a ob e hf
    rw [hn] at e'
    cases e'
  have lookT:W.Looks (model X.prog X.w) h3 (typeOf (.ref a)) cls:=fun A Q E' s k q=>by
   obtain⟨oe,vs,_,_,_,e1,⟨e2,_⟩,_⟩:=m3
   refine wpAny_typeOf_ref (k _ _ e1) ?_
   rw [e2]
   exact q
  refine wpAny_handleBy_cons (codeAny_handlers_test (mR (X:=X.handling (.ref a)) (I3.handling _) hgF hmF ?_ hdF)) (by intro z; cases z)
  refine W.exm_one (K:=X.K) I3.kIn lookT (hE cls H2 hq) _ _ _ _ (fun _ _ z=>z) ?_
  refine codeAny_handlers_suite_as ?_
  refine wpAny_setFlight_noneW (base:=hb') (l:=X.env::X.outer) m1 m2 m3 fun h4 p1 p2 p3 p4=>?_
  have up4:∀ b o,s'.heap.get? b=some o->(∀ vs,o.data≠.fields vs)->∃ sl,h4.get? b=some { o with slots:=sl }:=fun b o e nf=>by
   obtain⟨sl,e2⟩:=up3 b o e nf
   exact⟨sl,p4 b _ e2 nf⟩
  have un4:Un (frs X.stack) [] H1 H2 s1.heap h4:=Eb un k1 k4 p1 hmem up4
  have I4:Inv X pins σ H2 { s' with heap:=h4 }:=I1.call' (s':={ s' with heap:=h4 }) os un4 (hok.kept p1) bare (fun b z=>absurd z (by simp))
  have isE:iH a cls h4:=by
   obtain⟨oe,vs,_,_,_,e1,⟨e2,_⟩,e3,_⟩:=p3
   exact⟨oe,vs,e1,e2,e3⟩
  have J4:Inv X pins σ (upd H2 a (Aj a cls)) { s' with heap:=h4 }:=I4.track hH2 (fun ob e=>by
    obtain⟨o',e'⟩:=I1.base.there a ob e (by rw [hex]; simp)
    exact newA o' e') (fun z=>by
    obtain⟨m,⟨o,_,_,e,_⟩,_⟩:=I1.loc
    exact newA o (by rw [z]; exact e)) (fun y c e z=>by
    obtain⟨v,o,eo,_⟩:=I1.cell y c e
    exact newA o (by rw [← z]; exact eo)) (fun p hp z=>newA p.2 (by rw [← z]; exact (I1.pin p hp).1)) isE.ok
  refine rJ (X:=X.handling (.ref a)) (v:=.ref a) (J4.handling _) hN hj (Or.inl hloc) rfl (fun s5 J5=>?_) (.inr hloc)
  refine Ĳ (hsu (.ref a) pins s5 _ _ _ J5 (qE cls H2 a hq hH2)) (fun fl s6 sp6=>?_) fun _ _ z=>ġ z
  have hknd:(X.env.scope.kind == .class || (X.env.scope.kind == .module&&X.env.locals != X.env.globals))=false:=by rw [I.ok.kind]; rfl
  cases fl with
  | next =>
   obtain⟨σ6,H6,I6,q6⟩:=sp6
   have I6:=I6.handled I.ok
   obtain⟨m,hm6,_⟩:=id I6.loc
   exact wpAny_nameGoes_keeps hloc hm6 hknd fun h7 v hns hsb=>⟨_,H6,I6.unbound hN hj hm6 hns hsb,q6⟩
  | ret u =>
   obtain⟨v6,σ6,H6,I6,r6,q6⟩:=sp6
   have I6:=I6.handled I.ok
   obtain⟨m,hm6,_⟩:=id I6.loc
   exact wpAny_nameGoes_keeps hloc hm6 hknd fun h7 v hns hsb=>⟨v6,_,H6,I6.unbound hN hj hm6 hns hsb,r6,q6⟩
  | brk =>
   obtain⟨_,_,_,q6⟩:=sp6
   exact ġ q6
  | cont =>
   obtain⟨_,_,_,q6⟩:=sp6
   exact ġ q6
end
end L2
namespace L2
open PySem PySem.W PySem.Spec PyProof.Rows
structure ExcK (K:Ü) (C:Addr):Prop where
 ex:∃ (nm q:Str) (N AF:Addr) (bs bmB:List Value) (hdct:Bool) (sn:List Str) (sub:List Value) (ab:Bool) (col:Option Bool) (dd ddF:Option Addr) (k0 k1 k2 k3 k5:Option Value) (newId B:String) (c0:Value) (cd:ClassData) (slF:Array (Option Value)),
  K.lookup C=some (excClassObj nm q C N bs (.ref AF::bmB) hdct sn sub ab col dd k0 k1 k2 k3 k5 newId)/\K.lookup AF=some ⟨c0,ddF,.cls cd,slF⟩/\nsOkIn K cd.ns=true/\(∀ n∈quietNames,nsIn K cd.ns n=some none)/\ExcAttrBase B bmB
 ga:findIn K (.ref C) "__getattribute__"=some (some (.builtin "BaseException.__getattribute__"))
 hook:findIn K (.ref C) "__getattr__"=some none
 cls:findIn K (.ref C) "__class__"=some (some (.builtin "object.__class__"))
 mro:mroIn K C (.type "object")=some true
section
variable {prog:Program}{w:World}{K:Ü}{a C:Addr}{A:Around}{E:Value->Shared->Prop}{s:Shared}
theorem xV {M:Model}{h:Heap} (x:iH a (.ref C) h):Looks M h (typeOf (.ref a)) (.ref C):=fun A Q E s k q=>by
 obtain⟨oe,vs,e1,e2,_⟩:=x
 refine wpAny_typeOf_ref (k _ _ e1) ?_
 rw [e2]
 exact q
theorem O9 {tp:Value}{R:Result->Shared->Prop} (X:K.In s.heap) (x:iH a (.ref C) s.heap) (hm:mroIn K C (.type "object")=some true) (h:R (.ok (.ret (.ref C))) s) :
  codeAny (model prog w) A (.call (.builtin "getset_descriptor.__get__") ⟨[.builtin "object.__class__",.ref a,tp],[]⟩) R s:=by
 obtain⟨hh,g,dr,t,os⟩:=s
 have L0:=xV (M:=model prog w) x
 have L1:=looks_mroIn (M:=model prog w) X hm
 refine codeAny_call_builtin KF.slot_gs.plain KF.entry_gs (KF.slot_gs.check _ _ _ _ _ _ _ _ KF.type_class (KF.args_gs _ _ _) ?_)
 show wpAny _ _ (Builtin.Getset_descriptor.descrGet _) _ _ _
 unfold Builtin.Getset_descriptor.descrGet
 rw [dga_obj]
 refine Â (Ë ?_)
 show wpAny _ _ (Builtin.Getset_descriptor.descrCheckInstance (.builtin "object.__class__") (.ref a) >>= _) _ _ _
 have e1:Builtin.Getset_descriptor.descrNameAndClass (.builtin "object.__class__")=pure (Ł "__class__",.type "object"):=by
  show pure (Ł (Builtin.Getset_descriptor.descrOwnerAndName "object.__class__").2,û (Builtin.Getset_descriptor.descrOwnerAndName "object.__class__").1)=_
  rw [KF.owner_class]
 unfold Builtin.Getset_descriptor.descrCheckInstance
 rw [e1]
 refine Â (Â (Ë ?_))
 show wpAny _ _ ((do let t ← typeOf (.ref a); isSubtype t (.type "object")) >>= _) _ _ _
 refine Â (Â (Looks.at L0 (Looks.at L1 ?_)))
 refine wpAny_ite_false rfl (Ë ?_)
 refine Ë ⟨Code.quiet_builtin _ (by decide +kernel),ű KF.entry_class ?_⟩
 show wpAny _ _ ((typeOf (.ref a) >>= _) >>= _) _ _ _
 refine Â (Â (Looks.at L0 ?_))
 exact Ë (Ë h)
theorem Hs {h:Heap}{AF:Addr}{bmB:List Value}{c0:Value}{ddF:Option Addr}{cd:ClassData}{slF:Array (Option Value)} (X:K.In h) (lkF:K.lookup AF=some ⟨c0,ddF,.cls cd,slF⟩) (nsF:nsOkIn K cd.ns=true) (qF:∀ n∈quietNames,nsIn K cd.ns n=some none):OwnTailQ h bmB (.ref AF::bmB) :=
 .own (X _ _ lkF) (Heap.Ns.of_isNs (isNs_of_in X nsF)) (fun n hn=>nsMap_none_of_in X nsF (qF n hn)) .base
theorem Ht {tk:Tok}{Q:PySem.Fin->Shared->Prop} (X:K.In s.heap) (k:ExcK K C) (x:iH a (.ref C) s.heap) (h:Q (.done (.ret (.ref C))) s) :
  wpAny (model prog w) A (Builtin.«object.__getattribute__» ⟨[.ref a,.str "__class__" tk],[]⟩) Q E s:=by
 obtain⟨hh,g,dr,t,os⟩:=s
 have L0:=xV (M:=model prog w) x
 have L2:=looks_findIn (M:=model prog w) X k.cls
 have es:slotArgs "__getattribute__" 1 ⟨[.ref a,.str "__class__" tk],[]⟩=pure (.ref a,[.str "__class__" tk]):=rfl
 have en:Builtin.ObjectAttr.attrName (.str "__class__" tk)=pure (Ł "__class__"):=rfl
 unfold Builtin.«object.__getattribute__»
 rw [es]
 refine Â (Ë ?_)
 show wpAny _ _ (Builtin.ObjectAttr.attrName (.str "__class__" tk) >>= _) _ _ _
 rw [en]
 refine Â (Ë ?_)
 refine Â (Looks.at L0 ?_)
 refine Â ?_
 unfold Builtin.ObjectAttr.find
 refine Â (Looks.at L2 ?_)
 refine Â (wpAny_specialOf_val F.typeOf_object_class F.slot_gs_get.lookup ?_)
 refine Â (Â (Â (wpAny_specialOf_val F.typeOf_object_class F.slot_gs_set.lookup ?_)))
 refine wpAny_ite_true rfl (Ë (wpAny_ite_true rfl (Ë (Â (wpAny_rule (Ë ?_))))))
 show wpAny _ _ (holding _ (call _ _) >>= _) _ _ _
 exact Â (ă (wpAny_call (O9 X x k.mro (Ë h))))
theorem Ti {tk:Tok}{Q:Value->Shared->Prop} (X:K.In s.heap) (k:ExcK K C) (x:iH a (.ref C) s.heap) (h:Q (.ref C) s):wpAny (model prog w) A (getAttrBy (.ref a) (.str "__class__" tk) false) Q E s:=by
 obtain⟨nm,q,N,AF,bs,bmB,hdct,sn,sub,ab,col,dd,ddF,k0,k1,k2,k3,k5,newId,B,c0,cd,slF,lk,lkF,nsF,qF,FB⟩:=k.ex
 obtain⟨hh,g,dr,t,os⟩:=s
 obtain⟨oe,vs,e1,e2,e3⟩:=id x
 have L0:=xV (M:=model prog w) x
 have L3:=looks_findIn (M:=model prog w) X k.ga
 have L4:=looks_findIn (M:=model prog w) X k.hook
 refine ă (Â (Looks.at L0 (Â (Looks.at L3 ?_))))
 refine wpAny_ite_false rfl ?_
 refine Â (wpAny_ite_true rfl (Looks.at L4 (Â (wpAny_attempt (ă ?_)))))
 refine wpAny_ite_false rfl ?_
 refine Â (wpAny_of_eq (FB.ga.bind (.ref a)) (wpAny_call ?_))
 refine codeAny_call_builtin FB.ga.plain F.entry_bexc_ga (wpAny_check_ga_own FB (X _ _ lk) (Hs X lkF nsF qF) e1 e2 ?_)
 exact Ht X k x (Ë h)
theorem Tg {Q:Option Value->Shared->Prop} (X:K.In s.heap) (k:ExcK K C) (x:iH a (.ref C) s.heap) (h:Q (some (.ref C)) { s with toks:=s.toks+1 }):wpAny (model prog w) A (getAttr? (.ref a) "__class__") Q E s:=by
 obtain⟨hh,g,dr,t,os⟩:=s
 exact Â (Â (wpAny_fresh' (Ë (Â (wpAny_attempt (Ti (s:=⟨hh,g,dr,t+1,os⟩) X k x (Ë h)))))))
theorem Ai (k:ExcK K C):KitX K (.ref a) (.ref C) (iH a (.ref C)) where
 ty:=fun M h _ x=>xV x
 it:=fun M h X x A Q E s kk q=>by
  obtain⟨nm,q',N,AF,bs,bmB,hdct,sn,sub,ab,col,dd,ddF,k0,k1,k2,k3,k5,newId,B,c0,cd,slF,lk,_⟩:=k.ex
  exact Â (wpAny_loadPart (kk _ _ (X _ _ lk)) (Ë q))
 ne:=fun h tp dd its n sl X htp=>by
  obtain⟨nm,q',N,AF,bs,bmB,hdct,sn,sub,ab,col,dd,ddF,k0,k1,k2,k3,k5,newId,B,c0,cd,slF,lk,_⟩:=k.ex
  rw [Ċ]
  intro z
  have e:C=tp:=Value.ref.inj (beq_iff_eq.mp z)
  rw [← e,X _ _ lk] at htp
  have z:=congrArg Obj.data (Õ htp)
  cases z
 ca:=fun X x h=>Tg X k x h
end
section
variable {X:Cx}
def Qa:R2:=fun x y H Q=>∃ a b xs ys,x=.ref a/\y=.ref b/\H a=some (.tup xs)/\H b=some (.tup ys)/\xs.length+ys.length<=sizeLine/\∀ c H',(∀ d u,H d=some u->H' d=some u)->H' c=some (.tup (xs++ys))->Q (.ref c) H'
theorem Nx:OpR X (binaryOp .Add) Qa:=by
 intro pins s σ H x y v u Q I rx ry h
 obtain⟨a,b,xs,ys,rfl,rfl,ha,hb,hz,q⟩:=h
 cases rx
 cases ry
 obtain⟨its,r1,p1,_⟩:=I.tuple (SqT.of ha)
 obtain⟨its2,r2,p2,_⟩:=I.tuple (SqT.of hb)
 by_cases hx:xs=[]
 ·subst hx
  cases r1
  obtain⟨m,F⟩:=I.fr
  refine add_tuples (vs:=[]) F J7 p1 p2 (fun _=>⟨.ref b,H,I,rfl,q b H (fun _ _ z=>z) (by simpa using hb)⟩) (fun z=>absurd rfl z) (fun z=>absurd rfl z) (by rw [← r2.length]; simpa using hz)
 ·refine Nv pins s σ H (.ref a) (.ref b) (.ref a) (.ref b) Q I rfl rfl ⟨a,b,xs,ys,rfl,rfl,SqT.of ha,SqT.of hb,hx,hz,fun e=>?_,fun _ p hp=>?_⟩
  ·subst e
   exact q a H (fun _ _ z=>z) (by rw [ÿ]; exact ha)
  ·exact q p _ (fun d u z=>by rw [aj (ao z hp)]; exact z) aq
theorem vN:bA X (.builtin "isinstance") (fun xs H Q=>∃ (a C:Addr) (c:V) (cv:Value) (b:Bool),xs=[.ref a,c]/\H a=some (Aj a (.ref C))/\ExcK X.K C/\kitOne X.K (.ref C) cv=some b/\(∀ u,RelV c u->u=cv)/\Q (.bl b) H):=by
 intro pins s σ H xs us Q I r h
 obtain⟨a,C,c,cv,b,rfl,ha,k,e,hu,q⟩:=h
 obtain⟨u,u2,rfl,rx,rc⟩:=vals2 r
 cases rx
 obtain rfl:=hu u2 rc
 have x:iH a (.ref C) s.heap:=(I.hok a _ ha).1
 exact kia_one (Ai k) I.kIn x e (fun z=>nomatch z) fun tk=>⟨.bl b,H,I.tok _,rfl,q⟩
theorem uN:∀ {cs:List Addr}{us:List Value},Vals (cs.map V.ref) us->us=cs.map Ā
 | [],_,h=>by cases h; rfl
 | b::bs,_,h=>by
  cases h with
  | cons r t =>
   cases r
   rw [uN t]
   rfl
theorem LC:bA X (.builtin "isinstance") (fun xs H Q=>∃ (a C tp:Addr) (cs:List Addr) (b:Bool),xs=[.ref a,.ref tp]/\H a=some (Aj a (.ref C))/\ExcK X.K C/\SqT X.K H tp (cs.map V.ref)/\kitAny X.K (.ref C) (cs.map Ā)=some b/\Q (.bl b) H):=by
 intro pins s σ H xs us Q I r h
 obtain⟨a,C,tp,cs,b,rfl,ha,k,hp,e,q⟩:=h
 obtain⟨u,u2,rfl,rx,rc⟩:=vals2 r
 cases rx
 cases rc
 have x:iH a (.ref C) s.heap:=(I.hok a _ ha).1
 obtain⟨its,rv,⟨o,ho,hcl,n,hd⟩,hz⟩:=I.tuple hp
 have ei:=uN rv
 subst ei
 obtain⟨oc,od,odt,osl⟩:=o
 cases hcl
 cases hd
 exact kia_tup (Ai k) I.kIn x ho e (fun z=>nomatch z) fun tk=>⟨.bl b,H,I.tok _,rfl,q⟩
end
section
variable {K:Ü}{C c:Addr}{dd:Option Addr}{cd:ClassData}{sl:Array (Option Value)}
theorem vg (lk:K.lookup c=some ⟨.type "type",dd,.cls cd,sl⟩):kitCls K (.ref C) (.ref c)=mroIn K C (.ref c):=by
 have e1:clsIn K c=some cd:=by unfold clsIn; rw [lk]
 have e2:typeIn K (.ref c)=some (.type "type"):=by
  show Option.map _ (List.lookup c K)=_
  rw [lk]
  rfl
 show (if ((clsIn K c).isSome&&typeIn K (.ref c) == some (.type "type"))=true then subIn K (.ref C) (.ref c) else none)=_
 rw [e1,e2,if_pos (by simp)]
 rfl
theorem cg (lk:K.lookup c=some ⟨.type "type",dd,.cls cd,sl⟩) (m:mroIn K C (.ref c)=some false) (mm:mroIn K C (.ref C)=some true):kitOne K (.ref C) (.ref c)=some false:=by
 have hne:C≠c:=fun z=>by rw [← z,mm] at m; cases m
 unfold kitOne
 rw [if_neg (fun z=>hne (Value.ref.inj (beq_iff_eq.mp z))),vg lk]
 exact m
theorem zX:kitOne K (.ref C) (.ref C)=some true:=by
 unfold kitOne
 rw [if_pos (by simp)]
theorem zV {T:String} (hm:kitMeta T=true) (m:mroIn K C (.type T)=some true):kitOne K (.ref C) (.type T)=some true:=by
 unfold kitOne
 rw [if_neg (fun z=>by have:=beq_iff_eq.mp z; cases this)]
 show (if kitMeta T=true then subIn K (.ref C) (.type T) else none)=_
 rw [if_pos hm]
 exact m
theorem vh {t:Value}:∀ {cs:List Value},(∀ c∈cs,kitOne K t c=some false)->kitAny K t cs=some false
 | [],_=>by rw [kitAny.eq_def]
 | c::cs,h=>by
  rw [kitAny.eq_def]
  simp only [h c ä]
  exact vh fun d hd=>h d (Ù _ hd)
theorem Hr (lk:K.lookup c=some ⟨.type "type",dd,.cls cd,sl⟩) (b:mroIn K c (.type "BaseException")=some true) (m:mroIn K C (.ref c)=some true):exmOne K (.ref C) (.ref c)=some true:=by
 unfold exmOne
 have e:subIn K (.ref c) (.type "BaseException")=some true:=b
 rw [e,if_pos (by decide +kernel),vg lk]
 exact m
theorem Fe {N:Addr}{cl:Value}{d:Option Addr}{es:Array DictEntry}{ep:Nat}{s:Array (Option Value)} (lk:K.lookup N=some ⟨cl,d,.dict es ep,s⟩) (h:(es.toList.all fun e=>match e.key with | .str _ _=>true | _=>false)=true):nsOkIn K N=true:=by
 rw [Array.all_toList] at h
 unfold nsOkIn
 rw [lk]
 exact h
theorem Gn {v:Value}{r:List Value}:tailIn K (v::r) (v::r)=true:=by
 rw [tailIn.eq_def]
 simp
theorem Iu {bmB:List Value}{cl:Value} (lk:K.lookup c=some ⟨cl,dd,.cls cd,sl⟩) (ns:nsOkIn K cd.ns=true) (ni:nsIn K cd.ns "__init__"=some none) (hb:tailIn K bmB bmB=true):tailIn K bmB (.ref c::bmB)=true:=by
 rw [tailIn.eq_def]
 simp only [lk,ns,ni,hb]
 simp
end
end L2
namespace Dl
open PySem L2 PyProof.Rows
abbrev D:=PyData
def kD:Key->D
 | .inl i=>.int i
 | .inr x=>.str x
mutual
inductive Rp (ok:Addr->Prop) (H:Hp):V->D->Prop
 | non:Rp ok H .non .none
 | bl (b:Bool):Rp ok H (.bl b) (.bool b)
 | int (i:Int):Rp ok H (.int i) (.int i)
 | str (x:Str):Rp ok H (.str x) (.str x)
 | lst {a:Addr}{vs:List V}{ds:List D} (o:ok a) (h:H a=some (.lst vs)) (r:Rps ok H vs ds):Rp ok H (.ref a) (.list ds)
 | tup {a:Addr}{vs:List V}{ds:List D} (h:H a=some (.tup vs)) (r:Rps ok H vs ds):Rp ok H (.ref a) (.tuple ds)
 | dct {a:Addr}{kvs:List (Key×V)}{ds:List (D×D)} (o:ok a) (h:H a=some (.dK kvs)) (r:Rkv ok H kvs ds):Rp ok H (.ref a) (.dict ds)
inductive Rps (ok:Addr->Prop) (H:Hp):List V->List D->Prop
 | nil:Rps ok H [] []
 | cons {v:V}{d:D}{vs:List V}{ds:List D} (h:Rp ok H v d) (t:Rps ok H vs ds):Rps ok H (v::vs) (d::ds)
inductive Rkv (ok:Addr->Prop) (H:Hp):List (Key×V)->List (D×D)->Prop
 | nil:Rkv ok H [] []
 | cons {k:Key}{v:V}{d:D}{vs:List (Key×V)}{ds:List (D×D)} (h:Rp ok H v d) (t:Rkv ok H vs ds):Rkv ok H ((k,v)::vs) ((kD k,d)::ds)
end
section
variable {ok ok':Addr->Prop}{H H':Hp}
mutual
theorem Rp.mono (f:∀ a,ok a->ok' a) (g:∀ a o,ok a->H a=some o->H' a=some o) (t:∀ a xs,H a=some (.tup xs)->H' a=some (.tup xs)):∀ {v:V}{d:D},Rp ok H v d->Rp ok' H' v d
 | _,_,.non=>.non
 | _,_,.bl b=>.bl b
 | _,_,.int i=>.int i
 | _,_,.str x=>.str x
 | _,_,.lst o h r=>.lst (f _ o) (g _ _ o h) (Rps.mono f g t r)
 | _,_,.tup h r=>.tup (t _ _ h) (Rps.mono f g t r)
 | _,_,.dct o h r=>.dct (f _ o) (g _ _ o h) (Rkv.mono f g t r)
theorem Rps.mono (f:∀ a,ok a->ok' a) (g:∀ a o,ok a->H a=some o->H' a=some o) (t:∀ a xs,H a=some (.tup xs)->H' a=some (.tup xs)):∀ {v:List V}{d:List D},Rps ok H v d->Rps ok' H' v d
 | _,_,.nil=>.nil
 | _,_,.cons h r=>.cons (Rp.mono f g t h) (Rps.mono f g t r)
theorem Rkv.mono (f:∀ a,ok a->ok' a) (g:∀ a o,ok a->H a=some o->H' a=some o) (t:∀ a xs,H a=some (.tup xs)->H' a=some (.tup xs)):∀ {v:List (Key×V)}{d:List (D×D)},Rkv ok H v d->Rkv ok' H' v d
 | _,_,.nil=>.nil
 | _,_,.cons h r=>.cons (Rp.mono f g t h) (Rkv.mono f g t r)
end
theorem Rps.length:∀ {vs:List V}{ds:List D},Rps ok H vs ds->vs.length=ds.length
 | _,_,.nil=>rfl
 | _,_,.cons _ t=>by rw [ĉ,ĉ,Rps.length t]
theorem Rps.getD:∀ {vs:List V}{ds:List D}{i:Nat}{d:D},Rps ok H vs ds->ds[i]?=some d->∃ v,vs[i]?=some v/\Rp ok H v d
 | _,_,i,v,.nil,e=>by simp at e
 | _,_,0,v,.cons h t,e=>by simp at e; subst e; exact⟨_,rfl,h⟩
 | _,_,i+1,v,.cons h t,e=>by
  obtain⟨d,a,b⟩:=Rps.getD (i:=i) (d:=v) t (by simpa using e)
  exact⟨d,by simpa using a,b⟩
theorem Rps.app:∀ {vs ws:List V}{ds es:List D},Rps ok H vs ds->Rps ok H ws es->Rps ok H (vs++ws) (ds++es)
 | _,_,_,_,.nil,s=>s
 | _,_,_,_,.cons h t,s=>.cons h (Rps.app t s)
theorem Rps.snoc {vs:List V}{ds:List D}{v:V}{d:D} (h:Rps ok H vs ds) (r:Rp ok H v d):Rps ok H (vs++[v]) (ds++[d]):=h.app (.cons r .nil)
theorem Rps.take:∀ {vs:List V}{ds:List D} (n:Nat),Rps ok H vs ds->Rps ok H (vs.take n) (ds.take n)
 | _,_,0,_=>by simp; exact .nil
 | _,_,_+1,.nil=>by simp; exact .nil
 | _,_,n+1,.cons r t=>.cons r (Rps.take n t)
theorem Rps.drop:∀ {vs:List V}{ds:List D} (n:Nat),Rps ok H vs ds->Rps ok H (vs.drop n) (ds.drop n)
 | _,_,0,r=>r
 | _,_,_+1,.nil=>by simp; exact .nil
 | _,_,n+1,.cons _ t=>Rps.drop n t
theorem Rps.ofMap {α:Type}{f:α->V}{g:α->D} (h:∀ x,Rp ok H (f x) (g x)):∀ l:List α,Rps ok H (l.map f) (l.map g)
 | []=>.nil
 | x::l=>.cons (h x) (Rps.ofMap h l)
theorem Rp.int' {v:V}{i:Int} (r:Rp ok H v (.int i)):v=.int i:=by cases r; rfl
theorem Rp.bl' {v:V}{i:Bool} (r:Rp ok H v (.bool i)):v=.bl i:=by cases r; rfl
theorem Rp.str' {v:V}{i:Str} (r:Rp ok H v (.str i)):v=.str i:=by cases r; rfl
theorem Rp.bL {v:V}{ds:List D} (r:Rp ok H v (.list ds)):∃ a vs,v=.ref a/\ok a/\H a=some (.lst vs)/\Rps ok H vs ds:=by
 cases r with
 | lst o h r=>exact⟨_,_,rfl,o,h,r⟩
theorem Rp.eZ {v:V}{ds:List D} (r:Rp ok H v (.tuple ds)):∃ a vs,v=.ref a/\H a=some (.tup vs)/\Rps ok H vs ds:=by
 cases r with
 | tup h r=>exact⟨_,_,rfl,h,r⟩
theorem Rps.ints:∀ {vs:List V}{ns:List Int},Rps ok H vs (ns.map È)->vs=ns.map V.int
 | [],[],_=>rfl
 | _,n::ns,.cons h t=>by
  have e:=h.int'
  subst e
  rw [Rps.ints t]
  rfl
theorem Rps.two {vs:List V}{d e:D} (r:Rps ok H vs [d,e]):∃ v w,vs=[v,w]/\Rp ok H v d/\Rp ok H w e:=by
 cases r with
 | cons h t =>
  cases t with
  | cons h2 t2 =>
   cases t2
   exact⟨_,_,rfl,h,h2⟩
end
mutual
def bx:D->Bool
 | .none=>true
 | .bool _=>true
 | .int _=>true
 | .str _=>true
 | .list _=>false
 | .tuple ds=>fH ds
 | .dict _=>false
def fH:List D->Bool
 | []=>true
 | d::ds=>bx d&&fH ds
end
section
variable {ok:Addr->Prop}{H:Hp}
mutual
theorem Rp.imm:∀ {v:V}{d:D},Rp ok H v d->bx d=true->Rp (fun _=>False) H v d
 | _,_,.non,_=>.non
 | _,_,.bl b,_=>.bl b
 | _,_,.int i,_=>.int i
 | _,_,.str x,_=>.str x
 | _,_,.tup h r,e=>.tup h (Rps.imm r e)
theorem Rps.imm:∀ {v:List V}{d:List D},Rps ok H v d->fH d=true->Rps (fun _=>False) H v d
 | _,_,.nil,_=>.nil
 | _,_,.cons h r,e=>.cons (Rp.imm h (by simp only [fH,Ú] at e; exact e.1)) (Rps.imm r (by simp only [fH,Ú] at e; exact e.2))
end
end
structure Pn where
 fp:Addr->Prop
 PI:Hp->Prop
 pv:V
 mono:∀ H H',PI H->(∀ b o,fp b->H b=some o->H' b=some o)->PI H'
 is:∀ H b,PI H->fp b->∃ o,H b=some o/\∀ xs,o≠.tup xs
class Gr where
 G:Pn->Hp->Prop
instance (priority:=low) grT:Gr:=⟨fun _ _=>True⟩
def ji:Pn:=⟨fun _=>False,fun _=>True,.non,fun _ _ _ _=>trivial,fun _ _ _ h=>h.elim⟩
def Kp (p:Pn) (H H':Hp):Prop:=∀ b o,H b=some o->¬ p.fp b->H' b=some o
theorem Kp.refl {p:Pn}{H:Hp}:Kp p H H:=fun _ _ h _=>h
theorem Kp.trans {p:Pn}{H H1 H2:Hp} (a:Kp p H H1) (b:Kp p H1 H2):Kp p H H2:=fun c o h n=>b c o (a c o h n) n
theorem Kp.of {p:Pn}{H H':Hp} (s:Same H H'):Kp p H H':=fun b o h _=>s b o h
inductive Sl where
 | any
 | im (d:D)
 | sh (d:D)
 | sn (d:D)
 | dw (r:Nat) (d:D)
 | pen (C:Pn->Prop)
 | rw (r:Nat) (L:List (List D))
 | tw (r:Nat) (L:List (List D))
 | scr (v:V) (b:Bool)
 | sp (r:Nat) (b:Bool) (ds:List D)
inductive Kd where
 | imm | new | reg (r:Nat) | n0 | snw | shr | wk
 deriving DecidableEq
def Kd.le:Kd->Kd->Bool
 | .imm,_=>true
 | .new,.new=>true
 | .new,.n0=>true
 | .new,.snw=>true
 | .new,.shr=>true
 | .new,.wk=>true
 | .reg r,.reg q=>r == q
 | .reg _,.n0=>true
 | .reg _,.wk=>true
 | .snw,.snw=>true
 | .snw,.n0=>true
 | .snw,.shr=>true
 | .snw,.wk=>true
 | .n0,.n0=>true
 | .n0,.wk=>true
 | .shr,.shr=>true
 | .shr,.wk=>true
 | .wk,.wk=>true
 | _,_=>false
def Kd.join (a b:Kd):Kd:=if a.le b then b else if b.le a then a else if a.le .n0&&b.le .n0 then .n0 else if a.le .shr&&b.le .shr then .shr else .wk
def norm (k:Kd) (d:D):Kd:=match k with
 | .imm=>.imm
 | k=>if bx d then .imm else k
theorem aX {k:Kd}{d:D} (h:bx d=true):norm k d=.imm:=by
 cases k <;> first
  | rfl
  | exact if_pos h
theorem aY {k:Kd}{d:D} (h:¬ bx d=true):norm k d=k:=by
 cases k <;> first
  | rfl
  | exact if_neg h
def okK (p:Pn) (H0:Hp) (own:Addr->Option Nat) (Hb:Hp):Kd->Addr->Prop
 | .imm=>fun _=>False
 | .new=>fun a=>Hb a=none
 | .reg r=>fun a=>own a=some r
 | .n0=>fun a=>H0 a=none/\¬ p.fp a
 | .snw=>fun a=>H0 a=none/\¬ p.fp a/\own a=none
 | .shr=>fun a=>¬ p.fp a/\own a=none
 | .wk=>fun a=>¬ p.fp a
structure At (p:Pn) (H0:Hp) (own:Addr->Option Nat) (Hb H:Hp):Prop where
 k0:∀ b o,H0 b=some o->¬ p.fp b->Hb b=some o
 kp:Kp p Hb H
 penb:p.PI Hb
 pen:p.PI H
 ow:∀ a r,own a=some r->H0 a=none/\¬ p.fp a/\Hb a≠none
section
variable {p:Pn}{H0 Hb H H':Hp}{own:Addr->Option Nat}
theorem At.nfp (A:At p H0 own Hb H) {a:Addr} (h:H a=none):¬ p.fp a:=fun z=>by
 obtain⟨o,e,_⟩:=p.is H a A.pen z
 rw [h] at e
 cases e
theorem At.free (A:At p H0 own Hb H) {a:Addr} (h:H a=none):Hb a=none:=by
 have hn:=A.nfp h
 cases e:Hb a with
 | none=>rfl
 | some o=>rw [A.kp a o e hn] at h; cases h
theorem At.nfb (A:At p H0 own Hb H) {a:Addr} (h:Hb a=none):¬ p.fp a:=fun z=>by
 obtain⟨o,e,_⟩:=p.is Hb a A.penb z
 rw [h] at e
 cases e
theorem At.Nt (A:At p H0 own Hb H) {a:Addr} (h:Hb a=none):own a=none:=by
 cases e:own a with
 | none=>rfl
 | some r=>exact absurd h (A.ow a r e).2.2
theorem At.h0 (A:At p H0 own Hb H) {a:Addr} (h:Hb a=none):H0 a=none:=by
 cases e:H0 a with
 | none=>rfl
 | some o=>rw [A.k0 a o e (A.nfb h)] at h; cases h
theorem cO (A:At p H0 own Hb H) {j k:Kd} (h:j.le k=true) {a:Addr} (o:okK p H0 own Hb j a):okK p H0 own Hb k a:=by
 cases j with
 | imm=>exact ġ o
 | new =>
  cases k with
  | imm=>cases h
  | new=>exact o
  | reg r=>cases h
  | n0=>exact⟨A.h0 o,A.nfb o⟩
  | snw=>exact⟨A.h0 o,A.nfb o,A.Nt o⟩
  | shr=>exact⟨A.nfb o,A.Nt o⟩
  | wk=>exact A.nfb o
 | reg r =>
  cases k with
  | reg q =>
   have e:r=q:=by simpa [Kd.le] using h
   subst e
   exact o
  | n0=>exact⟨(A.ow a r o).1,(A.ow a r o).2.1⟩
  | wk=>exact (A.ow a r o).2.1
  | _=>cases h
 | n0 =>
  cases k with
  | n0=>exact o
  | wk=>exact o.2
  | _=>cases h
 | snw =>
  cases k with
  | snw=>exact o
  | n0=>exact⟨o.1,o.2.1⟩
  | shr=>exact o.2
  | wk=>exact o.2.1
  | _=>cases h
 | shr =>
  cases k with
  | shr=>exact o
  | wk=>exact o.1
  | _=>cases h
 | wk =>
  cases k with
  | wk=>exact o
  | _=>cases h
theorem mj (A:At p H0 own Hb H) {k:Kd}{a:Addr} (o:okK p H0 own Hb k a):¬ p.fp a:=by
 have:k.le .wk=true:=by cases k <;> rfl
 exact cO A this o
theorem jc (A:At p H0 own Hb H) {j k:Kd} (h:j.le k=true) {v:V}{d:D}{H2:Hp} (r:Rp (okK p H0 own Hb j) H2 v d):Rp (okK p H0 own Hb k) H2 v d :=
 r.mono (fun a o=>cO A h o) (fun _ _ _ e=>e) fun _ _ e=>e
theorem dh (a b:Kd):a.le (a.join b)=true/\b.le (a.join b)=true:=by
 unfold Kd.join
 by_cases h:a.le b=true
 ·rw [if_pos h]; exact⟨h,by cases b <;> simp [Kd.le]⟩
 ·rw [if_neg h]
  by_cases h2:b.le a=true
  ·rw [if_pos h2]; exact⟨by cases a <;> simp [Kd.le],h2⟩
  ·rw [if_neg h2]
   by_cases h3:(a.le .n0&&b.le .n0)=true
   ·rw [if_pos h3]; exact Ú _ _ ▸ h3
   ·rw [if_neg h3]
    by_cases h4:(a.le .shr&&b.le .shr)=true
    ·rw [if_pos h4]; exact Ú _ _ ▸ h4
    ·rw [if_neg h4]; exact⟨by cases a <;> rfl,by cases b <;> rfl⟩
theorem aZ {k:Kd}{v:V}{d:D}{H2:Hp} (r:Rp (okK p H0 own Hb k) H2 v d):Rp (okK p H0 own Hb (norm k d)) H2 v d:=by
 by_cases h:bx d=true
 ·rw [aX h]; exact r.imm h
 ·rw [aY h]; exact r
theorem jr (A:At p H0 own Hb H) (k:Kp p H H'):∀ a xs,H a=some (.tup xs)->H' a=some (.tup xs):=fun a xs h=>k a _ h fun z=>by
 obtain⟨o,e,n⟩:=p.is H a A.pen z
 rw [h] at e
 exact n xs (Õ e).symm
theorem pU (A:At p H0 own Hb H) (k:Kp p H H') {j:Kd}{v:V}{d:D} (r:Rp (okK p H0 own Hb j) H v d):Rp (okK p H0 own Hb j) H' v d :=
 r.mono (fun _ o=>o) (fun a o h e=>k a o e (mj A h)) (jr A k)
theorem cM (A:At p H0 own Hb H) (k:Kp p H H') {j:Kd}{v:List V}{d:List D} (r:Rps (okK p H0 own Hb j) H v d):Rps (okK p H0 own Hb j) H' v d :=
 r.mono (fun _ o=>o) (fun a o h e=>k a o e (mj A h)) (jr A k)
theorem At.go (A:At p H0 own Hb H) (k:Kp p H H') (i:p.PI H'):At p H0 own Hb H':=⟨A.k0,A.kp.trans k,A.penb,i,A.ow⟩
theorem At.base {H1:Hp} (A:At p H0 own Hb H) (B:At p H0 own H H1):At p H0 own Hb H1:=⟨A.k0,A.kp.trans B.kp,A.penb,B.pen,A.ow⟩
theorem J6 (A:At p H0 own Hb H) {k:Kd}{a:Addr} (o:okK p H0 own H k a):okK p H0 own Hb k a:=by
 cases k <;> first
  | exact o
  | exact A.free o
theorem jJ (A:At p H0 own Hb H) {k:Kd}{v:V}{d:D}{H2:Hp} (r:Rp (okK p H0 own H k) H2 v d):Rp (okK p H0 own Hb k) H2 v d :=
 r.mono (fun a o=>J6 A o) (fun _ _ _ e=>e) fun _ _ e=>e
theorem At.new (A:At p H0 own Hb H) {a:Addr} (h:H a=none) (o:HO):Kp p H (upd H a o)/\p.PI (upd H a o)/\okK p H0 own Hb .new a :=
 have s:Same H (upd H a o):=fun b u q=>by rw [aj (ao q h)]; exact q
 ⟨Kp.of s,p.mono H _ A.pen fun b u _ q=>s b u q,A.free h⟩
end
structure RowsH (own:Addr->Option Nat) (r:Nat) (H:Hp) (st:Addr) (as:List Addr) (L:List (List D)):Prop where
 top:H st=some (.lst (as.map V.ref))
 nd:(st::as).Nodup
 ow:∀ a∈st::as,own a=some r
 len:as.length=L.length
 row:∀ (j:Nat) (a:Addr) (ds:List D),as[j]?=some a->L[j]?=some ds->∃ vs,H a=some (.lst vs)/\Rps (fun _=>False) H vs ds
theorem RowsH.mono {own own':Addr->Option Nat}{r:Nat}{H H':Hp}{st:Addr}{as:List Addr}{L:List (List D)} (h:RowsH own r H st as L) (g:∀ a o,own a=some r->H a=some o->own' a=some r/\H' a=some o) (t:∀ a xs,H a=some (.tup xs)->H' a=some (.tup xs)):RowsH own' r H' st as L:=by
 have live:∀ a∈st::as,∃ o,H a=some o:=fun a ha=>by
  rcases Þ.mp ha with rfl | ha
  ·exact⟨_,h.top⟩
  ·obtain⟨j,hj⟩:=ę ha
   have hl:=(Æ.mp hj).1
   obtain⟨vs,e,_⟩:=h.row j a _ hj (Ó (by rw [← h.len]; exact hl))
   exact⟨_,e⟩
 refine⟨(g st _ (h.ow st ä) h.top).2,h.nd,fun a ha=>?_,h.len,fun j a ds e1 e2=>?_⟩
 ·obtain⟨o,e⟩:=live a ha
  exact (g a o (h.ow a ha) e).1
 ·obtain⟨vs,e,r'⟩:=h.row j a ds e1 e2
  exact⟨vs,(g a _ (h.ow a (Ù _ (É e1))) e).2,r'.mono (fun _ o=>o) (fun _ _ o=>o.elim) t⟩
theorem nZ {ok:Addr->Prop}{H:Hp}:∀ (as:List Addr) (L:List (List D)),as.length=L.length->(∀ a∈as,ok a)->(∀ (j:Nat) (a:Addr) (ds:List D),as[j]?=some a->L[j]?=some ds->∃ vs,H a=some (.lst vs)/\Rps (fun _=>False) H vs ds)->Rps ok H (as.map V.ref) (L.map Į)
 | [],[],_,_,_=>.nil
 | a::as,d::L,hl,h,r=>by
  obtain⟨vs,e,rs⟩:=r 0 a d rfl rfl
  exact .cons (.lst (h a ä) e (rs.mono (fun _ o=>o.elim) (fun _ _ o=>o.elim) fun _ _ e=>e)) (nZ as L (by simpa using hl) (fun b hb=>h b (Ù _ hb)) fun j b ds e1 e2=>r (j+1) b ds e1 e2)
 | [],_::_,hl,_,_=>by cases hl
 | _::_,[],hl,_,_=>by cases hl
theorem RowsH.rp {own:Addr->Option Nat}{r:Nat}{H:Hp}{st:Addr}{as:List Addr}{L:List (List D)} (h:RowsH own r H st as L):Rp (fun a=>own a=some r) H (.ref st) (.list (L.map Į)) :=
 .lst (h.ow st ä) h.top (nZ as L h.len (fun a ha=>h.ow a (Ù _ ha)) h.row)
structure RowsT (own:Addr->Option Nat) (r:Nat) (H:Hp) (st:Addr) (as:List Addr) (L:List (List D)):Prop where
 top:H st=some (.tup (as.map V.ref))
 nd:as.Nodup
 ow:∀ a∈as,own a=some r
 len:as.length=L.length
 row:∀ (j:Nat) (a:Addr) (ds:List D),as[j]?=some a->L[j]?=some ds->∃ vs,H a=some (.lst vs)/\Rps (fun _=>False) H vs ds
theorem RowsT.mono {own own':Addr->Option Nat}{r:Nat}{H H':Hp}{st:Addr}{as:List Addr}{L:List (List D)} (h:RowsT own r H st as L) (g:∀ a o,own a=some r->H a=some o->own' a=some r/\H' a=some o) (t:∀ a xs,H a=some (.tup xs)->H' a=some (.tup xs)):RowsT own' r H' st as L:=by
 refine⟨t st _ h.top,h.nd,fun a ha=>?_,h.len,fun j a ds e1 e2=>?_⟩
 ·obtain⟨j,hj⟩:=ę ha
  have hl:=(Æ.mp hj).1
  obtain⟨vs,e,_⟩:=h.row j a _ hj (Ó (by rw [← h.len]; exact hl))
  exact (g a _ (h.ow a ha) e).1
 ·obtain⟨vs,e,r'⟩:=h.row j a ds e1 e2
  exact⟨vs,(g a _ (h.ow a (É e1)) e).2,r'.mono (fun _ o=>o) (fun _ _ o=>o.elim) t⟩
theorem RowsT.rp {own:Addr->Option Nat}{r:Nat}{H:Hp}{st:Addr}{as:List Addr}{L:List (List D)} (h:RowsT own r H st as L):Rp (fun a=>own a=some r) H (.ref st) (.tuple (L.map Į)) :=
 .tup h.top (nZ as L h.len h.ow h.row)
def okS (p:Pn) (H0:Hp) (own:Addr->Option Nat) (b:Bool) (a:Addr):Prop:=(b=true->H0 a=none)/\¬ p.fp a/\own a=none
def jD (p:Pn) (H0:Hp) (own:Addr->Option Nat) (σ:L2.St) (H:Hp) (i:Nat):Sl->Prop
 | .any=>True
 | .im d=>∃ v,σ[i]?=some (some v)/\Rp (fun _=>False) H v d
 | .sh d=>∃ v,σ[i]?=some (some v)/\Rp (fun a=>¬ p.fp a/\own a=none) H v d
 | .sn d=>∃ v,σ[i]?=some (some v)/\Rp (fun a=>H0 a=none/\¬ p.fp a/\own a=none) H v d
 | .dw r d=>∃ v,σ[i]?=some (some v)/\Rp (fun a=>own a=some r) H v d
 | .pen C=>σ[i]?=some (some p.pv)/\C p
 | .rw r L=>∃ st as,σ[i]?=some (some (.ref st))/\RowsH own r H st as L
 | .tw r L=>∃ st as,σ[i]?=some (some (.ref st))/\RowsT own r H st as L
 | .scr v b=>σ[i]?=some (some v)/\(b=true->p=ji)
 | .sp r b ds=>∃ l vs,σ[i]?=some (some (.ref l))/\own l=some r/\H l=some (.lst vs)/\Rps (okS p H0 own b) H vs ds
structure EnvD [Gr] (p:Pn) (H0:Hp) (own:Addr->Option Nat) (σ:L2.St) (H:Hp) (ρ:List Sl):Prop where
 k0:∀ b o,H0 b=some o->¬ p.fp b->H b=some o
 pen:p.PI H
 ow:∀ a r,own a=some r->H0 a=none/\¬ p.fp a/\H a≠none
 slot:∀ i s,ρ[i]?=some s->jD p H0 own σ H i s
 len:ρ.length=σ.length
 gr:Gr.G p H0
variable [Gr]
section
variable {p:Pn}{H0 H H':Hp}{own:Addr->Option Nat}{σ:L2.St}{ρ:List Sl}
theorem EnvD.at (E:EnvD p H0 own σ H ρ):At p H0 own H H:=⟨E.k0,Kp.refl,E.pen,E.pen,E.ow⟩
theorem EnvD.go (E:EnvD p H0 own σ H ρ) (k:Kp p H H') (i:p.PI H'):EnvD p H0 own σ H' ρ:=by
 have A:=E.at
 have tp:=jr A k
 refine⟨fun b o e n=>k b o (E.k0 b o e n) n,i,fun a r e=>?_,fun j s e=>?_,E.len,E.gr⟩
 ·obtain⟨h1,h2,h3⟩:=E.ow a r e
  refine⟨h1,h2,fun z=>?_⟩
  cases q:H a with
  | none=>exact h3 q
  | some o=>rw [k a o q h2] at z; cases z
 ·have q:=E.slot j s e
  cases s with
  | any=>trivial
  | im d=>exact let ⟨v,a,b⟩:=q; ⟨v,a,b.mono (fun _ o=>o) (fun _ _ o=>o.elim) tp⟩
  | sh d=>exact let ⟨v,a,b⟩:=q; ⟨v,a,b.mono (fun _ o=>o) (fun c u o e=>k c u e o.1) tp⟩
  | sn d=>exact let ⟨v,a,b⟩:=q; ⟨v,a,b.mono (fun _ o=>o) (fun c u o e=>k c u e o.2.1) tp⟩
  | dw r d=>exact let ⟨v,a,b⟩:=q; ⟨v,a,b.mono (fun _ o=>o) (fun c u o e=>k c u e (E.ow c r o).2.1) tp⟩
  | pen C=>exact q
  | rw r L=>exact let ⟨st,as,a,b⟩:=q; ⟨st,as,a,b.mono (fun c u o e=>⟨o,k c u e (E.ow c r o).2.1⟩) tp⟩
  | tw r L=>exact let ⟨st,as,a,b⟩:=q; ⟨st,as,a,b.mono (fun c u o e=>⟨o,k c u e (E.ow c r o).2.1⟩) tp⟩
  | scr v b=>exact q
  | sp r b ds=>exact let ⟨l,vs,a,o,h,z⟩:=q; ⟨l,vs,a,o,k l _ h (E.ow l r o).2.1,z.mono (fun _ o=>o) (fun c u o e=>k c u e o.2.1) tp⟩
end
abbrev DK:=Kd->D->Prop
abbrev DE:=List Sl->DK->Prop
def bR (t:DE):TE:=fun σ H Q=>∃ p H0 own ρ P,EnvD p H0 own σ H ρ/\t ρ P/\∀ k d v H',P k d->At p H0 own H H'->Rp (okK p H0 own H k) H' v d->Q v H'
abbrev PD (X:Cx) (e:Expr) (t:DE):Prop:=PE X e (bR t)
abbrev DA:=List Sl->(List (Kd×D)->Prop)->Prop
inductive RpK (p:Pn) (H0:Hp) (own:Addr->Option Nat) (Hb H:Hp):List V->List (Kd×D)->Prop
 | nil:RpK p H0 own Hb H [] []
 | cons {v:V}{kd:Kd×D}{vs:List V}{ks:List (Kd×D)} (h:Rp (okK p H0 own Hb kd.1) H v kd.2) (t:RpK p H0 own Hb H vs ks):RpK p H0 own Hb H (v::vs) (kd::ks)
def j5 (t:DA):TA:=fun σ H Q=>∃ p H0 own ρ P,EnvD p H0 own σ H ρ/\t ρ P/\∀ ks vs H',P ks->At p H0 own H H'->RpK p H0 own H H' vs ks->Q vs H'
abbrev PDA (X:Cx) (es:List Expr) (t:DA):Prop:=PA X es (j5 t)
abbrev DT:=List Sl->(Bool->Prop)->Prop
def liftT (t:DT):TT:=fun σ H Q=>∃ p H0 own ρ P,EnvD p H0 own σ H ρ/\t ρ P/\∀ b H',P b->At p H0 own H H'->Q b H'
abbrev PDT (X:Cx) (e:Expr) (t:DT):Prop:=PT X e (liftT t)
theorem PE.wk {X:Cx}{e:Expr}{t t':TE} (h:PE X e t) (w:∀ σ H Q,t' σ H Q->t σ H Q):PE X e t':=fun pins s σ H Q I q=>h pins s σ H Q I (w σ H Q q)
theorem PT.wk {X:Cx}{e:Expr}{t t':TT} (h:PT X e t) (w:∀ σ H Q,t' σ H Q->t σ H Q):PT X e t':=fun pins s σ H Q I q=>h pins s σ H Q I (w σ H Q q)
theorem PA.wk {X:Cx}{e:List Expr}{t t':TA} (h:PA X e t) (w:∀ σ H Q,t' σ H Q->t σ H Q):PA X e t':=fun pos pins s σ H Q I q=>h pos pins s σ H Q I (w σ H Q q)
section
variable {X:Cx}{pos:Pos}{a b:Expr}{ta tb:DE}
theorem RpK.go {p:Pn}{H0 Hb H H':Hp}{own:Addr->Option Nat} (A:At p H0 own Hb H) (k:Kp p H H'):∀ {vs:List V}{ks:List (Kd×D)},RpK p H0 own Hb H vs ks->RpK p H0 own Hb H' vs ks
 | _,_,.nil=>.nil
 | _,_,.cons h t=>.cons (pU A k h) (RpK.go A k t)
theorem RpK.base {p:Pn}{H0 Hb H H':Hp}{own:Addr->Option Nat} (A:At p H0 own Hb H):∀ {vs:List V}{ks:List (Kd×D)},RpK p H0 own H H' vs ks->RpK p H0 own Hb H' vs ks
 | _,_,.nil=>.nil
 | _,_,.cons h t=>.cons (jJ A h) (RpK.base A t)
def tV (i:Nat):DE:=fun ρ P=>match ρ[i]? with
 | some (.im d)=>P .imm d
 | some (.sh d)=>P .shr d
 | some (.sn d)=>P .snw d
 | some (.dw r d)=>P (.reg r) d
 | some (.rw r L)=>P (.reg r) (.list (L.map Į))
 | some (.tw r L)=>P (.reg r) (.tuple (L.map Į))
 | some (.sp r b ds)=>P (if b=true then .n0 else .wk) (.list ds)
 | _=>False
theorem Rx {i:Nat}{x:Str}{ps:Pos} (h:PE X (.Name x ps) (qj i)):PD X (.Name x ps) (tV i):=PE.wk h (by
 rintro σ H Q ⟨p,H0,own,ρ,P,E,t,q⟩
 unfold tV at t
 split at t
 ·rename_i d e; obtain⟨v,e1,r⟩:=E.slot i _ e; exact⟨v,e1,q _ _ _ _ t E.at r⟩
 ·rename_i d e; obtain⟨v,e1,r⟩:=E.slot i _ e; exact⟨v,e1,q _ _ _ _ t E.at r⟩
 ·rename_i d e; obtain⟨v,e1,r⟩:=E.slot i _ e; exact⟨v,e1,q _ _ _ _ t E.at r⟩
 ·rename_i d e; obtain⟨v,e1,r⟩:=E.slot i _ e; exact⟨v,e1,q _ _ _ _ t E.at r⟩
 ·rename_i r L e; obtain⟨st,as,e1,h⟩:=E.slot i _ e; exact⟨_,e1,q _ _ _ _ t E.at h.rp⟩
 ·rename_i r L e; obtain⟨st,as,e1,h⟩:=E.slot i _ e; exact⟨_,e1,q _ _ _ _ t E.at h.rp⟩
 ·rename_i r b ds e
  obtain⟨l,vs,e1,o,h,z⟩:=E.slot i _ e
  refine⟨_,e1,q _ _ _ _ t E.at ?_⟩
  cases b with
  | true=>exact .lst ⟨(E.ow l r o).1,(E.ow l r o).2.1⟩ h (z.mono (fun c n=>⟨n.1 rfl,n.2.1⟩) (fun _ _ _ e=>e) fun _ _ e=>e)
  | false=>exact .lst (E.ow l r o).2.1 h (z.mono (fun c n=>n.2.1) (fun _ _ _ e=>e) fun _ _ e=>e)
 ·exact t.elim)
def tK (d:D):DE:=fun _ P=>P .imm d
theorem lX {e:Expr}{v:V}{d:D} (h:PE X e (tC v)) (r:∀ H,Rp (fun _=>False) H v d):PD X e (tK d):=PE.wk h (by
 rintro σ H Q ⟨p,H0,own,ρ,P,E,t,q⟩
 exact q _ _ _ _ t E.at (r H))
theorem oA {i:Int}{j:Nat}:PD X (.Constant (.int i) j pos) (tK (.int i)):=lX JD fun _=>.int i
theorem Ez {i:Bool}{j:Nat}:PD X (.Constant (.bool i) j pos) (tK (.bool i)):=lX Qd fun _=>.bl i
theorem wU {j:Nat}:PD X (.Constant .none j pos) (tK .none):=lX wI fun _=>.non
theorem wO {x:Str}{j:Nat}:PD X (.Constant (.str x) j pos) (tK (.str x)):=lX Ru fun _=>.str x
abbrev G2:=Kd->D->Kd->D->DK->Prop
def t2 (g:G2) (ta tb:DE):DE:=fun ρ P=>ta ρ fun k1 d1=>tb ρ fun k2 d2=>g k1 d1 k2 d2 P
def Ok2 (g:G2) (r:R2):Prop:=∀ p H0 own Hb H x y k1 d1 k2 d2 P Q,At p H0 own Hb H->Rp (okK p H0 own Hb k1) H x d1->Rp (okK p H0 own Hb k2) H y d2->g k1 d1 k2 d2 P ->
 (∀ k d v H',P k d->Kp p H H'->p.PI H'->Rp (okK p H0 own Hb k) H' v d->Q v H')->r x y H Q
theorem Fl {g:G2}{r:R2} (ok:Ok2 g r):∀ σ H Q,bR (t2 g ta tb) σ H Q->tOp r (bR ta) (bR tb) σ H Q:=by
 rintro σ H Q ⟨p,H0,own,ρ,P,E,t,q⟩
 refine⟨p,H0,own,ρ,_,E,t,fun k1 d1 v1 H1 t1 A1 r1=>?_⟩
 have E1:=E.go A1.kp A1.pen
 refine⟨p,H0,own,ρ,_,E1,t1,fun k2 d2 v2 H2 t2 A2 r2=>?_⟩
 have A:At p H0 own H H2:=A1.base A2
 exact ok p H0 own H H2 v1 v2 k1 d1 k2 d2 P Q A (pU A1 A2.kp r1) (jJ A1 r2) t2 fun k d v H' h k3 i3 r3=>q k d v H' h (A.go k3 i3) r3
theorem sG {op:Operator}{r:R2}{g:G2} (ho:OpR X (binaryOp op) r) (ok:Ok2 g r) (ha:PD X a ta) (hb:PD X b tb):PD X (.BinOp a op b pos) (t2 g ta tb):=PE.wk (bM ho ha hb) (Fl ok)
theorem sO {op:CmpOp}{r:R2}{g:G2} (ho:OpR X (compareOp op) r) (ok:Ok2 g r) (ha:PD X a ta) (hb:PD X b tb) (hm:behindInMarks op b=false):PD X (.Compare a [op] [b] pos) (t2 g ta tb):=PE.wk (Np ho ha hb hm) (Fl ok)
def cJ (t:DE):DT:=fun ρ P=>t ρ fun _ d=>match d with
 | .bool b=>P b
 | _=>False
theorem zR {t:DE}:∀ σ H Q,liftT (cJ t) σ H Q->(bR t) σ H (fun x H'=>∃ k,x=.bl k/\Q k H'):=by
 rintro σ H Q ⟨p,H0,own,ρ,P,E,t,q⟩
 refine⟨p,H0,own,ρ,_,E,t,fun k d v H' h A r=>?_⟩
 cases d with
 | bool b=>exact⟨b,r.bl',q b H' h A⟩
 | _=>exact h.elim
theorem cZ {op:CmpOp}{r:R2}{g:G2} (ho:OpR X (compareOp op) r) (ok:Ok2 g r) (ha:PD X a ta) (hb:PD X b tb) (hm:behindInMarks op b=false):PDT X (.Compare a [op] [b] pos) (cJ (t2 g ta tb)) :=
 PT.wk (jL ho ha hb hm) fun σ H Q h=>Fl ok σ H _ (zR σ H Q h)
theorem wJ {e:Expr}{t:DE} (h:PD X e t) (he:∀ whole,isTrue e X.env whole=(do let v ← whole; standAt e.pos; holding [v] (truthy v)):=by intro _; rfl):PDT X e (cJ t) :=
 PT.wk (Jp h he) fun σ H Q q=>zR σ H Q q
def Vv (t:DT):DT:=fun ρ P=>t ρ fun b=>P (!b)
theorem wK {t:DT} (ha:PDT X a t):PDT X (.UnaryOp .Not a pos) (Vv t):=PT.wk (Ra ha) (by
 rintro σ H Q ⟨p,H0,own,ρ,P,E,t,q⟩
 exact⟨p,H0,own,ρ,_,E,t,fun b H' h A=>q _ H' h A⟩)
abbrev PDW (X:Cx) (e:Expr) (t:DT):Prop:=PW X e (liftT t)
theorem PW.wk {X:Cx}{e:Expr}{t t':TT} (h:PW X e t) (w:∀ σ H Q,t' σ H Q->t σ H Q):PW X e t':=fun wh pins s σ H Q I q=>h wh pins s σ H Q I (w σ H Q q)
def Ph (t u:DT):DT:=fun ρ P=>t ρ fun b=>if b=true then u ρ P else P false
def dOr (t u:DT):DT:=fun ρ P=>t ρ fun b=>if b=true then P true else u ρ P
section
variable {rest:List Expr}{t u:DT}
theorem lQ (ha:PDT X a t):PDW X (.BoolOp .And [a] pos) t:=Eu ha
theorem cY (ha:PDT X a t):PDW X (.BoolOp .Or [a] pos) t:=Q7 ha
theorem Km:∀ σ H Q,liftT (Ph t u) σ H Q->Uh (liftT t) (liftT u) σ H Q:=by
 rintro σ H Q ⟨p,H0,own,ρ,P,E,t,q⟩
 refine⟨p,H0,own,ρ,_,E,t,fun b H' h A=>?_⟩
 cases b with
 | true=>exact aG ⟨p,H0,own,ρ,P,E.go A.kp A.pen,by simpa using h,fun c H2 h2 A2=>q c H2 h2 (A.base A2)⟩
 | false=>exact aL (q false H' (by simpa using h) A)
theorem Ob:∀ σ H Q,liftT (dOr t u) σ H Q->tOr (liftT t) (liftT u) σ H Q:=by
 rintro σ H Q ⟨p,H0,own,ρ,P,E,t,q⟩
 refine⟨p,H0,own,ρ,_,E,t,fun b H' h A=>?_⟩
 cases b with
 | true=>exact aG (q true H' (by simpa using h) A)
 | false=>exact aL ⟨p,H0,own,ρ,P,E.go A.kp A.pen,by simpa using h,fun c H2 h2 A2=>q c H2 h2 (A.base A2)⟩
theorem qO (ha:PDT X a t) (hb:PDW X (.BoolOp .And (b::rest) pos) u):PDW X (.BoolOp .And (a::b::rest) pos) (Ph t u):=PW.wk (Jm ha hb) Km
theorem dD (ha:PDT X a t) (hb:PDW X (.BoolOp .Or (b::rest) pos) u):PDW X (.BoolOp .Or (a::b::rest) pos) (dOr t u):=PW.wk (Ut ha hb) Ob
theorem PDW.pt {e:Expr}{t:DT} (h:PDW X e t):PDT X e t:=PW.pt h
end
end
variable [Gr]
section
variable {X:Cx}{pos:Pos}{a b e:Expr}{es:List Expr}{ta tb te:DE}{t:DA}
def gJ:DA:=fun _ P=>P []
def bD (te:DE) (t:DA):DA:=fun ρ P=>te ρ fun k d=>t ρ fun ks=>P ((k,d)::ks)
theorem lR:PDA X [] gJ:=PA.wk cu (by
 rintro σ H Q ⟨p,H0,own,ρ,P,E,t,q⟩
 exact q [] [] H t E.at .nil)
theorem fZ (ha:PD X e te) (hr:PDA X es t) (hs:zS X e es:=by rfl):PDA X (e::es) (bD te t):=PA.wk (jO ha hr hs) (by
 rintro σ H Q ⟨p,H0,own,ρ,P,E,t,q⟩
 refine⟨p,H0,own,ρ,_,E,t,fun k d v H1 h A r=>?_⟩
 refine⟨p,H0,own,ρ,_,E.go A.kp A.pen,h,fun ks vs H2 h2 A2 r2=>?_⟩
 exact q _ _ H2 h2 (A.base A2) (.cons (pU A A2.kp r) (RpK.base A r2)))
def joins:List (Kd×D)->Kd
 | []=>.imm
 | kd::ks=>kd.1.join (joins ks)
theorem RpK.all {p:Pn}{H0 Hb H H2:Hp}{own:Addr->Option Nat} (A:At p H0 own Hb H):∀ {vs:List V}{ks:List (Kd×D)}{k:Kd},(joins ks).le k=true->RpK p H0 own Hb H2 vs ks->Rps (okK p H0 own Hb (joins ks)) H2 vs (ks.map (·.2))
 | _,_,_,_,.nil=>.nil
 | _,kd::ks,k,e,.cons h t=>by
  have j:=dh kd.1 (joins ks)
  exact .cons (jc A j.1 h) ((RpK.all A (k:=joins ks) (by cases joins ks <;> simp [Kd.le]) t).mono (fun a o=>cO A j.2 o) (fun _ _ _ e=>e) fun _ _ e=>e)
theorem Kd.le_refl (k:Kd):k.le k=true:=by cases k <;> simp [Kd.le]
theorem RpK.length {p:Pn}{H0 Hb H2:Hp}{own:Addr->Option Nat}:∀ {vs:List V}{ks:List (Kd×D)},RpK p H0 own Hb H2 vs ks->vs.length=ks.length
 | _,_,.nil=>rfl
 | _,_,.cons _ t=>by rw [ĉ,ĉ,RpK.length t]
def PL (t:DA):DE:=fun ρ P=>t ρ fun ks=>ks.length<=1000/\P ((joins ks).join .new) (.list (ks.map (·.2)))
def j9 (t:DA):DE:=fun ρ P=>t ρ fun ks=>ks.length<=1000/\P (norm (joins ks) (.tuple (ks.map (·.2)))) (.tuple (ks.map (·.2)))
theorem qQ (h:PDA X es t):PD X (.List es pos) (PL t):=PE.wk (BZ h) (by
 rintro σ H Q ⟨p,H0,own,ρ,P,E,t,q⟩
 refine⟨p,H0,own,ρ,_,E,t,fun ks vs H1 h A r=>?_⟩
 have h24:=ø
 have hl:=r.length
 refine⟨by have:=h.1; omega,fun l hl=>?_⟩
 obtain⟨k2,i2,nw⟩:=A.new hl (.lst vs)
 have j:=dh (joins ks) .new
 refine q _ _ _ _ h.2 (A.go k2 i2) (.lst (cO A j.2 nw) aq ?_)
 exact (cM A k2 (RpK.all A (Kd.le_refl _) r)).mono (fun a o=>cO A j.1 o) (fun _ _ _ e=>e) fun _ _ e=>e)
theorem lU {x1} (h:PDA X es t):PD X (.Tuple es x1 pos) (j9 t):=PE.wk (Jz h) (by
 rintro σ H Q ⟨p,H0,own,ρ,P,E,t,q⟩
 refine⟨p,H0,own,ρ,_,E,t,fun ks vs H1 h A r=>?_⟩
 have h24:=ø
 have hl:=r.length
 refine⟨by have:=h.1; omega,fun l hl=>?_⟩
 obtain⟨k2,i2,nw⟩:=A.new hl (.tup vs)
 exact q _ _ _ _ h.2 (A.go k2 i2) (aZ (.tup aq (cM A k2 (RpK.all A (Kd.le_refl _) r)))))
abbrev GC:=List (Kd×D)->DK->Prop
def tCl (g:GC) (t:DA):DE:=fun ρ P=>t ρ fun ks=>g ks P
def OkC (g:GC) (r:List V->Hp->VK->Prop):Prop:=∀ p H0 own Hb H vs ks P Q,At p H0 own Hb H->RpK p H0 own Hb H vs ks->g ks P ->
 (∀ k d v H',P k d->Kp p H H'->p.PI H'->Rp (okK p H0 own Hb k) H' v d->Q v H')->r vs H Q
theorem Qm {g:GC}{r:List V->Hp->VK->Prop} (ok:OkC g r):∀ σ H Q,bR (tCl g t) σ H Q->tCB r (j5 t) σ H Q:=by
 rintro σ H Q ⟨p,H0,own,ρ,P,E,t,q⟩
 refine⟨p,H0,own,ρ,_,E,t,fun ks vs H1 h A r=>?_⟩
 exact ok p H0 own H H1 vs ks P Q A r h fun k d v H' h2 k2 i2 r2=>q k d v H' h2 (A.go k2 i2) r2
theorem cN {r:List V->Hp->VK->Prop}{id:String}{x:Str}{ps:Pos}{g:GC} (hc:bA X (.builtin id) r) (ok:OkC g r) (hg:Gl X x) (hm:X.mg x=none) (hv:bootBuiltins x=some (.builtin id)) (ha:PDA X (e::es) t) (hn:x≠"__name__":=by decide) (hdb:zB x:=by decide)
  (he:zS X e es:=by rfl) (hpl:zP X pos es:=by rfl):PD X (.Call (.Name x ps) (e::es) [] pos) (tCl g t):=PE.wk (bQ hc hg hm hv ha hn hdb he hpl) (Qm ok)
theorem zj {r:List V->Hp->VK->Prop}{id:String}{x:Str}{ps:Pos}{g:GC} (hc:bA X (.type id) r) (ok:OkC g r) (hg:Gl X x) (hm:X.mg x=none) (hv:bootBuiltins x=some (.type id)) (ha:PDA X (e::es) t) (hn:x≠"__name__":=by decide) (hdb:zB x:=by decide)
  (he:zS X e es:=by rfl) (hpl:zP X pos es:=by rfl):PD X (.Call (.Name x ps) (e::es) [] pos) (tCl g t):=PE.wk (uZ hc hg hm hv ha hn hdb he hpl) (Qm ok)
def spD (t:List D->(D->Prop)->Prop):Sp:=fun vs H Q _=>∃ ds P,Rps (fun _=>True) H vs ds/\t ds P/\∀ d v H',P d->Same H H'->Rp (fun a=>H a=none) H' v d->Q v H'
def spP (C:Pn->Prop) (t:List D->(D->Prop)->Prop):Sp:=fun vs H Q _=>∃ p vs' ds P,C p/\vs=p.pv::vs'/\p.PI H/\Rps (fun a=>¬ p.fp a) H vs' ds/\t ds P/\∀ d v H',P d->Kp p H H'->p.PI H'->Rp (fun a=>H a=none) H' v d->Q v H'
def tFn (f:List D->(D->Prop)->Prop) (t:DA):DE:=fun ρ P=>t ρ fun ks=>f (ks.map (·.2)) fun d=>P (norm .new d) d
theorem RpK.rps {p:Pn}{H0 Hb H H2:Hp}{own:Addr->Option Nat} (A:At p H0 own Hb H):∀ {vs:List V}{ks:List (Kd×D)},RpK p H0 own Hb H2 vs ks->Rps (fun a=>¬ p.fp a) H2 vs (ks.map (·.2))
 | _,_,.nil=>.nil
 | _,_,.cons h t=>.cons (h.mono (fun a o=>mj A o) (fun _ _ _ e=>e) fun _ _ e=>e) (RpK.rps A t)
theorem Oc {f:List D->(D->Prop)->Prop}:∀ σ H Q,bR (tFn f t) σ H Q->rH (spD f) [] E0 (j5 t) σ H Q:=by
 rintro σ H Q ⟨p,H0,own,ρ,P,E,t,q⟩
 refine⟨p,H0,own,ρ,_,E,t,fun ks vs H1 h A r=>?_⟩
 show spD f (vs++[]) H1 Q E0
 rw [ÿ]
 refine⟨ks.map (·.2),_,(RpK.rps A r).mono (fun _ _=>trivial) (fun _ _ _ e=>e) fun _ _ e=>e,h,fun d v H' h2 s r2=>?_⟩
 have k2:Kp p H1 H':=Kp.of s
 refine q _ d v H' h2 (A.go k2 (p.mono H1 H' A.pen fun b o _ e=>s b o e)) (aZ ?_)
 exact r2.mono (fun a o=>A.free o) (fun _ _ _ e=>e) fun _ _ e=>e
def Bs (C:Pn->Prop) (f:List D->(D->Prop)->Prop) (i:Nat) (t:DA):DE:=fun ρ P=>ρ[i]?=some (.pen C)/\tFn f t ρ P
theorem Kh {C:Pn->Prop}{f:List D->(D->Prop)->Prop}{i:Nat}:∀ σ H Q,bR (Bs C f i t) σ H Q->rH (spP C f) [] E0 (yM (qj i) (j5 t)) σ H Q:=by
 rintro σ H Q ⟨p,H0,own,ρ,P,E,⟨hp,t⟩,q⟩
 obtain⟨hs,c⟩:=E.slot i _ hp
 refine⟨p.pv,hs,p,H0,own,ρ,_,E,t,fun ks vs H1 h A r=>?_⟩
 show spP C f ((p.pv::vs)++[]) H1 Q E0
 rw [ÿ]
 refine⟨p,vs,ks.map (·.2),_,c,rfl,A.pen,RpK.rps A r,h,fun d v H' h2 k2 i2 r2=>?_⟩
 exact q _ d v H' h2 (A.go k2 i2) (aZ (r2.mono (fun a o=>A.free o) (fun _ _ _ e=>e) fun _ _ e=>e))
def gI (C:Int->Int->Prop) (f:Int->Int->D):G2:=fun _ d1 _ d2 P=>match d1,d2 with
 | .int i,.int j=>C i j/\P .imm (f i j)
 | _,_=>False
def gI0 (f:Int->Int->D):G2:=fun _ d1 _ d2 P=>match d1,d2 with
 | .int i,.int j=>P .imm (f i j)
 | _,_=>False
theorem okI {C:Int->Int->Prop}{f:Int->Int->D}{g:Int->Int->V} (h:∀ i j H,Rp (fun _=>False) H (g i j) (f i j)):Ok2 (gI C f) (rI C g):=by
 intro p H0 own Hb H x y k1 d1 k2 d2 P Q A r1 r2 t q
 unfold gI at t
 split at t
 ·rename_i i j
  exact⟨i,j,r1.int',r2.int',t.1,q _ _ _ _ t.2 Kp.refl A.pen (h i j H)⟩
 ·exact t.elim
theorem GR {f:Int->Int->D}{g:Int->Int->V} (h:∀ i j H,Rp (fun _=>False) H (g i j) (f i j)):Ok2 (gI0 f) (rI0 g):=by
 intro p H0 own Hb H x y k1 d1 k2 d2 P Q A r1 r2 t q
 unfold gI0 at t
 split at t
 ·rename_i i j
  exact⟨i,j,r1.int',r2.int',q _ _ _ _ t Kp.refl A.pen (h i j H)⟩
 ·exact t.elim
theorem gQ (ha:PD X a ta) (hb:PD X b tb):PD X (.BinOp a .Sub b pos) (t2 (gI0 fun i j=>.int (i - j)) ta tb):=sG RD (GR fun i j _=>.int _) ha hb
theorem qT (ha:PD X a ta) (hb:PD X b tb):PD X (.BinOp a .FloorDiv b pos) (t2 (gI TQ fun i j=>.int (i / j)) ta tb):=sG qX (okI fun i j _=>.int _) ha hb
theorem sI (ha:PD X a ta) (hb:PD X b tb):PD X (.BinOp a .Mod b pos) (t2 (gI (fun _ j=>0<j) fun i j=>.int (i % j)) ta tb):=sG gU (okI fun i j _=>.int _) ha hb
theorem wQ (ha:PD X a ta) (hb:PD X b tb):PD X (.BinOp a .Pow b pos) (t2 (gI TJ fun i j=>.int (i ^ j.toNat)) ta tb):=sG JR (okI fun i j _=>.int _) ha hb
theorem JQ (ha:PD X a ta) (hb:PD X b tb):PD X (.Compare a [.Gt] [b] pos) (t2 (gI0 fun i j=>.bool (decide (j<i))) ta tb):=sO EY (GR fun i j _=>.bl _) ha hb (cA _)
theorem wL (ha:PD X a ta) (hb:PD X b tb):PDT X (.Compare a [.Lt] [b] pos) (cJ (t2 (gI0 fun i j=>.bool (decide (i<j))) ta tb)):=cZ JT (GR fun i j _=>.bl _) ha hb (cA _)
theorem wM (ha:PD X a ta) (hb:PD X b tb):PDT X (.Compare a [.Gt] [b] pos) (cJ (t2 (gI0 fun i j=>.bool (decide (j<i))) ta tb)):=cZ EY (GR fun i j _=>.bl _) ha hb (cA _)
theorem Ce (ha:PD X a ta) (hb:PD X b tb):PDT X (.Compare a [.GtE] [b] pos) (cJ (t2 (gI0 fun i j=>.bool (decide (j<=i))) ta tb)):=cZ Qe (GR fun i j _=>.bl _) ha hb (cA _)
def scD:D->D->Option Bool
 | .int i,.int j=>some (decide (i=j))
 | .bool i,.bool j=>some (decide (i=j))
 | .str i,.str j=>some (decide (i=j))
 | _,_=>none
def gEq (neg:Bool):G2:=fun _ d1 _ d2 P=>match scD d1 d2 with
 | some b=>P .imm (.bool (if neg then !b else b))
 | none=>False
theorem V5:Ok2 (gEq false) rEq:=by
 intro p H0 own Hb H x y k1 d1 k2 d2 P Q A r1 r2 t q
 unfold gEq scD at t
 split at t
 ·rename_i b e
  split at e <;> first | cases e | skip
  ·rw [r1.int',r2.int']
   refine⟨rfl,?_⟩
   have e2:∀ i j:Int,decide (V.int i=V.int j)=decide (i=j):=fun i j=>by simp
   rw [e2]; exact q _ _ _ _ t Kp.refl A.pen (.bl _)
  ·rw [r1.bl',r2.bl']
   refine⟨rfl,?_⟩
   have e2:∀ i j:Bool,decide (V.bl i=V.bl j)=decide (i=j):=fun i j=>by simp
   rw [e2]; exact q _ _ _ _ t Kp.refl A.pen (.bl _)
  ·rw [r1.str',r2.str']
   refine⟨rfl,?_⟩
   have e2:∀ i j:Str,decide (V.str i=V.str j)=decide (i=j):=fun i j=>by simp
   rw [e2]; exact q _ _ _ _ t Kp.refl A.pen (.bl _)
 ·exact t.elim
theorem V4:Ok2 (gEq true) rNe:=by
 intro p H0 own Hb H x y k1 d1 k2 d2 P Q A r1 r2 t q
 unfold gEq scD at t
 split at t
 ·rename_i b e
  split at e <;> first | cases e | skip
  ·rw [r1.int',r2.int']
   refine⟨rfl,?_⟩
   have e2:∀ i j:Int,decide (V.int i=V.int j)=decide (i=j):=fun i j=>by simp
   rw [e2]; exact q _ _ _ _ t Kp.refl A.pen (.bl _)
  ·rw [r1.bl',r2.bl']
   refine⟨rfl,?_⟩
   have e2:∀ i j:Bool,decide (V.bl i=V.bl j)=decide (i=j):=fun i j=>by simp
   rw [e2]; exact q _ _ _ _ t Kp.refl A.pen (.bl _)
  ·rw [r1.str',r2.str']
   refine⟨rfl,?_⟩
   have e2:∀ i j:Str,decide (V.str i=V.str j)=decide (i=j):=fun i j=>by simp
   rw [e2]; exact q _ _ _ _ t Kp.refl A.pen (.bl _)
 ·exact t.elim
def gIx:G2:=fun k1 d1 _ d2 P=>match d1,d2 with
 | .list ds,.int i=>∃ d,atI ds i=some d/\P (norm k1 d) d
 | .tuple ds,.int i=>∃ d,atI ds i=some d/\P (norm k1 d) d
 | _,_=>False
theorem Rps.atI {ok:Addr->Prop}{H:Hp}{vs:List V}{ds:List D}{i:Int}{d:D} (r:Rps ok H vs ds) (h:L2.atI ds i=some d):∃ v,L2.atI vs i=some v/\Rp ok H v d:=by
 unfold L2.atI at h ⊢
 rw [r.length]
 cases e:ixN ds.length i with
 | none=>rw [e] at h; cases h
 | some j =>
  rw [e] at h
  obtain⟨v,h1,h2⟩:=r.getD (i:=j) (d:=d) h
  exact⟨v,h1,h2⟩
theorem eE {p:Pn}{H0 Hb H:Hp}{own:Addr->Option Nat}{vs:List V}{kd:Kd×D} (r:RpK p H0 own Hb H vs [kd]):∃ v,vs=[v]/\Rp (okK p H0 own Hb kd.1) H v kd.2:=by
 cases r with
 | cons h t=>cases t; exact⟨_,rfl,h⟩
theorem Jg {p:Pn}{H0 Hb H:Hp}{own:Addr->Option Nat}{vs:List V}{kd ke:Kd×D} (r:RpK p H0 own Hb H vs [kd,ke]):∃ v w,vs=[v,w]/\Rp (okK p H0 own Hb kd.1) H v kd.2/\Rp (okK p H0 own Hb ke.1) H w ke.2:=by
 cases r with
 | cons h t =>
  cases t with
  | cons h2 t2=>cases t2; exact⟨_,_,rfl,h,h2⟩
def Oz:GC:=fun ks P=>match ks with
 | [(_,.list ds)]=>P .imm (.int ds.length)
 | [(_,.tuple ds)]=>P .imm (.int ds.length)
 | _=>False
theorem U5 {K:Ü}:OkC Oz (fun xs H Q=>∃ p ys,xs=[.ref p]/\(SqL K H p ys\/SqT K H p ys)/\Q (.int ys.length) H):=by
 intro p H0 own Hb H vs ks P Q A r t q
 unfold Oz at t
 split at t
 ·obtain⟨v,rfl,r'⟩:=eE r
  obtain⟨c,vs,rfl,o,hc,rs⟩:=r'.bL
  exact⟨c,vs,rfl,.inl (SqL.of hc),by rw [rs.length]; exact q _ _ _ _ t Kp.refl A.pen (.int _)⟩
 ·obtain⟨v,rfl,r'⟩:=eE r
  obtain⟨c,vs,rfl,hc,rs⟩:=r'.eZ
  exact⟨c,vs,rfl,.inr (SqT.of hc),by rw [rs.length]; exact q _ _ _ _ t Kp.refl A.pen (.int _)⟩
 ·exact t.elim
theorem eO {ps:Pos} (hm:X.mg "len"=none) (ha:PDA X [a] t) (hg:Gl X "len":=by rfl) (he:zS X a []:=by rfl) (hpl:zP X pos []:=by rfl):PD X (.Call (.Name "len" ps) [a] [] pos) (tCl Oz t) :=
 cN dX U5 hg hm PySem.boot_len ha (by decide) (by decide) he hpl
def S5:GC:=fun ks P=>match ks with
 | [(_,.int i)]=>P .imm (.int i)
 | [(_,.bool b)]=>P .imm (.int (if b then 1 else 0))
 | _=>False
theorem qR {ps:Pos} (hm:X.mg "int"=none) (hv:bootBuiltins "int"=some (.type "int")) (ha:PDA X [a] t) (hg:Gl X "int":=by rfl) (he:zS X a []:=by rfl) (hpl:zP X pos []:=by rfl):PD X (.Call (.Name "int" ps) [a] [] pos) (tCl S5 t) :=
 zj HF (by
  intro p H0 own Hb H vs ks P Q A r t q
  unfold S5 at t
  split at t
  ·rename_i k i
   obtain⟨v,rfl,r'⟩:=eE r
   rw [r'.int']
   exact .inl ⟨i,rfl,q _ _ _ _ t Kp.refl A.pen (.int _)⟩
  ·rename_i k i
   obtain⟨v,rfl,r'⟩:=eE r
   rw [r'.bl']
   exact .inr ⟨i,rfl,q _ _ _ _ t Kp.refl A.pen (.int _)⟩
  ·exact t.elim) hg hm hv ha (by decide) (by decide) he hpl
end
variable [Gr]
section
variable {ok ok':Addr->Prop}{H H':Hp}
mutual
theorem Rp.bY (f:∀ a o,ok a->H a=some o->ok' a/\H' a=some o) (t:∀ a xs,H a=some (.tup xs)->H' a=some (.tup xs)):∀ {v:V}{d:D},Rp ok H v d->Rp ok' H' v d
 | _,_,.non=>.non
 | _,_,.bl b=>.bl b
 | _,_,.int i=>.int i
 | _,_,.str x=>.str x
 | _,_,.lst o h r=>.lst (f _ _ o h).1 (f _ _ o h).2 (Rps.bY f t r)
 | _,_,.tup h r=>.tup (t _ _ h) (Rps.bY f t r)
 | _,_,.dct o h r=>.dct (f _ _ o h).1 (f _ _ o h).2 (Rkv.bY f t r)
theorem Rps.bY (f:∀ a o,ok a->H a=some o->ok' a/\H' a=some o) (t:∀ a xs,H a=some (.tup xs)->H' a=some (.tup xs)):∀ {v:List V}{d:List D},Rps ok H v d->Rps ok' H' v d
 | _,_,.nil=>.nil
 | _,_,.cons h r=>.cons (Rp.bY f t h) (Rps.bY f t r)
theorem Rkv.bY (f:∀ a o,ok a->H a=some o->ok' a/\H' a=some o) (t:∀ a xs,H a=some (.tup xs)->H' a=some (.tup xs)):∀ {v:List (Key×V)}{d:List (D×D)},Rkv ok H v d->Rkv ok' H' v d
 | _,_,.nil=>.nil
 | _,_,.cons h r=>.cons (Rp.bY f t h) (Rkv.bY f t r)
end
end
structure DEnds where
 nx:List Sl->Prop
 rt:D->Prop
 bk:List Sl->Prop:=fun _=>False
 ct:List Sl->Prop:=fun _=>False
abbrev DS:=DEnds->List Sl->Prop
structure FrS (p:Pn) (own:Addr->Option Nat) (H:Hp) (own':Addr->Option Nat) (H':Hp):Prop where
 keep:∀ b o,H b=some o->¬ p.fp b->own b=none->H' b=some o/\own' b=none
 tup:∀ a xs,H a=some (.tup xs)->H' a=some (.tup xs)
theorem FrS.trans {p:Pn}{o1 o2 o3:Addr->Option Nat}{H1 H2 H3:Hp} (a:FrS p o1 H1 o2 H2) (b:FrS p o2 H2 o3 H3):FrS p o1 H1 o3 H3:=⟨fun c o h n e=>let ⟨x,y⟩:=a.keep c o h n e; b.keep c o x n y,fun c xs e=>b.tup c xs (a.tup c xs e)⟩
theorem FrS.refl {p:Pn}{o1:Addr->Option Nat}{H1:Hp}:FrS p o1 H1 o1 H1:=⟨fun _ _ h _ e=>⟨h,e⟩,fun _ _ e=>e⟩
theorem At.tups {p:Pn}{H0 H H':Hp}{own:Addr->Option Nat} (A:At p H0 own H H'):∀ a xs,H a=some (.tup xs)->H' a=some (.tup xs):=jr (⟨A.k0,Kp.refl,A.penb,A.penb,A.ow⟩:At p H0 own H H) A.kp
structure RPost (p:Pn) (H0 H':Hp) (v:V) (d:D):Prop where
 k0:∀ b o,H0 b=some o->¬ p.fp b->H' b=some o
 pen:p.PI H'
 rp:Rp (fun a=>H0 a=none/\¬ p.fp a) H' v d
structure Wish (p:Pn) (H0:Hp) (own:Addr->Option Nat) (H:Hp) (P:DEnds) (Q:Ends):Prop where
 nx:∀ own' σ' H' ρ',EnvD p H0 own' σ' H' ρ'->FrS p own H own' H'->P.nx ρ'->Q.nx σ' H'
 rt:∀ d v H',P.rt d->RPost p H0 H' v d->Q.rt v H'
 bk:∀ own' σ' H' ρ',EnvD p H0 own' σ' H' ρ'->FrS p own H own' H'->P.bk ρ'->Q.bk σ' H'
 ct:∀ own' σ' H' ρ',EnvD p H0 own' σ' H' ρ'->FrS p own H own' H'->P.ct ρ'->Q.ct σ' H'
theorem Wish.go {p:Pn}{H0 H H':Hp}{own own':Addr->Option Nat}{P:DEnds}{Q:Ends} (w:Wish p H0 own H P Q) (f:FrS p own H own' H'):Wish p H0 own' H' P Q :=
 ⟨fun o s h r e g n=>w.nx o s h r e (f.trans g) n,w.rt,fun o s h r e g n=>w.bk o s h r e (f.trans g) n,fun o s h r e g n=>w.ct o s h r e (f.trans g) n⟩
def j4 (t:DS):TS:=fun Q σ H=>∃ p H0 own ρ P,EnvD p H0 own σ H ρ/\t P ρ/\Wish p H0 own H P Q
abbrev PDS (X:Cx) (st:Stmt) (t:DS):Prop:=PS X st (j4 t)
abbrev lC (X:Cx) (st:List Stmt) (t:DS):Prop:=PSs X st (j4 t)
theorem PSs.wk' {X:Cx}{ss:List Stmt}{t t':TS} (h:PSs X ss t) (w:∀ D σ H,t' D σ H->t D σ H):PSs X ss t':=fun pins s σ H D I q=>h pins s σ H D I (w D σ H q)
theorem PS.wk' {X:Cx}{ss:Stmt}{t t':TS} (h:PS X ss t) (w:∀ D σ H,t' D σ H->t D σ H):PS X ss t':=fun pins s σ H D I q=>h pins s σ H D I (w D σ H q)
theorem At.frs {p:Pn}{H0 H H':Hp}{own:Addr->Option Nat} (A:At p H0 own H H'):FrS p own H own H':=⟨fun b o h n e=>⟨A.kp b o h n,e⟩,A.tups⟩
section
variable {X:Cx}{pos:Pos}{st:Stmt}{rest:List Stmt}{e:Expr}{te:DE}{t u:DS}
def Ar:DS:=fun P ρ=>P.nx ρ
def Dw (t u:DS):DS:=fun P ρ=>t { P with nx:=u P } ρ
theorem Dm:lC X [] Ar:=PSs.wk' jM (by
 rintro Q σ H ⟨p,H0,own,ρ,P,E,t,w⟩
 exact w.nx own σ H ρ E FrS.refl t)
theorem xZ (h1:PDS X st t) (h2:lC X rest u):lC X (st::rest) (Dw t u):=PSs.wk' (yZ h1 h2) (by
 rintro Q σ H ⟨p,H0,own,ρ,P,E,t,w⟩
 exact⟨p,H0,own,ρ,_,E,t,⟨fun o s h r e g n=>⟨p,H0,o,r,P,e,n,w.go g⟩,w.rt,w.bk,w.ct⟩⟩)
theorem ud (h1:PDS X st t):lC X [st] t:=dM h1
def Aq (te:DE):DS:=fun P ρ=>te ρ fun k d=>k.le .n0=true/\P.rt d
theorem uc (he:PD X e te):PDS X (.Return (some e) pos) (Aq te):=PS.wk' (kE he) (by
 rintro Q σ H ⟨p,H0,own,ρ,P,E,t,w⟩
 refine⟨p,H0,own,ρ,_,E,t,fun k d v H' h A r=>w.rt d v H' h.2 ⟨fun b o e n=>A.kp b o (A.k0 b o e n) n,A.pen,?_⟩⟩
 exact jc A h.1 r)
def dIf (c:DT) (t u:DS):DS:=fun P ρ=>c ρ fun b=>if b=true then t P ρ else u P ρ
theorem Lh {c:Expr}{a b:List Stmt}{tc:DT} (hc:PDT X c tc) (ha:lC X a t) (hb:lC X b u):PDS X (.If c a b pos) (dIf tc t u):=PS.wk' (uY hc ha hb) (by
 rintro Q σ H ⟨p,H0,own,ρ,P,E,t,w⟩
 refine⟨p,H0,own,ρ,_,E,t,fun b H' h A=>?_⟩
 cases b with
 | true=>exact aG ⟨p,H0,own,ρ,P,E.go A.kp A.pen,by simpa using h,w.go A.frs⟩
 | false=>exact aL ⟨p,H0,own,ρ,P,E.go A.kp A.pen,by simpa using h,w.go A.frs⟩)
def Qw (te:DE):DS:=fun P ρ=>te ρ fun _ _=>P.nx ρ
theorem xY (he:PD X e te) (hs:swapsWith e none pos.line X.env=pure false:=by rfl):PDS X (.Expr e pos) (Qw te):=PS.wk' (lO he hs) (by
 rintro Q σ H ⟨p,H0,own,ρ,P,E,t,w⟩
 exact⟨p,H0,own,ρ,_,E,t,fun k d v H' h A r=>w.nx own σ H' ρ (E.go A.kp A.pen) A.frs h⟩)
def Sl.region:Sl->Option Nat
 | .dw r _=>some r
 | .rw r _=>some r
 | .tw r _=>some r
 | .sp r _ _=>some r
 | _=>none
def tX (r:Nat) (ρ:List Sl) (i:Nat):Bool:=(ρ.set i .any).all fun s=>s.region != some r
def stK (rg:Option Nat) (ρ:List Sl) (i:Nat) (k:Kd) (d:D):Option Sl:=match k with
 | .imm=>some (.im d)
 | .new=>match rg with
  | some r=>if tX r ρ i=true then some (.dw r d) else none
  | none=>some (.sn d)
 | .reg r=>some (.dw r d)
 | .snw=>some (.sn d)
 | .shr=>some (.sh d)
 | _=>none
def Dv (i:Nat) (rg:Option Nat) (te:DE):DS:=fun P ρ=>te ρ fun k d=>match stK rg ρ i (norm k d) d with
 | some s=>P.nx (ρ.set i s)
 | none=>False
section
variable {p:Pn}{H0 H H1:Hp}{own:Addr->Option Nat}{σ:L2.St}{ρ:List Sl}{i:Nat}
theorem EnvD.set {v:V}{s:Sl} (E:EnvD p H0 own σ H ρ) (hs:i<σ.length->jD p H0 own (σ.set i (some v)) H i s):EnvD p H0 own (σ.set i (some v)) H (ρ.set i s):=by
 refine⟨E.k0,E.pen,E.ow,fun j s' e=>?_,by simpa using E.len,E.gr⟩
 by_cases hj:j=i
 ·subst hj
  have hl:j<ρ.length:=by
   have:=(Æ.mp e).1
   simpa using this
  rw [Ĉ hl] at e
  cases e
  exact hs (by rw [← E.len]; exact hl)
 ·rw [Ĥ (Ć hj)] at e
  have q:=E.slot j s' e
  have eq:(σ.set i (some v))[j]?=σ[j]?:=Ĥ (Ć hj)
  cases s' <;> simp only [jD,eq] at q ⊢ <;> exact q
def cD (r:Nat) (H H1:Hp) (own:Addr->Option Nat):Addr->Option Nat:=fun a=>match H a,H1 a with
 | none,some _=>some r
 | _,_=>own a
theorem bJ {r:Nat}{a:Addr}{o:HO} (h:H a=some o):cD r H H1 own a=own a:=by unfold cD; rw [h]
theorem jR {r:Nat}{a:Addr}{o:HO} (h:H a=none) (h1:H1 a=some o):cD r H H1 own a=some r:=by unfold cD; rw [h,h1]
theorem EnvD.adopt (r:Nat) (E:EnvD p H0 own σ H ρ) (A:At p H0 own H H1):EnvD p H0 (cD r H H1 own) σ H1 ρ:=by
 have tp:=jr E.at A.kp
 refine⟨fun b o e n=>A.kp b o (E.k0 b o e n) n,A.pen,fun a q e=>?_,fun j s e=>?_,E.len,E.gr⟩
 ·cases h:H a with
  | some o =>
   rw [bJ h] at e
   obtain⟨x,y,z⟩:=E.ow a q e
   refine⟨x,y,by rw [A.kp a o h y]; exact fun z=>nomatch z⟩
  | none =>
   cases h1:H1 a with
   | none =>
    have e':own a=some q:=by rw [← e]; unfold cD; rw [h,h1]
    exact absurd h (E.ow a q e').2.2
   | some o=>exact⟨E.at.h0 h,E.at.nfb h,fun z=>nomatch z⟩
 ·have q:=E.slot j s e
  cases s with
  | any=>trivial
  | im d=>exact let ⟨v,a,b⟩:=q; ⟨v,a,b.mono (fun _ o=>o) (fun _ _ o=>o.elim) tp⟩
  | sh d=>exact let ⟨v,a,b⟩:=q; ⟨v,a,b.bY (fun c o n h=>⟨⟨n.1,by rw [bJ h]; exact n.2⟩,A.kp c o h n.1⟩) tp⟩
  | sn d=>exact let ⟨v,a,b⟩:=q; ⟨v,a,b.bY (fun c o n h=>⟨⟨n.1,n.2.1,by rw [bJ h]; exact n.2.2⟩,A.kp c o h n.2.1⟩) tp⟩
  | dw r' d=>exact let ⟨v,a,b⟩:=q; ⟨v,a,b.bY (fun c o n h=>⟨by rw [bJ h]; exact n,A.kp c o h (E.ow c r' n).2.1⟩) tp⟩
  | pen C=>exact q
  | rw r' L=>exact let ⟨st,as,a,b⟩:=q; ⟨st,as,a,b.mono (fun c o n h=>⟨by rw [bJ h]; exact n,A.kp c o h (E.ow c r' n).2.1⟩) tp⟩
  | tw r' L=>exact let ⟨st,as,a,b⟩:=q; ⟨st,as,a,b.mono (fun c o n h=>⟨by rw [bJ h]; exact n,A.kp c o h (E.ow c r' n).2.1⟩) tp⟩
  | scr v b=>exact q
  | sp r' b ds=>exact let ⟨l,vs,a,o,h,z⟩:=q; ⟨l,vs,a,by rw [bJ h]; exact o,A.kp l _ h (E.ow l r' o).2.1,z.bY (fun c u n e=>⟨⟨n.1,n.2.1,by rw [bJ e]; exact n.2.2⟩,A.kp c u e n.2.1⟩) tp⟩
theorem Mg {r:Nat}{k:Kd}{v:V}{d:D} (h:k.le .new=true) (A:At p H0 own H H1) (x:Rp (okK p H0 own H k) H1 v d):Rp (fun a=>cD r H H1 own a=some r) H1 v d :=
 (jc A h x).bY (fun a o n e=>⟨jR n e,e⟩) fun _ _ e=>e
theorem pJ {r:Nat} (A:At p H0 own H H1):FrS p own H (cD r H H1 own) H1:=⟨fun b o h n e=>⟨A.kp b o h n,by rw [bJ h]; exact e⟩,A.tups⟩
theorem EnvD.drop (E:EnvD p H0 own σ H ρ):EnvD p H0 own σ H (ρ.set i .any):=by
 refine⟨E.k0,E.pen,E.ow,fun j s' e=>?_,by simpa using E.len,E.gr⟩
 by_cases hj:j=i
 ·subst hj
  have hl:j<ρ.length:=by
   have:=(Æ.mp e).1
   simpa using this
  rw [Ĉ hl] at e
  cases e
  trivial
 ·rw [Ĥ (Ć hj)] at e
  exact E.slot j s' e
def aQ (r:Nat) (own:Addr->Option Nat):Addr->Option Nat:=fun a=>if own a=some r then none else own a
theorem EnvD.clear {r:Nat} (E:EnvD p H0 own σ H ρ) (h:ρ.all (fun s=>s.region != some r)=true):EnvD p H0 (aQ r own) σ H ρ:=by
 refine⟨E.k0,E.pen,fun a q e=>?_,fun j s e=>?_,E.len,E.gr⟩
 ·unfold aQ at e
  split at e
  ·cases e
  ·exact E.ow a q e
 ·have q:=E.slot j s e
  have z:=Ŀ.mp h s (É e)
  have c0:∀ a,own a=none->aQ r own a=none:=fun a n=>by unfold aQ; rw [n]; simp
  cases s with
  | any=>trivial
  | im d=>exact q
  | sh d=>exact let ⟨v,a,b⟩:=q; ⟨v,a,b.mono (fun c n=>⟨n.1,c0 c n.2⟩) (fun _ _ _ e=>e) fun _ _ e=>e⟩
  | sn d=>exact let ⟨v,a,b⟩:=q; ⟨v,a,b.mono (fun c n=>⟨n.1,n.2.1,c0 c n.2.2⟩) (fun _ _ _ e=>e) fun _ _ e=>e⟩
  | dw r' d =>
   have hne:r'≠r:=by simpa [Sl.region] using z
   exact let ⟨v,a,b⟩:=q; ⟨v,a,b.mono (fun c n=>by unfold aQ; rw [n,if_neg (by simpa using hne)]) (fun _ _ _ e=>e) fun _ _ e=>e⟩
  | pen C=>exact q
  | rw r' L =>
   have hne:r'≠r:=by simpa [Sl.region] using z
   exact let ⟨st,as,a,b⟩:=q; ⟨st,as,a,b.mono (fun c o n e=>⟨by unfold aQ; rw [n,if_neg (by simpa using hne)],e⟩) fun _ _ e=>e⟩
  | tw r' L =>
   have hne:r'≠r:=by simpa [Sl.region] using z
   exact let ⟨st,as,a,b⟩:=q; ⟨st,as,a,b.mono (fun c o n e=>⟨by unfold aQ; rw [n,if_neg (by simpa using hne)],e⟩) fun _ _ e=>e⟩
  | scr v b=>exact q
  | sp r' b ds =>
   have hne:r'≠r:=by simpa [Sl.region] using z
   exact let ⟨l,vs,a,o,h,y⟩:=q; ⟨l,vs,a,by unfold aQ; rw [o,if_neg (by simpa using hne)],h,y.mono (fun c n=>⟨n.1,n.2.1,c0 c n.2.2⟩) (fun _ _ _ e=>e) fun _ _ e=>e⟩
theorem gG {r:Nat}:FrS p own H (aQ r own) H:=⟨fun b o h n e=>⟨h,by unfold aQ; rw [e]; simp⟩,fun _ _ e=>e⟩
end
theorem xX {i:Nat} (rg:Option Nat) (h:PS X st (uF (bR te) (ju i))):PDS X st (Dv i rg te):=PS.wk' h (by
 rintro Q σ H ⟨p,H0,own,ρ,P,E,t,w⟩
 refine⟨p,H0,own,ρ,_,E,t,fun k d v H1 h A r=>?_⟩
 have r:=aZ r
 generalize norm k d=k' at h r
 show Q.nx (σ.set i (some v)) H1
 have E1:=E.go A.kp A.pen
 have fin:∀ s,jD p H0 own (σ.set i (some v)) H1 i s\/¬ i<σ.length->P.nx (ρ.set i s)->Q.nx (σ.set i (some v)) H1:=fun s hs hn =>
  w.nx own _ H1 _ (E1.set fun hl=>hs.elim id fun z=>absurd hl z) A.frs hn
 have here:i<σ.length->(σ.set i (some v))[i]?=some (some v):=fun hl=>Ĉ hl
 by_cases hl:i<σ.length
 ·cases k' with
  | imm=>exact fin (.im d) (.inl ⟨v,here hl,r⟩) h
  | new =>
   cases rg with
   | none=>exact fin (.sn d) (.inl ⟨v,here hl,jc A (k:=.snw) rfl r⟩) h
   | some q =>
    simp only [stK] at h
    by_cases hf:tX q ρ i=true
    ·rw [if_pos hf] at h
     have E2:EnvD p H0 (aQ q own) σ H (ρ.set i .any):=(E.drop (i:=i)).clear hf
     have A2:At p H0 (aQ q own) H H1:=⟨A.k0,A.kp,A.penb,A.pen,E2.ow⟩
     have E3:=E2.adopt q A2
     have r2:Rp (okK p H0 (aQ q own) H .new) H1 v d:=r
     have E4:EnvD p H0 (cD q H H1 (aQ q own)) (σ.set i (some v)) H1 ((ρ.set i .any).set i (.dw q d)):=E3.set fun _=>⟨v,here hl,Mg (k:=.new) rfl A2 r2⟩
     rw [List.set_set] at E4
     exact w.nx _ _ H1 _ E4 (gG.trans (pJ A2)) h
    ·rw [if_neg hf] at h
     exact h.elim
  | reg q=>exact fin (.dw q d) (.inl ⟨v,here hl,r⟩) h
  | n0=>exact h.elim
  | snw=>exact fin (.sn d) (.inl ⟨v,here hl,r⟩) h
  | shr=>exact fin (.sh d) (.inl ⟨v,here hl,r⟩) h
  | wk=>exact h.elim
 ·cases hs:stK rg ρ i k' d with
  | none=>rw [hs] at h; exact h.elim
  | some s=>rw [hs] at h; exact fin s (.inr hl) h)
end
variable [Gr]
section
variable {ok ok':Addr->Prop}{H:Hp}
mutual
theorem Rp.inj:∀ {v:V}{d d':D},Rp ok H v d->Rp ok' H v d'->d=d'
 | _,_,_,.non,.non=>rfl
 | _,_,_,.bl b,.bl _=>rfl
 | _,_,_,.int i,.int _=>rfl
 | _,_,_,.str x,.str _=>rfl
 | _,_,_,.lst o h r,.lst o' h' r'=>by
  rw [h] at h'; cases h'
  rw [Rps.inj r r']
 | _,_,_,.lst o h r,.tup h' r'=>by rw [h] at h'; cases h'
 | _,_,_,.lst o h r,.dct o' h' r'=>by rw [h] at h'; cases h'
 | _,_,_,.tup h r,.lst o' h' r'=>by rw [h] at h'; cases h'
 | _,_,_,.tup h r,.tup h' r'=>by
  rw [h] at h'; cases h'
  rw [Rps.inj r r']
 | _,_,_,.tup h r,.dct o' h' r'=>by rw [h] at h'; cases h'
 | _,_,_,.dct o h r,.lst o' h' r'=>by rw [h] at h'; cases h'
 | _,_,_,.dct o h r,.tup h' r'=>by rw [h] at h'; cases h'
 | _,_,_,.dct o h r,.dct o' h' r'=>by
  rw [h] at h'; cases h'
  rw [Rkv.inj r r']
theorem Rps.inj:∀ {v:List V}{d d':List D},Rps ok H v d->Rps ok' H v d'->d=d'
 | _,_,_,.nil,.nil=>rfl
 | _,_,_,.cons h t,.cons h' t'=>by rw [Rp.inj h h',Rps.inj t t']
theorem Rkv.inj:∀ {v:List (Key×V)}{d d':List (D×D)},Rkv ok H v d->Rkv ok' H v d'->d=d'
 | _,_,_,.nil,.nil=>rfl
 | _,_,_,.cons h t,.cons h' t'=>by rw [Rp.inj h h',Rkv.inj t t']
end
variable {l:Addr}{T:D}
mutual
theorem Rp.avoid (h0:Rp ok' H (.ref l) T):∀ {v:V}{d:D},Rp ok H v d->sizeOf d<sizeOf T->Rp (fun a=>ok a/\a≠l) H v d
 | _,_,.non,_=>.non
 | _,_,.bl b,_=>.bl b
 | _,_,.int i,_=>.int i
 | _,_,.str x,_=>.str x
 | _,_,.lst (ds:=ds) o h r,s=>.lst ⟨o,fun z=>by
   subst z
   have e:=Rp.inj (Rp.lst o h r) h0
   rw [e] at s
   exact absurd s (ć _)⟩ h (Rps.avoid h0 r (by simp only [PyData.list.sizeOf_spec] at s; omega))
 | _,_,.tup (ds:=ds) h r,s=>.tup h (Rps.avoid h0 r (by simp only [PyData.tuple.sizeOf_spec] at s; omega))
 | _,_,.dct (ds:=ds) o h r,s=>.dct ⟨o,fun z=>by
   subst z
   have e:=Rp.inj (Rp.dct o h r) h0
   rw [e] at s
   exact absurd s (ć _)⟩ h (Rkv.avoid h0 r (by simp only [PyData.dict.sizeOf_spec] at s; omega))
theorem Rps.avoid (h0:Rp ok' H (.ref l) T):∀ {v:List V}{d:List D},Rps ok H v d->sizeOf d<sizeOf T->Rps (fun a=>ok a/\a≠l) H v d
 | _,_,.nil,_=>.nil
 | _,_,.cons h t,s=>.cons (Rp.avoid h0 h (by simp only [List.cons.sizeOf_spec] at s; omega)) (Rps.avoid h0 t (by simp only [List.cons.sizeOf_spec] at s; omega))
theorem Rkv.avoid (h0:Rp ok' H (.ref l) T):∀ {v:List (Key×V)}{d:List (D×D)},Rkv ok H v d->sizeOf d<sizeOf T->Rkv (fun a=>ok a/\a≠l) H v d
 | _,_,.nil,_=>.nil
 | _,_,.cons h t,s=>.cons (Rp.avoid h0 h (by simp only [List.cons.sizeOf_spec,Prod.mk.sizeOf_spec] at s; omega)) (Rkv.avoid h0 t (by simp only [List.cons.sizeOf_spec] at s; omega))
end
end
def forget (r:Nat) (ρ:List Sl):List Sl:=ρ.map fun s=>if s.region=some r then .any else s
section
variable {p:Pn}{H0 H H1:Hp}{own:Addr->Option Nat}{σ:L2.St}{ρ:List Sl}{i:Nat}
theorem EnvD.write {r:Nat}{l:Addr}{u o':HO} (E:EnvD p H0 own σ H ρ) (hl:own l=some r) (ho:H l=some u) (hu:∀ xs,u≠.tup xs):EnvD p H0 own σ (upd H l o') (forget r ρ):=by
 have h0:=E.ow l r hl
 have tp:∀ a xs,H a=some (.tup xs)->upd H l o' a=some (.tup xs):=fun a xs e=>by
  rw [aj]; exact e
  intro z; subst z; rw [ho] at e; exact hu xs (Õ e)
 refine⟨fun b o e n=>?_,p.mono H _ E.pen fun b o f e=>?_,fun a q e=>?_,fun j s e=>?_,by unfold forget; rw [Ä]; exact E.len,E.gr⟩
 ·rw [aj]; exact E.k0 b o e n
  intro z; subst z; rw [h0.1] at e; cases e
 ·rw [aj]; exact e
  intro z; subst z; exact h0.2.1 f
 ·obtain⟨x,y,z⟩:=E.ow a q e
  refine⟨x,y,?_⟩
  by_cases hh:a=l
  ·subst hh; rw [aq]; exact fun z=>nomatch z
  ·rw [aj hh]; exact z
 ·unfold forget at e
  rw [ç] at e
  cases hr:ρ[j]? with
  | none=>rw [hr] at e; cases e
  | some s0 =>
   rw [hr] at e
   have e:=Õ e
   have q:=E.slot j s0 hr
   have ne:∀ c,own c≠some r->c≠l:=fun c n z=>by subst z; exact n hl
   cases s0 with
   | any=>simp only [Sl.region] at e; subst e; trivial
   | im d =>
    have e:Sl.im d=s:=e
    subst e
    exact let ⟨v,a,b⟩:=q; ⟨v,a,b.mono (fun _ o=>o) (fun _ _ o=>o.elim) tp⟩
   | sh d =>
    have e:Sl.sh d=s:=e
    subst e
    exact let ⟨v,a,b⟩:=q; ⟨v,a,b.mono (fun _ o=>o) (fun c o n e=>by rw [aj (ne c (by rw [n.2]; exact fun z=>nomatch z))]; exact e) tp⟩
   | sn d =>
    have e:Sl.sn d=s:=e
    subst e
    exact let ⟨v,a,b⟩:=q; ⟨v,a,b.mono (fun _ o=>o) (fun c o n e=>by rw [aj (ne c (by rw [n.2.2]; exact fun z=>nomatch z))]; exact e) tp⟩
   | dw r' d =>
    by_cases hrr:r'=r
    ·subst hrr
     have e:(if (some r':Option Nat)=some r' then Sl.any else Sl.dw r' d)=s:=e
     rw [if_pos rfl] at e
     subst e
     trivial
    ·have e:(if (some r':Option Nat)=some r then Sl.any else Sl.dw r' d)=s:=e
     rw [if_neg (by simpa using hrr)] at e
     subst e
     exact let ⟨v,a,b⟩:=q; ⟨v,a,b.mono (fun _ o=>o) (fun c o n e=>by rw [aj (ne c (by rw [n]; simpa using hrr))]; exact e) tp⟩
   | pen C =>
    have e:Sl.pen C=s:=e
    subst e
    exact q
   | scr v b =>
    have e:Sl.scr v b=s:=e
    subst e
    exact q
   | sp r' b ds =>
    by_cases hrr:r'=r
    ·subst hrr
     have e:(if (some r':Option Nat)=some r' then Sl.any else Sl.sp r' b ds)=s:=e
     rw [if_pos rfl] at e
     subst e
     trivial
    ·have e:(if (some r':Option Nat)=some r then Sl.any else Sl.sp r' b ds)=s:=e
     rw [if_neg (by simpa using hrr)] at e
     subst e
     exact let ⟨l',vs,a,o,h,y⟩:=q; ⟨l',vs,a,o,by rw [aj (ne l' (by rw [o]; simpa using hrr))]; exact h,y.mono (fun _ o=>o) (fun c o n e=>by rw [aj (ne c (by rw [n.2.2]; exact fun z=>nomatch z))]; exact e) tp⟩
   | rw r' L =>
    by_cases hrr:r'=r
    ·subst hrr
     have e:(if (some r':Option Nat)=some r' then Sl.any else Sl.rw r' L)=s:=e
     rw [if_pos rfl] at e
     subst e
     trivial
    ·have e:(if (some r':Option Nat)=some r then Sl.any else Sl.rw r' L)=s:=e
     rw [if_neg (by simpa using hrr)] at e
     subst e
     exact let ⟨st,as,a,b⟩:=q; ⟨st,as,a,b.mono (fun c o n e=>⟨n,by rw [aj (ne c (by rw [n]; simpa using hrr))]; exact e⟩) tp⟩
   | tw r' L =>
    by_cases hrr:r'=r
    ·subst hrr
     have e:(if (some r':Option Nat)=some r' then Sl.any else Sl.tw r' L)=s:=e
     rw [if_pos rfl] at e
     subst e
     trivial
    ·have e:(if (some r':Option Nat)=some r then Sl.any else Sl.tw r' L)=s:=e
     rw [if_neg (by simpa using hrr)] at e
     subst e
     exact let ⟨st,as,a,b⟩:=q; ⟨st,as,a,b.mono (fun c o n e=>⟨n,by rw [aj (ne c (by rw [n]; simpa using hrr))]; exact e⟩) tp⟩
theorem jF {r:Nat}{l:Addr}{u o':HO} (hl:own l=some r) (ho:H l=some u) (hu:∀ xs,u≠.tup xs):FrS p own H own (upd H l o'):=by
 refine⟨fun b o h n e=>⟨?_,e⟩,fun a xs e=>?_⟩
 ·rw [aj]; exact h
  intro z; subst z; rw [hl] at e; cases e
 ·rw [aj]; exact e
  intro z; subst z; rw [ho] at e; exact hu xs (Õ e)
theorem EnvD.put {v:V}{s:Sl} (E:EnvD p H0 own σ H ρ) (hs:jD p H0 own σ H i s):EnvD p H0 own σ H (ρ.set i s):=by
 refine⟨E.k0,E.pen,E.ow,fun j s' e=>?_,by simpa using E.len,E.gr⟩
 by_cases hj:j=i
 ·subst hj
  have hl:j<ρ.length:=by
   have:=(Æ.mp e).1
   simpa using this
  rw [Ĉ hl] at e
  cases e
  exact hs
 ·rw [Ĥ (Ć hj)] at e
  exact E.slot j s' e
theorem EnvD.Jj {r:Nat}{l:Addr}{vs vs':List V}{ds ds':List D} (E:EnvD p H0 own σ H ρ) (A:At p H0 own H H1) (hv:σ[i]?=some (some (.ref l))) (hl:own l=some r) (ho:H l=some (.lst vs)) (rs:Rps (fun a=>own a=some r) H vs ds)
  (hs:∀ H2,(∀ {w:V}{d:D},Rp (fun a=>own a=some r) H w d->sizeOf d<sizeOf (Į ds)->Rp (fun a=>cD r H H1 own a=some r) H2 w d)->(∀ {w:V}{d:D},Rp (okK p H0 own H .new) H1 w d->Rp (fun a=>cD r H H1 own a=some r) H2 w d)->Rps (fun a=>cD r H H1 own a=some r) H2 vs' ds') :
  EnvD p H0 (cD r H H1 own) σ (upd H1 l (.lst vs')) ((forget r ρ).set i (.dw r (.list ds')))/\FrS p own H (cD r H H1 own) (upd H1 l (.lst vs')):=by
 have h1:H1 l=some (.lst vs):=A.kp l _ ho (E.ow l r hl).2.1
 have hl':cD r H H1 own l=some r:=by rw [bJ ho]; exact hl
 have E1:=(E.adopt r A).write (o':=.lst vs') hl' h1 (fun xs z=>nomatch z)
 have tp:∀ a xs,H1 a=some (.tup xs)->upd H1 l (.lst vs') a=some (.tup xs):=fun a xs e=>by
  rw [aj]; exact e
  intro z; subst z; rw [h1] at e; cases e
 refine⟨E1.put (v:=.ref l) ⟨.ref l,hv,.lst hl' aq (hs _ ?_ ?_)⟩,(pJ A).trans (jF hl' h1 fun xs z=>nomatch z)⟩
 ·intro w d x sz
  have x1:=Rp.avoid (Rp.lst (ok:=fun a=>own a=some r) hl ho rs) x sz
  exact x1.bY (fun a o n e=>⟨by rw [bJ e]; exact n.1,by rw [aj n.2]; exact A.kp a o e (E.ow a r n.1).2.1⟩) fun a xs e=>tp a xs (jr E.at A.kp a xs e)
 ·intro w d x
  exact x.bY (fun a o n e=>⟨jR n e,by rw [aj (fun z=>by subst z; rw [ho] at n; cases n)]; exact e⟩) tp
end
section
variable {X:Cx}{pos:Pos}{st:Stmt}{e:Expr}{te:DE}{i:Nat}{ta:DA}
theorem uR {d:D}{ds:List D} (h:d∈ds):sizeOf d<sizeOf (Į ds):=by
 have:=List.sizeOf_lt_of_mem h
 simp only [PyData.list.sizeOf_spec]
 omega
theorem wA {ok ok':Addr->Prop}{H H2:Hp}{T:D} (f:∀ {w:V}{d:D},Rp ok H w d->sizeOf d<sizeOf T->Rp ok' H2 w d):∀ {vs:List V}{ds:List D},Rps ok H vs ds->(∀ d∈ds,sizeOf d<sizeOf T)->Rps ok' H2 vs ds
 | _,_,.nil,_=>.nil
 | _,_,.cons h t,s=>.cons (f h (s _ ä)) (wA f t fun d hd=>s d (Ù _ hd))
def Dy (i:Nat) (te:DE):DS:=fun P ρ=>match ρ[i]? with
 | some (.dw r (.list ds))=>te ρ fun k d=>(norm k d).le .new=true/\ds.length<1000/\P.nx ((forget r ρ).set i (.dw r (.list (ds++[d]))))
 | _=>False
theorem o9 (h:PS X st (yL (tBM X.K "list" qK (qj i) (j5 (bD te gJ))))):PDS X st (Dy i te):=PS.wk' h (by
 rintro Q σ H ⟨p,H0,own,ρ,P,E,t,w⟩
 unfold Dy at t
 split at t
 ·rename_i r ds hr
  obtain⟨v,hv,x⟩:=E.slot i _ hr
  obtain⟨l,vs,rfl,hl,ho,rs⟩:=x.bL
  refine⟨.ref l,hv,.inl ⟨rfl,vs,SqL.of ho⟩,p,H0,own,ρ,fun ks=>∃ k d,ks=[(k,d)]/\(norm k d).le .new=true/\ds.length<1000/\P.nx ((forget r ρ).set i (.dw r (.list (ds++[d])))),E,?_,?_⟩
  ·show te ρ fun k d=>∃ k' d',[(k,d)]=[(k',d')]/\_
   have e:(fun k d=>∃ k' d',[((k,d):Kd×D)]=[(k',d')]/\(norm k' d').le .new=true/\ds.length<1000/\P.nx ((forget r ρ).set i (.dw r (.list (ds++[d'])))))=fun k d=>(norm k d).le .new=true/\ds.length<1000/\P.nx ((forget r ρ).set i (.dw r (.list (ds++[d])))):=by
    funext k d
    apply propext
    constructor
    ·rintro ⟨k',d',e,h⟩
     cases e
     exact h
    ·exact fun h=>⟨k,d,rfl,h⟩
   rw [e]
   exact t
  ·rintro ks ws H1 ⟨k,d,rfl,hk,hlen,hn⟩ A rk
   obtain⟨y,rfl,ry⟩:=eE rk
   have ry:=jc A hk (aZ ry)
   have h1:H1 l=some (.lst vs):=A.kp l _ ho (E.ow l r hl).2.1
   have h24:=ø
   have hln:=rs.length
   refine⟨l,vs,y,rfl,rfl,h1,by omega,?_⟩
   obtain⟨E2,F2⟩:=E.Jj (vs':=vs++[y]) (ds':=ds++[d]) A hv hl ho rs fun H2 f g=>(wA f rs fun d hd=>uR hd).snoc (g ry)
   exact w.nx _ σ _ _ E2 F2 hn
 ·exact t.elim)
end
variable [Gr]
abbrev DG:=Kd->D->List Sl->(List Sl->Prop)->Prop
abbrev DGs:=Kd->List D->List Sl->(List Sl->Prop)->Prop
def rK (k:Kd) (d:D):Sl:=match k with
 | .imm=>.im d
 | .new=>.sn d
 | .reg r=>.dw r d
 | .snw=>.sn d
 | .shr=>.sh d
 | _=>.any
def okB (p:Pn) (H0:Hp) (own:Addr->Option Nat):Kd->Addr->Prop
 | .imm=>fun _=>False
 | .new=>fun a=>H0 a=none/\¬ p.fp a/\own a=none
 | .reg r=>fun a=>own a=some r
 | .snw=>fun a=>H0 a=none/\¬ p.fp a/\own a=none
 | .shr=>fun a=>¬ p.fp a/\own a=none
 | .n0=>fun _=>True
 | .wk=>fun _=>True
def Fj (g:DG):TG:=fun v σ H Q=>∃ p H0 own ρ k d P,EnvD p H0 own σ H ρ/\Rp (okB p H0 own k) H v d/\g k d ρ P/\∀ σ' ρ',EnvD p H0 own σ' H ρ'->P ρ'->Q σ' H
def oY (g:DGs):TGs:=fun vs σ H Q=>∃ p H0 own ρ k ds P,EnvD p H0 own σ H ρ/\Rps (okB p H0 own k) H vs ds/\g k ds ρ P/\∀ σ' ρ',EnvD p H0 own σ' H ρ'->P ρ'->Q σ' H
abbrev PDG (X:Cx) (e:Expr) (g:DG):Prop:=PG X e (Fj g)
theorem PG.wk {X:Cx}{e:Expr}{t t':TG} (h:PG X e t) (w:∀ v σ H Q,t' v σ H Q->t v σ H Q):PG X e t':=fun pins s σ H v u Q I r q=>h pins s σ H v u Q I r (w v σ H Q q)
theorem PGs.wk {X:Cx}{e:List Expr}{t t':TGs} (h:PGs X e t) (w:∀ v σ H Q,t' v σ H Q->t v σ H Q):PGs X e t':=fun pins s σ H v u Q I r q=>h pins s σ H v u Q I r (w v σ H Q q)
theorem fX {p:Pn}{H0 H:Hp}{own:Addr->Option Nat}{k:Kd}{v:V}{d:D} (r:Rp (okB p H0 own k) H v d):Rp (okB p H0 own (norm k d)) H v d:=by
 by_cases h:bx d=true
 ·rw [aX h]; exact r.imm h
 ·rw [aY h]; exact r
section
variable {X:Cx}{pos:Pos}{e:Expr}{es:List Expr}
def gNm (i:Nat):DG:=fun k d ρ P=>P (ρ.set i (rK (norm k d) d))
theorem IV {p:Pn}{H0 H:Hp}{own:Addr->Option Nat}{σ:L2.St}{i:Nat}{k:Kd}{v:V}{d:D} (r:Rp (okB p H0 own k) H v d) (h:σ[i]?=some (some v)):jD p H0 own σ H i (rK k d):=by
 cases k with
 | imm=>exact⟨v,h,r⟩
 | new=>exact⟨v,h,r⟩
 | reg q=>exact⟨v,h,r⟩
 | n0=>trivial
 | snw=>exact⟨v,h,r⟩
 | shr=>exact⟨v,h,r⟩
 | wk=>trivial
theorem yg {i:Nat}{x:Str} (h:PG X (.Name x pos) (ju i)):PDG X (.Name x pos) (gNm i):=PG.wk h (by
 rintro v σ H Q ⟨p,H0,own,ρ,k,d,P,E,r,t,q⟩
 exact q _ _ (E.set fun hl=>IV (fX r) (Ĉ hl)) t)
def KH:DGs:=fun _ ds ρ P=>match ds with
 | []=>P ρ
 | _=>False
def xT (g:DG) (gs:DGs):DGs:=fun k ds ρ P=>match ds with
 | d::r=>g (norm k d) d ρ fun ρ'=>gs k r ρ' P
 | []=>False
theorem yd:PGs X [] (oY KH):=PGs.wk Ni (by
 rintro v σ H Q ⟨p,H0,own,ρ,k,ds,P,E,r,t,q⟩
 cases ds with
 | nil=>cases r; exact⟨rfl,q _ _ E t⟩
 | cons d ds=>exact t.elim)
theorem uh {g:DG}{gs:DGs} (h1:PDG X e g) (h2:PGs X es (oY gs)) (hs:(assignEach (e::es) X.env).map (·.2)=assign e X.env::(assignEach es X.env).map (·.2):=by rfl):PGs X (e::es) (oY (xT g gs)):=PGs.wk (Jx h1 h2 hs) (by
 rintro v σ H Q ⟨p,H0,own,ρ,k,ds,P,E,r,t,q⟩
 cases r with
 | nil=>exact t.elim
 | cons r rs =>
  exact⟨_,_,rfl,p,H0,own,ρ,_,_,_,E,fX r,t,fun σ' ρ' E' t'=>⟨p,H0,own,ρ',k,_,P,E',rs,t',q⟩⟩)
def gTp (n:Nat) (gs:DGs):DG:=fun k d ρ P=>match d with
 | .tuple ds=>ds.length=n/\gs k ds ρ P
 | _=>False
theorem eX {gs:DGs}{k n:Nat} (hc:X.calm=true) (h:PGs X es (oY gs)) (hn:(assignEach es X.env).length=n:=by rfl) (hst:(assignEach es X.env).findIdx? (·.1)=none:=by rfl):PDG X (.Tuple es k pos) (gTp n gs):=PG.wk (Rm hc h hn hst) (by
 rintro v σ H Q ⟨p,H0,own,ρ,k,d,P,E,r,t,q⟩
 cases d with
 | tuple ds =>
  obtain⟨a,vs,rfl,ha,rs⟩:=r.eZ
  exact⟨a,vs,rfl,SqT.of ha,by rw [rs.length]; exact t.1,p,H0,own,ρ,k,ds,P,E,rs,t.2,q⟩
 | _=>exact t.elim)
end
structure Wlk (Ok:Hp->Prop) (J:It) (ds:List D) (ok:Addr->Prop):Prop where
 go:∀ i H,Ok H->i<ds.length->J.go i H
 stop:∀ H,Ok H->J.stop ds.length H
 yld:∀ i H x H',Ok H->J.yld i H x H'->Same H H'/\∀ d,ds[i]?=some d->Rp ok H' x d
 stab:∀ H H',Ok H->(∀ b o,ok b->H b=some o->H' b=some o)->(∀ a xs,H a=some (.tup xs)->H' a=some (.tup xs))->Ok H'
abbrev DI:=List Sl->(Kd->List D->Prop)->Prop
def okA (p:Pn) (H0:Hp) (own:Addr->Option Nat) (Hb:Hp) (k:Kd) (H:Hp) (a:Addr):Prop:=okK p H0 own Hb k a/\∃ o,H a=some o
def Ko (t:DI):TI:=fun σ H R=>∃ p H0 own ρ P,EnvD p H0 own σ H ρ/\t ρ P/\∀ k ds J H1 Ok,P k ds->At p H0 own H H1->Wlk Ok J ds (okA p H0 own H k H1)->Ok H1->R J H1
abbrev PDI (X:Cx) (tg e:Expr) (t:DI):Prop:=PI X tg e (Ko t)
theorem PI.wk {X:Cx}{tg e:Expr}{t t':TI} (h:PI X tg e t) (w:∀ σ H R,t' σ H R->t σ H R):PI X tg e t':=fun pins s σ H R I q=>h pins s σ H R I (w σ H R q)
section
variable {X:Cx}{tg l:Expr}{tl:DE}{pos:Pos}{ta:DA}
theorem Il {K:Ü}{ok:Addr->Prop}{a:Addr}{ds:List D}:Wlk (fun H=>Rp ok H (.ref a) (.list ds)) (Itl K a) ds ok where
 go:=fun i H r hi=>by
  obtain⟨b,vs,e,o,h,rs⟩:=r.bL
  cases e
  have:i<vs.length:=by rw [rs.length]; exact hi
  exact⟨vs,vs[i],SqL.of h,by simp [this]⟩
 stop:=fun H r=>by
  obtain⟨b,vs,e,o,h,rs⟩:=r.bL
  cases e
  exact⟨vs,SqL.of h,by rw [rs.length]; exact Ö _⟩
 yld:=fun i H x H' r y=>by
  obtain⟨rfl,y⟩:=y
  obtain⟨b,vs,e,o,h,rs⟩:=r.bL
  cases e
  refine⟨Same.refl _,fun d hd=>?_⟩
  obtain⟨v,hv,rv⟩:=rs.getD hd
  have:=y vs (SqL.of h)
  rw [hv] at this
  cases this
  exact rv
 stab:=fun H H' r f t=>r.bY (fun a o n e=>⟨n,f a o n e⟩) t
theorem Ik {K:Ü}{ok:Addr->Prop}{a:Addr}{ds:List D}:Wlk (fun H=>Rp ok H (.ref a) (.tuple ds)) (Itt K a) ds ok where
 go:=fun i H r hi=>by
  obtain⟨b,vs,e,h,rs⟩:=r.eZ
  cases e
  have:i<vs.length:=by rw [rs.length]; exact hi
  exact⟨vs,vs[i],SqT.of h,by simp [this]⟩
 stop:=fun H r=>by
  obtain⟨b,vs,e,h,rs⟩:=r.eZ
  cases e
  exact⟨vs,SqT.of h,by rw [rs.length]; exact Ö _⟩
 yld:=fun i H x H' r y=>by
  obtain⟨rfl,y⟩:=y
  obtain⟨b,vs,e,h,rs⟩:=r.eZ
  cases e
  refine⟨Same.refl _,fun d hd=>?_⟩
  obtain⟨v,hv,rv⟩:=rs.getD hd
  have:=y vs (SqT.of h)
  rw [hv] at this
  cases this
  exact rv
 stab:=fun H H' r f t=>r.bY (fun a o n e=>⟨n,f a o n e⟩) t
theorem yG {ok:Addr->Prop}{lo:Int}{n:Nat}:Wlk (fun _=>True) (Itr lo n) ((ã n).map fun i=>È (lo+((i:Nat):Int))) ok where
 go:=fun i H r hi=>by
  have h:i<n:=by simpa using hi
  exact h
 stop:=fun H r=>by show n<=_; simp
 yld:=fun i H x H' r y=>by
  obtain⟨rfl,rfl⟩:=y
  refine⟨Same.refl _,fun d hd=>?_⟩
  rw [ç] at hd
  cases h:(ã n)[i]? with
  | none=>rw [h] at hd; cases hd
  | some j =>
   rw [h] at hd
   have e:=Õ hd
   have hj:j=i:=by
    have:=Æ.mp h
    obtain⟨h1,h2⟩:=this
    simpa using h2.symm
   subst e hj
   exact .int _
 stab:=fun _ _ _ _ _=>trivial
theorem rpA {p:Pn}{H0 Hb H:Hp}{own:Addr->Option Nat}{k:Kd}{v:V}{d:D} (r:Rp (okK p H0 own Hb k) H v d):Rp (okA p H0 own Hb k H) H v d:=r.bY (fun a o n e=>⟨⟨n,o,e⟩,e⟩) fun _ _ e=>e
def iSq (tl:DE):DI:=fun ρ P=>tl ρ fun k d=>match d with
 | .list ds=>P k ds
 | .tuple ds=>P k ds
 | _=>False
theorem Dt (hl:PD X l tl):PDI X tg l (iSq tl):=PI.wk (Rk hl) (by
 rintro σ H R ⟨p,H0,own,ρ,P,E,t,q⟩
 refine⟨p,H0,own,ρ,_,E,t,fun k d v H1 h A r=>?_⟩
 cases d with
 | list ds =>
  obtain⟨a,vs,rfl,o,ha,rs⟩:=r.bL
  exact⟨a,rfl,.inl ⟨⟨vs,SqL.of ha⟩,q k ds _ H1 _ h A Il (rpA r)⟩⟩
 | tuple ds =>
  obtain⟨a,vs,rfl,ha,rs⟩:=r.eZ
  exact⟨a,rfl,.inr ⟨⟨vs,SqT.of ha⟩,q k ds _ H1 _ h A Ik (rpA r)⟩⟩
 | _=>exact h.elim)
def vA (lo:Int) (n:Nat):List D:=(ã n).map fun i=>È (lo+((i:Nat):Int))
def iR1 (ta:DA):DI:=fun ρ P=>ta ρ fun ks=>match ks with
 | [(_,.int j)]=>(-(2 ^ 62)<=j/\j<2 ^ 62)/\P .imm (vA 0 j.toNat)
 | _=>False
theorem pB {a:Expr}{ps:Pos} (hm:X.mg "range"=none) (ha:PDA X [a] ta) (hg:Gl X "range":=by rfl) (hs:starEach [a] X.env=[(false,eval a X.env)]:=by rfl):PDI X tg (.Call (.Name "range" ps) [a] [] pos) (iR1 ta):=PI.wk (GF hg hm ha hs) (by
 rintro σ H R ⟨p,H0,own,ρ,P,E,t,q⟩
 refine⟨p,H0,own,ρ,_,E,t,fun ks vs H1 h A r=>?_⟩
 split at h
 ·rename_i k j
  obtain⟨v,rfl,r'⟩:=eE r
  exact⟨j,by rw [r'.int'],h.1.1,h.1.2,q _ _ _ H1 _ h.2 A yG trivial⟩
 ·exact h.elim)
def iR2 (ta:DA):DI:=fun ρ P=>ta ρ fun ks=>match ks with
 | [(_,.int i),(_,.int j)]=>(-(2 ^ 62)<=i/\i<2 ^ 62/\-(2 ^ 62)<=j/\j<2 ^ 62)/\P .imm (vA i (j - i).toNat)
 | _=>False
theorem pA {a b:Expr}{ps:Pos} (hm:X.mg "range"=none) (ha:PDA X [a,b] ta) (hg:Gl X "range":=by rfl) (hs:starEach [a,b] X.env=[(false,eval a X.env),(false,eval b X.env)]:=by rfl) (hs2:starEach [b] X.env=[(false,eval b X.env)]:=by rfl):PDI X tg (.Call (.Name "range" ps) [a,b] [] pos) (iR2 ta):=PI.wk (GD hg hm ha hs hs2) (by
 rintro σ H R ⟨p,H0,own,ρ,P,E,t,q⟩
 refine⟨p,H0,own,ρ,_,E,t,fun ks vs H1 h A r=>?_⟩
 split at h
 ·rename_i k i k' j
  obtain⟨v,w,rfl,r',r2⟩:=Jg r
  exact⟨i,j,by rw [r'.int',r2.int'],h.1,q _ _ _ H1 _ h.2 A yG trivial⟩
 ·exact h.elim)
def nC (ds:List D):List D:=ds.zipIdx.map fun x=>ŝ [.int ((x.2:Nat):Int),x.1]
theorem gD {ds:List D}{i:Nat}:(nC ds)[i]?=(ds[i]?).map fun d=>ŝ [.int ((i:Nat):Int),d]:=by
 unfold nC
 rw [ç,List.getElem?_zipIdx]
 cases ds[i]? with
 | none=>rfl
 | some d=>simp
theorem dY {ds:List D}:(nC ds).length=ds.length:=by unfold nC; simp
theorem Gj {K:Ü}{ok:Addr->Prop}{a:Addr}{ds:List D}:Wlk (fun H=>Rp ok H (.ref a) (.tuple ds)) (Ite K a) (nC ds) ok where
 go:=fun i H r hi=>by
  obtain⟨b,vs,e,h,rs⟩:=r.eZ
  cases e
  have:i<vs.length:=by rw [rs.length]; rw [dY] at hi; exact hi
  exact⟨vs,vs[i],SqT.of h,by simp [this]⟩
 stop:=fun H r=>by
  obtain⟨b,vs,e,h,rs⟩:=r.eZ
  cases e
  exact⟨vs,SqT.of h,by rw [rs.length,dY]; exact Ö _⟩
 yld:=fun i H x H' r y=>by
  obtain⟨t,v,rfl,ht,rfl,y⟩:=y
  have sm:Same H (upd H t (.tup [.int i,v])):=fun b u q=>by rw [aj (ao q ht)]; exact q
  refine⟨sm,fun d hd=>?_⟩
  obtain⟨b,vs,e,h,rs⟩:=r.eZ
  cases e
  rw [gD] at hd
  cases he:ds[i]? with
  | none=>rw [he] at hd; cases hd
  | some d0 =>
   rw [he] at hd
   have e:=Õ hd
   subst e
   obtain⟨v',hv,rv⟩:=rs.getD he
   have:=y vs (SqT.of h)
   rw [hv] at this
   cases this
   exact .tup aq (.cons (.int _) (.cons (rv.mono (fun _ o=>o) (fun a o _ e=>sm a o e) fun a xs e=>sm a _ e) .nil))
 stab:=fun H H' r f t=>r.bY (fun a o n e=>⟨n,f a o n e⟩) t
def iEn (ta:DA):DI:=fun ρ P=>ta ρ fun ks=>match ks with
 | [(k,.tuple ds)]=>P k (nC ds)
 | _=>False
theorem rA {elts:List Expr}{kk:Nat}{tpos:Pos}{a:Expr}{ps:Pos} (hm:X.mg "enumerate"=none) (ha:PDA X [a] ta) (hg:Gl X "enumerate":=by rfl) (hs:starEach [a] X.env=[(false,eval a X.env)]:=by rfl):PDI X (.Tuple elts kk tpos) (.Call (.Name "enumerate" ps) [a] [] pos) (iEn ta):=PI.wk (Nh hg hm ha hs) (by
 rintro σ H R ⟨p,H0,own,ρ,P,E,t,q⟩
 refine⟨p,H0,own,ρ,_,E,t,fun ks vs H1 h A r=>?_⟩
 split at h
 ·rename_i k ds
  obtain⟨v,rfl,r'⟩:=eE r
  obtain⟨a,vs,e,ha,rs⟩:=Rp.eZ r'
  subst e
  exact⟨a,rfl,⟨vs,SqT.of ha⟩,q k _ _ H1 _ h A Gj (rpA r')⟩
 ·exact h.elim)
end
variable [Gr]
def elK:Kd->Kd
 | .new=>.snw
 | k=>k
section
variable {X:Cx}{tg iter:Expr}{pos:Pos}{body:List Stmt}{ti:DI}{g:DG}{tb:DS}
def Vw (ti:DI) (g:DG) (tb:DS):DS:=fun P ρ=>ti ρ fun k ds=>k.le .shr=true/\∃ Iv:Nat->List Sl->Prop,Iv 0 ρ /\
 (∀ i d ρ',ds[i]?=some d->Iv i ρ'->g (norm (elK k) d) d ρ' fun ρ2=>tb { nx:=Iv (i+1),ct:=Iv (i+1),bk:=P.nx,rt:=P.rt } ρ2)/\∀ ρ',Iv ds.length ρ'->P.nx ρ'
theorem U8 {p:Pn}{H0 Hb H1 H':Hp}{own own':Addr->Option Nat}{k:Kd} (hk:k.le .shr=true) (A:At p H0 own Hb H1) (F:FrS p own H1 own' H') {v:V}{d:D}{H2:Hp} (r:Rp (okA p H0 own Hb k H1) H2 v d):Rp (okB p H0 own' (elK k)) H2 v d:=by
 refine r.mono (fun a n=>?_) (fun _ _ _ e=>e) fun _ _ e=>e
 obtain⟨o,u,hu⟩:=n
 have o2:¬ p.fp a/\own a=none:=cO A (k:=.shr) hk o
 have f:=(F.keep a u hu o2.1 o2.2).2
 cases k with
 | imm=>exact o
 | new=>exact⟨A.h0 o,o2.1,f⟩
 | reg q=>cases hk
 | n0=>cases hk
 | snw=>exact⟨o.1,o2.1,f⟩
 | shr=>exact⟨o2.1,f⟩
 | wk=>cases hk
theorem Dq (hp:PassesOwn (model X.prog X.w) X.A X.env X.xe) (hc:X.calm=true) (hi:PDI X tg iter ti) (hg:PDG X tg g) (hb:lC X body tb) (hs:zF X iter:=by intro _; rfl):PDS X (.For tg iter body [] pos) (Vw ti g tb):=PS.wk' (Ri hp hc hi hg hb hs) (by
 rintro Q σ H ⟨p,H0,own,ρ,P,E,t,w⟩
 refine⟨p,H0,own,ρ,_,E,t,fun k ds J H1 Ok h A W o1=>?_⟩
 obtain⟨hk,Iv,i0,step,done⟩:=h
 have w1:=w.go A.frs
 have okS:∀ own' H',FrS p own H1 own' H'->Ok H':=fun own' H' F=>W.stab H1 H' o1 (fun b o n e=>by
  have o2:¬ p.fp b/\own b=none:=cO A (k:=.shr) hk n.1
  exact (F.keep b o e o2.1 o2.2).1) F.tup
 refine⟨fun i m σ' H'=>m=ds.length - i/\i<=ds.length/\∃ own' ρ',EnvD p H0 own' σ' H' ρ'/\FrS p own H1 own' H'/\Iv i ρ',⟨_,rfl,Ě _,own,ρ,E.go A.kp A.pen,FrS.refl,i0⟩,?_⟩
 rintro i m σ' H' ⟨rfl,hi,own',ρ',E',F',iv⟩
 have oH:=okS own' H' F'
 by_cases hlt:i<ds.length
 ·refine .inr ⟨W.go i H' oH hlt,fun σ2 H2=>∃ own' ρ',EnvD p H0 own' σ2 H2 ρ'/\FrS p own H1 own' H2/\Iv (i+1) ρ',fun σ2 H2 h=>⟨_,by omega,rfl,hlt,h⟩,fun x H2 y=>?_⟩
  obtain⟨sm,rx⟩:=W.yld i H' x H2 oH y
  have rx:=rx ds[i] (Ó hlt)
  have E2:EnvD p H0 own' σ' H2 ρ':=E'.go (Kp.of sm) (p.mono H' H2 E'.pen fun b o _ e=>sm b o e)
  have F2:FrS p own H1 own' H2:=⟨fun b o e n z=>let ⟨x,y⟩:=F'.keep b o e n z; ⟨sm b o x,y⟩,fun a xs e=>sm a _ (F'.tup a xs e)⟩
  refine⟨p,H0,own',ρ',_,_,_,E2,fX (U8 hk A F2 rx),step i ds[i] ρ' (Ó hlt) iv,fun σ3 ρ3 E3 t3=>?_⟩
  have nxt:∀ own4 σ4 H4 ρ4,EnvD p H0 own4 σ4 H4 ρ4->FrS p own' H2 own4 H4->Iv (i+1) ρ4->∃ own' ρ',EnvD p H0 own' σ4 H4 ρ'/\FrS p own H1 own' H4/\Iv (i+1) ρ':=fun own4 σ4 H4 ρ4 E4 F4 v4=>⟨own4,ρ4,E4,F2.trans F4,v4⟩
  exact⟨p,H0,own',ρ3,_,E3,t3,⟨nxt,w.rt,fun o s h r e f n=>w1.nx o s h r e (F2.trans f) n,nxt⟩⟩
 ·have e:i=ds.length:=by omega
  subst e
  exact .inl ⟨W.stop H' oH,w1.nx own' σ' H' ρ' E' F' (done ρ' iv)⟩)
def Ln (tc:DT) (tb:DS):DS:=fun P ρ=>∃ Iv:Nat->List Sl->Prop,(∃ m,Iv m ρ)/\∀ m ρ',Iv m ρ'->tc ρ' fun b =>
 if b=true then tb { nx:=fun ρ2=>∃ m',m'<m/\Iv m' ρ2,ct:=fun ρ2=>∃ m',m'<m/\Iv m' ρ2,bk:=P.nx,rt:=P.rt } ρ' else P.nx ρ'
theorem nD {c:Expr}{tc:DT} (hp:PassesOwn (model X.prog X.w) X.A X.env X.xe) (hc:PDT X c tc) (hb:lC X body tb):PDS X (.While c body [] pos) (Ln tc tb):=PS.wk' (Jr hp hc hb) (by
 rintro Q σ H ⟨p,H0,own,ρ,P,E,⟨Iv,⟨m,i0⟩,step⟩,w⟩
 refine⟨fun m σ' H'=>∃ own' ρ',EnvD p H0 own' σ' H' ρ'/\FrS p own H own' H'/\Iv m ρ',⟨m,own,ρ,E,FrS.refl,i0⟩,?_⟩
 rintro m σ1 H1 ⟨own1,ρ1,E1,F1,iv⟩
 refine⟨p,H0,own1,ρ1,_,E1,step m ρ1 iv,fun b H2 h A=>?_⟩
 have F2:=F1.trans A.frs
 cases b with
 | true =>
  refine aG ⟨fun σ' H'=>∃ m',m'<m/\∃ own' ρ',EnvD p H0 own' σ' H' ρ'/\FrS p own H own' H'/\Iv m' ρ',fun σ' H' h=>h,?_⟩
  have nxt:∀ own4 σ4 H4 ρ4,EnvD p H0 own4 σ4 H4 ρ4->FrS p own1 H2 own4 H4->(∃ m',m'<m/\Iv m' ρ4)->∃ m',m'<m/\∃ own' ρ',EnvD p H0 own' σ4 H4 ρ'/\FrS p own H own' H4/\Iv m' ρ':=fun own4 σ4 H4 ρ4 E4 F4 ⟨m',hm,v4⟩=>⟨m',hm,own4,ρ4,E4,F2.trans F4,v4⟩
  exact⟨p,H0,own1,ρ1,{ nx:=fun ρ2=>∃ m',m'<m/\Iv m' ρ2,ct:=fun ρ2=>∃ m',m'<m/\Iv m' ρ2,bk:=P.nx,rt:=P.rt },E1.go A.kp A.pen,by simpa using h,⟨nxt,w.rt,fun o s h r e f n=>w.nx o s h r e (F2.trans f) n,nxt⟩⟩
 | false=>exact aL (w.nx own1 σ1 H2 ρ1 (E1.go A.kp A.pen) F2 (by simpa using h)))
end
theorem EnvD.comp {p:Pn}{H0 H:Hp}{own:Addr->Option Nat}{σ:L2.St}{ρ:List Sl} (n:Nat) (E:EnvD p H0 own σ H ρ):EnvD p H0 own (Ñ n none++σ) H (Ñ n .any++ρ):=by
 refine⟨E.k0,E.pen,E.ow,fun j s e=>?_,by simp [E.len],E.gr⟩
 by_cases hj:j<n
 ·rw [ě (by simpa using hj)] at e
  have:s=.any:=by
   rw [ś] at e
   rw [if_pos hj] at e
   exact (Õ e).symm
  subst this
  trivial
 ·have e1:(Ñ n Sl.any++ρ)[j]?=ρ[j - n]?:=by rw [Ă (by simpa using hj)]; simp
  have e2:(Ñ n (none:Option V)++σ)[j]?=σ[j - n]?:=by rw [Ă (by simpa using hj)]; simp
  rw [e1] at e
  have q:=E.slot _ s e
  cases s <;> simp only [jD,e2] at q ⊢ <;> exact q
abbrev Mh (X:Cx) (es:List Expr) (t:DT):Prop:=PTs X es (liftT t)
theorem qZ {X:Cx}:Mh X [] (fun _ P=>P true):=fun pins s σ H Q I h=>by
 obtain⟨p,H0,own,ρ,P,E,t,q⟩:=h
 exact M6 pins s σ H Q I (q true H t E.at)
theorem xW {X:Cx}{c:Expr}{t:DT} (hc:PDT X c t):Mh X [c] t:=M5 hc
def elC (k:Kd):Kd:=elK k
def dLC (n:Nat) (ti:DI) (g:DG) (tt:DT) (te:DE):DE:=fun ρ P=>ti ρ fun k ds=>ds.length<=1000/\∃ (ke:Kd) (Iv:Nat->List D->Prop),Iv 0 [] /\
 (∀ i d ys,ds[i]?=some d->Iv i ys->g (norm (elC k) d) d (Ñ n .any++ρ) fun ρ'=>tt ρ' fun b=>if b=true then te ρ' fun k' d'=>(norm k' d').le ke=true/\Iv (i+1) (ys++[d']) else Iv (i+1) ys) /\
 ∀ ys,Iv ds.length ys->P (ke.join .new) (.list ys)
theorem Qj {p:Pn}{H0 Hb H1:Hp}{own:Addr->Option Nat}{k:Kd} (A:At p H0 own Hb H1) {v:V}{d:D}{H2:Hp} (r:Rp (okA p H0 own Hb k H1) H2 v d):Rp (okB p H0 own (elC k)) H2 v d:=by
 refine r.mono (fun a n=>?_) (fun _ _ _ e=>e) fun _ _ e=>e
 obtain⟨o,u,hu⟩:=n
 cases k with
 | imm=>exact o
 | new=>exact⟨A.h0 o,A.nfb o,A.Nt o⟩
 | reg q=>exact o
 | n0=>trivial
 | snw=>exact o
 | shr=>exact o
 | wk=>trivial
section
variable {X:Cx}{own:List Str}{scope:Scope}{tg iter elt:Expr}{ifs:List Expr}{pos:Pos}{ti:DI}{g:DG}{tt:DT}{te:DE}
theorem Fi {n:Nat}:∀ σ H Q,bR (dLC n ti g tt te) σ H Q->tLC n (Ko ti) (fun _=>Fj g) (fun _=>liftT tt) (fun _=>bR te) σ H Q:=by
 rintro σ H Q ⟨p,H0,own,ρ,P,E,t,q⟩
 refine⟨p,H0,own,ρ,_,E,t,fun k ds J H1 Ok h A W o1=>?_⟩
 obtain⟨hlen,ke,Iv,i0,step,done⟩:=h
 have okS:∀ H',Kp p H1 H'->p.PI H'->Ok H':=fun H' K i=>W.stab H1 H' o1 (fun b o n e=>K b o e (mj A n.1)) (jr A K)
 refine⟨fun i m ys H'=>m=ds.length - i/\i<=ds.length/\Kp p H1 H'/\p.PI H'/\∃ es,Rps (okK p H0 own H ke) H' ys es/\es.length<=i/\Iv i es,⟨_,rfl,Ě _,Kp.refl,A.pen,[],.nil,Ö _,i0⟩,?_⟩
 rintro c i m ys H' ⟨rfl,hi,K',I',es,rs,hl,iv⟩
 have oH:=okS H' K' I'
 have A':=A.go K' I'
 have h24:=ø
 by_cases hlt:i<ds.length
 ·refine .inr ⟨W.go i H' oH hlt,by have:=rs.length; omega,fun ys' H2=>Kp p H1 H2/\p.PI H2/\∃ es,Rps (okK p H0 own H ke) H2 ys' es/\es.length<=i+1/\Iv (i+1) es,fun ys' H2 h=>⟨_,by omega,rfl,hlt,h⟩,fun x H2 y=>?_⟩
  obtain⟨sm,rx⟩:=W.yld i H' x H2 oH y
  have rx:=rx ds[i] (Ó hlt)
  have I2:p.PI H2:=p.mono H' H2 I' fun b o _ e=>sm b o e
  have K2:Kp p H1 H2:=K'.trans (Kp.of sm)
  have A2:=A.go K2 I2
  have E2:EnvD p H0 own σ H2 ρ:=E.go A2.kp A2.pen
  have rs2:=cM A' (Kp.of sm) rs
  refine⟨p,H0,own,_,_,_,_,E2.comp n,fX (Qj A rx),step i ds[i] es (Ó hlt) iv,fun σ3 ρ3 E3 t3=>?_⟩
  refine⟨p,H0,own,ρ3,_,E3,t3,fun b H4 h4 A4=>?_⟩
  have A5:At p H0 own H H4:=A2.base A4
  have rs4:=cM A2 A4.kp rs2
  cases b with
  | true =>
   refine aG ⟨p,H0,own,ρ3,_,E3.go A4.kp A4.pen,by simpa using h4,fun k' d' v H6 h6 A6 r6=>?_⟩
   refine⟨(K2.trans A4.kp).trans A6.kp,A6.pen,es++[d'],(cM A5 A6.kp rs4).snoc (jc (A5.base A6) h6.1 (aZ (jJ A5 r6))),by simp; omega,h6.2⟩
  | false=>exact aL ⟨K2.trans A4.kp,A4.pen,es,rs4,by omega,by simpa using h4⟩
 ·have e:i=ds.length:=by omega
  subst e
  refine .inl ⟨W.stop H' oH,fun l hl'=>?_⟩
  obtain⟨k7,i7,nw⟩:=A'.new hl' (.lst ys)
  have j:=dh ke .new
  refine q _ _ _ _ (done es iv) (A'.go k7 i7) (.lst (cO A' j.2 nw) aq ?_)
  exact (cM A' k7 rs).mono (fun a o=>cO A' j.1 o) (fun _ _ _ e=>e) fun _ _ e=>e
theorem JM (own:List Str) (hc:X.calm=true) (hi:PDI X tg iter ti) (hg:∀ c,PDG (X.comp own scope c) tg g) (ht:∀ c,Mh (X.comp own scope c) ifs tt) (he:∀ c,PD (X.comp own scope c) elt te)
  (hk:eY X.env scope X.N=true:=by rfl) (hs:zF X iter:=by intro _; rfl) :
  PD X (.ListComp elt [⟨tg,iter,ifs,0⟩] scope pos) (dLC own.length ti g tt te):=PE.wk (Uz own hc hi hg ht he hk hs) Fi
end
def aD (d:D):Sl:=if bx d then .im d else .sh d
theorem vH {p:Pn}{H:Hp}{N:List Str}{vs:List V}{ds:List D} (g:Gr.G p H) (hp:p.PI H) (r:Rps (fun a=>¬ p.fp a) H vs ds):EnvD p H (fun _=>none) (L2.start N vs) H (ds.map aD++Ñ (N.length - vs.length) .any):=by
 refine⟨fun _ _ e _=>e,hp,(fun _ _ e=>nomatch e),fun j s e=>?_,by unfold L2.start; simp [r.length],g⟩
 by_cases hj:j<ds.length
 ·rw [ě (by simpa using hj),ç] at e
  obtain⟨v,hv,rv⟩:=r.getD (Ó hj)
  rw [Ó hj] at e
  have e:=Õ e
  have hs:(L2.start N vs)[j]?=some (some v):=by
   unfold L2.start
   rw [ě (by rw [Ä,r.length]; exact hj),ç,hv]
   rfl
  subst e
  unfold aD
  by_cases hi:bx ds[j]=true
  ·rw [if_pos hi]; exact⟨v,hs,rv.imm hi⟩
  ·rw [if_neg hi]; exact⟨v,hs,rv.mono (fun _ o=>⟨o,rfl⟩) (fun _ _ _ e=>e) fun _ _ e=>e⟩
 ·rw [Ă (by simpa using hj),ś] at e
  split at e
  ·cases e; trivial
  ·cases e
theorem Dk {f:List D->(D->Prop)->Prop}{T:DS}{N:List Str}{vs:List V}{H:Hp}{Q:VK}{E:XK} (h:spD f vs H Q E)
  (body:∀ ds P,f ds P->T { nx:=fun _=>P .none,rt:=P } (ds.map aD++Ñ (N.length - ds.length) .any)) (g:Gr.G ji H:=by trivial):j4 T { nx:=fun _ H'=>Q .non H',rt:=Q } (L2.start N vs) H:=by
 obtain⟨ds,P,r,t,q⟩:=h
 have E:=vH (p:=ji) (N:=N) g trivial (r.mono (ok':=fun a=>¬ ji.fp a) (fun _ _ z=>z) (fun _ _ _ e=>e) fun _ _ e=>e)
 rw [r.length] at E
 have sm:∀ H',(∀ b o,H b=some o->¬ ji.fp b->H' b=some o)->Same H H':=fun H' k b o e=>k b o e fun z=>z
 refine⟨ji,H,fun _=>none,_,_,E,body ds P t,⟨fun o s h' r' e' _ n=>q _ _ h' n (sm h' e'.k0) .non,fun d v h' n w=>q d v h' n (sm h' w.k0) (w.rp.mono (fun _ o=>o.1) (fun _ _ _ e=>e) fun _ _ e=>e),fun _ _ _ _ _ _ n=>n.elim,fun _ _ _ _ _ _ n=>n.elim⟩⟩
theorem Tj {C:Pn->Prop}{f:List D->(D->Prop)->Prop}{T:DS}{N:List Str}{vs:List V}{H:Hp}{Q:VK}{E:XK} (h:spP C f vs H Q E)
  (body:∀ ds P,f ds P->T { nx:=fun _=>P .none,rt:=P } (.pen C::(ds.map aD++Ñ (N.length - (ds.length+1)) .any))) (g:∀ p,Gr.G p H:=by intro _; trivial):j4 T { nx:=fun _ H'=>Q .non H',rt:=Q } (L2.start N vs) H:=by
 obtain⟨p,vs',ds,P,c,rfl,pi,r,t,q⟩:=h
 have E0:=vH (p:=p) (N:=N.drop 1) (g p) pi r
 have E:EnvD p H (fun _=>none) (L2.start N (p.pv::vs')) H (.pen C::(ds.map aD++Ñ (N.length - (ds.length+1)) .any)):=by
  refine⟨fun _ _ e _=>e,pi,(fun _ _ e=>nomatch e),fun j s e=>?_,by unfold L2.start; simp [r.length],g p⟩
  cases j with
  | zero =>
   have e:=Õ e
   subst e
   exact⟨rfl,c⟩
  | succ j =>
   rw [List.getElem?_cons_succ] at e
   have hl:N.length - (ds.length+1)=(N.drop 1).length - vs'.length:=by rw [r.length,List.length_drop]; omega
   rw [hl] at e
   have q:=E0.slot j s e
   have es:(L2.start N (p.pv::vs'))[j+1]?=(L2.start (N.drop 1) vs')[j]?:=by
    unfold L2.start
    have:N.length - (p.pv::vs').length=(N.drop 1).length - vs'.length:=by rw [List.length_drop,ĉ]; omega
    rw [this]
    simp
   cases s <;> simp only [jD,es] at q ⊢ <;> exact q
 have nw:∀ {H' v d},RPost p H H' v d->Rp (fun a=>H a=none) H' v d:=fun w=>w.rp.mono (fun _ o=>o.1) (fun _ _ _ e=>e) fun _ _ e=>e
 exact⟨p,H,fun _=>none,_,_,E,body ds P t,⟨fun o s h' r' e' _ n=>q _ _ h' n e'.k0 e'.pen .non,fun d v h' n w=>q d v h' n w.k0 w.pen (nw w),fun _ _ _ _ _ _ n=>n.elim,fun _ _ _ _ _ _ n=>n.elim⟩⟩
end Dl
namespace PySem
open PyProof.Rows
abbrev nU (f0:Value) (q:Bool) (TI TO:Addr):Obj:={ cls:=.type "zip",data:=.fields #[f0,.bool q,.bool false,.ref TI,.ref TO] }
section
variable {prog:Program}{w:World}{A:Around}{E:Value->Shared->Prop}{s:Shared}
theorem vW {z TI TO i1 i2 l1 l2 T:Addr}{q:Bool}{k:Nat}{xs ys:Array Value}{x y:Value}{oT:Obj}{Q:Value->Shared->Prop} (n1:i1≠z) (n2:i2≠z) (n12:i1≠i2) (m1:l1≠z) (m2:l2≠z) (m3:l2≠i1)
  (hZ:s.heap.get? z=some (nU (rawInt T) q TI TO)) (hI:s.heap.get? TI=some { cls:=.type "tuple",data:=.seq #[.ref i1,.ref i2] }) (hT:s.heap.get? T=some oT)
  (j1:s.heap.IsListIter i1 l1 k) (j2:s.heap.IsListIter i2 l2 k) (e1:s.heap.IsList l1 xs) (e2:s.heap.IsList l2 ys) (hx:xs[k]?=some x) (hy:ys[k]?=some y)
  (hQ:∀ h',h'.get? z=some (nU (rawInt T) true TI TO)->h'.IsListIter i1 l1 (k+1)->h'.IsListIter i2 l2 (k+1)->h'.get? s.heap.objs.size=some { cls:=.type "tuple",data:=.seq #[x,y] } ->
   (∀ c o,c≠z->c≠i1->c≠i2->s.heap.get? c=some o->h'.get? c=some o)->Q (.ref s.heap.objs.size) { s with heap:=h' }) :
  wpAny (model prog w) A (Builtin.«zip.__next__» ⟨[.ref z],[]⟩) (fun fin s'=>∃ v,fin=.done (.ret v)/\Q v s') E s:=by
 have fld:∀ {i:Nat}{v:Value}{R:Value->Shared->Prop},(#[rawInt T,Ų q,.bool false,.ref TI,.ref TO]:Array Value)[i]?=some v->R v s->wpAny (model prog w) A (field (.ref z) i) R E s:=fun h r=>Ĵ hZ rfl h r
 show wpAny _ _ (field (.ref z) 2 >>= _) _ _ _
 refine Â (fld (v:=.bool false) rfl ?_)
 show wpAny _ _ (field (.ref z) 3 >>= _) _ _ _
 refine Â (fld (v:=.ref TI) rfl ?_)
 refine Â (wpAny_seqItems hI rfl ?_)
 show wpAny _ _ (Ľ (.ref z) >>= _) _ _ _
 refine Â ?_
 unfold Ľ
 refine Â (fld (v:=rawInt T) rfl ?_)
 show wpAny _ _ (loadIfAlive ((T:Int).toNat) >>= _) _ _ _
 rw [ŗ]
 refine Â (W.kdx_alive hT ?_)
 simp only [Option.isNone_some,ĥ,if_false]
 refine Â (fld (v:=.bool q) rfl ?_)
 refine L2.thn (Q:=fun a s'=>a=false/\∃ h1,s'={ s with heap:=h1 }/\h1.get? z=some (nU (rawInt T) true TI TO)/\h1.objs.size=s.heap.objs.size/\∀ c o,c≠z->s.heap.get? c=some o->h1.get? c=some o) ?_ ?_
 ·cases q with
  | true=>exact Ë ⟨rfl,s.heap,rfl,hZ,rfl,fun c o _ e=>e⟩
  | false =>
   rw [if_pos (by decide)]
   refine Â (wpAny_setField_rec hZ (by simp) fun h1 z1 b1=>Ë ⟨rfl,h1,rfl,z1,b1.1,fun c o n e=>b1.extBut _ _ n e⟩)
 rintro a s' ⟨rfl,h1,rfl,z1,sz1,k1⟩
 simp only [ĥ,if_false]
 refine Â ?_
 simp only [← Array.forIn_toList,List.forIn_cons,List.forIn_nil]
 have at1:h1.IsListIter i1 l1 k:=j1.at fun o e=>k1 i1 o n1 e
 have at2:h1.IsListIter i2 l2 k:=j2.at fun o e=>k1 i2 o n2 e
 have f1:h1.IsList l1 xs:=e1.at fun o e=>k1 l1 o m1 e
 have f2:h1.IsList l2 ys:=e2.at fun o e=>k1 l2 o m2 e
 refine Â (Â (ă ?_))
 show wpAny _ _ (đ (.ref i1) >>= _) _ _ _
 refine Â (wpAny_nextOf_list_item at1 f1 hx fun h2 c1 b2=>Ë (Ë ?_))
 refine Â (Â (ă ?_))
 show wpAny _ _ (đ (.ref i2) >>= _) _ _ _
 refine Â (wpAny_nextOf_list_item (at2.extBut b2.extBut n12.symm) (f2.extBut b2.extBut m3) hy fun h3 c2 b3=>Ë (Ë (Ë ?_)))
 have sz3:h3.objs.size=s.heap.objs.size:=by rw [b3.1,b2.1,sz1]
 show wpAny _ _ (newTuple [x,y] >>= _) _ _ _
 refine Â (wpAny_newTuple (Ë ⟨_,rfl,?_⟩))
 show Q (.ref h3.objs.size) _
 rw [sz3]
 have up:∀ c o,c≠i1->c≠i2->h1.get? c=some o->(h3.push { cls:=.type "tuple",data:=.seq #[x,y] }).get? c=some o:=fun c o a b e=>Ì _ (b3.extBut _ _ b (b2.extBut _ _ a e))
 refine hQ _ (up z _ n1.symm n2.symm z1) ((c1.extBut b3.extBut n12).at fun o e=>Ì _ e) (c2.at fun o e=>Ì _ e) ?_ fun c o a b d e=>up c o b d (k1 c o a e)
 rw [← sz3]
 exact Û _ rfl
theorem yE {z TI TO i1 i2 l1 l2 T:Addr}{q:Bool}{k:Nat}{xs ys:Array Value}{oT:Obj}{Q:Fin->Shared->Prop} (hh:A.handled=none) (n1:i1≠z) (n2:i2≠z) (n12:i1≠i2) (m1:l1≠z) (m2:l2≠z) (m3:l2≠i1)
  (hZ:s.heap.get? z=some (nU (rawInt T) q TI TO)) (hI:s.heap.get? TI=some { cls:=.type "tuple",data:=.seq #[.ref i1,.ref i2] }) (hT:s.heap.get? T=some oT)
  (j1:s.heap.IsListIter i1 l1 k) (j2:s.heap.IsListIter i2 l2 k) (e1:s.heap.IsList l1 xs) (e2:s.heap.IsList l2 ys) (hend:xs[k]?=none\/ys[k]?=none)
  (hE:∀ h' e,(∀ c o,c≠z->c≠i1->c≠i2->s.heap.get? c=some o->h'.get? c=some o)->(∃ o,h'.get? e=some o/\o.cls=.type "StopIteration")->E (.ref e) { s with heap:=h' }) :
  wpAny (model prog w) A (Builtin.«zip.__next__» ⟨[.ref z],[]⟩) Q E s:=by
 have fld:∀ {i:Nat}{v:Value}{R:Value->Shared->Prop},(#[rawInt T,Ų q,.bool false,.ref TI,.ref TO]:Array Value)[i]?=some v->R v s->wpAny (model prog w) A (field (.ref z) i) R E s:=fun h r=>Ĵ hZ rfl h r
 show wpAny _ _ (field (.ref z) 2 >>= _) _ _ _
 refine Â (fld (v:=.bool false) rfl ?_)
 show wpAny _ _ (field (.ref z) 3 >>= _) _ _ _
 refine Â (fld (v:=.ref TI) rfl ?_)
 refine Â (wpAny_seqItems hI rfl ?_)
 show wpAny _ _ (Ľ (.ref z) >>= _) _ _ _
 refine Â ?_
 unfold Ľ
 refine Â (fld (v:=rawInt T) rfl ?_)
 show wpAny _ _ (loadIfAlive ((T:Int).toNat) >>= _) _ _ _
 rw [ŗ]
 refine Â (W.kdx_alive hT ?_)
 simp only [Option.isNone_some,ĥ,if_false]
 refine Â (fld (v:=.bool q) rfl ?_)
 refine L2.thn (Q:=fun a s'=>a=false/\∃ h1,s'={ s with heap:=h1 }/\h1.get? z=some (nU (rawInt T) true TI TO)/\h1.objs.size=s.heap.objs.size/\∀ c o,c≠z->s.heap.get? c=some o->h1.get? c=some o) ?_ ?_
 ·cases q with
  | true=>exact Ë ⟨rfl,s.heap,rfl,hZ,rfl,fun c o _ e=>e⟩
  | false =>
   rw [if_pos (by decide)]
   refine Â (wpAny_setField_rec hZ (by simp) fun h1 z1 b1=>Ë ⟨rfl,h1,rfl,z1,b1.1,fun c o n e=>b1.extBut _ _ n e⟩)
 rintro a s' ⟨rfl,h1,rfl,z1,sz1,k1⟩
 simp only [ĥ,if_false]
 refine Â ?_
 simp only [← Array.forIn_toList,List.forIn_cons,List.forIn_nil]
 have at1:h1.IsListIter i1 l1 k:=j1.at fun o e=>k1 i1 o n1 e
 have at2:h1.IsListIter i2 l2 k:=j2.at fun o e=>k1 i2 o n2 e
 have f1:h1.IsList l1 xs:=e1.at fun o e=>k1 l1 o m1 e
 have f2:h1.IsList l2 ys:=e2.at fun o e=>k1 l2 o m2 e
 refine Â (Â (ă ?_))
 show wpAny _ _ (đ (.ref i1) >>= _) _ _ _
 cases hx:xs[k]? with
 | none=>exact Â (wpAny_nextOf_list_end hh at1 f1 hx fun h2 e b2 he=>hE h2 e (fun c o a b _ x=>b2 c o b (k1 c o a x)) he)
 | some x =>
  have hy:ys[k]?=none:=hend.elim (fun z=>by rw [hx] at z; cases z) id
  refine Â (wpAny_nextOf_list_item at1 f1 hx fun h2 c1 b2=>Ë (Ë ?_))
  refine Â (Â (ă ?_))
  show wpAny _ _ (đ (.ref i2) >>= _) _ _ _
  exact Â (wpAny_nextOf_list_end hh (at2.extBut b2.extBut n12.symm) (f2.extBut b2.extBut m3) hy fun h3 e b3 he=>hE h3 e (fun c o a b d x=>b3 c o d (b2.extBut _ _ b (k1 c o a x))) he)
structure ZSt (z TI TO i1 i2 l1 l2:Addr) (xs ys:Array Value) (i:Nat) (h:Heap):Prop where
 zip:(i=0/\h.get? z=some (nU .none false TI TO))\/∃ (T:Addr) (q:Bool) (oT:Obj),h.get? z=some (nU (rawInt T) q TI TO)/\h.get? T=some oT/\T≠z/\T≠i1/\T≠i2
 ti:h.get? TI=some { cls:=.type "tuple",data:=.seq #[.ref i1,.ref i2] }
 to:∃ a b,h.get? TO=some { cls:=.type "tuple",data:=.seq #[a,b] }
 j1:h.IsListIter i1 l1 i
 j2:h.IsListIter i2 l2 i
 e1:h.IsList l1 xs
 e2:h.IsList l2 ys
variable {z TI TO i1 i2 l1 l2:Addr}{xs ys:Array Value}
theorem ZSt.keeps {i:Nat}{h h':Heap} (Z:ZSt z TI TO i1 i2 l1 l2 xs ys i h) {S:Addr}{oS:Obj} (hS:h.get? S=some oS) (hc:oS.cls=.type "list") (n1:S≠l1) (n2:S≠l2) (nT:∀ (T:Addr) (q:Bool),h.get? z=some (nU (rawInt T) q TI TO)->S≠T) (k:∀ b o,b≠S->h.get? b=some o->h'.get? b=some o):ZSt z TI TO i1 i2 l1 l2 xs ys i h':=by
 have ne:∀ {b:Addr}{o:Obj},h.get? b=some o->o.cls≠.type "list"->b≠S:=fun e n z=>by subst z; rw [hS] at e; cases e; exact n hc
 obtain⟨o1,a1,c1,d1⟩:=Z.j1
 obtain⟨o2,a2,c2,d2⟩:=Z.j2
 obtain⟨a,b,ab⟩:=Z.to
 have k1:=k i1 o1 (ne a1 (by rw [c1]; decide)) a1
 have k2:=k i2 o2 (ne a2 (by rw [c2]; decide)) a2
 refine⟨?_,k _ _ (ne Z.ti (show û "tuple"≠_ by decide)) Z.ti,⟨a,b,k _ _ (ne ab (show û "tuple"≠_ by decide)) ab⟩,⟨o1,k1,c1,d1⟩,⟨o2,k2,c2,d2⟩,Z.e1.at fun o e=>k _ o n1.symm e,Z.e2.at fun o e=>k _ o n2.symm e⟩
 rcases Z.zip with ⟨h0,hz⟩ | ⟨T,q,oT,hz,hT,r⟩
 ·exact .inl ⟨h0,k _ _ (ne hz (show û "zip"≠_ by decide)) hz⟩
 ·exact .inr ⟨T,q,oT,k _ _ (ne hz (show û "zip"≠_ by decide)) hz,k _ _ (nT T q hz).symm hT,r⟩
theorem Ia {i:Nat}{x y:Value}{Q:Option Value->Shared->Prop} (D:ZipApart z TI TO i1 i2 l1 l2) (Z:ZSt z TI TO i1 i2 l1 l2 xs ys i s.heap) (hx:xs[i]?=some x) (hy:ys[i]?=some y)
  (hQ:∀ h',ZSt z TI TO i1 i2 l1 l2 xs ys (i+1) h'->h'.get? s.heap.objs.size=some { cls:=.type "tuple",data:=.seq #[x,y] }->(∀ (T:Addr) (q:Bool),h'.get? z=some (nU (rawInt T) q TI TO)->T=s.heap.objs.size\/∃ q',s.heap.get? z=some (nU (rawInt T) q' TI TO)) ->
   (∀ c o,c≠z->c≠TO->c≠i1->c≠i2->s.heap.get? c=some o->h'.get? c=some o)->Q (some (.ref s.heap.objs.size)) { s with heap:=h' }):wpAny (model prog w) A (pyNext (.ref z)) Q E s:=by
 obtain⟨a,b,ab⟩:=Z.to
 have lt:∀ {c:Addr}{o:Obj},s.heap.get? c=some o->s.heap.objs.size≠c:=fun e=>Ī (Ê e)
 obtain⟨o1,a1,_⟩:=id Z.j1
 obtain⟨o2,a2,_⟩:=id Z.j2
 rcases Z.zip with ⟨rfl,hz⟩ | ⟨T,q,oT,hz,hT,t1,t2,t3⟩
 ·refine wpAny_pyNext_zip_item D hz Z.ti ab Z.j1 Z.j2 Z.e1 Z.e2 hx hy fun h' b1 b2 b3 b4 b5 b6 b7=>hQ h' ⟨.inr ⟨_,false,_,b1,b5,lt hz,lt a1,lt a2⟩,b7 _ _ D.TIz D.TITO D.TIi1 D.TIi2 Z.ti,⟨_,_,b2⟩,b3,b4,Z.e1.at fun o e=>b7 _ o D.l1z D.l1TO D.l1i1 D.l1i2 e,Z.e2.at fun o e=>b7 _ o D.l2z D.l2TO D.l2i1 D.l2i2 e⟩ b5 (fun T q e=>?_) b7
  rw [b1] at e
  cases e
  exact .inl rfl
 ·have hTy:s.TypeIs (.ref z) "zip":=⟨_,hz,rfl⟩
  unfold pyNext
  refine Â (wpAny_attempt (ĵ (name:=Ł "__next__") hTy F.slot_zip_next (ī F.slot_zip_next hTy F.entry_zip_next ?_ (F.args_zip_next_1 _))))
  refine vW D.i1z D.i2z D.i12 D.l1z D.l2z D.l2i1 hz Z.ti hT Z.j1 Z.j2 Z.e1 Z.e2 hx hy fun h' b1 b3 b4 b5 b7=>Ë (hQ h' ⟨.inr ⟨T,true,oT,b1,b7 _ _ t1 t2 t3 hT,t1,t2,t3⟩,b7 _ _ D.TIz D.TIi1 D.TIi2 Z.ti,⟨a,b,b7 _ _ D.TOz D.TOi1 D.TOi2 ab⟩,b3,b4,Z.e1.at fun o e=>b7 _ o D.l1z D.l1i1 D.l1i2 e,Z.e2.at fun o e=>b7 _ o D.l2z D.l2i1 D.l2i2 e⟩ b5 (fun T' q' e=>?_) fun c o n1 _ n3 n4 e=>b7 c o n1 n3 n4 e)
  rw [b1] at e
  cases e
  exact .inr ⟨_,hz⟩
theorem Ml {i:Nat}{Q:Option Value->Shared->Prop} (hh:A.handled=none) (D:ZipApart z TI TO i1 i2 l1 l2) (Z:ZSt z TI TO i1 i2 l1 l2 xs ys i s.heap) (hend:xs[i]?=none\/ys[i]?=none)
  (hQ:∀ h',(∀ c o,c≠z->c≠TO->c≠i1->c≠i2->s.heap.get? c=some o->h'.get? c=some o)->Q none { s with heap:=h' }):wpAny (model prog w) A (pyNext (.ref z)) Q E s:=by
 obtain⟨a,b,ab⟩:=Z.to
 rcases Z.zip with ⟨rfl,hz⟩ | ⟨T,q,oT,hz,hT,t1,t2,t3⟩
 ·exact wpAny_pyNext_zip_end hh D hz Z.ti ab Z.j1 Z.j2 Z.e1 Z.e2 hend hQ
 ·have hTy:s.TypeIs (.ref z) "zip":=⟨_,hz,rfl⟩
  unfold pyNext
  refine Â (wpAny_attempt (ĵ (name:=Ł "__next__") hTy F.slot_zip_next (ī F.slot_zip_next hTy F.entry_zip_next ?_ (F.args_zip_next_1 _))))
  refine yE hh D.i1z D.i2z D.i12 D.l1z D.l2z D.l2i1 hz Z.ti hT Z.j1 Z.j2 Z.e1 Z.e2 hend fun h' e k2 he=>?_
  obtain⟨o,ho,hc⟩:=he
  refine Â (wpAny_isInstance (T:="StopIteration") (b:=true) ⟨o,ho,hc⟩ isSubtype_stop ?_)
  exact Ë (hQ _ fun c o n1 _ n3 n4 e=>k2 c o n1 n3 n4 e)
def ItP (h:Heap):List Value->List (Value×Value)->Prop:=Paired fun v p=>∃ T,v=.ref T/\h.get? T=some { cls:=.type "tuple",data:=.seq #[p.1,p.2] }
theorem ItP.snoc {h:Heap}:∀ {vs:List Value}{ps:List (Value×Value)}{v:Value}{p:Value×Value},ItP h vs ps->(∃ T,v=.ref T/\h.get? T=some { cls:=.type "tuple",data:=.seq #[p.1,p.2] })->ItP h (vs++[v]) (ps++[p])
 | _,_,_,_,.nil,r=>.cons r .nil
 | _,_,_,_,.cons a t,r=>.cons a (ItP.snoc t r)
theorem ItP.keeps {h h':Heap}{vs:List Value}{ps:List (Value×Value)} (H:ItP h vs ps) (k:∀ T o,h.get? T=some o->o.cls=.type "tuple"->(∃ v∈vs,v=.ref T)->h'.get? T=some o):ItP h' vs ps:=by
 induction H with
 | nil=>exact .nil
 | cons a t ih =>
  obtain⟨T,e,hT⟩:=a
  exact .cons ⟨T,e,k T _ hT rfl ⟨_,ä,e⟩⟩ (ih fun T o h c ⟨v,hv,e⟩=>k T o h c ⟨v,Ù _ hv,e⟩)
end
section
variable {prog:Program}{w:World}{A:Around}{z TI TO i1 i2 l1 l2:Addr}{xs ys:Array Value}{R:Result->Shared->Prop}
abbrev N8 (acc:Array Value) (c:Nat):Obj:={ cls:=.type "list",dict:=none,data:=.seq acc c,slots:=#[] }
theorem HY (hh:A.in1.handled=none) (D:ZipApart z TI TO i1 i2 l1 l2) (hn:min xs.size ys.size<=1000) (S:Addr) (nS:S≠z/\S≠TO/\S≠i1/\S≠i2/\S≠l1/\S≠l2) (res:Value):∀ (m i:Nat) (s:Shared) (acc:Array Value) (c:Nat),min xs.size ys.size - i=m->i<=min xs.size ys.size ->
  ZSt z TI TO i1 i2 l1 l2 xs ys i s.heap->(∀ (T:Addr) (q:Bool),s.heap.get? z=some (nU (rawInt T) q TI TO)->S≠T)->s.heap.get? S=some (N8 acc c)->ItP s.heap acc.toList ((xs.toList.zip ys.toList).take i)->(∀ v∈acc.toList,∀ T,v=.ref T->T≠z/\T≠TO/\T≠i1/\T≠i2/\T≠S) ->
  (∀ h' acc' c',(∀ b o,b≠S->b≠z->b≠TO->b≠i1->b≠i2->s.heap.get? b=some o->h'.get? b=some o)->h'.get? S=some (N8 acc' c')->ItP h' acc'.toList (xs.toList.zip ys.toList)->(∀ v∈acc'.toList,v∈acc.toList\/∃ T,v=.ref T/\s.heap.objs.size<=T)->R (.ok (.ret res)) { s with heap:=h' }) ->
  codeAny (model prog w) A (.builtin "list.extend.loop" ⟨[.ref S,.ref z,res],[]⟩) R s:=by
 obtain⟨s1,s2,s3,s4,s5,s6⟩:=nS
 intro m
 induction m with
 | zero =>
  intro i s acc c hm hi Z nT hS hP hv hR
  have e:i=min xs.size ys.size:=by omega
  refine ű F.entry_extend_loop ?_
  rw [Around.under_plainId F.plain_extend_loop _]
  show wpAny _ A.in1 (pyNext (.ref z) >>= _) _ _ s
  refine Â (Ml hh D Z ?_ fun h' k=>?_)
  ·rcases Nat.le_total xs.size ys.size with h | h
   ·exact .inl (Array.getElem?_eq_none (by omega))
   ·exact .inr (Array.getElem?_eq_none (by omega))
  ·have el:(xs.toList.zip ys.toList).take i=xs.toList.zip ys.toList:=List.take_of_length_le (by simp; omega)
   rw [el] at hP
   exact Ë (hR h' acc c (fun b o n1 n2 n3 n4 n5 e=>k b o n2 n3 n4 n5 e) (k S _ s1 s2 s3 s4 hS) (hP.keeps fun T o h _ ⟨v,hv',e⟩=>let ⟨a1,a2,a3,a4,_⟩:=hv v hv' T e; k T o a1 a2 a3 a4 h) fun v hv=>.inl hv)
 | succ m ih =>
  intro i s acc c hm hi Z nT hS hP hv hR
  have hx:i<xs.size:=by omega
  have hy:i<ys.size:=by omega
  refine ű F.entry_extend_loop ?_
  rw [Around.under_plainId F.plain_extend_loop _]
  show wpAny _ A.in1 (pyNext (.ref z) >>= _) _ _ s
  refine Â (Ia D Z (Ź hx) (Ź hy) fun h1 Z1 hT hz1 k1=>?_)
  have hS1:=k1 S _ s1 s2 s3 s4 hS
  have lt:∀ {b:Addr}{o:Obj},s.heap.get? b=some o->s.heap.objs.size≠b:=fun e=>Ī (Ê e)
  have hsz:=hP.length
  have hsz2:acc.size=i:=by
   have:acc.toList.length=i:=by rw [hsz,Ĕ,List.length_zip]; simp; omega
   simpa using this
  show wpAny _ A.in1 (updateSeq S (·.push (.ref s.heap.objs.size)) >>= _) _ _ _
  refine Â ?_
  have h24:=ø
  have nT1:∀ (T:Addr) (q:Bool),h1.get? z=some (nU (rawInt T) q TI TO)->S≠T:=fun T q e=>by
   rcases hz1 T q e with z' | ⟨q',e'⟩
   ·rw [z']; exact (lt hS).symm
   ·exact nT T q' e'
  have oth:∀ b o,b≠S->h1.get? b=some o->(h1.update S (ð (·.push (Ā s.heap.objs.size)))).get? b=some o:=fun b o n e=>(ú _ _ (Ć n)).trans e
  obtain⟨o1,a1,_⟩:=Z.j1
  obtain⟨o2,a2,_⟩:=Z.j2
  have az:∃ o,s.heap.get? z=some o:=by
   rcases Z.zip with ⟨_,hz⟩ | ⟨_,_,_,hz,_⟩
   ·exact⟨_,hz⟩
   ·exact⟨_,hz⟩
  obtain⟨oz,az⟩:=az
  obtain⟨ta,tb,at'⟩:=Z.to
  have newT:s.heap.objs.size≠z/\s.heap.objs.size≠TO/\s.heap.objs.size≠i1/\s.heap.objs.size≠i2/\s.heap.objs.size≠S:=⟨lt az,lt at',lt a1,lt a2,lt hS⟩
  obtain⟨c2,hS2⟩:∃ c2,(h1.update S (ð (·.push (Ā s.heap.objs.size)))).get? S=some (N8 (acc.push (.ref s.heap.objs.size)) c2):=⟨_,ĝ _ hS1 rfl⟩
  have tk:(xs.toList.zip ys.toList).take (i+1)=(xs.toList.zip ys.toList).take i++[(xs[i],ys[i])]:=by
   rw [ė]
   congr 1
   have:(xs.toList.zip ys.toList)[i]?=some (xs[i],ys[i]):=by
    rw [List.getElem?_zip_eq_some]
    simp [hx,hy]
   rw [this]
   rfl
  refine wpAny_updateSeq hS1 rfl (Ë ⟨plainId_quiet F.plain_extend_loop _,ih (i+1) { s with heap:=h1.update S (ð (·.push (Ā s.heap.objs.size))) } (acc.push (.ref s.heap.objs.size)) c2 (by omega) (by omega) (Z1.keeps hS1 rfl s5 s6 nT1 oth) (fun T q e=>nT1 T q ?_) hS2 ?_ ?_ ?_⟩) (by rw [hsz2]; omega) (by show (acc.push _).size<=sizeLine+1; rw [Array.size_push,hsz2]; omega)
  ·have zz:z≠S:=Ć s1
   rw [show (h1.update S (ð (·.push (Ā s.heap.objs.size)))).get? z=h1.get? z from ú _ _ (Ć zz)] at e
   exact e
  ·rw [tk,Array.toList_push]
   refine ItP.snoc (hP.keeps fun T o h _ ⟨v,hv',e⟩=>?_) ⟨_,rfl,oth _ _ newT.2.2.2.2 hT⟩
   obtain⟨b1,b2,b3,b4,b5⟩:=hv v hv' T e
   exact oth _ _ b5 (k1 T o b1 b2 b3 b4 h)
  ·intro v hv' T e
   rw [Array.toList_push] at hv'
   rcases ñ.mp hv' with q | q
   ·exact hv v q T e
   ·have q':v=.ref s.heap.objs.size:=by simpa using q
    rw [q'] at e
    cases e
    exact newT
  ·intro h' acc' c' kk hS' hP' hn'
   refine hR h' acc' c' (fun b o n1 n2 n3 n4 n5 e=>kk b o n1 n2 n3 n4 n5 (oth b o n1 (k1 b o n2 n3 n4 n5 e))) hS' hP' fun v hv'=>?_
   rcases hn' v hv' with q | ⟨T,e,hT'⟩
   ·rw [Array.toList_push] at q
    rcases ñ.mp q with q | q
    ·exact .inl q
    ·have q':v=.ref s.heap.objs.size:=by simpa using q
     exact .inr ⟨_,q',Ö _⟩
   ·exact .inr ⟨T,e,Ą (Nat.le_of_lt (Ê (oth _ _ newT.2.2.2.2 hT))) hT'⟩
theorem Bk:typeLookup (.type "zip") "__len__"=pure none:=by rw [typeLookup_type,builtinLookup_eq_fast]; kernel_rfl
theorem yD:typeLookup (.type "zip") "__length_hint__"=pure none:=by rw [typeLookup_type,builtinLookup_eq_fast]; kernel_rfl
theorem H9 {s:Shared}{E:Value->Shared->Prop}{Q:Value->Shared->Prop} (hh:A.handled=none) (D:ZipApart z TI TO i1 i2 l1 l2) (hn:min xs.size ys.size<=1000) (hz:s.heap.get? z=some (nU .none false TI TO)) (Z:ZSt z TI TO i1 i2 l1 l2 xs ys 0 s.heap)
  (hQ:∀ h' acc' c',(∀ b o,b≠z->b≠TO->b≠i1->b≠i2->s.heap.get? b=some o->h'.get? b=some o)->h'.get? s.heap.objs.size=some (N8 acc' c')->ItP h' acc'.toList (xs.toList.zip ys.toList)->(∀ v∈acc'.toList,∃ T,v=.ref T/\s.heap.objs.size<T)->Q (.ref s.heap.objs.size) { s with heap:=h' }) :
  wpAny (model prog w) A (call (.type "list") [.ref z]) Q E s:=by
 have lt:∀ {b:Addr}{o:Obj},s.heap.get? b=some o->s.heap.objs.size≠b:=fun e=>Ī (Ê e)
 obtain⟨o1,a1,_⟩:=id Z.j1
 obtain⟨o2,a2,_⟩:=id Z.j2
 obtain⟨p1,b1,_⟩:=id Z.e1
 obtain⟨p2,b2,_⟩:=id Z.e2
 obtain⟨ta,tb,at'⟩:=id Z.to
 refine callType_codes (Q₁:=fun obj s₁=>obj=.ref s.heap.objs.size/\s₁={ s with heap:=s.heap.push { cls:=.type "list",data:=.seq #[] } }) F.called_list (F.typeCall_list_1 _) F.entry_list_init (code_list_new _ ⟨rfl,rfl⟩) fun obj sx hx=>?_
 obtain⟨rfl,rfl⟩:=hx
 have hS:(s.heap.push { cls:=.type "list",data:=.seq #[] }).get? s.heap.objs.size=some { cls:=.type "list",data:=.seq #[] }:=Û _ rfl
 refine⟨⟨_,hS,rfl⟩,F.args_list_init_2 _ _,?_⟩
 show wpAny _ _ (ž (.ref s.heap.objs.size) >>= fun old=>Builtin.List.listUpdate (.ref s.heap.objs.size) (fun _=>#[]) >>= fun _=>letGo old.toList.reverse >>= fun _=>Ĝ (.ref s.heap.objs.size) (.ref z) .none) _ _ _
 have old:∀ b o,s.heap.get? b=some o->(s.heap.push { cls:=.type "list",data:=.seq #[] }).get? b=some o:=fun b o e=>Ì _ e
 refine Â ?_
 unfold ž
 refine Â (wpAny_seqItems hS rfl (Ë ?_))
 refine Â (m:=updateSeq s.heap.objs.size (fun _=>#[])) (wpAny_updateSeq hS rfl ?_)
 have hS2:=ĝ (ð (fun _=>(#[]:Array Value))) hS rfl
 refine Â (wpAny_letGo ?_)
 generalize hg:(s.heap.push { cls:=.type "list",data:=.seq #[] }).update s.heap.objs.size (ð fun _=>(#[]:Array Value))=g at hS2
 have kg:∀ b o,s.heap.get? b=some o->g.get? b=some o:=fun b o e=>by rw [← hg]; exact (ú _ _ (lt e)).trans (old b o e)
 have sg:g.objs.size=s.heap.objs.size+1:=by rw [← hg,ō,Ń]
 have Zg:∀ {h:Heap},(∀ b o,s.heap.get? b=some o->h.get? b=some o)->ZSt z TI TO i1 i2 l1 l2 xs ys 0 h:=fun {h} k=>⟨.inl ⟨rfl,k _ _ hz⟩,k _ _ Z.ti,⟨ta,tb,k _ _ at'⟩,Z.j1.at fun o e=>k _ o e,Z.j2.at fun o e=>k _ o e,Z.e1.at fun o e=>k _ o e,Z.e2.at fun o e=>k _ o e⟩
 have hT:∀ {h:Heap},(∀ b o,s.heap.get? b=some o->h.get? b=some o)->({ s with heap:=h }:Shared).TypeIs (.ref z) "zip":=fun k=>⟨_,k _ _ hz,rfl⟩
 unfold Ĝ
 refine Â (wpAny_typeOf (hT kg) ?_)
 have q1:ů (.ref s.heap.objs.size) (.ref z)=false:=by simp [ů,lt hz]
 have q2:(û "zip" == û "list")=false:=by decide
 have q3:(û "zip" == û "tuple")=false:=by decide
 simp only [q1,q2,q3,Bool.or_false,ĥ,if_false]
 refine Â (wpAny_pyIter_zip (kg _ _ hz) ?_)
 refine Â (ă ?_)
 unfold Builtin.List.listLengthHint
 refine Â (wpAny_specialOf (hT kg) Bk ?_)
 show wpAny _ _ (specialOf (Ā z) (Ł "__length_hint__") >>= _) _ _ _
 refine Â (wpAny_specialOf (hT kg) yD ?_)
 refine Ë ?_
 show wpAny _ _ (rule "list.extend.makes-room" >>= fun _=>Builtin.List.listTouch (.ref s.heap.objs.size) >>= fun _=>again (.builtin "list.extend.loop" ⟨[.ref s.heap.objs.size,.ref z,.none],[]⟩)) _ _ _
 refine Â (wpAny_rule (Â ?_))
 show wpAny _ _ (updateSeq s.heap.objs.size (·.push .none) >>= fun _=>updateSeq s.heap.objs.size (·.pop)) _ _ _
 refine Â (wpAny_updateSeq hS2 rfl ?_)
 have hS3:=ĝ (ð (·.push ċ)) hS2 rfl
 refine wpAny_updateSeq hS3 rfl ?_
 have hS4:=ĝ (ð (·.pop)) hS3 rfl
 generalize hk:(g.update s.heap.objs.size (ð (·.push ċ))).update s.heap.objs.size (ð (·.pop))=g' at hS4
 have kk:∀ b o,b≠s.heap.objs.size->g.get? b=some o->g'.get? b=some o:=fun b o n e=>by rw [← hk]; exact (ú _ _ (Ć n)).trans ((ú _ _ (Ć n)).trans e)
 have kk2:∀ b o,s.heap.get? b=some o->g'.get? b=some o:=fun b o e=>kk b o (Ć (lt e)) (kg b o e)
 have sk:g'.objs.size=s.heap.objs.size+1:=by rw [← hk,ō,ō,sg]
 refine Ë ⟨plainId_quiet F.plain_extend_loop _,HY (A:=A.in1) (xs:=xs) (ys:=ys) hh D hn s.heap.objs.size ⟨lt hz,lt at',lt a1,lt a2,lt b1,lt b2⟩ _ _ 0 { s with heap:=g' } #[] _ rfl (Ě _) (Zg kk2) (fun T q e=>?_) hS4 .nil (fun v hv=>nomatch hv) fun h' acc' c' k' hS' hP' hn'=>?_⟩
 ·have e':=kk2 _ _ hz
  rw [e] at e'
  cases e'
 ·refine⟨rfl,hQ h' acc' c' (fun b o n1 n2 n3 n4 e=>k' b o (Ć (lt e)) n1 n2 n3 n4 (kk2 b o e)) hS' hP' fun v hv=>?_⟩
  rcases hn' v hv with q | ⟨T,e,hT'⟩
  ·exact nomatch q
  ·refine⟨T,e,?_⟩
   have:g'.objs.size<=T:=hT'
   omega
end
end PySem
namespace L2
open PySem PySem.Spec PyProof.Rows
section
variable {X:Cx}{pins:List (Addr×Obj)}{σ:L2.St}{H:Hp}{s:Shared}
theorem Inv.Ir {a:Addr}{o:HO}{H0:Hp}{s0:Shared}{σ0:L2.St} (I:Inv X pins σ H s) (I0:Inv X pins σ0 H0 s0) (hle:s0.heap.objs.size<=a) (hn:H a=none) (new:aP X.prog X.w (upd H a o) s.heap a o):Inv X pins σ (upd H a o) s:=by
 have lt:∀ {b:Addr}{u:Obj},s0.heap.get? b=some u->b≠a:=fun e z=>absurd (å (Ê e) hle) (by rw [z]; exact ć _)
 refine I.track hn (fun ob e=>?_) (Ć (à (å I0.lt hle))) (fun x c e=>?_) (fun p hp=>lt (I0.pin p hp).1) new
 ·exact absurd (å (Ê e) (Ą I0.sz hle)) (ć _)
 ·obtain⟨v,u,hu,_⟩:=I0.cell x c e
  exact lt hu
theorem Inv.tuples {H0:Hp}{s0:Shared}{σ0:L2.St} (I0:Inv X pins σ0 H0 s0):∀ (vs:List Value) (ps:List (Value×Value)) (qs:List (V×V)) (H:Hp),Inv X pins σ H s->ItP s.heap vs ps->Paired (fun (q:V×V) (p:Value×Value)=>RelV q.1 p.1/\RelV q.2 p.2) qs ps->(∀ v∈vs,∃ T,v=.ref T/\s0.heap.objs.size<=T)->(∀ T,s0.heap.objs.size<=T->H T=none\/∃ xs,H T=some (.tup xs)) ->
  ∃ (H':Hp) (ws:List V),Inv X pins σ H' s/\Same H H'/\Vals ws vs/\Paired (fun w (q:V×V)=>∃ t,w=.ref t/\H' t=some (.tup [q.1,q.2])) ws qs/\(∀ T,s0.heap.objs.size<=T->H' T=none\/∃ xs,H' T=some (.tup xs))/\(∀ T,(∀ v∈vs,v≠.ref T)->H' T=H T)
 | _,_,_,H,I,.nil,.nil,_,hN=>⟨H,[],I,Same.refl _,.nil,.nil,hN,fun _ _=>rfl⟩
 | _,_,_,H,I,.cons (a:=v) (l₁:=vs) (b:=p) (l₂:=ps) r t,.cons (a:=q) (l₁:=qs) rq tq,hv,hN=>by
  obtain⟨T,e,hT⟩:=r
  subst e
  obtain⟨T',e',hle⟩:=hv _ ä
  cases e'
  have vq:Vals [q.1,q.2] [p.1,p.2]:=.cons rq.1 (.cons rq.2 .nil)
  have okT:∀ H2:Hp,aP X.prog X.w H2 s.heap T (.tup [q.1,q.2]):=fun H2=>⟨by show 2<=sizeLine; decide,[p.1,p.2],vq,⟨_,hT,rfl,0,rfl⟩⟩
  have key:∃ H1,Inv X pins σ H1 s/\Same H H1/\H1 T=some (.tup [q.1,q.2])/\(∀ U,s0.heap.objs.size<=U->H1 U=none\/∃ xs,H1 U=some (.tup xs))/\∀ U,U≠T->H1 U=H U:=by
   rcases hN T hle with hn | ⟨xs,hx⟩
   ·refine⟨upd H T (.tup [q.1,q.2]),I.Ir I0 hle hn (okT _),fun b u e=>by rw [aj (ao e hn)]; exact e,aq,fun U hU=>?_,fun U hU=>aj hU⟩
    by_cases z:U=T
    ·subst z; exact .inr ⟨_,aq⟩
    ·rw [aj z]; exact hN U hU
   ·refine⟨H,I,Same.refl _,?_,hN,fun _ _=>rfl⟩
    obtain⟨_,its,rv,o,ho,hc,n,hd⟩:=I.hok T _ hx
    rw [hT] at ho
    cases ho
    cases hd
    have:xs=[q.1,q.2]:=Vals.inj (by simpa using rv) vq
    rw [hx,this]
  obtain⟨H1,I1,s1,h1,N1,u1⟩:=key
  obtain⟨H2,ws,I2,s2,v2,p2,N2,u2⟩:=Inv.tuples I0 vs ps qs H1 I1 t tq (fun v hv'=>hv v (Ù _ hv')) N1
  refine⟨H2,.ref T::ws,I2,s1.trans s2,.cons rfl v2,.cons ⟨T,rfl,s2 _ _ h1⟩ p2,N2,fun U hU=>?_⟩
  rw [u2 U fun v hv'=>hU v (Ù _ hv'),u1 U fun z=>hU _ ä (by rw [z])]
def tLZ (K:Ü) (ta:TA):TE:=fun σ H Q=>ta σ H fun vs H1=>∃ p q xs ys,vs=[.ref p,.ref q]/\SqL K H1 p xs/\SqL K H1 q ys/\xs.length<=1000 /\
 ∀ l ws H',Same H1 H'->H1 l=none->H' l=some (.lst ws)->Paired (fun w (q:V×V)=>∃ t,w=.ref t/\H' t=some (.tup [q.1,q.2])) ws (xs.zip ys)->Q (.ref l) H'
theorem yH:∀ {xs ys:List V}{us vs:List Value},Vals xs us->Vals ys vs->Paired (fun (q:V×V) (p:Value×Value)=>RelV q.1 p.1/\RelV q.2 p.2) (xs.zip ys) (us.zip vs)
 | _,_,_,_,.nil,_=>.nil
 | _,_,_,_,.cons _ _,.nil=>.nil
 | _,_,_,_,.cons a b,.cons c d=>.cons ⟨a,c⟩ (yH b d)
theorem Ca {a b:Expr}{ta:TA}{p1 p2 pos1 pos2:Pos} (hc:X.calm=true) (hgl:Gl X "list") (hml:X.mg "list"=none) (hgz:Gl X "zip") (hmz:X.mg "zip"=none) (ha:PA X [a,b] ta)
  (e1:starEach [.Call (.Name "zip" p2) [a,b] [] pos2] X.env=[(false,eval (.Call (.Name "zip" p2) [a,b] [] pos2) X.env)]:=by rfl) (e2:starEach [a,b] X.env=(false,eval a X.env)::starEach [b] X.env:=by rfl) (e3:(backTo pos2 (starEach [b] X.env)).any (·.1)=false:=by rfl) :
  PE X (.Call (.Name "list" p1) [.Call (.Name "zip" p2) [a,b] [] pos2] [] pos1) (tLZ X.K ta):=by
 intro pins s σ H Q I h
 refine ń (dF I hgl hml boot_list ?_)
 refine ü ?_ e1 rfl
 rw [e1]
 refine Calls.spliced_cons ?_
 refine ń (dF I hgz hmz PyProof.Rows.boot_zip ?_)
 refine ü (thn (ha pos2 pins s σ H _ I h) fun us s1 ⟨vs,H1,I1,r1,q1⟩=>?_) e2 e3
 obtain⟨p,q,xs,ys,rfl,hp,hq,hlen,k⟩:=q1
 obtain⟨u,u2,rfl,rx,ry⟩:=vals2 r1
 cases rx
 cases ry
 obtain⟨its,rv,pl,_⟩:=I1.list hp
 obtain⟨its2,rv2,pl2,_⟩:=I1.list hq
 refine call_zip_2 pl.isList pl2.isList fun h' hz hTI hTO hi1 hi2 hsz hk=>?_
 refine Calls.spliced_nil ?_
 have lp:p<s1.heap.objs.size:=by obtain⟨o,e,_⟩:=pl.isList; exact Ê e
 have lq:q<s1.heap.objs.size:=by obtain⟨o,e,_⟩:=pl2.isList; exact Ê e
 have D:=zipApart_new lp lq
 have Z:ZSt (s1.heap.objs.size+4) (s1.heap.objs.size+2) (s1.heap.objs.size+3) s1.heap.objs.size (s1.heap.objs.size+1) p q its.toArray its2.toArray 0 h' :=
  ⟨.inl ⟨rfl,hz⟩,hTI,⟨_,_,hTO⟩,hi1,hi2,pl.isList.at fun o e=>hk _ o e,pl2.isList.at fun o e=>hk _ o e⟩
 have hl1:=rv.length
 refine H9 (s:={ s1 with heap:=h' }) (I1.ok.hd hc) D (by simp; omega) hz Z fun h2 acc c2 k2 hS hP hT=>?_
 have lt:∀ {b:Addr}{o:Obj},s1.heap.get? b=some o->b<s1.heap.objs.size:=fun e=>Ê e
 have kept:∀ b o,s1.heap.get? b=some o->h2.get? b=some o:=fun b o e=>by
  have l0:=lt e
  have l1:∀ j,b≠s1.heap.objs.size+j:=fun j=>à (å l0 (ź _ _))
  exact k2 b o (l1 4) (l1 3) (l1 0) (l1 1) (hk b o e)
 have I2:Inv X pins σ H1 { s1 with heap:=h2 }:=I1.kept (t':=s1.toks) kept
 have hsz':h'.objs.size=s1.heap.objs.size+5:=hsz
 obtain⟨H3,ws,I3,s3,v3,p3,N3,u3⟩:=Inv.tuples I1 acc.toList _ _ H1 I2 hP (yH rv rv2) (fun v hv=>by
  obtain⟨T,e,hT'⟩:=hT v hv
  have hT'':h'.objs.size<T:=hT'
  exact⟨T,e,by omega⟩) fun T hT=>.inl (I1.hok.fresh hT)
 have hSn:H3 h'.objs.size=none:=by
  rw [u3 _ fun v hv z=>?_]
  ·exact I1.hok.fresh (by omega)
  ·obtain⟨T,e,hT'⟩:=hT v hv
   rw [z] at e
   cases e
   exact absurd hT' (ć _)
 have hwl:ws.length<=sizeLine:=by
  have:=v3.length
  have h24:=ø
  have l3:=p3.length
  rw [l3,List.length_zip]
  omega
 have I4:Inv X pins σ (upd H3 h'.objs.size (.lst ws)) { s1 with heap:=h2 }:=I3.Ir I1 (by omega) hSn ⟨hwl,acc.toList,c2,v3,hS⟩
 refine⟨.ref h'.objs.size,_,I4,rfl,k h'.objs.size ws _ (s3.trans fun b u e=>by rw [aj (ao e hSn)]; exact e) (I1.hok.fresh (by omega)) aq (Paired.G3 p3 fun w q ⟨t,e,ht⟩=>⟨t,e,by rw [aj (ao ht hSn)]; exact ht⟩)⟩
end
end L2
namespace Dl
open PySem L2 PyProof.Rows
variable [Gr]
section
variable {X:Cx}{pos:Pos}{a b c e:Expr}{es:List Expr}{ta tb tc te:DE}{t:DA}
def newP (k:Kd) (ds:List D) (P:Kd->Prop):Prop:=(fH ds=true/\P .new)\/P (k.join .new)
theorem mD {p:Pn}{H0 Hb H H2:Hp}{own:Addr->Option Nat} (A:At p H0 own Hb H) {k:Kd}{vs:List V}{ds:List D}{P:Kd->Prop}{l:Addr} (r:Rps (okK p H0 own Hb k) H2 vs ds) (nw:okK p H0 own Hb .new l) (hl:H2 l=some (.lst vs)) (h:newP k ds P):∃ k',P k'/\Rp (okK p H0 own Hb k') H2 (.ref l) (.list ds):=by
 rcases h with ⟨i,h⟩ | h
 ·exact⟨_,h,.lst nw hl ((Rps.imm r i).mono (fun _ o=>o.elim) (fun _ _ _ e=>e) fun _ _ e=>e)⟩
 ·exact⟨_,h,.lst (cO A (dh k .new).2 nw) hl (r.mono (fun a o=>cO A (dh k .new).1 o) (fun _ _ _ e=>e) fun _ _ e=>e)⟩
theorem tR:∀ l:List Int,fH (l.map È)=true
 | []=>rfl
 | x::l=>by
  show (bx (.int x)&&fH (l.map È))=true
  rw [tR l]
  rfl
theorem vB:∀ l:List Tie,fH (l.map pD)=true
 | []=>rfl
 | x::l=>by
  show (bx (pD x)&&fH (l.map pD))=true
  rw [vB l]
  rfl
def prD (p:D×D):D:=.tuple [p.1,p.2]
def SN:GC:=fun ks P=>match ks with
 | [(k1,.list ds),(k2,.list es)]=>ds.length<=1000/\newP (k1.join k2) ((ds.zip es).map prD) fun k=>P k (.list ((ds.zip es).map prD))
 | _=>False
theorem Rps.zip {ok:Addr->Prop}{H H':Hp} (m:∀ {v:V}{d:D},Rp ok H v d->Rp ok H' v d):∀ {xs ys:List V}{ds es:List D}{ws:List V},Rps ok H xs ds->Rps ok H ys es->Paired (fun w (q:V×V)=>∃ t,w=.ref t/\H' t=some (.tup [q.1,q.2])) ws (xs.zip ys)->Rps ok H' ws ((ds.zip es).map prD)
 | _,_,_,_,_,.nil,_,p=>by cases p; exact .nil
 | _,_,_,_,_,.cons _ _,.nil,p=>by cases p; exact .nil
 | _,_,_,_,_,.cons h t,.cons h2 t2,p=>by
  cases p with
  | cons r q =>
   obtain⟨t',rfl,ht⟩:=r
   exact .cons (.tup ht (.cons (m h) (.cons (m h2) .nil))) (Rps.zip m t t2 q)
theorem kJ {p1 p2 pos1 pos2:Pos} (hc:X.calm=true) (hml:X.mg "list"=none) (hmz:X.mg "zip"=none) (ha:PDA X [a,b] t) (hgl:Gl X "list":=by rfl) (hgz:Gl X "zip":=by rfl)
  (e1:starEach [.Call (.Name "zip" p2) [a,b] [] pos2] X.env=[(false,eval (.Call (.Name "zip" p2) [a,b] [] pos2) X.env)]:=by rfl) (e2:starEach [a,b] X.env=(false,eval a X.env)::starEach [b] X.env:=by rfl) (e3:(backTo pos2 (starEach [b] X.env)).any (·.1)=false:=by rfl) :
  PD X (.Call (.Name "list" p1) [.Call (.Name "zip" p2) [a,b] [] pos2] [] pos1) (tCl SN t):=PE.wk (Ca hc hgl hml hgz hmz ha e1 e2 e3) (by
 rintro σ H Q ⟨p,H0,own,ρ,P,E,t,q⟩
 refine⟨p,H0,own,ρ,_,E,t,fun ks vs H1 h A r=>?_⟩
 unfold SN at h
 split at h
 ·rename_i k1 ds k2 es'
  obtain⟨v,w,rfl,r1,r2⟩:=Jg r
  obtain⟨x,xs,e1,o1,h1,rs1⟩:=Rp.bL r1
  obtain⟨y,ys,e2,o2,h2,rs2⟩:=Rp.bL r2
  subst e1 e2
  refine⟨x,y,xs,ys,rfl,SqL.of h1,SqL.of h2,by rw [rs1.length]; exact h.1,fun l ws H' sm hl hl' hp=>?_⟩
  have K:Kp p H1 H':=Kp.of sm
  have i2:p.PI H':=p.mono H1 H' A.pen fun b o _ e=>sm b o e
  have j2:=dh k1 k2
  have m1:∀ {k:Kd},k.le (k1.join k2)=true->∀ {vs ds},Rps (okK p H0 own H k) H1 vs ds->Rps (okK p H0 own H (k1.join k2)) H1 vs ds:=fun hk _ _ z=>z.mono (fun a o=>cO A hk o) (fun _ _ _ e=>e) fun _ _ e=>e
  obtain⟨k',hk',rk'⟩:=mD A (Rps.zip (fun z=>pU A K z) (m1 j2.1 rs1) (m1 j2.2 rs2) hp) (A.free hl) hl' h.2
  exact q _ _ _ _ hk' (A.go K i2) rk'
 ·exact h.elim)
def tCh (f g:Int->Int->Bool) (ta tb tc:DE):DE:=fun ρ P=>ta ρ fun _ d1=>tb ρ fun _ d2=>match d1,d2 with
 | .int i,.int j=>if f i j=true then tc ρ fun _ d3=>(match d3 with
   | .int l=>P .imm (.bool (g j l))
   | _=>False) else P .imm (.bool false)
 | _,_=>False
theorem Od {f g:Int->Int->Bool}:∀ σ H Q,bR (tCh f g ta tb tc) σ H Q->Iw (rI0 fun i j=>.bl (f i j)) (rI0 fun i j=>.bl (g i j)) (bR ta) (bR tb) (bR tc) σ H Q:=by
 rintro σ H Q ⟨p,H0,own,ρ,P,E,t,q⟩
 refine⟨p,H0,own,ρ,_,E,t,fun k1 d1 v1 H1 t1 A1 r1=>?_⟩
 refine⟨p,H0,own,ρ,_,E.go A1.kp A1.pen,t1,fun k2 d2 v2 H2 t2 A2 r2=>?_⟩
 have A:=A1.base A2
 split at t2
 ·rename_i i j
  refine⟨i,j,r1.int',r2.int',_,rfl,?_⟩
  cases hf:f i j with
  | true =>
   rw [hf,if_pos rfl] at t2
   refine aG ⟨p,H0,own,ρ,_,(E.go A1.kp A1.pen).go A2.kp A2.pen,t2,fun k3 d3 v3 H3 t3 A3 r3=>?_⟩
   cases d3 with
   | int l=>exact⟨j,l,r2.int',r3.int',q _ _ _ _ t3 (A.base A3) (.bl _)⟩
   | _=>exact t3.elim
  | false =>
   rw [hf,if_neg Î] at t2
   exact aL (q _ _ _ _ t2 A (.bl _))
 ·exact t2.elim
theorem Nq (ha:PD X a ta) (hb:PD X b tb) (hc:PD X c tc) (hm:lastMarks [.LtE,.Lt] [b,c]=false:=by with_unfolding_all rfl):PD X (.Compare a [.LtE,.Lt] [b,c] pos) (tCh (fun i j=>decide (i<=j)) (fun i j=>decide (i<j)) ta tb tc):=PE.wk (JH UW JT ha hb hc hm) Od
def PK (ta:DE):DE:=fun ρ P=>ta ρ fun _ d=>match d with
 | .bool b=>P .imm (.bool (!b))
 | _=>False
theorem sH (ha:PD X a ta):PD X (.UnaryOp .Not a pos) (PK ta):=PE.wk (Rv ha) (by
 rintro σ H Q ⟨p,H0,own,ρ,P,E,t,q⟩
 refine⟨p,H0,own,ρ,_,E,t,fun k d v H' h A r=>?_⟩
 cases d with
 | bool b=>exact⟨b,r.bl',q _ _ _ _ h A (.bl _)⟩
 | _=>exact h.elim)
def Eh (ta tb:DE):DE:=fun ρ P=>ta ρ fun _ d=>match d with
 | .bool b=>if b=true then tb ρ P else P .imm (.bool false)
 | _=>False
def T9 (ta tb:DE):DE:=fun ρ P=>ta ρ fun _ d=>match d with
 | .bool b=>if b=true then P .imm (.bool true) else tb ρ P
 | _=>False
theorem cR {op} (h:PD X a ta):PD X (.BoolOp op [a] pos) ta:=JC h
theorem sS {rest:List Expr} (ha:PD X a ta) (hb:PD X (.BoolOp .And (b::rest) pos) tb):PD X (.BoolOp .And (a::b::rest) pos) (Eh ta tb):=PE.wk (JK ha hb) (by
 rintro σ H Q ⟨p,H0,own,ρ,P,E,t,q⟩
 refine⟨p,H0,own,ρ,_,E,t,fun k d v H' h A r=>?_⟩
 cases d with
 | bool b =>
  refine⟨b,r.bl',?_⟩
  cases b with
  | true=>exact aG ⟨p,H0,own,ρ,P,E.go A.kp A.pen,by simpa using h,fun k d v H2 h2 A2 r2=>q k d v H2 h2 (A.base A2) (jJ A r2)⟩
  | false=>exact aL (q _ _ _ _ (by simpa using h) A (.bl _))
 | _=>exact h.elim)
theorem JL {rest:List Expr} (ha:PD X a ta) (hb:PD X (.BoolOp .Or (b::rest) pos) tb):PD X (.BoolOp .Or (a::b::rest) pos) (T9 ta tb):=PE.wk (Uy ha hb) (by
 rintro σ H Q ⟨p,H0,own,ρ,P,E,t,q⟩
 refine⟨p,H0,own,ρ,_,E,t,fun k d v H' h A r=>?_⟩
 cases d with
 | bool b =>
  refine⟨b,r.bl',?_⟩
  cases b with
  | true=>exact aG (q _ _ _ _ (by simpa using h) A (.bl _))
  | false=>exact aL ⟨p,H0,own,ρ,P,E.go A.kp A.pen,by simpa using h,fun k d v H2 h2 A2 r2=>q k d v H2 h2 (A.base A2) (jJ A r2)⟩
 | _=>exact h.elim)
def QL (tc:DT) (ta tb:DE):DE:=fun ρ P=>tc ρ fun b=>if b=true then ta ρ P else tb ρ P
theorem lW {u:DT} (hc:PDT X c u) (ha:PD X a ta) (hb:PD X b tb):PD X (.IfExp c a b pos) (QL u ta tb):=PE.wk (JF hc ha hb) (by
 rintro σ H Q ⟨p,H0,own,ρ,P,E,t,q⟩
 refine⟨p,H0,own,ρ,_,E,t,fun b H' h A=>?_⟩
 have nx:∀ k d v H2,P k d->At p H0 own H' H2->Rp (okK p H0 own H' k) H2 v d->Q v H2:=fun k d v H2 h2 A2 r2=>q k d v H2 h2 (A.base A2) (jJ A r2)
 cases b with
 | true=>exact aG ⟨p,H0,own,ρ,P,E.go A.kp A.pen,by simpa using h,nx⟩
 | false=>exact aL ⟨p,H0,own,ρ,P,E.go A.kp A.pen,by simpa using h,nx⟩)
def tyD:D->String
 | .none=>"NoneType"
 | .bool _=>"bool"
 | .int _=>"int"
 | .str _=>"str"
 | .list _=>"list"
 | .tuple _=>"tuple"
 | .dict _=>"dict"
def isT (c:String) (d:D):Bool:=tyD d == c || (c == "int"&&tyD d == "bool")
def tIs (c:String) (te:DE):DE:=fun ρ P=>te ρ fun _ d=>P .imm (.bool (isT c d))
theorem bU {T:String}{x:Str}{ps pt:Pos} (hk:∀ t:Value,(t=.type "NoneType"\/t=.type "bool"\/t=.type "int"\/t=.type "str"\/t=.type "list"\/t=.type "tuple"\/t=.type "dict")->∃ n,t=.type n/\W.kitOne X.K t (.type T)=some (n == T || (T == "int"&&n == "bool")))
  (hm:X.mg "isinstance"=none) (he:PD X e te) (hT:PE X (.Name x pt) (tC (.ty T))) (hg:Gl X "isinstance":=by rfl) (h1:starEach [e,.Name x pt] X.env=(false,eval e X.env)::starEach [.Name x pt] X.env:=by rfl) (h2:starEach [.Name x pt] X.env=(false,eval (.Name x pt) X.env)::starEach [] X.env:=by rfl) (hpl:(backTo pos (starEach [.Name x pt] X.env)).any (·.1)=false:=by rfl) :
  PD X (.Call (.Name "isinstance" ps) [e,.Name x pt] [] pos) (tIs T te):=PE.wk (bQ yw hg hm boot_isinstance (jO he (jO hT cu h2) h1) (by decide) (by decide) h1 hpl) (by
 rintro σ H Q ⟨p,H0,own,ρ,P,E,t,q⟩
 refine⟨p,H0,own,ρ,_,E,t,fun k d v H' h A r=>?_⟩
 have fin:∀ n,TyOf X.K H' v (.type n)->n=tyD d->∃ x' c' t' b,[v,V.ty T]=[x',.ty c']/\TyOf X.K H' x' t'/\W.kitOne X.K t' (.type c')=some b/\Q (.bl b) H':=fun n ty en=>by
  obtain⟨n',e,hk'⟩:=hk (.type n) (by rw [en]; cases d <;> simp [tyD])
  cases e
  refine⟨v,T,.type n,_,rfl,ty,hk',?_⟩
  rw [en]
  exact q _ _ _ _ h A (.bl _)
 show ∃ x' c' t' b,_/\_
 cases r with
 | non=>exact fin _ .non rfl
 | bl b=>exact fin _ (.bl b) rfl
 | int i=>exact fin _ (.int i) rfl
 | str x=>exact fin _ (.str x) rfl
 | lst o hh rr=>exact fin _ (.lst hh) rfl
 | tup hh rr=>exact fin _ (.tup hh) rfl
 | dct o hh rr=>exact fin _ (.dK hh) rfl)
theorem Oj {K:Ü}:∀ t:Value,(t=.type "NoneType"\/t=.type "bool"\/t=.type "int"\/t=.type "str"\/t=.type "list"\/t=.type "tuple"\/t=.type "dict")->∃ n,t=.type n/\W.kitOne K t (.type "int")=some (n == "int" || ("int" == "int"&&n == "bool")):=by
 rintro t (rfl | rfl | rfl | rfl | rfl | rfl | rfl) <;> exact⟨_,rfl,rfl⟩
theorem Ku {K:Ü}:∀ t:Value,(t=.type "NoneType"\/t=.type "bool"\/t=.type "int"\/t=.type "str"\/t=.type "list"\/t=.type "tuple"\/t=.type "dict")->∃ n,t=.type n/\W.kitOne K t (.type "bool")=some (n == "bool" || ("bool" == "int"&&n == "bool")):=by
 rintro t (rfl | rfl | rfl | rfl | rfl | rfl | rfl) <;> exact⟨_,rfl,rfl⟩
theorem tM {K:Ü}:∀ t:Value,(t=.type "NoneType"\/t=.type "bool"\/t=.type "int"\/t=.type "str"\/t=.type "list"\/t=.type "tuple"\/t=.type "dict")->∃ n,t=.type n/\W.kitOne K t (.type "list")=some (n == "list" || ("list" == "int"&&n == "bool")):=by
 rintro t (rfl | rfl | rfl | rfl | rfl | rfl | rfl) <;> exact⟨_,rfl,rfl⟩
theorem kit_tuple {K:Ü}:∀ t:Value,(t=.type "NoneType"\/t=.type "bool"\/t=.type "int"\/t=.type "str"\/t=.type "list"\/t=.type "tuple"\/t=.type "dict")->∃ n,t=.type n/\W.kitOne K t (.type "tuple")=some (n == "tuple" || ("tuple" == "int"&&n == "bool")):=by
 rintro t (rfl | rfl | rfl | rfl | rfl | rfl | rfl) <;> exact⟨_,rfl,rfl⟩
theorem Oi {K:Ü}:∀ t:Value,(t=.type "NoneType"\/t=.type "bool"\/t=.type "int"\/t=.type "str"\/t=.type "list"\/t=.type "tuple"\/t=.type "dict")->∃ n,t=.type n/\W.kitOne K t (.type "str")=some (n == "str" || ("str" == "int"&&n == "bool")):=by
 rintro t (rfl | rfl | rfl | rfl | rfl | rfl | rfl) <;> exact⟨_,rfl,rfl⟩
def S8:GC:=fun ks P=>match ks with
 | [(_,.list ds)]=>∃ bs:List Bool,ds=bs.map PyData.bool/\P .imm (.bool (bs.all id))
 | _=>False
theorem Rps.bools {ok:Addr->Prop}{H:Hp}:∀ {vs:List V}{bs:List Bool},Rps ok H vs (bs.map PyData.bool)->vs=bs.map V.bl
 | [],[],_=>rfl
 | _,b::bs,.cons h t=>by
  have e:=h.bl'
  subst e
  rw [Rps.bools t]
  rfl
theorem oE {ps:Pos} (hc:X.calm=true) (hm:X.mg "all"=none) (hv:bootBuiltins "all"=some (.builtin "all")) (ha:PDA X [a] t) (hg:Gl X "all":=by rfl) (he:zS X a []:=by rfl) (hpl:zP X pos []:=by rfl):PD X (.Call (.Name "all" ps) [a] [] pos) (tCl S8 t) :=
 cN (HN hc) (by
  intro p H0 own Hb H vs ks P Q A r t q
  unfold S8 at t
  split at t
  ·obtain⟨bs,rfl,t⟩:=t
   obtain⟨v,rfl,r'⟩:=eE r
   obtain⟨x,xs,e1,o1,h1,rs1⟩:=Rp.bL r'
   subst e1
   have e2:=Rps.bools rs1
   subst e2
   exact⟨x,bs,rfl,SqL.of h1,q _ _ _ _ t Kp.refl A.pen (.bl _)⟩
  ·exact t.elim) hg hm hv ha (by decide) (by decide) he hpl
def gMM (f:Int->Int->Int):GC:=fun ks P=>match ks with
 | [(_,.int i),(_,.int j)]=>P .imm (.int (f i j))
 | _=>False
theorem wX {ps:Pos} (hc:X.calm=true) (hm:X.mg "max"=none) (ha:PDA X [a,b] t) (hg:Gl X "max":=by rfl) (he:starEach [a,b] X.env=(false,eval a X.env)::starEach [b] X.env:=by rfl) (hpl:(backTo pos (starEach [b] X.env)).any (·.1)=false:=by rfl):PD X (.Call (.Name "max" ps) [a,b] [] pos) (tCl (gMM fun i j=>if j > i then j else i) t) :=
 cN (HD hc) (by
  intro p H0 own Hb H vs ks P Q A r t q
  unfold gMM at t
  split at t
  ·rename_i k i k' j
   obtain⟨v,w,rfl,r1,r2⟩:=Jg r
   rw [Rp.int' r1,Rp.int' r2]
   exact⟨i,j,rfl,q _ _ _ _ t Kp.refl A.pen (.int _)⟩
  ·exact t.elim) hg hm boot_max ha (by decide) (by decide) he hpl
def Wf:GC:=fun ks P=>match ks with
 | [(k,.list ds)]=>newP k ds fun k'=>P k' (.list ds)
 | [(k,.tuple ds)]=>newP k ds fun k'=>P k' (.list ds)
 | _=>False
def KN:GC:=fun ks P=>match ks with
 | [(k,.list ds)]=>P (norm k (.tuple ds)) (.tuple ds)
 | [(k,.tuple ds)]=>P (norm k (.tuple ds)) (.tuple ds)
 | _=>False
theorem lV {ps:Pos} (hm:X.mg "tuple"=none) (ha:PDA X [a] t) (hg:Gl X "tuple":=by rfl) (he:zS X a []:=by rfl) (hpl:zP X pos []:=by rfl):PD X (.Call (.Name "tuple" ps) [a] [] pos) (tCl KN t) :=
 zj uK (by
  intro p H0 own Hb H vs ks P Q A r t q
  unfold KN at t
  split at t
  ·rename_i k ds
   obtain⟨v,rfl,r'⟩:=eE r
   obtain⟨x,xs,e1,o1,h1,rs1⟩:=Rp.bL r'
   subst e1
   refine⟨x,xs,rfl,.inl ⟨SqL.of h1,fun l hl=>?_⟩⟩
   obtain⟨k2,i2,nw⟩:=A.new hl (.tup xs)
   exact q _ _ _ _ t k2 i2 (aZ (.tup aq (cM A k2 rs1)))
  ·rename_i k ds
   obtain⟨v,rfl,r'⟩:=eE r
   obtain⟨x,xs,e1,h1,rs1⟩:=Rp.eZ r'
   subst e1
   exact⟨x,xs,rfl,.inr ⟨SqT.of h1,q _ _ _ _ t Kp.refl A.pen (aZ r')⟩⟩
  ·exact t.elim) hg hm boot_tuple ha (by decide) (by decide) he hpl
def CZ:GC:=fun ks P=>match ks with
 | [(_,.list ds)]=>∃ ns:List Int,ds=ns.map È/\ns.length<64/\∀ out:List Int,out.Perm ns->out.Pairwise (·<=·)->P .new (.list (out.map È))
 | _=>False
theorem su {ps:Pos} (hm:X.mg "sorted"=none) (ha:PDA X [a] t) (hg:Gl X "sorted":=by rfl) (he:zS X a []:=by rfl) (hpl:zP X pos []:=by rfl):PD X (.Call (.Name "sorted" ps) [a] [] pos) (tCl CZ t) :=
 cN yt (by
  intro p H0 own Hb H vs ks P Q A r t q
  unfold CZ at t
  split at t
  ·obtain⟨ns,rfl,hl,t⟩:=t
   obtain⟨v,rfl,r'⟩:=eE r
   obtain⟨x,xs,e1,o1,h1,rs1⟩:=Rp.bL r'
   subst e1
   have e2:=Rps.ints rs1
   subst e2
   refine⟨x,ns,rfl,SqL.of h1,hl,fun l out hl' hp hs=>?_⟩
   obtain⟨k2,i2,nw⟩:=A.new hl' (.lst (out.map V.int))
   exact q _ _ _ _ (t out hp hs) k2 i2 (.lst nw aq (Rps.ofMap (fun i=>.int i) out))
  ·exact t.elim) hg hm boot_sorted ha (by decide) (by decide) he hpl
def CW:GC:=fun ks P=>match ks with
 | [(_,d)]=>∃ ts:List Tie,(d=.list (ts.map pD)\/d=.tuple (ts.map pD))/\ts.length<64/\(∀ t∈ts,Bj t)/\∀ us:List Tie,us.Perm ts->us.Pairwise (fun a b=>bB a<=bB b)->P .new (.list (us.map pD))
 | _=>False
theorem Rps.prs {ok:Addr->Prop}{H:Hp}:∀ {vs:List V}{ts:List Tie},Rps ok H vs (ts.map pD)->Prs H vs ts
 | [],[],_=>.nil
 | _,t::ts,.cons h r=>by
  obtain⟨x,xs,e,hx,rs⟩:=Rp.eZ h
  obtain⟨v1,v2,e2,q1,q2⟩:=Rps.two rs
  subst e e2
  rw [q1.int',q2.int'] at hx
  exact .cons ⟨x,rfl,hx⟩ (Rps.prs r)
theorem Prs.rps {ok:Addr->Prop}{H:Hp}:∀ {vs:List V}{ts:List Tie},Prs H vs ts->Rps ok H vs (ts.map pD)
 | _,_,.nil=>.nil
 | _,_,.cons r t=>by
  obtain⟨x,e,hx⟩:=r
  subst e
  exact .cons (.tup hx (.cons (.int _) (.cons (.int _) .nil))) (Prs.rps t)
theorem rZ {ps:Pos} (hm:X.mg "sorted"=none) (ha:PDA X [a] t) (hg:Gl X "sorted":=by rfl) (he:zS X a []:=by rfl) (hpl:zP X pos []:=by rfl):PD X (.Call (.Name "sorted" ps) [a] [] pos) (tCl CW t) :=
 cN yq (by
  intro p H0 own Hb H vs ks P Q A r t q
  unfold CW at t
  split at t
  ·obtain⟨ts,hd,hl,hn,t⟩:=t
   obtain⟨v,rfl,r'⟩:=eE r
   have fin:∀ l ws us,H l=none->Prs H ws us->us.Perm ts->us.Pairwise (fun a b=>bB a<=bB b)->Q (.ref l) (upd H l (.lst ws)):=fun l ws us hl' pr hp hs=>by
    obtain⟨k2,i2,nw⟩:=A.new hl' (.lst ws)
    exact q _ _ _ _ (t us hp hs) k2 i2 (.lst nw aq (cM A k2 (Prs.rps pr)))
   rcases hd with rfl | rfl
   ·obtain⟨x,xs,e1,o1,h1,rs1⟩:=Rp.bL r'
    subst e1
    exact⟨x,xs,ts,rfl,.inl (SqL.of h1),Rps.prs rs1,hn,hl,fin⟩
   ·obtain⟨x,xs,e1,h1,rs1⟩:=Rp.eZ r'
    subst e1
    exact⟨x,xs,ts,rfl,.inr (SqT.of h1),Rps.prs rs1,hn,hl,fin⟩
  ·exact t.elim) hg hm boot_sorted ha (by decide) (by decide) he hpl
end
variable [Gr]
section
variable {X:Cx}{pins:List (Addr×Obj)}{σ:L2.St}{H:Hp}{s:Shared}{ok:Addr->Prop}
mutual
theorem Rp.reads (I:Inv X pins σ H s):∀ {v:V}{d:D}{u:Value},Rp ok H v d->RelV v u->d.canLay0=true->∃ as,Reads s.heap u d as
 | _,_,_,.non,r,_=>by cases r; exact⟨_,.none⟩
 | _,_,_,.bl b,r,_=>by cases r; exact⟨_,.bool b⟩
 | _,_,_,.int i,r,_=>by obtain⟨t,rfl⟩:=r; exact⟨_,.int i t⟩
 | _,_,_,.str x,r,_=>by obtain⟨t,rfl⟩:=r; exact⟨_,.str x t⟩
 | _,_,_,.lst o h rs,r,c=>by
  cases r
  obtain⟨its,rv,pl,_⟩:=I.list (SqL.of h)
  obtain⟨as,ra⟩:=Rps.reads I rs rv (by simpa [PyData.canLay0] using c)
  obtain⟨ob,ho,hc,n,hd⟩:=pl.isList
  exact⟨_,.list ho hc hd (by simpa using ra)⟩
 | _,_,_,.tup h rs,r,c=>by
  cases r
  obtain⟨its,rv,pl,_⟩:=I.tuple (SqT.of h)
  obtain⟨as,ra⟩:=Rps.reads I rs rv (by simpa [PyData.canLay0] using c)
  obtain⟨ob,ho,hc,n,hd⟩:=pl
  exact⟨_,.tuple ho hc hd (by simpa using ra)⟩
 | _,_,_,.dct o h rs,r,c=>by simp [PyData.canLay0] at c
theorem Rps.reads (I:Inv X pins σ H s):∀ {v:List V}{d:List D}{u:List Value},Rps ok H v d->Vals v u->ĳ d=true->∃ as,ReadsAll s.heap u d as
 | _,_,_,.nil,r,_=>by cases r; exact⟨[],.nil⟩
 | _,_,_,.cons h t,r,c=>by
  cases r with
  | cons a b =>
   simp only [ĳ,Ú] at c
   obtain⟨as,ra⟩:=Rp.reads I h a c.1
   obtain⟨bs,rb⟩:=Rps.reads I t b c.2
   exact⟨_,.cons ra rb⟩
end
end
def okD (d:D):Bool:=d.canLay0&&decide (d.depth<=60)
section
variable {X:Cx}{pos:Pos}{a b e:Expr}{ta tb te:DE}
def Jl (K:Ü) (neg:Bool):R2:=fun x y H Q=>∃ ok ok' d e,Rp ok H x d/\Rp ok' H y e/\okD d=true/\okD e=true/\Q (.bl (if neg then !(ò d e) else ò d e)) H
theorem JW (hu:X.A.units+64<cLine):OpR X (compareOp .Eq) (Jl X.K false):=by
 intro pins s σ H x y v u Q I rx ry h
 obtain⟨ok,ok',d,e,hd,he,cd,ce,q⟩:=h
 simp only [okD,Ú,decide_eq_true_eq] at cd ce
 obtain⟨as,ra⟩:=hd.reads I rx cd.1
 obtain⟨bs,rb⟩:=he.reads I ry ce.1
 exact SeqAt.compareEq_reads ra rb cd.1 ce.1 (by omega) ⟨.bl _,H,I,rfl,q⟩
theorem RJ (hu:X.A.units+64<cLine):OpR X (compareOp .NotEq) (Jl X.K true):=by
 intro pins s σ H x y v u Q I rx ry h
 obtain⟨ok,ok',d,e,hd,he,cd,ce,q⟩:=h
 simp only [okD,Ú,decide_eq_true_eq] at cd ce
 obtain⟨as,ra⟩:=hd.reads I rx cd.1
 obtain⟨bs,rb⟩:=he.reads I ry ce.1
 exact SeqAt.compareNe_reads ra rb cd.1 ce.1 (by omega) ⟨.bl _,H,I,rfl,q⟩
def Vk (neg:Bool):G2:=fun _ d1 _ d2 P=>okD d1=true/\okD d2=true/\P .imm (.bool (if neg then !(ò d1 d2) else ò d1 d2))
theorem Qh {K:Ü} (neg:Bool):Ok2 (Vk neg) (Jl K neg):=by
 intro p H0 own Hb H x y k1 d1 k2 d2 P Q A r1 r2 t q
 exact⟨_,_,d1,d2,r1,r2,t.1,t.2.1,q _ _ _ _ t.2.2 Kp.refl A.pen (.bl _)⟩
def eqP (x:D) (h:Heap) (u:Value):Bool:=by
 classical
 exact decide (∃ d as,Reads h u d as/\ò d x=true)
def Q6 (neg:Bool):R2:=fun x y H Q=>∃ ok ok' d es,Rp ok H x d/\(Rp ok' H y (.list es)\/Rp ok' H y (.tuple es))/\okD d=true/\(es.all okD)=true/\Q (.bl (if neg then !(es.any fun e=>ò e d) else es.any fun e=>ò e d)) H
theorem Le {x:D}{h:Heap}{u:Value}{d:D}{as:List Addr} (r:Reads h u d as):eqP x h u=ò d x:=by
 classical
 unfold eqP
 rw [ĺ,decide_eq_true_eq]
 constructor
 ·rintro ⟨d',as',r',e⟩
  rw [(r.unique d' as' r').1]
  exact e
 ·exact fun e=>⟨d,as,r,e⟩
theorem nQ {x:D}{h:Heap}:∀ {us:List Value}{ds:List D}{as:List Addr},ReadsAll h us ds as->us.any (eqP x h)=ds.any fun e=>ò e x
 | _,_,_,.nil=>rfl
 | _,_,_,.cons a b=>by
  rw [List.any_cons,List.any_cons,Le a,nQ b]
theorem mL {A:Around}{s:Shared}{x:D}{v:Value}{bs:List Addr} (rx:Reads s.heap v x bs) (cx:okD x=true) (hu:A.units+60<cLine):∀ {us:List Value}{ds:List D}{as:List Addr},ReadsAll s.heap us ds as->ds.all okD=true->∀ u∈us,SeqAt.EqAt A s u v (eqP x s.heap u)
 | _,_,_,.nil,_,u,hu'=>nomatch hu'
 | _,d::ds,_,.cons a b,c,u,hu'=>by
  simp only [List.all_cons,Ú] at c
  rcases Þ.mp hu' with rfl | hu'
  ·rw [Le a]
   have c1:=c.1
   simp only [okD,Ú,decide_eq_true_eq] at c1 cx
   exact SeqAt.eqAt_reads _ _ A s _ _ _ _ a rx c1.1 cx.1 (by omega)
  ·exact mL rx cx hu b c.2 u hu'
theorem mW {A:Around} (hu:A.units+64<cLine):A.in1.units+60<cLine:=by
 have:A.in1.units<=A.units+1:=by first | exact Ö _ | exact Ņ _ | (unfold Around.in1; simp)
 omega
theorem mU:∀ {es:List D},es.all okD=true->ĳ es=true
 | [],_=>rfl
 | e::es,h=>by
  simp only [List.all_cons,Ú,okD] at h
  simp only [ĳ,Ú]
  exact⟨h.1.1,mU h.2⟩
theorem JV (hu:X.A.units+64<cLine):OpR X (compareOp .In) (Q6 false):=by
 intro pins s σ H x y v u Q I rx ry h
 obtain⟨ok,ok',d,es,hd,hs,cd,ce,q⟩:=h
 have cd':=cd
 simp only [okD,Ú,decide_eq_true_eq] at cd'
 obtain⟨bs,rb⟩:=hd.reads I rx cd'.1
 rcases hs with hs | hs
 ·obtain⟨c,vs,rfl,o,hc,rs⟩:=hs.bL
  cases ry
  obtain⟨its,r,pl,hz⟩:=I.list (SqL.of hc)
  obtain⟨as,ra⟩:=rs.reads I r (mU ce)
  refine SeqAt.in_listAt (eqP d s.heap) pl.isList (fun w hw=>mL rb cd (mW hu) ra ce w (by simpa using hw)) ⟨.bl _,H,I,rfl,?_⟩
  rw [show its.toArray.any (eqP d s.heap)=its.any (eqP d s.heap) by simp,nQ ra]
  exact q
 ·obtain⟨c,vs,rfl,hc,rs⟩:=hs.eZ
  cases ry
  obtain⟨its,r,pl,hz⟩:=I.tuple (SqT.of hc)
  obtain⟨as,ra⟩:=rs.reads I r (mU ce)
  refine SeqAt.in_tupleAt (eqP d s.heap) pl (fun w hw=>mL rb cd (mW hu) ra ce w (by simpa using hw)) ⟨.bl _,H,I,rfl,?_⟩
  rw [show its.toArray.any (eqP d s.heap)=its.any (eqP d s.heap) by simp,nQ ra]
  exact q
theorem u6 (hu:X.A.units+64<cLine):OpR X (compareOp .NotIn) (Q6 true):=by
 intro pins s σ H x y v u Q I rx ry h
 obtain⟨ok,ok',d,es,hd,hs,cd,ce,q⟩:=h
 have cd':=cd
 simp only [okD,Ú,decide_eq_true_eq] at cd'
 obtain⟨bs,rb⟩:=hd.reads I rx cd'.1
 rcases hs with hs | hs
 ·obtain⟨c,vs,rfl,o,hc,rs⟩:=hs.bL
  cases ry
  obtain⟨its,r,pl,hz⟩:=I.list (SqL.of hc)
  obtain⟨as,ra⟩:=rs.reads I r (mU ce)
  refine SeqAt.notIn_listAt (eqP d s.heap) pl.isList (fun w hw=>mL rb cd (mW hu) ra ce w (by simpa using hw)) ⟨.bl _,H,I,rfl,?_⟩
  rw [show its.toArray.any (eqP d s.heap)=its.any (eqP d s.heap) by simp,nQ ra]
  exact q
 ·obtain⟨c,vs,rfl,hc,rs⟩:=hs.eZ
  cases ry
  obtain⟨its,r,pl,hz⟩:=I.tuple (SqT.of hc)
  obtain⟨as,ra⟩:=rs.reads I r (mU ce)
  refine SeqAt.notIn_tupleAt (eqP d s.heap) pl (fun w hw=>mL rb cd (mW hu) ra ce w (by simpa using hw)) ⟨.bl _,H,I,rfl,?_⟩
  rw [show its.toArray.any (eqP d s.heap)=its.any (eqP d s.heap) by simp,nQ ra]
  exact q
def gIn (neg:Bool):G2:=fun _ d1 _ d2 P=>match d2 with
 | .list es=>okD d1=true/\es.all okD=true/\P .imm (.bool (if neg then !(es.any fun e=>ò e d1) else es.any fun e=>ò e d1))
 | .tuple es=>okD d1=true/\es.all okD=true/\P .imm (.bool (if neg then !(es.any fun e=>ò e d1) else es.any fun e=>ò e d1))
 | _=>False
theorem okIn (neg:Bool):Ok2 (gIn neg) (Q6 neg):=by
 intro p H0 own Hb H x y k1 d1 k2 d2 P Q A r1 r2 t q
 cases d2 with
 | list es=>exact⟨_,_,d1,es,r1,.inl r2,t.1,t.2.1,q _ _ _ _ t.2.2 Kp.refl A.pen (.bl _)⟩
 | tuple es=>exact⟨_,_,d1,es,r1,.inr r2,t.1,t.2.1,q _ _ _ _ t.2.2 Kp.refl A.pen (.bl _)⟩
 | _=>exact t.elim
theorem zf (hu:X.A.units+64<cLine) (ha:PD X a ta) (hb:PD X b tb) (hm:behindInMarks .In b=false:=by rfl):PD X (.Compare a [.In] [b] pos) (t2 (gIn false) ta tb):=sO (JV hu) (okIn false) ha hb hm
theorem jf (hu:X.A.units+64<cLine) (ha:PD X a ta) (hb:PD X b tb) (hm:behindInMarks .NotIn b=false:=by rfl):PD X (.Compare a [.NotIn] [b] pos) (t2 (gIn true) ta tb):=sO (u6 hu) (okIn true) ha hb hm
theorem oh (hu:X.A.units+64<cLine) (ha:PD X a ta) (hb:PD X b tb) (hm:behindInMarks .In b=false:=by rfl):PDT X (.Compare a [.In] [b] pos) (cJ (t2 (gIn false) ta tb)):=cZ (JV hu) (okIn false) ha hb hm
theorem n8 (hu:X.A.units+64<cLine) (ha:PD X a ta) (hb:PD X b tb) (hm:behindInMarks .NotIn b=false:=by rfl):PDT X (.Compare a [.NotIn] [b] pos) (cJ (t2 (gIn true) ta tb)):=cZ (u6 hu) (okIn true) ha hb hm
end
variable [Gr]
section
variable {X:Cx}{pos p2:Pos}{a b c e:Expr}{es:List Expr}{ta tb tc te:DE}{t:DA}{st:Stmt}
abbrev DO:=List Sl->(Option Int->Prop)->Prop
def zU (t:DO):TO:=fun σ H Q=>∃ p H0 own ρ P,EnvD p H0 own σ H ρ/\t ρ P/\∀ o H',P o->At p H0 own H H'->Q o H'
theorem PO.wk {e:Option Expr}{t t':TO} (h:PO X e t) (w:∀ σ H Q,t' σ H Q->t σ H Q):PO X e t':=fun pins s σ H Q I q=>h pins s σ H Q I (w σ H Q q)
def Ql:DO:=fun _ P=>P none
def Qk (te:DE):DO:=fun ρ P=>te ρ fun _ d=>match d with
 | .int i=>P (some i)
 | _=>False
theorem rm:PO X none (zU Ql):=PO.wk Ng (by
 rintro σ H Q ⟨p,H0,own,ρ,P,E,t,q⟩
 exact q _ _ t E.at)
theorem fJ (h:PD X e te):PO X (some e) (zU (Qk te)):=PO.wk (Nb h) (by
 rintro σ H Q ⟨p,H0,own,ρ,P,E,t,q⟩
 refine⟨p,H0,own,ρ,_,E,t,fun k d v H' h A r=>?_⟩
 cases d with
 | int i=>exact⟨i,r.int',q _ _ h A⟩
 | _=>exact h.elim)
def Aw {α:Type} (ds:List α) (lo hi:Option Int):List α:=(ds.drop (HT.sIx ds.length 0 lo)).take (HT.sIx ds.length ds.length hi - HT.sIx ds.length 0 lo)
theorem Rps.cut {ok:Addr->Prop}{H:Hp}{vs:List V}{ds:List D} (r:Rps ok H vs ds) (lo hi:Option Int):Rps ok H (uJ vs lo hi) (Aw ds lo hi):=by
 unfold uJ Aw
 rw [r.length]
 exact (r.drop _).take _
def Ws (te:DE) (tl th:DO):DE:=fun ρ P=>te ρ fun k d=>tl ρ fun lo=>th ρ fun hi=>match d with
 | .list ds=>newP k (Aw ds lo hi) fun k'=>P k' (.list (Aw ds lo hi))
 | _=>False
def S6:G2:=fun k1 d1 k2 d2 P=>match d1,d2 with
 | .list ds,.list es=>ds.length+es.length<=1000/\newP (k1.join k2) (ds++es) fun k=>P k (.list (ds++es))
 | _,_=>False
theorem U7:Ok2 S6 Us:=by
 intro p H0 own Hb H x y k1 d1 k2 d2 P Q A r1 r2 t q
 unfold S6 at t
 split at t
 ·obtain⟨c1,xs,e1,o1,h1,rs1⟩:=r1.bL
  obtain⟨c2,ys,e2,o2,h2,rs2⟩:=r2.bL
  subst e1 e2
  have h24:=ø
  refine⟨c1,c2,xs,ys,rfl,rfl,h1,h2,by rw [rs1.length,rs2.length]; omega,fun l hl=>?_⟩
  obtain⟨k3,i3,nw⟩:=A.new hl (.lst (xs++ys))
  have j:=dh k1 k2
  have m:∀ {k vs ds},k.le (k1.join k2)=true->Rps (okK p H0 own Hb k) H vs ds->Rps (okK p H0 own Hb (k1.join k2)) H vs ds:=fun hk z=>z.mono (fun a o=>cO A hk o) (fun _ _ _ e=>e) fun _ _ e=>e
  obtain⟨k',hk',rk'⟩:=mD A (cM A k3 ((m j.1 rs1).app (m j.2 rs2))) nw aq t.2
  exact q _ _ _ _ hk' k3 i3 rk'
 ·exact t.elim
def KY:G2:=fun k1 d1 k2 d2 P=>match d1,d2 with
 | .tuple ds,.tuple es=>ds.length+es.length<=1000/\P (norm (k1.join k2) (.tuple (ds++es))) (.tuple (ds++es))
 | _,_=>False
theorem RW:Ok2 KY Qa:=by
 intro p H0 own Hb H x y k1 d1 k2 d2 P Q A r1 r2 t q
 unfold KY at t
 split at t
 ·obtain⟨c1,xs,e1,h1,rs1⟩:=r1.eZ
  obtain⟨c2,ys,e2,h2,rs2⟩:=r2.eZ
  subst e1 e2
  have h24:=ø
  refine⟨c1,c2,xs,ys,rfl,rfl,h1,h2,by rw [rs1.length,rs2.length]; omega,fun l H' sm hl=>?_⟩
  have K:Kp p H H':=Kp.of sm
  have j:=dh k1 k2
  have m:∀ {k vs ds},k.le (k1.join k2)=true->Rps (okK p H0 own Hb k) H vs ds->Rps (okK p H0 own Hb (k1.join k2)) H vs ds:=fun hk z=>z.mono (fun a o=>cO A hk o) (fun _ _ _ e=>e) fun _ _ e=>e
  exact q _ _ _ _ t.2 K (p.mono H H' A.pen fun b o _ e=>sm b o e) (aZ (.tup hl (cM A K ((m j.1 rs1).app (m j.2 rs2)))))
 ·exact t.elim
def Uc (ta:DE):DE:=fun ρ P=>ta ρ fun _ d=>match d with
 | .int i=>P .imm (.int (-i))
 | _=>False
theorem jg (ha:PD X a ta):PD X (.UnaryOp .USub a pos) (Uc ta):=PE.wk (Ux Qy ha) (by
 rintro σ H Q ⟨p,H0,own,ρ,P,E,t,q⟩
 refine⟨p,H0,own,ρ,_,E,t,fun k d v H' h A r=>?_⟩
 cases d with
 | int i=>exact⟨i,r.int',q _ _ _ _ h A (.int _)⟩
 | _=>exact h.elim)
def Vx (te:DE) (g:DG):DS:=fun P ρ=>te ρ fun k d=>g (norm (elK k) d) d ρ P.nx
theorem U6 {p:Pn}{H0 Hb H:Hp}{own:Addr->Option Nat} (A:At p H0 own Hb H) {k:Kd}{v:V}{d:D} (r:Rp (okK p H0 own Hb k) H v d):Rp (okB p H0 own (norm (elK k) d)) H v d:=by
 refine fX (r.mono (fun a o=>?_) (fun _ _ _ e=>e) fun _ _ e=>e)
 cases k with
 | imm=>exact o
 | new=>exact⟨A.h0 o,A.nfb o,A.Nt o⟩
 | reg q=>exact o
 | n0=>trivial
 | snw=>exact o
 | shr=>exact o
 | wk=>trivial
theorem Dr {g:DG} (h:PS X st (uF (bR te) (Fj g))):PDS X st (Vx te g):=PS.wk' h (by
 rintro Q σ H ⟨p,H0,own,ρ,P,E,t,w⟩
 refine⟨p,H0,own,ρ,_,E,t,fun k d v H1 h A r=>?_⟩
 exact⟨p,H0,own,ρ,_,d,P.nx,E.go A.kp A.pen,U6 A r,h,fun σ' ρ' E' n=>w.nx own σ' H1 ρ' E' A.frs n⟩)
def Wt (i:Nat) (te:DE):DS:=fun P ρ=>match ρ[i]? with
 | some (.dw r (.list ds))=>te ρ fun k d=>match d with
  | .list es=>(k.le .new || fH es)=true/\ds.length+es.length<=1000/\P.nx ((forget r ρ).set i (.dw r (.list (ds++es))))
  | _=>False
 | _=>False
theorem Fb {te:DE}{ρ:List Sl}{R:Kd->D->Prop} (t:te ρ R):bD te gJ ρ (fun ks=>∃ k d,ks=[(k,d)]/\R k d):=by
 show te ρ fun k d=>∃ k' d',[((k,d):Kd×D)]=[(k',d')]/\R k' d'
 have e:(fun k d=>∃ k' d',[((k,d):Kd×D)]=[(k',d')]/\R k' d')=R:=by
  funext k d
  apply propext
  constructor
  ·rintro ⟨k',d',e,h⟩
   cases e
   exact h
  ·exact fun h=>⟨k,d,rfl,h⟩
 rw [e]
 exact t
def Tp (i:Nat) (tj te:DE):DS:=fun P ρ=>match ρ[i]? with
 | some (.dw r (.list ds))=>tj ρ fun _ dj=>te ρ fun k d=>match dj with
  | .int j=>(norm k d).le .new=true/\0<=j/\j.toNat<=ds.length/\ds.length<1000/\P.nx ((forget r ρ).set i (.dw r (.list (ds.take j.toNat++d::ds.drop j.toNat))))
  | _=>False
 | _=>False
theorem o8 {i:Nat}{tj:DE} (h:PS X st (yL (tBM X.K "list" Et (qj i) (j5 (bD tj (bD te gJ)))))):PDS X st (Tp i tj te):=PS.wk' h (by
 rintro Q σ H ⟨p,H0,own,ρ,P,E,t,w⟩
 unfold Tp at t
 split at t
 ·rename_i r ds hr
  obtain⟨v,hv,x⟩:=E.slot i _ hr
  obtain⟨l,vs,rfl,hl,ho,rs⟩:=x.bL
  refine⟨.ref l,hv,.inl ⟨rfl,vs,SqL.of ho⟩,p,H0,own,ρ,fun ks=>∃ k1 dj k d,ks=[(k1,dj),(k,d)]/\(match dj with
   | .int j=>(norm k d).le .new=true/\0<=j/\j.toNat<=ds.length/\ds.length<1000/\P.nx ((forget r ρ).set i (.dw r (.list (ds.take j.toNat++d::ds.drop j.toNat))))
   | _=>False),E,?_,?_⟩
  ·show tj ρ fun k1 dj=>te ρ fun k d=>∃ k1' dj' k' d',[((k1,dj):Kd×D),(k,d)]=[(k1',dj'),(k',d')]/\_
   have e:∀ (k1:Kd) (dj:D),(fun k d=>∃ k1' dj' k' d',[((k1,dj):Kd×D),(k,d)]=[(k1',dj'),(k',d')]/\(match dj' with
    | .int j=>(norm k' d').le .new=true/\0<=j/\j.toNat<=ds.length/\ds.length<1000/\P.nx ((forget r ρ).set i (.dw r (.list (ds.take j.toNat++d'::ds.drop j.toNat))))
    | _=>False))=fun k d=>(match dj with
    | .int j=>(norm k d).le .new=true/\0<=j/\j.toNat<=ds.length/\ds.length<1000/\P.nx ((forget r ρ).set i (.dw r (.list (ds.take j.toNat++d::ds.drop j.toNat))))
    | _=>False):=fun k1 dj=>by
    funext k d
    apply propext
    constructor
    ·rintro ⟨k1',dj',k',d',e,h⟩
     cases e
     exact h
    ·exact fun h=>⟨k1,dj,k,d,rfl,h⟩
   simp only [e]
   exact t
  ·rintro ks ws H1 ⟨k1,dj,k,d,rfl,hh⟩ A rk
   cases dj with
   | int j =>
    obtain⟨hk,h0,hj,hlen,hn⟩:=hh
    obtain⟨y1,y,rfl,ry1,ry⟩:=Jg rk
    have ry:=jc A hk (aZ ry)
    have e1:=Rp.int' ry1
    have h1:H1 l=some (.lst vs):=A.kp l _ ho (E.ow l r hl).2.1
    have h24:=ø
    have l1:=rs.length
    refine⟨l,vs,j.toNat,y,rfl,?_,h1,by omega,by omega,?_⟩
    ·rw [e1]
     have:((j.toNat:Nat):Int)=j:=by omega
     rw [this]
    obtain⟨E2,F2⟩:=E.Jj (vs':=vs.take j.toNat++y::vs.drop j.toNat) (ds':=ds.take j.toNat++d::ds.drop j.toNat) A hv hl ho rs fun H2 f g=>by
     have m:=wA f rs fun d hd=>uR hd
     exact (m.take _).app (.cons (g ry) (m.drop _))
    exact w.nx _ σ _ _ E2 F2 hn
   | _=>exact hh.elim
 ·exact t.elim)
end
variable [Gr]
structure Cal (P:Program) (w:World) (K:Ü) (mg:Str->Option Value) (base:Heap) (k:Nat) (x:Str) (ps:List Str) (sp:Sp):Prop where
 ex:∃ f fd,FnOk P w K mg base CX0 k f fd ps sp/\Binds K fd ps []/\W.keepIn K (.ref f)=true/\mg x=some (.ref f)
section
variable {X:Cx}{k j:Nat}{x:Str}{ps:List Str}{e:Expr}{es:List Expr}{t:DA}{p pos pq:Pos}
theorem pcS {sp:Sp}{ta:TA} (C:Cal X.prog X.w X.K X.mg X.base k x ps sp) (hr:Room j X.A) (ha:PA X (e::es) ta) (hk:k<=j) (hg:Gl X x)
  (hdb:zB x) (he:zS X e es) (hpl:zP X pos es) :
  PE X (.Call (.Name x p) (e::es) [] pos) (rH sp [] E0 ta):=by
 obtain⟨f,fd,F,b,kp,m⟩:=C.ex
 exact Ew F (hr.mono hk) hg m kp b .nil UJ ha hdb he hpl
theorem dc {f:List D->(D->Prop)->Prop} (C:Cal X.prog X.w X.K X.mg X.base k x ps (spD f)) (hr:Room j X.A) (ha:PDA X (e::es) t) (hk:k<=j:=by decide) (hg:Gl X x:=by rfl)
  (hdb:zB x:=by decide) (he:zS X e es:=by rfl) (hpl:zP X pos es:=by rfl) :
  PD X (.Call (.Name x p) (e::es) [] pos) (tFn f t):=PE.wk (pcS C hr ha hk hg hdb he hpl) Oc
theorem dcP {C:Pn->Prop}{i:Nat}{f:List D->(D->Prop)->Prop}{y:Str}{py:Pos} (CC:Cal X.prog X.w X.K X.mg X.base k x ps (spP C f)) (hr:Room j X.A) (hi:PE X (.Name y py) (qj i)) (ha:PDA X es t) (hk:k<=j:=by decide) (hg:Gl X x:=by rfl)
  (hdb:zB x:=by decide) (he:starEach (.Name y py::es) X.env=(false,eval (.Name y py) X.env)::starEach es X.env:=by rfl) (hpl:zP X pos es:=by rfl) :
  PD X (.Call (.Name x p) (.Name y py::es) [] pos) (Bs C f i t):=PE.wk (pcS CC hr (jO hi ha) hk hg hdb he hpl) Kh
theorem dv (i:Nat) {x:Str}{pos:Pos} (hN:X.N[i]?=some x:=by rfl) (hv:Vis X.env.scope x:=by first | exact Or.inl rfl | exact Or.inr (Or.inl rfl) | exact Or.inr (Or.inr rfl)) (hd:zB x:=by decide)
  (hcd:(x == ("__classdict__":Str))=false:=by decide):PD X (.Name x pos) (tV i):=Rx (pv i hN hv hd hcd)
end
structure Bn (mg:Str->Option Value):Prop where
 isinstance:mg "isinstance"=none
 int:mg "int"=none
 bool:mg "bool"=none
 tuple:mg "tuple"=none
 list:mg "list"=none
 len:mg "len"=none
 all:mg "all"=none
 min:mg "min"=none
 max:mg "max"=none
 sorted:mg "sorted"=none
 range:mg "range"=none
 abs:mg "abs"=none
theorem boot_all:bootBuiltins "all"=some (.builtin "all"):=by decide +kernel
theorem boot_abs:bootBuiltins "abs"=some (.builtin "abs"):=by decide +kernel
theorem Bq {i:Nat}{ρ:List Sl}{d:D}{P:DK} (h:ρ[i]?=some (aD d)) (q:∀ k,P k d):tV i ρ P:=by
 unfold tV
 rw [h]
 unfold aD
 by_cases hi:bx d=true
 ·rw [if_pos hi]; exact q _
 ·rw [if_neg hi]; exact q _
theorem Oe {f:List D->(D->Prop)->Prop}{n:Nat} (hn:∀ ds P,f ds P->ds.length=n:=by intro _ _ h; repeat (first | (obtain⟨rfl,_⟩:=h; rfl) | obtain⟨_,h⟩:=h)):∀ vs H Q E,spD f vs H Q E->vs.length=n:=fun vs H Q E h=>by
 obtain⟨ds,P,r,t,_⟩:=h
 rw [r.length]
 exact hn ds P t
theorem aK {f:List D->(D->Prop)->Prop}{T:DS}{N:List Str}{vs:List V}{H:Hp}{Q:VK}{E:XK} (h:spD f vs H Q E)
  (body:∀ ds P,f ds P->∃ ρ,ds.map aD++Ñ (N.length - ds.length) .any=ρ/\T { nx:=fun _=>P .none,rt:=P } ρ) (g:Gr.G ji H:=by trivial):j4 T { nx:=fun _ H'=>Q .non H',rt:=Q } (L2.start N vs) H :=
 Dk h (fun ds P t=>by
  obtain⟨ρ,e,q⟩:=body ds P t
  rw [e]
  exact q) g
def aA (n:Int) (us:List Tie):D:=.tuple [.int n,.tuple (us.map pD)]
theorem mX (n:Int) (us:List Tie):bx (aA n us)=true:=by
 show (bx (.int n)&&(fH (us.map pD)&&true))=true
 rw [vB]
 rfl
theorem Pu (n:Int) (us:List Tie):aD (aA n us)=.im (aA n us):=if_pos (mX n us)
def isW:D->Bool
 | .int _=>true
 | _=>false
def Dg (ds:List D) (P:D->Prop):Prop:=∃ d,ds=[d]/\P (.bool (isW d))
def bW (m:Int):D->Bool
 | .int i=>decide (0<=i/\i<m)
 | _=>false
def Di (ds:List D) (P:D->Prop):Prop:=∃ m d,ds=[.int m,d]/\P (.bool (bW m d))
theorem enterQ {C:Pn->Prop}{f:List D->(D->Prop)->Prop}{T:DS}{N:List Str}{vs:List V}{H:Hp}{Q:VK}{E:XK} (h:spP C f vs H Q E)
  (body:∀ ds P,f ds P->∃ ρ,ds.map aD++Ñ (N.length - (ds.length+1)) .any=ρ/\T { nx:=fun _=>P .none,rt:=P } (.pen C::ρ)) (g:∀ p,Gr.G p H:=by intro _; trivial):j4 T { nx:=fun _ H'=>Q .non H',rt:=Q } (L2.start N vs) H :=
 Tj h (fun ds P t=>by
  obtain⟨ρ,e,q⟩:=body ds P t
  rw [e]
  exact q) g
variable [Gr]
theorem dR {α β:Type}{l:List α}{g:α->β}{i:Nat}{d:β} (h:(l.map g)[i]?=some d):∃ x,l[i]?=some x/\g x=d:=by
 rw [ç] at h
 cases e:l[i]? with
 | none=>rw [e] at h; cases h
 | some x=>rw [e] at h; exact⟨x,rfl,Õ h⟩
theorem bF:∀ l:List Int,(l.map È).all okD=true
 | []=>rfl
 | x::l=>by
  rw [ý,List.all_cons,bF l]
  rfl
theorem any_ints (x:Int):∀ l:List Int,((l.map È).any fun e=>ò e (.int x))=decide (x∈l)
 | []=>rfl
 | y::l=>by
  rw [ý,List.any_cons,any_ints x l]
  have e:ò (.int y) (.int x)=(y == x):=rfl
  rw [e,ĺ,Bool.or_eq_true,beq_iff_eq,decide_eq_true_eq,decide_eq_true_eq,Þ]
  constructor
  ·rintro (h | h)
   ·exact .inl h.symm
   ·exact .inr h
  ·rintro (h | h)
   ·exact .inl h.symm
   ·exact .inr h
theorem U0 (l:List Int):okD (.list (l.map È))=true:=by
 unfold okD
 rw [Ú,decide_eq_true_eq]
 refine⟨Kr l,?_⟩
 show œ (l.map È)+1<=60
 rw [Ao]
 omega
theorem bH (lo:Int) (n:Nat):(vA lo n).length=n:=by unfold vA; simp
theorem cG {lo:Int}{n i:Nat}{d:D} (h:(vA lo n)[i]?=some d):i<n/\d=.int (lo+((i:Nat):Int)):=by
 unfold vA at h
 obtain⟨x,hx,e⟩:=dR h
 obtain⟨h1,h2⟩:=Æ.mp hx
 have h3:i<n:=by simpa using h1
 have h4:x=i:=by simpa using h2.symm
 subst h4
 exact⟨h3,e.symm⟩
variable [Gr]
section
variable {X:Cx}{pos p2:Pos}{a b e:Expr}{ta tb te:DE}
theorem Rps.rep {ok:Addr->Prop}{H:Hp}{vs:List V}{ds:List D} (r:Rps ok H vs ds):∀ k:Nat,Rps ok H (Ñ k vs).flatten (Ñ k ds).flatten
 | 0=>.nil
 | k+1=>by
  rw [ŋ,ŋ,ŭ,ŭ]
  exact r.app (Rps.rep r k)
def SX:G2:=fun k1 d1 _ d2 P=>match d1,d2 with
 | .list ds,.int k=>0<=k/\k<1000/\ds.length * k.toNat<=1000/\newP k1 (Ñ k.toNat ds).flatten fun k'=>P k' (.list (Ñ k.toNat ds).flatten)
 | _,_=>False
theorem U3:Ok2 SX Uo:=by
 intro p H0 own Hb H x y k1 d1 k2 d2 P Q A r1 r2 t q
 unfold SX at t
 split at t
 ·rename_i ds k
  obtain⟨c1,xs,e1,o1,h1,rs1⟩:=r1.bL
  subst e1
  have h24:=ø
  refine⟨c1,k,xs,rfl,r2.int',h1,by omega,by omega,by rw [rs1.length]; omega,fun l hl=>?_⟩
  obtain⟨k3,i3,nw⟩:=A.new hl (.lst (Ñ k.toNat xs).flatten)
  obtain⟨k',hk',rk'⟩:=mD A (cM A k3 (rs1.rep k.toNat)) nw aq t.2.2.2
  exact q _ _ _ _ hk' k3 i3 rk'
 ·exact t.elim
end
section
variable {X:Cx}{pos:Pos}{a:Expr}{t:DA}
variable [Gr]
end
variable [Gr]
section
variable {X:Cx}{pos:Pos}{a b e:Expr}{ta tb te:DE}
def Fy:G2:=fun _ d1 _ d2 P=>match d1,d2 with
 | .bool i,.bool j=>P .imm (.bool (!decide (i=j)))
 | _,_=>False
theorem RT:Ok2 Fy (fun x y H Q=>∃ a b,x=.bl a/\y=.bl b/\Q (.bl (!decide (a=b))) H):=by
 intro p H0 own Hb H x y k1 d1 k2 d2 P Q A r1 r2 t q
 unfold Fy at t
 split at t
 ·cases r1
  cases r2
  exact⟨_,_,rfl,rfl,q _ _ _ _ t Kp.refl A.pen (.bl _)⟩
 ·exact t.elim
theorem kI (ha:PD X a ta) (hb:PD X b tb):PDT X (.Compare a [.IsNot] [b] pos) (cJ (t2 Fy ta tb)):=cZ zm RT ha hb (cA _)
end
variable [Gr]
section
variable {X:Cx}{pos:Pos}{a b e:Expr}{ta tb te:DE}
def NZ:D->Bool
 | .none=>true
 | _=>false
def Hl:G2:=fun _ d1 _ d2 P=>match d2 with
 | .none=>P .imm (.bool (NZ d1))
 | _=>False
theorem Er {ok:Addr->Prop}{H:Hp}{v:V}{d:D} (r:Rp ok H v d):decide (v=.non)=NZ d:=by
 cases r <;> simp [NZ]
theorem Qg:Ok2 Hl (fun x y H Q=>y=.non/\Q (.bl (decide (x=.non))) H):=by
 intro p H0 own Hb H x y k1 d1 k2 d2 P Q A r1 r2 t q
 unfold Hl at t
 split at t
 ·cases r2
  rw [Er r1]
  exact⟨rfl,q _ _ _ _ t Kp.refl A.pen (.bl _)⟩
 ·exact t.elim
theorem Cg (ha:PD X a ta) (hb:PD X b tb):PD X (.Compare a [.Is] [b] pos) (t2 Hl ta tb):=sO Cj Qg ha hb (cA _)
theorem gP (ha:PD X a ta) (hb:PD X b tb):PDT X (.Compare a [.Is] [b] pos) (cJ (t2 Hl ta tb)):=cZ Cj Qg ha hb (cA _)
end
variable [Gr]
section
variable {X:Cx}{pos:Pos}{st:Stmt}
end
@[reducible] def grX (H:Hp):Gr:=⟨fun p H0=>p=ji/\H0=H⟩
abbrev FX:=List D->(D->Prop)->(Value->Prop)->Prop
def spX (f:FX):Sp:=fun vs H Q E=>∃ ds P R,Rps (fun _=>True) H vs ds/\f ds P R/\(∀ d v H',P d->Same H H'->Rp (fun a=>H a=none) H' v d->Q v H')/\∀ c H',R c->Same H H'->E c none H'
def Rz (E:XK) (H:Hp):Value->Prop:=fun c=>∀ H',Same H H'->E c none H'
structure Cal1 (P:Program) (w:World) (K:Ü) (mg:Str->Option Value) (base:Heap) (k:Nat) (x:Str) (ps:List Str) (sp:Sp):Prop where
 ex:∃ f fd,FnOk P w K mg base (CX1 P w) k f fd ps sp/\Binds K fd ps []/\W.keepIn K (.ref f)=true/\mg x=some (.ref f)
theorem gY {f:FX}{n:Nat} (hn:∀ ds P R,f ds P R->ds.length=n:=by intro _ _ _ h; repeat (first | (obtain⟨rfl,_⟩:=h; rfl) | obtain⟨_,h⟩:=h)):∀ vs H Q E,spX f vs H Q E->vs.length=n:=fun vs H Q E h=>by
 obtain⟨ds,P,R,r,t,_⟩:=h
 rw [r.length]
 exact hn ds P R t
def EF:XK:=fun _ _ _=>False
theorem UG {X:Cx}:Passes (CX1 X.prog X.w) X EF:=fun pins σ H s e s' I h=>by
 obtain⟨_,_,_,_,_,_,_,_,_,_,_,_,_,z⟩:=h
 exact z.elim
section
variable {X:Cx}{E:XK}{k j:Nat}{x:Str}{ps:List Str}{e:Expr}{es:List Expr}{p pos:Pos}
theorem pcX {sp:Sp}{ta:TA} (C:Cal1 X.prog X.w X.K X.mg X.base k x ps sp) (hr:Room j X.A) (hx:Passes (CX1 X.prog X.w) X E) (ha:PA X (e::es) ta) (hk:k<=j) (hg:Gl X x)
  (hdb:zB x) (he:zS X e es) (hpl:zP X pos es) :
  PE X (.Call (.Name x p) (e::es) [] pos) (rH sp [] E ta):=by
 obtain⟨f,fd,F,b,kp,m⟩:=C.ex
 exact Ew F (hr.mono hk) hg m kp b .nil hx ha hdb he hpl
def Gp (f:FX) (R:Value->Prop) (t:DA):DE:=fun ρ P=>t ρ fun ks=>f (ks.map (·.2)) (fun d=>P (norm .new d) d) R
theorem Kg {f:FX}{Hb:Hp}{t:DA}:∀ σ H Q,@bR (grX Hb) (Gp f (Rz E Hb) t) σ H Q->rH (spX f) [] E (@j5 (grX Hb) t) σ H Q:=by
 letI:=grX Hb
 rintro σ H Q ⟨p,H0,own,ρ,P,En,t,q⟩
 obtain⟨rfl,rfl⟩:=En.gr
 refine⟨ji,H0,own,ρ,_,En,t,fun ks vs H1 h A r=>?_⟩
 show spX f (vs++[]) H1 Q E
 rw [ÿ]
 have s1:Same H0 H1:=fun b o e=>A.kp b o (A.k0 b o e fun z=>z) fun z=>z
 refine⟨ks.map (·.2),_,_,(RpK.rps A r).mono (fun _ _=>trivial) (fun _ _ _ e=>e) fun _ _ e=>e,h,fun d v H' h2 s r2=>?_,fun c H' hc s=>hc H' (s1.trans s)⟩
 have k2:Kp ji H1 H':=Kp.of s
 refine q _ d v H' h2 (A.go k2 trivial) (aZ ?_)
 exact r2.mono (fun a o=>A.free o) (fun _ _ _ e=>e) fun _ _ e=>e
theorem dcX {f:FX}{Hb:Hp}{t:DA} (C:Cal1 X.prog X.w X.K X.mg X.base k x ps (spX f)) (hr:Room j X.A) (hx:Passes (CX1 X.prog X.w) X E) (ha:@PDA (grX Hb) X (e::es) t) (hk:k<=j:=by decide) (hg:Gl X x:=by rfl)
  (hdb:zB x:=by decide) (he:zS X e es:=by rfl) (hpl:zP X pos es:=by rfl) :
  @PD (grX Hb) X (.Call (.Name x p) (e::es) [] pos) (Gp f (Rz E Hb) t):=PE.wk (pcX C hr hx ha hk hg hdb he hpl) Kg
theorem Kl [Gr] {f:FX}{t:DA}:∀ σ H Q,bR (Gp f (fun _=>False) t) σ H Q->rH (spX f) [] EF (j5 t) σ H Q:=by
 rintro σ H Q ⟨p,H0,own,ρ,P,En,t,q⟩
 refine⟨p,H0,own,ρ,_,En,t,fun ks vs H1 h A r=>?_⟩
 show spX f (vs++[]) H1 Q EF
 rw [ÿ]
 refine⟨ks.map (·.2),_,_,(RpK.rps A r).mono (fun _ _=>trivial) (fun _ _ _ e=>e) fun _ _ e=>e,h,fun d v H' h2 s r2=>?_,fun c H' hc s=>hc⟩
 have k2:Kp p H1 H':=Kp.of s
 refine q _ d v H' h2 (A.go k2 (p.mono H1 H' A.pen fun b o _ e=>s b o e)) (aZ ?_)
 exact r2.mono (fun a o=>A.free o) (fun _ _ _ e=>e) fun _ _ e=>e
theorem dcF [Gr] {f:FX}{t:DA} (C:Cal1 X.prog X.w X.K X.mg X.base k x ps (spX f)) (hr:Room j X.A) (ha:PDA X (e::es) t) (hk:k<=j:=by decide) (hg:Gl X x:=by rfl)
  (hdb:zB x:=by decide) (he:zS X e es:=by rfl) (hpl:zP X pos es:=by rfl) :
  PD X (.Call (.Name x p) (e::es) [] pos) (Gp f (fun _=>False) t):=PE.wk (pcX C hr UG ha hk hg hdb he hpl) Kl
def Lq (R:Value->Prop) (C:Addr) (t:DA):DS:=fun _ ρ=>t ρ fun ks=>ks.length<=1000/\R (.ref C)
theorem nG {Hb:Hp}{t:DA}{C:Addr}{newId Bn initId:String}{bmB:List Value}{np cpos:Pos} (L:Lets X E) (hc:X.calm=true) (hg:Gl X x) (hm:X.mg x=some (.ref C)) (hx:ExcCls X.K C newId bmB) (B:ExcBaseFacts Bn newId initId bmB) (ha:@PDA (grX Hb) X (e::es) t) (hdb:zB x:=by decide)
  (he:zS X e es:=by rfl) (hpl:(backTo cpos (starEach (e::es) X.env)).any (·.1)=false:=by rfl) (hcons:backTo cpos (starEach (e::es) X.env)=(false,eval e X.env)::backTo cpos (starEach es X.env):=by rfl) :
  @PDS (grX Hb) X (.Raise (some (.Call (.Name x np) (e::es) [] cpos)) none pos) (Lq (Rz E Hb) C t):=PS.wk' (Js L hc hg hm hx B ha hdb he hpl hcons) (by
 letI:=grX Hb
 rintro Q σ H ⟨p,H0,own,ρ,P,En,t,w⟩
 obtain⟨rfl,rfl⟩:=En.gr
 refine⟨ji,H0,own,ρ,_,En,t,fun ks vs H1 h A r=>?_⟩
 have h24:=ø
 have hl:vs.length=ks.length:=by
  have:=RpK.rps A r
  rw [this.length,Ä]
 exact⟨by have:=h.1; omega,h.2 H1 fun b o e=>A.kp b o (A.k0 b o e fun z=>z) fun z=>z⟩)
end
theorem enterX {f:FX}{T:DS}{N:List Str}{vs:List V}{H:Hp}{Q:VK}{E:XK} (h:spX f vs H Q E)
  (body:∀ ds P,f ds P (Rz E H)->∃ ρ,ds.map aD++Ñ (N.length - ds.length) .any=ρ/\T { nx:=fun _=>P .none,rt:=P } ρ) (mono:∀ ds P R R',(∀ c,R c->R' c)->f ds P R->f ds P R'):@j4 (grX H) T { nx:=fun _ H'=>Q .non H',rt:=Q } (L2.start N vs) H:=by
 letI:=grX H
 obtain⟨ds,P,R,r,t,q,qE⟩:=h
 have h:spD (fun ds' P'=>ds'=ds/\P'=P) vs H Q E:=⟨ds,P,r,⟨rfl,rfl⟩,q⟩
 refine aK h (fun ds' P' ⟨e1,e2⟩=>?_) ⟨rfl,rfl⟩
 subst e1 e2
 exact body _ _ (mono _ _ R _ (fun c hc H' s=>qE c H' hc s) t)
variable [Gr]
section
variable {X:Cx}{pos:Pos}{a b e:Expr}{ta tb te:DE}{t:DA}
end
end Dl
namespace L2
open PySem PyProof.Rows
theorem zZ:∀ {ns:List Int}{us:List Value},Vals (ns.map V.int) us->IntsAre us ns
 | [],_,.nil=>.nil
 | n::ns,_,.cons r t=>by
  obtain⟨k,rfl⟩:=r
  exact .cons n k (zZ t)
def once (ns:List Int):List Int:=ns.foldl step_dedup []
theorem Df (ns:List Int) {m:Nat} (hm:m=ns.length):firstMet (fun i=>ns.getD i 0) m=once ns:=by
 subst hm
 unfold firstMet once
 congr 1
 refine List.ext_getElem (by simp) fun i h1 h2=>?_
 simp at h1
 simp [ĕ,h1]
section
variable {X:Cx}
theorem Ba (hc:X.calm=true):bA X (.type "set") (fun xs H Q=>∃ p ns,xs=[.ref p]/\SqL X.K H p (ns.map V.int)/\ns.length<=1000/\∀ l S,H l=none->Q (.ref l) (upd H l (.set S (once ns).length))):=by
 intro pins s σ H xs us Q I r h
 obtain⟨p,ns,rfl,hq,hl,q⟩:=h
 obtain⟨u,rfl,rx⟩:=vals1 r
 cases rx
 obtain⟨its,r',pl,hz⟩:=I.list hq
 have hlen:=r'.length
 rw [Ä] at hlen
 refine call_set_list (items:=its.toArray) (ns:=ns) (I.ok.hd hc) pl.isList (by simpa using zZ r') ?_ fun h' tk st k=>?_
 ·show its.toArray.size+1<scanBound
  rw [Ò,← hlen]
  exact Nat.lt_of_le_of_lt (Nat.add_le_add_right hl 1) (by decide)
 ·rw [Df ns (by rw [Ò,← hlen])] at st
  refine⟨.ref s.heap.objs.size,_,I.laid (t':=tk) (fun b o e=>k b o (Ê e) e) (Ö _) (show aP X.prog X.w _ h' _ (.set _ (once ns).length) from st),rfl,q _ _ (I.hok.fresh (Ö _))⟩
theorem uL:bA X (.builtin "len") (fun xs H Q=>∃ p S n,xs=[.ref p]/\H p=some (.set S n)/\n<=1000/\Q (.int (n:Int)) H):=by
 intro pins s σ H xs us Q I r h
 obtain⟨p,S,n,rfl,hq,hl,q⟩:=h
 obtain⟨u,rfl,rx⟩:=vals1 r
 cases rx
 obtain⟨o,es,ep,t,e1,e2,e3,_,_,_,e6,e7⟩:=I.hok p _ hq
 refine call_len_set e1 e2 e3 e6 (by rw [e7]; omega) ?_
 rw [e7]
 exact⟨.int n,H,I.tok _,⟨_,rfl⟩,q⟩
end
theorem pW:∀ (ns acc:List Int),(ns.foldl step_dedup acc).length<=acc.length+ns.length
 | [],acc=>Ö _
 | n::ns,acc=>by
  rw [List.foldl_cons]
  have h:=pW ns (step_dedup acc n)
  have:(step_dedup acc n).length<=acc.length+1:=by
   unfold step_dedup
   split
   ·omega
   ·rw [Ô]; exact Ö _
  rw [ĉ]
  omega
end L2
namespace Dl
open PySem L2 PyProof.Rows
variable [Gr]
section
variable {X:Cx}{pos pos':Pos}{a:Expr}{t:DA}
theorem boot_set:bootBuiltins "set"=some (.type "set"):=by decide +kernel
def Fz:GC:=fun ks P=>∃ k ns,ks=[(k,.list (ns.map È))]/\ns.length<=1000/\P .imm (.int ((once ns).length:Nat))
theorem ou {ps ps':Pos} (hc:X.calm=true) (hs:X.mg "set"=none) (hl:X.mg "len"=none) (ha:PDA X [a] t) (hgs:Gl X "set":=by rfl) (hgl:Gl X "len":=by rfl)
  (he:zS X a []:=by rfl) (hpl:zP X pos []:=by rfl)
  (he':starEach [Expr.Call (.Name "set" ps) [a] [] pos] X.env=(false,eval (Expr.Call (.Name "set" ps) [a] [] pos) X.env)::starEach [] X.env:=by rfl) (hpl':(backTo pos' (starEach [] X.env)).any (·.1)=false:=by rfl) :
  PD X (.Call (.Name "len" ps') [.Call (.Name "set" ps) [a] [] pos] [] pos') (tCl Fz t) :=
 PE.wk (bQ uL hgl hl PySem.boot_len (jO (uZ (Ba hc) hgs hs boot_set ha (by decide) (by decide) he hpl) cu he') (by decide) (by decide) he' hpl') (by
  rintro σ H Q ⟨p,H0,own,ρ,P,E,t,q⟩
  refine⟨p,H0,own,ρ,_,E,t,fun ks vs H1 h A r=>?_⟩
  obtain⟨k,ns,rfl,hn,h⟩:=h
  obtain⟨v,rfl,r'⟩:=eE r
  obtain⟨c,ws,rfl,o,hc',rs⟩:=r'.bL
  have ew:=rs.ints
  subst ew
  refine⟨c,ns,rfl,SqL.of hc',hn,fun l S hl'=>?_⟩
  obtain⟨k2,i2,nw⟩:=A.new hl' (.set S (once ns).length)
  have h1:=pW ns []
  exact⟨l,S,_,rfl,aq,by unfold once; simp at h1; omega,q _ _ _ _ h (A.go k2 i2) (.int _)⟩)
end
variable [Gr]
section
variable {X:Cx}{pos p2:Pos}{a b c e:Expr}{es:List Expr}{ta tb tc te:DE}{t:DA}{st:Stmt}
theorem OpR.or {f:Value->Value->Sem Value}{r r':R2} (h:OpR X f r) (h':OpR X f r'):OpR X f (fun x y H Q=>r x y H Q\/r' x y H Q):=by
 intro pins s σ H x y v u Q I rx ry q
 rcases q with q | q
 ·exact h pins s σ H x y v u Q I rx ry q
 ·exact h' pins s σ H x y v u Q I rx ry q
theorem bA.or {f:Value}{r r':List V->Hp->VK->Prop} (h:bA X f r) (h':bA X f r'):bA X f (fun x H Q=>r x H Q\/r' x H Q):=by
 intro pins s σ H x v Q I rx q
 rcases q with q | q
 ·exact h pins s σ H x v Q I rx q
 ·exact h' pins s σ H x v Q I rx q
theorem JN (ha:PD X a ta) (hb:PD X b tb) (hs:rC b:=by exact fun _ _=>rfl):PD X (.Subscript a b pos) (t2 gIx ta tb):=PE.wk (je (IxR.or cQ Sv) ha hb hs) (Fl (by
 intro p H0 own Hb H x y k1 d1 k2 d2 P Q A r1 r2 t q
 unfold gIx at t
 split at t
 ·rename_i ds i
  obtain⟨d,hd,t⟩:=t
  obtain⟨c,vs,rfl,o,hc,rs⟩:=r1.bL
  obtain⟨v,hv,rv⟩:=rs.atI hd
  exact .inl ⟨c,vs,i,v,rfl,r2.int',SqL.of hc,hv,q _ _ _ _ t Kp.refl A.pen (aZ rv)⟩
 ·rename_i ds i
  obtain⟨d,hd,t⟩:=t
  obtain⟨c,vs,rfl,hc,rs⟩:=r1.eZ
  obtain⟨v,hv,rv⟩:=rs.atI hd
  exact .inr ⟨c,vs,i,v,rfl,r2.int',SqT.of hc,hv,q _ _ _ _ t Kp.refl A.pen (aZ rv)⟩
 ·exact t.elim))
def pY:G2:=fun k1 d1 k2 d2 P=>match d1 with
 | .int i=>(match d2 with
  | .int j=>P .imm (.int (i+j))
  | _=>False)
 | .list ds=>S6 k1 (.list ds) k2 d2 P
 | .tuple ds=>KY k1 (.tuple ds) k2 d2 P
 | _=>False
theorem wR (ha:PD X a ta) (hb:PD X b tb):PD X (.BinOp a .Add b pos) (t2 pY ta tb):=sG (OpR.or jh (OpR.or RK Nx)) (by
 intro p H0 own Hb H x y k1 d1 k2 d2 P Q A r1 r2 t q
 cases d1 with
 | int i =>
  cases d2 with
  | int j=>exact .inl ⟨i,j,r1.int',r2.int',q _ _ _ _ t Kp.refl A.pen (.int _)⟩
  | _=>exact t.elim
 | list ds=>exact .inr (.inl (U7 p H0 own Hb H x y k1 _ k2 d2 P Q A r1 r2 t q))
 | tuple ds=>exact .inr (.inr (RW p H0 own Hb H x y k1 _ k2 d2 P Q A r1 r2 t q))
 | _=>exact t.elim) ha hb
def KQ:G2:=fun k1 d1 k2 d2 P=>match d1 with
 | .int i=>(match d2 with
  | .int j=>Mj i j/\P .imm (.int (i * j))
  | _=>False)
 | .list ds=>SX k1 (.list ds) k2 d2 P
 | _=>False
theorem gb (ha:PD X a ta) (hb:PD X b tb):PD X (.BinOp a .Mult b pos) (t2 KQ ta tb):=sG (OpR.or kO RG) (by
 intro p H0 own Hb H x y k1 d1 k2 d2 P Q A r1 r2 t q
 cases d1 with
 | int i =>
  cases d2 with
  | int j=>exact .inl ⟨i,j,r1.int',r2.int',t.1,q _ _ _ _ t.2 Kp.refl A.pen (.int _)⟩
  | _=>exact t.elim
 | list ds=>exact .inr (U3 p H0 own Hb H x y k1 _ k2 d2 P Q A r1 r2 t q)
 | _=>exact t.elim) ha hb
def o7 (neg:Bool):G2:=fun k1 d1 k2 d2 P=>match scD d1 d2 with
 | some b=>P .imm (.bool (if neg then !b else b))
 | none=>Vk neg k1 d1 k2 d2 P
theorem Qi {K:Ü}:Ok2 (o7 false) (fun x y H Q=>rEq x y H Q\/Jl K false x y H Q):=by
 intro p H0 own Hb H x y k1 d1 k2 d2 P Q A r1 r2 t q
 cases e:scD d1 d2 with
 | some b =>
  have t':gEq false k1 d1 k2 d2 P:=by
   unfold o7 at t
   unfold gEq
   rw [e] at t ⊢
   exact t
  exact .inl (V5 p H0 own Hb H x y k1 d1 k2 d2 P Q A r1 r2 t' q)
 | none =>
  unfold o7 at t
  rw [e] at t
  exact .inr (Qh false p H0 own Hb H x y k1 d1 k2 d2 P Q A r1 r2 t q)
theorem U4 {K:Ü}:Ok2 (o7 true) (fun x y H Q=>rNe x y H Q\/Jl K true x y H Q):=by
 intro p H0 own Hb H x y k1 d1 k2 d2 P Q A r1 r2 t q
 cases e:scD d1 d2 with
 | some b =>
  have t':gEq true k1 d1 k2 d2 P:=by
   unfold o7 at t
   unfold gEq
   rw [e] at t ⊢
   exact t
  exact .inl (V4 p H0 own Hb H x y k1 d1 k2 d2 P Q A r1 r2 t' q)
 | none =>
  unfold o7 at t
  rw [e] at t
  exact .inr (Qh true p H0 own Hb H x y k1 d1 k2 d2 P Q A r1 r2 t q)
theorem fL (hu:X.A.units+64<cLine) (ha:PD X a ta) (hb:PD X b tb):PD X (.Compare a [.Eq] [b] pos) (t2 (o7 false) ta tb):=sO (OpR.or Qf (JW hu)) Qi ha hb (cA _)
theorem fB (hu:X.A.units+64<cLine) (ha:PD X a ta) (hb:PD X b tb):PDT X (.Compare a [.Eq] [b] pos) (cJ (t2 (o7 false) ta tb)):=cZ (OpR.or Qf (JW hu)) Qi ha hb (cA _)
theorem jN (hu:X.A.units+64<cLine) (ha:PD X a ta) (hb:PD X b tb):PDT X (.Compare a [.NotEq] [b] pos) (cJ (t2 (o7 true) ta tb)):=cZ (OpR.or UL (RJ hu)) U4 ha hb (cA _)
end
section
variable {n:Nat}{g:DG}{tt:DT}{te:DE}{ρ:List Sl}{k:Kd}{ds:List D}{R:Kd->List D->Prop}
theorem N7 {α β:Type} (f:α->β) {l:List α}{i:Nat}{x:α} (h:l[i]?=some x):(l.take (i+1)).map f=(l.take i).map f++[f x]:=by
 rw [ė,h]
 simp
theorem G6 {α:Type} (xs:List α) (e f:α->D) (ke:Kd) (hd:ds=xs.map e) (hl:xs.length<=1000)
  (step:∀ x∈xs,∀ (A:D->Prop) (B:Prop),A (f x)->g (norm (elC k) (e x)) (e x) (Ñ n .any++ρ) fun ρ'=>if true=true then te ρ' fun k' d'=>(norm k' d').le ke=true/\A d' else B)
  (q:R ke (xs.map f)) :
  ds.length<=1000/\∃ (ke:Kd) (Iv:Nat->List D->Prop),Iv 0 [] /\
   (∀ i d ys,ds[i]?=some d->Iv i ys->g (norm (elC k) d) d (Ñ n .any++ρ) fun ρ'=>if true=true then te ρ' fun k' d'=>(norm k' d').le ke=true/\Iv (i+1) (ys++[d']) else Iv (i+1) ys) /\
   ∀ ys,Iv ds.length ys->R ke ys:=by
 subst hd
 refine⟨by rw [Ä]; exact hl,ke,fun i ys=>ys=(xs.take i).map f,rfl,?_,?_⟩
 ·rintro i d ys hd rfl
  rw [ç] at hd
  cases hx:xs[i]? with
  | none=>rw [hx] at hd; cases hd
  | some x =>
   rw [hx] at hd
   have hd:=Õ hd
   subst hd
   exact step x (É hx) (fun d'=>(xs.take i).map f++[d']=(xs.take (i+1)).map f) _ (N7 f hx).symm
 ·rintro ys rfl
  rw [Ä,ħ]
  exact q
theorem j7 {α:Type} (xs:List α) (e:α->D) (p:α->Bool) (f:α->D) (ke:Kd) (hd:ds=xs.map e) (hl:xs.length<=1000)
  (step:∀ x∈xs,∀ (A:D->Prop) (B:Prop),(p x=true->A (f x))->(p x=false->B)->g (norm (elC k) (e x)) (e x) (Ñ n .any++ρ) fun ρ'=>tt ρ' fun b=>if b=true then te ρ' fun k' d'=>(norm k' d').le ke=true/\A d' else B)
  (q:R ke ((xs.filter p).map f)) :
  ds.length<=1000/\∃ (ke:Kd) (Iv:Nat->List D->Prop),Iv 0 [] /\
   (∀ i d ys,ds[i]?=some d->Iv i ys->g (norm (elC k) d) d (Ñ n .any++ρ) fun ρ'=>tt ρ' fun b=>if b=true then te ρ' fun k' d'=>(norm k' d').le ke=true/\Iv (i+1) (ys++[d']) else Iv (i+1) ys) /\
   ∀ ys,Iv ds.length ys->R ke ys:=by
 subst hd
 refine⟨by rw [Ä]; exact hl,ke,fun i ys=>ys=((xs.take i).filter p).map f,rfl,?_,?_⟩
 ·rintro i d ys hd rfl
  rw [ç] at hd
  cases hx:xs[i]? with
  | none=>rw [hx] at hd; cases hd
  | some x =>
   rw [hx] at hd
   have hd:=Õ hd
   subst hd
   have sn:((xs.take (i+1)).filter p).map f=((xs.take i).filter p).map f++if p x=true then [f x] else []:=by
    rw [ė,hx,ő,ê]
    cases hp:p x <;> simp [hp]
   refine step x (É hx) (fun d'=>((xs.take i).filter p).map f++[d']=((xs.take (i+1)).filter p).map f) _ (fun h=>?_) (fun h=>?_)
   ·rw [sn,if_pos h]
   ·show _=_
    rw [sn,h,if_neg Î,ÿ]
 ·rintro ys rfl
  rw [Ä,ħ]
  exact q
end
section
variable {g:DG}{tb:DS}{k:Kd}{ds:List D}{ρ:List Sl}{P:DEnds}
end
variable [Gr]
section
variable {X:Cx}{scope:Scope}{tg iter elt:Expr}{ifs:List Expr}{pos:Pos}{ti:DI}{g:DG}{tt:DT}{te:DE}
theorem Rh (own:List Str) {i:Nat}{y:Str}{py spos:Pos} (hc:X.calm=true) (hN:X.N.Nodup) (hiN:X.N[i]?=some y) (hx:Loc X.env.scope y) (hi:PDI X tg iter ti) (hg:∀ c,PDG (X.comp own scope c) tg g) (ht:∀ c,Mh (X.comp own scope c) ifs tt) (he:∀ c,PD (X.comp own scope c) elt te)
  (hsw:swapsWith (.ListComp elt [⟨tg,iter,ifs,0⟩] scope pos) (some (.Name y py)) spos.line X.env=pure true:=by rfl)
  (hk:eY X.env scope X.N=true:=by rfl) (hs:zF X iter:=by intro _; rfl) (hf:zL X y:=by first | exact .inl rfl | exact .inr rfl | assumption) :
  PS X (.Assign [.Name y py] (.ListComp elt [⟨tg,iter,ifs,0⟩] scope pos) spos) (uF (bR (dLC own.length ti g tt te)) (ju i)):=PS.wk' (Qc own hc hN hiN hx hi hg ht he hsw hk hs hf) fun D σ H q=>Fi σ H _ q
end
section
variable {n:Nat}{g:DG}{tt:DT}{te:DE}{ρ:List Sl}{k:Kd}{ds:List D}{R:Kd->List D->Prop}
end
variable [Gr]
section
variable {X:Cx}{pos:Pos}{st:Stmt}{rest:List Stmt}{te tj:DE}{ti:DI}{t:DS}
def Tq (i:Nat) (t:DS):DS:=fun P ρ=>match ρ[i]? with
 | some (.dw r d)=>tX r ρ i=true/\t P (ρ.set i (.sn d))
 | some (.rw r L)=>tX r ρ i=true/\t P (ρ.set i (.sn (.list (L.map Į))))
 | some (.sp r b ds)=>tX r ρ i=true/\t P (ρ.set i (if b=true then .sn (.list ds) else .sh (.list ds)))
 | _=>False
theorem EnvD.freeze {p:Pn}{H0 H:Hp}{own:Addr->Option Nat}{σ:L2.St}{ρ:List Sl}{i r:Nat}{d:D}{v:V} (E:EnvD p H0 own σ H ρ) (hf:tX r ρ i=true) (hv:σ[i]?=some (some v)) (x:Rp (fun a=>own a=some r) H v d) :
  EnvD p H0 (aQ r own) σ H (ρ.set i (.sn d)):=by
 have E2:EnvD p H0 (aQ r own) σ H (ρ.set i .any):=(E.drop (i:=i)).clear hf
 have E3:=E2.put (v:=v) (i:=i) (s:=.sn d) ⟨v,hv,x.mono (fun a o=>⟨(E.ow a r o).1,(E.ow a r o).2.1,by unfold aQ; rw [if_pos o]⟩) (fun _ _ _ e=>e) fun _ _ e=>e⟩
 rw [List.set_set] at E3
 exact E3
theorem Dp (i:Nat) (h:lC X rest t):lC X rest (Tq i t):=PSs.wk' h (by
 rintro Q σ H ⟨p,H0,own,ρ,P,E,q,w⟩
 unfold Tq at q
 split at q
 ·rename_i r d e
  obtain⟨v,hv,x⟩:=E.slot i _ e
  exact⟨p,H0,_,_,P,E.freeze q.1 hv x,q.2,w.go gG⟩
 ·rename_i r L e
  obtain⟨st,as,hv,x⟩:=E.slot i _ e
  exact⟨p,H0,_,_,P,E.freeze q.1 hv x.rp,q.2,w.go gG⟩
 ·rename_i r b ds e
  obtain⟨l,vs,hv,o,h,z⟩:=E.slot i _ e
  have E2:EnvD p H0 (aQ r own) σ H (ρ.set i .any):=(E.drop (i:=i)).clear q.1
  have c0:∀ a,own a=none->aQ r own a=none:=fun a n=>by unfold aQ; rw [n]; simp
  have cl:aQ r own l=none:=by unfold aQ; rw [if_pos o]
  have E3:EnvD p H0 (aQ r own) σ H ((ρ.set i .any).set i (if b=true then .sn (.list ds) else .sh (.list ds))):=E2.put (v:=.ref l) (by
   cases b with
   | true=>exact⟨_,hv,.lst ⟨(E.ow l r o).1,(E.ow l r o).2.1,cl⟩ h (z.mono (fun c n=>⟨n.1 rfl,n.2.1,c0 c n.2.2⟩) (fun _ _ _ e=>e) fun _ _ e=>e)⟩
   | false=>exact⟨_,hv,.lst ⟨(E.ow l r o).2.1,cl⟩ h (z.mono (fun c n=>⟨n.2.1,c0 c n.2.2⟩) (fun _ _ _ e=>e) fun _ _ e=>e)⟩)
  rw [List.set_set] at E3
  exact⟨p,H0,_,_,P,E3,q.2,w.go gG⟩
 ·exact q.elim)
def dSp (i:Nat) (b:Bool) (t:DS):DS:=fun P ρ=>match ρ[i]? with
 | some (.dw r (.list ds))=>fH ds=true/\t P (ρ.set i (.sp r b ds))
 | _=>False
theorem Lg (i:Nat) (b:Bool) (h:lC X rest t):lC X rest (dSp i b t):=PSs.wk' h (by
 rintro Q σ H ⟨p,H0,own,ρ,P,E,q,w⟩
 unfold dSp at q
 split at q
 ·rename_i r ds e
  obtain⟨v,hv,x⟩:=E.slot i _ e
  obtain⟨l,vs,rfl,o,h,z⟩:=x.bL
  exact⟨p,H0,own,_,P,E.put (v:=.ref l) (i:=i) (s:=.sp r b ds) ⟨l,vs,hv,o,h,(z.imm q.1).mono (fun _ o=>o.elim) (fun _ _ o=>o.elim) fun _ _ e=>e⟩,q.2,w⟩
 ·exact q.elim)
def spK (b:Bool):Kd:=if b=true then .snw else .shr
theorem RP {p:Pn}{H0 Hb H:Hp}{own:Addr->Option Nat}{b:Bool} (A:At p H0 own Hb H) {k:Kd} (hk:k.le (spK b)=true) {v:V}{d:D}{H2:Hp} (r:Rp (okK p H0 own Hb k) H2 v d):Rp (okS p H0 own b) H2 v d:=by
 have r2:=jc A hk r
 cases b with
 | true=>exact r2.mono (fun a o=>⟨fun _=>o.1,o.2.1,o.2.2⟩) (fun _ _ _ e=>e) fun _ _ e=>e
 | false=>exact r2.mono (fun a o=>⟨fun z=>(nomatch z),o.1,o.2⟩) (fun _ _ _ e=>e) fun _ _ e=>e
theorem EnvD.MN {p:Pn}{H0 H:Hp}{own:Addr->Option Nat}{σ:L2.St}{ρ:List Sl}{i r:Nat}{b:Bool}{l:Addr}{vs vs':List V}{ds':List D} (E:EnvD p H0 own σ H ρ) (hv:σ[i]?=some (some (.ref l))) (o:own l=some r) (h:H l=some (.lst vs)) (z:Rps (okS p H0 own b) H vs' ds') :
  EnvD p H0 own σ (upd H l (.lst vs')) ((forget r ρ).set i (.sp r b ds'))/\FrS p own H own (upd H l (.lst vs')):=by
 refine⟨(E.write (o':=.lst vs') o h fun xs z=>nomatch z).put (v:=.ref l) ⟨l,vs',hv,o,aq,z.mono (fun _ o=>o) (fun c u n e=>?_) fun a xs e=>?_⟩,jF o h fun xs z=>nomatch z⟩
 ·rw [aj]; exact e
  intro y; subst y; rw [n.2.2] at o; cases o
 ·rw [aj]; exact e
  intro y; subst y; rw [h] at e; cases e
def Ls (i:Nat) (te:DE):DS:=fun P ρ=>match ρ[i]? with
 | some (.sp r b ds)=>te ρ fun k d=>(norm k d).le (spK b)=true/\ds.length<1000/\P.nx ((forget r ρ).set i (.sp r b (ds++[d])))
 | _=>False
theorem yc {i:Nat} (h:PS X st (yL (tBM X.K "list" qK (qj i) (j5 (bD te gJ))))):PDS X st (Ls i te):=PS.wk' h (by
 rintro Q σ H ⟨p,H0,own,ρ,P,E,t,w⟩
 unfold Ls at t
 split at t
 ·rename_i r b ds hr
  obtain⟨l,vs,hv,o,ho,rs⟩:=E.slot i _ hr
  refine⟨.ref l,hv,.inl ⟨rfl,vs,SqL.of ho⟩,p,H0,own,ρ,_,E,Fb t,?_⟩
  rintro ks ws H1 ⟨k,d,rfl,hk,hlen,hn⟩ A rk
  obtain⟨y,rfl,ry⟩:=eE rk
  have E1:=E.go A.kp A.pen
  have h1:H1 l=some (.lst vs):=A.kp l _ ho (E.ow l r o).2.1
  have rs1:Rps (okS p H0 own b) H1 vs ds:=rs.mono (fun _ o=>o) (fun c u n e=>A.kp c u e n.2.1) A.tups
  have h24:=ø
  have hln:=rs.length
  refine⟨l,vs,y,rfl,rfl,h1,by omega,?_⟩
  obtain⟨E2,F2⟩:=E1.MN (b:=b) hv o h1 (rs1.snoc (RP A hk (aZ ry)))
  exact w.nx _ σ _ _ E2 (A.frs.trans F2) hn
 ·exact t.elim)
def Wo (i:Nat) (tj te:DE):DS:=fun P ρ=>match ρ[i]? with
 | some (.sp r b ds)=>tj ρ fun _ dj=>te ρ fun k d=>match dj with
  | .int j=>(norm k d).le (spK b)=true/\0<=j/\j.toNat<=ds.length/\ds.length<1000/\P.nx ((forget r ρ).set i (.sp r b (ds.take j.toNat++d::ds.drop j.toNat)))
  | _=>False
 | _=>False
theorem yW:∀ {as bs:List Addr},as.map V.ref=bs.map V.ref->as=bs
 | [],[],_=>rfl
 | a::as,b::bs,e=>by
  rw [ý,ý] at e
  injection e with e1 e2
  rw [V.ref.inj e1,yW e2]
 | [],_::_,e=>by cases e
 | _::_,[],e=>by cases e
def yp (js:List Nat) (t:DS):DS:=fun P ρ=>t P (js.foldl (fun ρ j=>ρ.set j .any) ρ)
theorem EnvD.drops {p:Pn}{H0 H:Hp}{own:Addr->Option Nat}{σ:L2.St}:∀ (js:List Nat) {ρ:List Sl},EnvD p H0 own σ H ρ->EnvD p H0 own σ H (js.foldl (fun ρ j=>ρ.set j .any) ρ)
 | [],_,E=>E
 | _::js,_,E=>EnvD.drops js E.drop
theorem uf (js:List Nat) (h:lC X rest t):lC X rest (yp js t):=PSs.wk' h (by
 rintro Q σ H ⟨p,H0,own,ρ,P,E,q,w⟩
 exact⟨p,H0,own,_,P,E.drops js,q,w⟩)
def yj (i:Nat) (tj te:DE):DS:=fun P ρ=>match ρ[i]? with
 | some (.rw r L)=>tj ρ fun _ dj=>match dj with
  | .int j=>∃ n l,ixN L.length j=some n/\L[n]?=some l/\te ρ fun _ d=>bx d=true/\l.length<1000/\P.nx ((forget r ρ).set i (.rw r (L.set n (l++[d]))))
  | _=>False
 | _=>False
theorem cU {i:Nat} (h:PS X st (yL (tBM X.K "list" qK (tOp (Uq X.K) (qj i) (bR tj)) (j5 (bD te gJ))))):PDS X st (yj i tj te):=PS.wk' h (by
 rintro Q σ H ⟨p,H0,own,ρ,P,E,q,w⟩
 unfold yj at q
 split at q
 ·rename_i r L hr
  obtain⟨st,as,hv,R0⟩:=E.slot i _ hr
  refine⟨.ref st,hv,p,H0,own,ρ,_,E,q,fun kj dj vj H1 q1 A1 rj=>?_⟩
  cases dj with
  | int j =>
   have E1:=E.go A1.kp A1.pen
   obtain⟨st',as',hv',R1⟩:=E1.slot i _ hr
   rw [hv] at hv'
   cases hv'
   have ej:=Rp.int' rj
   subst ej
   obtain⟨n,l,hn,hl,q1⟩:=q1
   have hnl:=(Æ.mp hl).1
   rw [Ó hnl] at hl
   cases hl
   have hna:n<as'.length:=by rw [R1.len]; exact hnl
   have eat:atI (as'.map V.ref) j=some (.ref as'[n]):=by
    unfold L2.atI
    rw [Ä,R1.len,hn]
    show (as'.map V.ref)[n]?=_
    rw [ç,Ó hna]
    rfl
   obtain⟨vs,hav,rv⟩:=R1.row n as'[n] L[n] (Ó hna) (Ó hnl)
   refine⟨st,_,j,.ref as'[n],rfl,rfl,SqL.of R1.top,eat,.inl ⟨rfl,vs,SqL.of hav⟩,p,H0,own,ρ,_,E1,Fb q1,?_⟩
   rintro ks ws H2 ⟨k,d,rfl,im,len,nx⟩ A2 rk
   obtain⟨y,rfl,ry⟩:=eE rk
   have ry:Rp (fun _=>False) H2 y d:=Rp.imm ry im
   have E2:=E1.go A2.kp A2.pen
   obtain⟨st',as2,hv',R2⟩:=E2.slot i _ hr
   rw [hv] at hv'
   cases hv'
   -- the rows are those of before
   have eas:as2=as':=by
    have e1:=A2.kp st _ R1.top (E1.ow st r (R1.ow st ä)).2.1
    rw [R2.top] at e1
    have e2:=(HO.lst.inj (Õ e1))
    exact yW e2
   subst eas
   obtain⟨vs2,hav2,rv2⟩:=R2.row n as2[n] L[n] (Ó hna) (Ó hnl)
   have oa:=R2.ow as2[n] (Ù _ (ŏ hna))
   have h24:=ø
   have ln:=rv2.length
   refine⟨as2[n],vs2,y,rfl,rfl,hav2,by omega,?_⟩
   have tp:∀ a xs,H2 a=some (.tup xs)->upd H2 as2[n] (.lst (vs2++[y])) a=some (.tup xs):=fun a xs e=>by
    rw [aj]; exact e
    intro z; subst z; rw [hav2] at e; cases e
   have E3:=E2.write (o':=.lst (vs2++[y])) oa hav2 (fun xs z=>nomatch z)
   have nd1:=Ť.mp R2.nd
   have E4:=E3.put (v:=.ref st) (i:=i) (s:=.rw r (L.set n (L[n]++[d]))) ⟨st,as2,hv,⟨?_,R2.nd,R2.ow,by rw [List.length_set]; exact R2.len,fun m a ds e1 e2=>?_⟩⟩
   ·exact w.nx _ σ _ _ E4 ((A1.frs.trans A2.frs).trans (jF oa hav2 fun xs z=>nomatch z)) nx
   ·rw [aj]; exact R2.top
    intro z
    exact nd1.1 (by rw [z]; exact ŏ hna)
   ·by_cases em:m=n
    ·subst em
     rw [Ĉ hnl] at e2
     rw [Ó hna] at e1
     cases e1
     cases e2
     exact⟨_,aq,(rv2.mono (fun _ o=>o) (fun _ _ o=>o.elim) tp).snoc (ry.mono (fun _ o=>o) (fun _ _ o=>o.elim) tp)⟩
    ·rw [Ĥ (Ć em)] at e2
     obtain⟨vs3,h3,r3⟩:=R2.row m a ds e1 e2
     refine⟨vs3,?_,r3.mono (fun _ o=>o) (fun _ _ o=>o.elim) tp⟩
     rw [aj]; exact h3
     intro z
     have hm:=(Æ.mp e1).1
     have hz:as2[m]=as2[n]:=by rw [(Æ.mp e1).2]; exact z
     exact em ((List.getElem_inj nd1.2).mp hz)
  | _=>exact q1.elim
 ·exact q.elim)
def Lp (i r:Nat) (ti:DI):DS:=fun P ρ=>ti ρ fun k ds=>ds.length<=1000/\tX r ρ i=true/\P.nx (ρ.set i (.rw r (Ñ ds.length [])))
theorem jx {i n j:Nat} (r:Nat) (h:PS X st (uF (tLC n (Ko ti) (fun _=>Fj (gNm j)) (fun _=>liftT fun _ P=>P true) (fun _=>QJ QG)) (ju i))):PDS X st (Lp i r ti):=PS.wk' h (by
 rintro Q σ H ⟨p,H0,own,ρ,P,E,q,w⟩
 refine⟨p,H0,own,ρ,_,E,q,fun k ds J H1 Ok h A W o1=>?_⟩
 obtain⟨hlen,hf,nx⟩:=h
 have okS:∀ H',Kp p H1 H'->p.PI H'->Ok H':=fun H' K i=>W.stab H1 H' o1 (fun b o n e=>K b o e (mj A n.1)) (jr A K)
 refine⟨fun i m ys H'=>m=ds.length - i/\i<=ds.length/\Kp p H1 H'/\p.PI H'/\∃ as:List Addr,ys=as.map V.ref/\as.Nodup/\as.length=i/\∀ a∈as,H a=none/\H' a=some (.lst []),⟨_,rfl,Ě _,Kp.refl,A.pen,[],rfl,.nil,rfl,fun a ha=>nomatch ha⟩,?_⟩
 rintro c i' m ys H' ⟨rfl,hi,K',I',as,rfl,nd,la,hn⟩
 have oH:=okS H' K' I'
 have A':=A.go K' I'
 have h24:=ø
 by_cases hlt:i'<ds.length
 ·refine .inr ⟨W.go i' H' oH hlt,by rw [Ä]; omega,fun ys' H2=>Kp p H1 H2/\p.PI H2/\∃ as:List Addr,ys'=as.map V.ref/\as.Nodup/\as.length=i'+1/\∀ a∈as,H a=none/\H2 a=some (.lst []),fun ys' H2 h=>⟨_,by omega,rfl,hlt,h⟩,fun x H2 y=>?_⟩
  obtain⟨sm,rx⟩:=W.yld i' H' x H2 oH y
  have rx:=rx ds[i'] (Ó hlt)
  have I2:p.PI H2:=p.mono H' H2 I' fun b o _ e=>sm b o e
  have K2:Kp p H1 H2:=K'.trans (Kp.of sm)
  have A2:=A.go K2 I2
  have E2:EnvD p H0 own σ H2 ρ:=E.go A2.kp A2.pen
  refine⟨p,H0,own,_,_,_,fun _=>True,E2.comp n,fX (Qj A rx),trivial,fun σ3 ρ3 E3 t3=>?_⟩
  refine⟨p,H0,own,ρ3,fun b=>b=true,E3,rfl,fun b H4 h4 A4=>?_⟩
  subst h4
  refine aG ⟨(by show 0<=sizeLine; omega),fun l hl=>?_⟩
  have A5:At p H0 own H H4:=A2.base A4
  obtain⟨k7,i7,nw⟩:=A5.new hl (.lst [])
  refine⟨(K2.trans A4.kp).trans k7,i7,as++[l],by rw [ê]; rfl,?_,by rw [Ô,la]; rfl,fun a ha=>?_⟩
  ·refine List.nodup_append.mpr ⟨nd,by simp,fun a ha b hb=>?_⟩
   rw [Í.mp hb]
   intro z
   subst z
   have e:=A4.kp a _ (sm a _ (hn a ha).2) (A.nfb (hn a ha).1)
   rw [hl] at e
   cases e
  ·rcases ñ.mp ha with z | z
   ·refine⟨(hn a z).1,?_⟩
    have e:=A4.kp a _ (sm a _ (hn a z).2) (A.nfb (hn a z).1)
    exact k7 a _ e (A.nfb (hn a z).1)
   ·rw [Í.mp z]
    exact⟨nw,aq⟩
 ·have e:i'=ds.length:=by omega
  subst e
  refine .inl ⟨W.stop H' oH,fun l hl=>?_⟩
  obtain⟨k7,i7,nw⟩:=A'.new hl (.lst (as.map V.ref))
  have A7:=A'.go k7 i7
  show Q.nx (σ.set i (some (.ref l))) (upd H' l (.lst (as.map V.ref)))
  have E2:EnvD p H0 (aQ r own) σ H (ρ.set i .any):=(E.drop (i:=i)).clear hf
  have A8:At p H0 (aQ r own) H (upd H' l (.lst (as.map V.ref))):=⟨A7.k0,A7.kp,A7.penb,A7.pen,E2.ow⟩
  have E3:=E2.adopt r A8
  have lna:l∉as:=fun z=>by rw [(hn l z).2] at hl; cases hl
  have E4:=E3.set (i:=i) (v:=.ref l) (s:=.rw r (Ñ ds.length [])) fun hli=>⟨l,as,Ĉ hli,⟨aq,Ť.mpr ⟨lna,nd⟩,fun a ha=>?_,by rw [la,ŧ],fun m a es e1 e2=>?_⟩⟩
  ·rw [List.set_set] at E4
   exact w.nx _ _ _ _ E4 (gG.trans (pJ A8)) nx
  ·rcases Þ.mp ha with rfl | ha
   ·exact jR nw aq
   ·exact jR (hn a ha).1 (by rw [aj (fun z:a=l=>lna (by rw [← z]; exact ha))]; exact (hn a ha).2)
  ·have ha:=É e1
   have ees:es=[]:=by
    have:=É e2
    exact (List.mem_replicate.mp this).2
   subst ees
   exact⟨[],by rw [aj (fun z:a=l=>lna (by rw [← z]; exact ha))]; exact (hn a ha).2,.nil⟩)
theorem qU:PD X (.Dict [] [] pos) (fun _ P=>P .new (.dict [])):=PE.wk JG (by
 rintro σ H Q ⟨p,H0,own,ρ,P,E,t,q⟩
 have A:=E.at
 exact fun d hd=>let ⟨k2,i2,nw⟩:=A.new hd (.dK []); q _ _ _ _ t (A.go k2 i2) (.dct nw aq .nil))
end
@[reducible] def grL (K:Ü) (sc:Addr) (ns:List Int):Gr:=⟨fun p H0=>SqL K H0 sc (ns.map V.int)/\∀ b,p.fp b->H0 b=none⟩
def El (K:Ü):Sp:=fun vs H Q _=>∃ (a:Addr) (ns:List Int),vs=[.ref a]/\SqL K H a (ns.map V.int)/\∀ H',Q (.bl true) H'
section
variable {X:Cx}{k1 k2 j:Nat}{x y z:Str}{ps1 ps2:List Str}{e:Expr}{es1 es2:List Expr}{p1 p2 p3 pos pos1:Pos}{K:Ü}{sc:Addr}{ns:List Int}{C:Pn->Prop}{pre:List D->Prop}{g:List D->(D->Prop)->Prop}{i:Nat}
end
variable [Gr]
section
variable {X:Cx}{pos pos':Pos}{a b:Expr}{t:DA}
end
variable [Gr]
mutual
inductive Tm where
 | int (i:Int)
 | neg (i:Int)
 | bl (b:Bool)
 | non
 | str (s:Str)
 | var (i:Nat)
 | lst (ts:Tms)
 | tup (ts:Tms)
 | dct
inductive Tms where
 | nil
 | cons (t:Tm) (ts:Tms)
end
def Qx (sc:Scope) (x:Str):Bool:=sc.names.lookup x == some .local || sc.names.lookup x == some .cell || sc.names.lookup x == some .free
theorem Ms {sc:Scope}{x:Str} (h:Qx sc x=true):Vis sc x:=by
 unfold Qx at h
 rw [Bool.or_eq_true,Bool.or_eq_true,beq_iff_eq,beq_iff_eq,beq_iff_eq] at h
 rcases h with (h | h) | h
 ·exact .inl h
 ·exact .inr (.inl h)
 ·exact .inr (.inr h)
mutual
def okT (N:List Str) (sc:Scope):Tm->Expr->Bool
 | .int i,.Constant (.int j) _ _=>i == j
 | .neg i,.UnaryOp .USub (.Constant (.int j) _ _) _=>i == j
 | .bl b,.Constant (.bool c) _ _=>b == c
 | .non,.Constant .none _ _=>true
 | .str s,.Constant (.str u) _ _=>s == u
 | .var i,.Name x _=>N[i]? == some x&&(Qx sc x&&(!(x == ("__debug__":Str))&&!(x == ("__classdict__":Str))))
 | .lst ts,.List es _=>kZ N sc ts es
 | .tup ts,.Tuple es _ _=>kZ N sc ts es
 | .dct,.Dict [] [] _=>true
 | _,_=>false
def kZ (N:List Str) (sc:Scope):Tms->List Expr->Bool
 | .nil,[]=>true
 | .cons t ts,e::es=>okT N sc t e&&kZ N sc ts es
 | _,_=>false
end
mutual
def evT (ρ:List Sl):Tm->Option (Kd×D)
 | .int i=>some (.imm,.int i)
 | .neg i=>some (.imm,.int (-i))
 | .bl b=>some (.imm,.bool b)
 | .non=>some (.imm,.none)
 | .str s=>some (.imm,.str s)
 | .var i=>match ρ[i]? with
  | some (.im d)=>some (.imm,d)
  | some (.sh d)=>some (.shr,d)
  | some (.sn d)=>some (.snw,d)
  | some (.dw r d)=>some (.reg r,d)
  | _=>none
 | .lst ts=>match jw ρ ts with
  | some ks=>some ((joins ks).join .new,.list (ks.map (·.2)))
  | none=>none
 | .tup ts=>match jw ρ ts with
  | some ks=>some (norm (joins ks) (.tuple (ks.map (·.2))),.tuple (ks.map (·.2)))
  | none=>none
 | .dct=>some (.new,.dict [])
def jw (ρ:List Sl):Tms->Option (List (Kd×D))
 | .nil=>some []
 | .cons t ts=>match evT ρ t,jw ρ ts with
  | some k,some ks=>some (k::ks)
  | _,_=>none
end
mutual
def smT:Tm->Bool
 | .lst ts=>jT 1000 ts
 | .tup ts=>jT 1000 ts
 | _=>true
def jT:Nat->Tms->Bool
 | _,.nil=>true
 | n+1,.cons t ts=>smT t&&jT n ts
 | 0,.cons _ _=>false
end
def QK (tm:Tm):DE:=fun ρ P=>∃ k d,evT ρ tm=some (k,d)/\P k d
def Wj (ts:Tms):DA:=fun ρ P=>∃ ks,jw ρ ts=some ks/\P ks
section
variable {X:Cx}{e:Expr}{es:List Expr}
theorem PD.wk {t t':DE} (h:PD X e t) (w:∀ ρ P,t' ρ P->t ρ P):PD X e t':=PE.wk h (by
 rintro σ H Q ⟨p,H0,own,ρ,P,E,t,q⟩
 exact⟨p,H0,own,ρ,P,E,w _ _ t,q⟩)
theorem PDA.wk {t t':DA} (h:PDA X es t) (w:∀ ρ P,t' ρ P->t ρ P):PDA X es t':=PA.wk h (by
 rintro σ H Q ⟨p,H0,own,ρ,P,E,t,q⟩
 exact⟨p,H0,own,ρ,P,E,w _ _ t,q⟩)
theorem Dj {ρ:List Sl}:∀ {ts:Tms}{ks:List (Kd×D)}{n:Nat},jT n ts=true->jw ρ ts=some ks->ks.length<=n
 | .nil,ks,n,_,e=>by
  simp only [jw] at e
  cases e
  exact Ě _
 | .cons t ts,ks,0,h,e=>by simp [jT] at h
 | .cons t ts,ks,n+1,h,e=>by
  simp only [jT,Ú] at h
  simp only [jw] at e
  cases e1:evT ρ t with
  | none=>rw [e1] at e; cases e
  | some k =>
   cases e2:jw ρ ts with
   | none=>rw [e1,e2] at e; cases e
   | some ks' =>
    rw [e1,e2] at e
    cases e
    have:=Dj h.2 e2
    rw [ĉ]
    omega
theorem Ej {N:List Str}{sc:Scope}{t:Tm} (h:okT N sc t e=true):zS X e es:=by
 cases e <;> first
  | rfl
  | (cases t <;> simp [okT] at h)
section
variable {N:List Str}{sc:Scope}
theorem Ou {i:Int} (h:okT N sc (Tm.int i) e=true):∃ k p,e=.Constant (.int i) k p:=by
 generalize ht:(Tm.int i)=t at h
 unfold okT at h
 split at h <;> first
  | exact absurd h Î
  | (cases ht; rw [beq_iff_eq] at h; subst h; exact⟨_,_,rfl⟩)
  | cases ht
theorem Sw {i:Bool} (h:okT N sc (Tm.bl i) e=true):∃ k p,e=.Constant (.bool i) k p:=by
 generalize ht:(Tm.bl i)=t at h
 unfold okT at h
 split at h <;> first
  | exact absurd h Î
  | (cases ht; rw [beq_iff_eq] at h; subst h; exact⟨_,_,rfl⟩)
  | cases ht
theorem Oq (h:okT N sc Tm.non e=true):∃ k p,e=.Constant .none k p:=by
 generalize ht:Tm.non=t at h
 unfold okT at h
 split at h <;> first
  | exact absurd h Î
  | (cases ht; exact⟨_,_,rfl⟩)
  | cases ht
theorem Oo {i:Str} (h:okT N sc (Tm.str i) e=true):∃ k p,e=.Constant (.str i) k p:=by
 generalize ht:(Tm.str i)=t at h
 unfold okT at h
 split at h <;> first
  | exact absurd h Î
  | (cases ht; rw [beq_iff_eq] at h; subst h; exact⟨_,_,rfl⟩)
  | cases ht
theorem inv_neg {i:Int} (h:okT N sc (Tm.neg i) e=true):∃ k p q,e=.UnaryOp .USub (.Constant (.int i) k p) q:=by
 generalize ht:(Tm.neg i)=t at h
 unfold okT at h
 split at h <;> first
  | exact absurd h Î
  | (cases ht; rw [beq_iff_eq] at h; subst h; exact⟨_,_,_,rfl⟩)
  | cases ht
theorem Ol {i:Nat} (h:okT N sc (Tm.var i) e=true):∃ x p,e=.Name x p/\N[i]?=some x/\Vis sc x/\zB x/\(x == ("__classdict__":Str))=false:=by
 generalize ht:(Tm.var i)=t at h
 unfold okT at h
 split at h <;> first
  | exact absurd h Î
  | (cases ht; rw [Ú,Ú,Ú,beq_iff_eq,ņ,ņ] at h; exact⟨_,_,rfl,h.1,Ms h.2.1,h.2.2.1,h.2.2.2⟩)
  | cases ht
theorem Ot {ts:Tms} (h:okT N sc (Tm.lst ts) e=true):∃ es p,e=.List es p/\kZ N sc ts es=true:=by
 generalize ht:(Tm.lst ts)=t at h
 unfold okT at h
 split at h <;> first
  | exact absurd h Î
  | (cases ht; exact⟨_,_,rfl,h⟩)
  | cases ht
theorem Om {ts:Tms} (h:okT N sc (Tm.tup ts) e=true):∃ es k p,e=.Tuple es k p/\kZ N sc ts es=true:=by
 generalize ht:(Tm.tup ts)=t at h
 unfold okT at h
 split at h <;> first
  | exact absurd h Î
  | (cases ht; exact⟨_,_,_,rfl,h⟩)
  | cases ht
theorem Ov (h:okT N sc Tm.dct e=true):∃ p,e=.Dict [] [] p:=by
 generalize ht:Tm.dct=t at h
 unfold okT at h
 split at h <;> first
  | exact absurd h Î
  | (cases ht; exact⟨_,rfl⟩)
  | cases ht
end
mutual
theorem CK {N:List Str}{sc:Scope} (hN:X.N=N) (hs:X.env.scope=sc):∀ (t:Tm) (e:Expr),okT N sc t e=true->smT t=true->PD X e (QK t)
 | .int i,e,h,_=>by
  obtain⟨k,p,rfl⟩:=Ou h
  exact PD.wk oA fun ρ P ⟨k,d,e,q⟩=>by simp only [evT] at e; cases e; exact q
 | .neg i,e,h,_=>by
  obtain⟨k,p,q,rfl⟩:=inv_neg h
  exact PD.wk (jg oA) fun ρ P ⟨k,d,e,q⟩=>by simp only [evT] at e; cases e; exact q
 | .bl b,e,h,_=>by
  obtain⟨k,p,rfl⟩:=Sw h
  exact PD.wk Ez fun ρ P ⟨k,d,e,q⟩=>by simp only [evT] at e; cases e; exact q
 | .non,e,h,_=>by
  obtain⟨k,p,rfl⟩:=Oq h
  exact PD.wk wU fun ρ P ⟨k,d,e,q⟩=>by simp only [evT] at e; cases e; exact q
 | .str s,e,h,_=>by
  obtain⟨k,p,rfl⟩:=Oo h
  exact PD.wk wO fun ρ P ⟨k,d,e,q⟩=>by simp only [evT] at e; cases e; exact q
 | .var i,e,h,_=>by
  obtain⟨x,p,rfl,h1,h2,h3,h4⟩:=Ol h
  refine PD.wk (dv i (by rw [hN]; exact h1) (by rw [hs]; exact h2) h3 h4) fun ρ P ⟨k,d,e,q⟩=>?_
  simp only [evT] at e
  unfold tV
  split at e <;> first
   | (cases e; rename_i z; rw [z]; exact q)
   | cases e
 | .lst ts,e,h,s=>by
  obtain⟨es,p,rfl,h1⟩:=Ot h
  have s1:jT 1000 ts=true:=by simpa only [smT] using s
  refine PD.wk (qQ (xJ hN hs ts es 1000 h1 s1)) fun ρ P ⟨k,d,e,q⟩=>?_
  simp only [evT] at e
  cases e1:jw ρ ts with
  | none=>rw [e1] at e; cases e
  | some ks =>
   rw [e1] at e
   cases e
   exact⟨ks,e1,Dj s1 e1,q⟩
 | .tup ts,e,h,s=>by
  obtain⟨es,k,p,rfl,h1⟩:=Om h
  have s1:jT 1000 ts=true:=by simpa only [smT] using s
  refine PD.wk (lU (xJ hN hs ts es 1000 h1 s1)) fun ρ P ⟨k,d,e,q⟩=>?_
  simp only [evT] at e
  cases e1:jw ρ ts with
  | none=>rw [e1] at e; cases e
  | some ks =>
   rw [e1] at e
   cases e
   exact⟨ks,e1,Dj s1 e1,q⟩
 | .dct,e,h,_=>by
  obtain⟨p,rfl⟩:=Ov h
  exact PD.wk qU fun ρ P ⟨k,d,e,q⟩=>by simp only [evT] at e; cases e; exact q
theorem xJ {N:List Str}{sc:Scope} (hN:X.N=N) (hs:X.env.scope=sc):∀ (ts:Tms) (es:List Expr) (n:Nat),kZ N sc ts es=true->jT n ts=true->PDA X es (Wj ts)
 | .nil,es,n,h,_=>by
  cases es with
  | nil=>exact PDA.wk lR fun ρ P ⟨ks,e,q⟩=>by simp only [jw] at e; cases e; exact q
  | cons e es=>simp [kZ] at h
 | .cons t ts,es,n,h,s=>by
  cases es with
  | nil=>simp [kZ] at h
  | cons e es =>
   simp only [kZ,Ú] at h
   cases n with
   | zero=>simp [jT] at s
   | succ n =>
    simp only [jT,Ú] at s
    refine PDA.wk (fZ (CK hN hs t e h.1 s.1) (xJ hN hs ts es n h.2 s.2) (Ej h.1)) fun ρ P ⟨ks,e,q⟩=>?_
    simp only [jw] at e
    cases e1:evT ρ t with
    | none=>rw [e1] at e; cases e
    | some k =>
     cases e2:jw ρ ts with
     | none=>rw [e1,e2] at e; cases e
     | some ks' =>
      rw [e1,e2] at e
      cases e
      exact⟨k.1,k.2,e1,ks',e2,q⟩
end
def Tw (ts:Tms) (t:DA):DA:=fun ρ P=>∃ ks,jw ρ ts=some ks/\t ρ fun ks'=>P (ks++ks')
theorem Je {N:List Str}{sc:Scope} (hN:X.N=N) (hs:X.env.scope=sc) {t2:DA}{es2:List Expr} (h2:PDA X es2 t2):∀ (ts:Tms) (es1:List Expr) (n:Nat),kZ N sc ts es1=true->jT n ts=true->PDA X (es1++es2) (Tw ts t2)
 | .nil,es,n,h,_=>by
  cases es with
  | nil=>exact PDA.wk h2 fun ρ P ⟨ks,e,q⟩=>by simp only [jw] at e; cases e; exact q
  | cons e es=>simp [kZ] at h
 | .cons t ts,es,n,h,s=>by
  cases es with
  | nil=>simp [kZ] at h
  | cons e es =>
   simp only [kZ,Ú] at h
   cases n with
   | zero=>simp [jT] at s
   | succ n =>
    simp only [jT,Ú] at s
    refine PDA.wk (fZ (CK hN hs t e h.1 s.1) (Je hN hs h2 ts es n h.2 s.2) (Ej h.1)) fun ρ P ⟨ks,e,q⟩=>?_
    simp only [jw] at e
    cases e1:evT ρ t with
    | none=>rw [e1] at e; cases e
    | some k =>
     cases e2:jw ρ ts with
     | none=>rw [e1,e2] at e; cases e
     | some ks' =>
      rw [e1,e2] at e
      cases e
      exact⟨k.1,k.2,e1,ks',e2,q⟩
theorem wY (N:List Str) (sc:Scope) (tm:Tm) (h:okT N sc tm e=true) (hN:X.N=N:=by rfl) (hs:X.env.scope=sc:=by rfl) (s:smT tm=true:=by decide +kernel):PD X e (QK tm):=CK hN hs tm e h s
theorem wN (n:Nat) (N:List Str) (sc:Scope) (ts:Tms) {t2:DA} (h2:PDA X (es.drop n) t2) (h:kZ N sc ts (es.take n)=true) (hN:X.N=N:=by rfl) (hs:X.env.scope=sc:=by rfl) (s:jT 1000 ts=true:=by decide +kernel):PDA X es (Tw ts t2):=by
 have r:=Je hN hs h2 ts (es.take n) 1000 h s
 rw [Ŧ] at r
 exact r
end
end Dl
namespace L2
open PySem PySem.Spec PyProof.Rows HT
section
variable {X:Cx}{e:Expr}{te:TE}{p1 p2 p3 pos:Pos}
end
end L2
namespace Dl
open PySem L2 PyProof.Rows
variable [Gr]
section
variable {X:Cx}{pos p1 p2 p3:Pos}{a b e:Expr}{es:List Expr}{ta tb te:DE}{t:DA}
theorem Rps.rev {ok:Addr->Prop}{H:Hp}:∀ {vs:List V}{ds:List D},Rps ok H vs ds->Rps ok H vs.reverse ds.reverse
 | _,_,.nil=>.nil
 | _,_,.cons h t=>by
  rw [Ŭ,Ŭ]
  exact (Rps.rev t).snoc h
def T6 (te:DE) (tl th:DO):DE:=fun ρ P=>te ρ fun k d=>tl ρ fun lo=>th ρ fun hi=>match d with
 | .list ds=>newP k (Aw ds lo hi) fun k'=>P k' (.list (Aw ds lo hi))
 | .tuple ds=>¬ (HT.sIx ds.length 0 lo=0/\HT.sIx ds.length ds.length hi=ds.length)/\P (norm k (.tuple (Aw ds lo hi))) (.tuple (Aw ds lo hi))
 | _=>False
theorem u5 {lo hi:Option Expr}{tl th:DO} (he:PD X e te) (hl:PO X lo (zU tl)) (hh:PO X hi (zU th)):PD X (.Subscript e (.Slice lo hi none p2) pos) (T6 te tl th):=PE.wk (JB (SlR.or Mz QT) he hl hh) (by
 rintro σ H Q ⟨p,H0,own,ρ,P,E,t,q⟩
 refine⟨p,H0,own,ρ,_,E,t,fun k d v H1 h A r=>?_⟩
 refine⟨p,H0,own,ρ,_,E.go A.kp A.pen,h,fun o1 H2 h2 A2=>?_⟩
 refine⟨p,H0,own,ρ,_,(E.go A.kp A.pen).go A2.kp A2.pen,h2,fun o2 H3 h3 A3=>?_⟩
 have A4:=(A.base A2).base A3
 have r3:=pU (A.base A2) A3.kp (pU A A2.kp r)
 cases d with
 | list ds =>
  obtain⟨x,xs,e1,o,h1,rs⟩:=Rp.bL r3
  subst e1
  refine .inl ⟨x,xs,rfl,SqL.of h1,fun l hl=>?_⟩
  obtain⟨k2,i2,nw⟩:=A4.new hl (.lst (uJ xs o1 o2))
  obtain⟨k',hk',rk'⟩:=mD A4 (cM A4 k2 (rs.cut o1 o2)) nw aq h3
  exact q _ _ _ _ hk' (A4.go k2 i2) rk'
 | tuple ds =>
  obtain⟨x,xs,e1,h1,rs⟩:=Rp.eZ r3
  subst e1
  refine .inr ⟨x,xs,rfl,SqT.of h1,by rw [rs.length]; exact h3.1,fun l hl=>?_⟩
  obtain⟨k2,i2,nw⟩:=A4.new hl (.tup (uJ xs o1 o2))
  exact q _ _ _ _ h3.2 (A4.go k2 i2) (aZ (.tup aq (cM A4 k2 (rs.cut o1 o2))))
 | _=>exact h3.elim)
end
variable [Gr]
abbrev IM:=List (Int×D)
def kvD (m:IM):List (D×D):=m.map fun p=>(È p.1,p.2)
def dU (m:IM) (k:Int):Bool:=m.any fun p=>decide (p.1=k)
def mZ (m:IM) (k:Int):Option D:=(m.find? fun p=>decide (p.1=k)).map (·.2)
def iI (m:IM) (k:Int) (d:D):IM:=if dU m k=true then m.map (fun p=>if p.1=k then (p.1,d) else p) else m++[(k,d)]
def tU (m:IM):Bool:=m.all fun p=>bx p.2
theorem Kw {k:Key}{i:Int} (h:kD k=.int i):k=.inl i:=by
 cases k with
 | inl j=>cases h; rfl
 | inr x=>cases h
theorem Rkv.kv:∀ {ok:Addr->Prop}{H:Hp}{kvs:List (Key×V)}{m:IM},Rkv ok H kvs (kvD m)->∃ vs:List V,kvs=(m.map (·.1)).zipWith (fun i v=>(ó i,v)) vs/\Rps ok H vs (m.map (·.2))
 | _,_,_,[],h=>by cases h; exact⟨[],rfl,.nil⟩
 | _,_,_,p::m,h=>by
  unfold kvD at h
  rw [ý] at h
  generalize hk:È p.1=kk at h
  cases h with
  | cons h t =>
   rename_i k v vs0
   obtain⟨vs,rfl,r⟩:=Rkv.kv (m:=m) t
   have e:=Kw hk.symm
   subst e
   exact⟨v::vs,rfl,.cons h r⟩
theorem xK:∀ {m:IM}{vs:List V} (k:Int),vs.length=m.length->(((m.map (·.1)).zipWith (fun i v=>((ó i:Key),v)) vs).any fun kv=>decide (kv.1=ó k))=dU m k
 | [],[],_,_=>rfl
 | p::m,v::vs,k,h=>by
  have ih:=xK (m:=m) (vs:=vs) k (by simpa using h)
  have e:decide ((ó p.1:Key)=ó k)=decide (p.1=k):=by
   by_cases c:p.1=k <;> simp [c]
  show (decide ((ó p.1:Key)=ó k) || _)=(decide (p.1=k) || _)
  rw [e]
  exact congrArg _ ih
 | [],_::_,_,h=>by cases h
 | _::_,[],_,h=>by cases h
theorem Im {kvs:List (Key×V)}{k:Key}:(iK kvs k).isSome=kvs.any fun kv=>decide (kv.1=k):=by
 induction kvs with
 | nil=>rfl
 | cons p r ih =>
  unfold iK at ih ⊢
  rw [Ň,List.any_cons]
  cases h:decide (p.1=k) with
  | true=>rfl
  | false=>exact ih
theorem Ft:∀ {ok:Addr->Prop}{H:Hp}{m:IM}{vs:List V}{k:Int}{d:D},Rps ok H vs (m.map (·.2))->mZ m k=some d->∃ v,iK ((m.map (·.1)).zipWith (fun i v=>((ó i:Key),v)) vs) (ó k)=some v/\Rp ok H v d
 | _,_,[],_,_,_,_,h=>by cases h
 | _,_,p::m,_,k,d,.cons r t,h=>by
  unfold mZ at h
  rw [Ň] at h
  by_cases c:p.1=k
  ·rw [decide_eq_true c] at h
   cases h
   refine⟨_,?_,r⟩
   show iK ((ó p.1,_)::_) (ó k)=_
   rw [lD (by rw [c])]
  ·rw [decide_eq_false c] at h
   obtain⟨v,e,rv⟩:=Ft (m:=m) (k:=k) (d:=d) t h
   refine⟨v,?_,rv⟩
   show iK ((ó p.1,_)::_) (ó k)=_
   unfold iK at e ⊢
   rw [Ň,decide_eq_false (fun z=>c (Sum.inl.inj z))]
   exact e
theorem Oh:∀ {m:IM}{vs:List V}{k:Int}{v:V}{ok:Addr->Prop}{H:Hp}{d:D},Rps ok H vs (m.map (·.2))->Rp ok H v d->Rkv ok H (putK ((m.map (·.1)).zipWith (fun i v=>((ó i:Key),v)) vs) (ó k) v) (kvD (iI m k d)):=by
 intro m vs k v ok H d rs rv
 have hl:vs.length=m.length:=by rw [rs.length,Ä]
 have all:∀ {m:IM}{vs:List V},Rps ok H vs (m.map (·.2))->Rkv ok H ((m.map (·.1)).zipWith (fun i v=>((ó i:Key),v)) vs) (kvD m):=by
  intro m
  induction m with
  | nil=>intro vs r; cases r; exact .nil
  | cons p m ih =>
   intro vs r
   cases r with
   | cons h t=>exact .cons (k:=ó p.1) h (ih t)
 unfold putK iI
 rw [xK k hl]
 by_cases c:dU m k=true
 ·rw [if_pos c,if_pos c]
  clear c hl
  induction m generalizing vs with
  | nil=>cases rs; exact .nil
  | cons p m ih =>
   cases rs with
   | cons h t =>
    have:=ih t
    by_cases cp:p.1=k
    ·have e1:(ó p.1:Key)=ó k:=by rw [cp]
     show Rkv ok H ((if (ó p.1:Key)=ó k then ((ó p.1:Key),v) else (ó p.1,_))::_) (kvD ((if p.1=k then (p.1,d) else p)::_))
     rw [if_pos e1,if_pos cp]
     exact .cons (k:=ó p.1) rv this
    ·have e1:¬ ((ó p.1:Key)=ó k):=fun z=>cp (Sum.inl.inj z)
     show Rkv ok H ((if (ó p.1:Key)=ó k then ((ó p.1:Key),v) else (ó p.1,_))::_) (kvD ((if p.1=k then (p.1,d) else p)::_))
     rw [if_neg e1,if_neg cp]
     exact .cons (k:=ó p.1) h this
 ·rw [if_neg c,if_neg c]
  have app:∀ {a b:List (Key×V)}{x y:List (D×D)},Rkv ok H a x->Rkv ok H b y->Rkv ok H (a++b) (x++y):=by
   intro a b x y h1 h2
   induction a generalizing x with
   | nil=>cases h1; exact h2
   | cons p a ih=>cases h1 with | cons h t=>exact .cons h (ih t)
  unfold kvD
  rw [ê]
  exact app (all rs) (.cons (k:=ó k) rv .nil)
section
variable {X:Cx}{pos pos' p2:Pos}{a b e:Expr}{ta tb te tj tm:DE}{st st2:Stmt}{rest:List Stmt}{ti:DI}{g:DG}{t:DS}
def tD1 (ta tb:DE):DE:=fun ρ P=>ta ρ fun _ d1=>tb ρ fun k2 d2=>match d1 with
 | .int i=>(norm k2 d2).le .new=true/\P .new (.dict (kvD [(i,d2)]))
 | _=>False
theorem sJ (ha:PD X a ta) (hb:PD X b tb):PD X (.Dict [some a] [b] pos) (tD1 ta tb):=PE.wk (Nk (Jt ha hb M9) rfl rfl (by intro z; cases z) (by show 1<=15; decide)) (by
 rintro σ H Q ⟨p,H0,own,ρ,P,E,t,q⟩
 intro c hc
 have A0:=E.at
 obtain⟨k0,i0,nw⟩:=A0.new hc (.dK [])
 have nf:=A0.nfb hc
 refine⟨p,H0,own,ρ,_,E.go k0 i0,t,fun k1 d1 v1 H1 t1 A1 r1=>?_⟩
 refine⟨p,H0,own,ρ,_,(E.go k0 i0).go A1.kp A1.pen,t1,fun k2 d2 v2 H2 t2 A2 r2=>?_⟩
 have h1:H1 c=some (.dK []):=A1.kp c _ aq nf
 have h2:H2 c=some (.dK []):=A2.kp c _ h1 nf
 refine⟨h2,?_⟩
 cases d1 with
 | int i =>
  have e1:=Rp.int' r1
  subst e1
  refine⟨[(ó i,v2)],rfl,(by show 1<=15; decide),?_⟩
  show Q (.ref c) (upd H2 c (.dK [(ó i,v2)]))
  have K:Kp p H (upd H2 c (.dK [(ó i,v2)])):=fun x o ex nx=>by
   rw [aj (ao ex hc)]
   exact A2.kp x o (A1.kp x o (by rw [aj (ao ex hc)]; exact ex) nx) nx
  have PIf:p.PI (upd H2 c (.dK [(ó i,v2)])):=p.mono H2 _ A2.pen fun x o fx ex=>by
   rw [aj (fun z:x=c=>nf (by rw [← z]; exact fx))]; exact ex
  refine q _ _ _ _ t2.2 ⟨A0.k0,K,A0.penb,PIf,A0.ow⟩ (.dct nw aq (.cons (k:=ó i) ?_ .nil))
  have rn:Rp (okK p H0 own H1 .new) H2 v2 d2:=jc A2 t2.1 (aZ r2)
  refine rn.bY (fun x o n ex=>⟨?_,?_⟩) fun x xs ex=>?_
  ·have n:H1 x=none:=n
   cases hx:H x with
   | none=>exact hx
   | some u =>
    have:=A1.kp x u (by rw [aj (ao hx hc)]; exact hx) (A2.nfb n)
    rw [n] at this
    cases this
  ·have n:H1 x=none:=n
   rw [aj (fun z=>by rw [z,h1] at n; cases n)]
   exact ex
  ·rw [aj (fun z=>by rw [z,h2] at ex; cases ex)]
   exact ex
 | _=>exact t2.elim)
def OD (neg:Bool):G2:=fun _ d1 _ d2 P=>match d1,d2 with
 | .int k,.dict ds=>∃ m:IM,ds=kvD m/\P .imm (.bool (if neg then !(dU m k) else dU m k))
 | _,_=>False
theorem Rp.Pb {ok:Addr->Prop}{H:Hp}{v:V}{ds:List (D×D)} (r:Rp ok H v (.dict ds)):∃ a kvs,v=.ref a/\ok a/\H a=some (.dK kvs)/\Rkv ok H kvs ds:=by
 cases r with
 | dct o h r=>exact⟨_,_,rfl,o,h,r⟩
theorem zT:∀ σ H Q,bR (t2 (OD true) ta tb) σ H Q->Ef (bR ta) (bR tb) σ H Q:=by
 rintro σ H Q ⟨p,H0,own,ρ,P,E,t,q⟩
 refine⟨p,H0,own,ρ,_,E,t,fun k1 d1 v1 H1 t1 A1 r1=>?_⟩
 refine⟨p,H0,own,ρ,_,E.go A1.kp A1.pen,t1,fun k2 d2 v2 H2 t2 A2 r2=>?_⟩
 have A:=A1.base A2
 unfold OD at t2
 split at t2
 ·rename_i k ds
  obtain⟨m,rfl,t2⟩:=t2
  have e1:=Rp.int' r1
  subst e1
  obtain⟨c,kvs,rfl,o,hc,rk⟩:=Rp.Pb r2
  obtain⟨vs,rfl,rs⟩:=rk.kv
  refine⟨c,_,rfl,yC.k (k:=ó k) hc,?_⟩
  rw [Im,xK k (by rw [rs.length,Ä])]
  exact q _ _ _ _ t2 A (.bl _)
 ·exact t2.elim
theorem hu1 (hu:X.A.units+64<cLine):X.A.units+1<cLine:=by omega
theorem eG (hu:X.A.units+64<cLine) (ha:PD X a ta) (hb:PD X b tb) (hm:behindInMarks .NotIn b=false:=by rfl):PDT X (.Compare a [.NotIn] [b] pos) (cJ (t2 (OD true) ta tb)):=PT.wk (Rb (GJ (hu1 hu) ha hb) hm) fun σ H Q q=>zT σ H _ (by
 obtain⟨p,H0,own,ρ,P,E,t,q⟩:=q
 refine⟨p,H0,own,ρ,_,E,t,fun k d v H' h A r=>?_⟩
 cases d with
 | bool b=>exact⟨b,Rp.bl' r,q b H' h A⟩
 | _=>exact h.elim)
def KR:G2:=fun k1 d1 _ d2 P=>match d1,d2 with
 | .dict ds,.int k=>∃ (m:IM) (d:D),ds=kvD m/\mZ m k=some d/\P (norm k1 d) d
 | _,_=>False
theorem qW (hu:X.A.units+64<cLine) (ha:PD X a ta) (hb:PD X b tb) (hs:Py b:=by exact fun _ _=>rfl):PD X (.Subscript a b pos) (t2 KR ta tb):=PE.wk (Nm (hu1 hu) ha hb hs) (by
 rintro σ H Q ⟨p,H0,own,ρ,P,E,t,q⟩
 refine⟨p,H0,own,ρ,_,E,t,fun k1 d1 v1 H1 t1 A1 r1=>?_⟩
 refine⟨p,H0,own,ρ,_,E.go A1.kp A1.pen,t1,fun k2 d2 v2 H2 t2 A2 r2=>?_⟩
 have A:=A1.base A2
 unfold KR at t2
 split at t2
 ·rename_i ds k
  obtain⟨m,d,rfl,hg,t2⟩:=t2
  have e2:=Rp.int' r2
  subst e2
  obtain⟨c,kvs,rfl,o,hc,rk⟩:=Rp.Pb (pU A1 A2.kp r1)
  obtain⟨vs,rfl,rs⟩:=rk.kv
  obtain⟨v,ev,rv⟩:=Ft rs hg
  refine⟨c,v,rfl,?_,q _ _ _ _ t2 A (aZ rv)⟩
  rw [← ev]
  exact yC.k (k:=ó k) hc
 ·exact t2.elim)
def Lr (i:Nat) (tk tv:DE):DS:=fun P ρ=>match ρ[i]? with
 | some (.dw r (.dict ds))=>tv ρ fun _ dv=>tk ρ fun _ dk=>match dk with
  | .int k=>∃ m:IM,ds=kvD m/\bx dv=true/\tU m=true/\m.length<1000/\P.nx ((forget r ρ).set i (.dw r (.dict (kvD (iI m k dv)))))
  | _=>False
 | _=>False
theorem Aa {ok:Addr->Prop}{H:Hp}:∀ {m:IM}{vs:List V},tU m=true->Rps ok H vs (m.map (·.2))->Rps (fun _=>False) H vs (m.map (·.2))
 | [],_,_,.nil=>.nil
 | p::m,_,h,.cons r t=>by
  unfold tU at h
  rw [List.all_cons,Ú] at h
  exact .cons (r.imm h.1) (Aa (m:=m) h.2 t)
theorem q9 {i:Nat}{tk tv:DE} (h:PS X st (PX (qj i) (bR tk) (bR tv))):PDS X st (Lr i tk tv):=PS.wk' h (by
 rintro Q σ H ⟨p,H0,own,ρ,P,E,t,w⟩
 unfold Lr at t
 split at t
 ·rename_i r ds hr
  obtain⟨v,hv,_⟩:=E.slot i _ hr
  refine⟨p,H0,own,ρ,_,E,t,fun kv dv vv H1 t1 A1 r1=>?_⟩
  have E1:=E.go A1.kp A1.pen
  refine⟨v,hv,p,H0,own,ρ,_,E1,t1,fun kk dk vk H2 t2 A2 r2=>?_⟩
  have E2:=E1.go A2.kp A2.pen
  cases dk with
  | int k =>
   obtain⟨m,rfl,im,imm,hlen,nx⟩:=t2
   obtain⟨v',hv',x⟩:=E2.slot i _ hr
   rw [hv] at hv'
   cases hv'
   obtain⟨l,kvs,rfl,o,hl,rk⟩:=Rp.Pb x
   obtain⟨vs,rfl,rs⟩:=rk.kv
   have ek:=Rp.int' r2
   subst ek
   have h24:=ø
   have rs0:=Aa imm rs
   have rv0:Rp (fun _=>False) H2 vv dv:=(pU A1 A2.kp r1).imm im
   have ln:((m.map (·.1)).zipWith (fun i v=>((ó i:Key),v)) vs).length=m.length:=by
    rw [List.length_zipWith,Ä,rs.length,Ä,Nat.min_self]
   refine⟨l,_,rfl,Mi.k (k:=ó k) hl (by rw [ln]; omega),?_⟩
   have rp:=Oh (k:=k) rs0 rv0
   generalize putK ((m.map (·.1)).zipWith (fun i v=>((ó i:Key),v)) vs) (ó k) vv=kvs' at rp
   have tp:∀ a xs,H2 a=some (.tup xs)->upd H2 l (.dK kvs') a=some (.tup xs):=fun a xs e=>by
    rw [aj (fun z=>by rw [z,hl] at e; cases e)]; exact e
   have E3:=(E2.write (o':=.dK kvs') o hl fun xs z=>nomatch z).put (v:=.ref l) (i:=i) (s:=.dw r (.dict (kvD (iI m k dv)))) ⟨_,hv,.dct o aq (rp.mono (fun _ o=>o.elim) (fun _ _ o=>o.elim) tp)⟩
   exact w.nx _ σ _ _ E3 ((A1.frs.trans A2.frs).trans (jF o hl fun xs z=>nomatch z)) nx
  | _=>exact t2.elim
 ·exact t.elim)
def T4 (te:DE):DT:=fun ρ P=>te ρ fun _ d=>match d with
 | .list ds=>P (!ds.isEmpty)
 | .tuple ds=>P (!ds.isEmpty)
 | .bool b=>P b
 | _=>False
theorem Lf {ok:Addr->Prop}{H:Hp}{vs:List V}{ds:List D} (r:Rps ok H vs ds):(!vs.isEmpty)=!ds.isEmpty:=by
 cases r <;> rfl
theorem qP (h:PD X e te) (he:∀ whole,isTrue e X.env whole=(do let v ← whole; standAt e.pos; holding [v] (truthy v)):=by intro _; rfl):PDT X e (T4 te):=PT.wk (Jq h he) (by
 rintro σ H Q ⟨p,H0,own,ρ,P,E,t,q⟩
 refine⟨p,H0,own,ρ,_,E,t,fun k d v H' h A r=>?_⟩
 cases d with
 | list ds =>
  obtain⟨c,vs,rfl,o,hc,rs⟩:=Rp.bL r
  exact⟨_,.inl ⟨vs,SqL.of hc,rfl⟩,by rw [Lf rs]; exact q _ _ h A⟩
 | tuple ds =>
  obtain⟨c,vs,rfl,hc,rs⟩:=Rp.eZ r
  exact⟨_,.inr (.inl ⟨vs,SqT.of hc,rfl⟩),by rw [Lf rs]; exact q _ _ h A⟩
 | bool b =>
  have e:=Rp.bl' r
  subst e
  exact⟨b,rfl,q _ _ h A⟩
 | _=>exact h.elim)
end
variable [Gr]
section
variable {X:Cx}{te te1 te2 tj tm:DE}{st st2:Stmt}{rest:List Stmt}{t:DS}
end
variable [Gr]
section
variable {X:Cx}{te tj:DE}{st:Stmt}{t:DS}
end
end Dl
namespace L2
open PySem PySem.Spec PyProof.Rows
def Pz (K:Ü) (a:Addr):It :=
 ⟨fun i H=>∃ xs x,SqL K H a xs/\xs[i]?=some x,fun i H x H'=>∃ t v,x=.ref t/\H t=none/\H'=upd H t (.tup [.int i,v])/\∀ xs,SqL K H a xs->xs[i]?=some v,fun i H=>∃ xs,SqL K H a xs/\xs.length<=i⟩
theorem Bp {P:Program}{w:World}{K:Ü}{elts:List Expr}{kk:Nat}{pos:Pos} (a e it:Addr) (hei:e≠it) :
  Turn P w K (.Tuple elts kk pos) (Pz K a) [e,it] e (fun i h=>(∃ old,IsEnum h e it i old)/\h.IsListIter it a i) where
 mem:=by simp
 obj:=fun i h st b hb=>by
  obtain⟨⟨old,he⟩,o,ho,hc,hd⟩:=st
  rcases Þ.mp hb with rfl | hb
  ·exact⟨_,he,fun v z=>nomatch z⟩
  ·have e1:b=it:=by simpa using hb
   subst e1
   exact⟨o,ho,fun v z=>by rw [hd] at z; cases z⟩
 keep:=fun i h h' st k=>by
  obtain⟨⟨old,he⟩,o,ho,r⟩:=st
  exact⟨⟨old,k e (by simp) _ he⟩,o,k it (by simp) _ ho,r⟩
 item:=by
  intro X hP hw hK hc i pins s σ H E I hf st hg
  subst hP hw hK
  obtain⟨xs,x,hq,hx⟩:=hg
  obtain⟨its,rv,p,hz⟩:=I.list hq
  obtain⟨u,hu,ru⟩:=rv.get hx
  obtain⟨⟨old,he⟩,hit⟩:=st
  have hai:a≠it:=fun z=>by
   obtain⟨o,_,ho,hc1,_⟩:=p
   obtain⟨o',ho',hc2,_⟩:=hit
   rw [z,ho'] at ho
   cases ho
   rw [hc2] at hc1
   injection hc1 with z2
   exact absurd z2 (by decide)
  have hae:e≠a:=fun z=>by
   obtain⟨o,_,ho,hc1,_⟩:=p
   have he':s.heap.get? e=some _:=he
   rw [z,ho] at he'
   cases he'
   have z1:û "enumerate"=û "list":=hc1
   injection z1 with z2
   exact absurd z2 (by decide)
  have hlt:i<its.toArray.size:=by have:=(Æ.mp hu).1; simpa using this
  obtain⟨e0,e1,e2,e3,e4,e5⟩:=hf e (by simp)
  obtain⟨f0,f1,f2,f3,f4,f5⟩:=hf it (by simp)
  have D:=Draws.list (prog:=X.prog) (w:=X.w) (A:=X.A.in1) (I.ok.hd hc) it a hai its.toArray
  refine wpAny_pyNext_enum_itemD D he ⟨hit,p.isList⟩ hlt hei (by simp [hei,hae]) fun x' h' tk hP ho hs' hT hsz hk=>⟨_,rfl,?_⟩
  have ex:x'=u:=by
   have hP':its[i]?=some x':=by simpa using hP
   rw [hu] at hP'
   exact (Õ hP').symm
  subst ex
  refine wpAny_letOwnedTupleGo_enum ho fun h2 he2 hs2=>?_
  have hTn:H s.heap.objs.size=none:=I.hok.fresh (Ö _)
  have keep2:∀ b o,b≠e->b≠it->s.heap.get? b=some o->h2.get? b=some o:=fun b o hb1 hb2 q=>(hs2.2 b hb1).trans (hk b o hb1 hb2 q)
  have hTe:s.heap.objs.size≠e:=Ī (Ê he)
  have hTup:h2.get? s.heap.objs.size=some { cls:=.type "tuple",data:=.seq #[.int i tk,x'] }:=(hs2.2 _ hTe).trans hT
  have J:Inv X pins σ (upd H s.heap.objs.size (.tup [.int i,x])) { s with heap:=h2,toks:=tk+1 }:=by
   refine I.step (g':=s.gens) (d':=s.drawn) (t':=tk+1) (ch:=[e,it]) (fun b hb=>?_) (fun b o _ _ hcb q _=>keep2 b o (fun z=>hcb (by simp [z])) (fun z=>hcb (by simp [z])) q)
    (fun b o _ _ hcb q _=>⟨o.slots,keep2 b o (fun z=>hcb (by simp [z])) (fun z=>hcb (by simp [z])) q⟩) (fun b o _ q n=>by rw [aj (à (Ê q))]; exact n)
    (fun b o hcb q=>⟨o,keep2 b o (fun z=>hcb (by simp [z])) (fun z=>hcb (by simp [z])) q⟩) (fun b ys q=>by rw [aj (ao q hTn)]; exact q) (fun b o y q=>by rw [aj (ao q hTn)]; exact q)
    (fun b ps q=>⟨#[],by rw [aj (ao q hTn),q]; simp⟩) (fun m hm=>?_) ?_ I.bare
   ·rcases Þ.mp hb with rfl | hb
    ·exact⟨e3,e1,e4,e5⟩
    ·have z:b=it:=by simpa using hb
     subst z
     exact⟨f3,f1,f4,f5⟩
   ·obtain⟨o,es,ep,ho',r⟩:=hm
    exact⟨o,es,ep,keep2 _ o (Ć e1) (Ć f1) ho',r⟩
   ·intro b u' q
    have nT:∀ {c y},H c=some y->c≠e/\c≠it:=fun {c y} z=>⟨fun v=>(by rw [v,e0] at z; exact nomatch z),fun v=>(by rw [v,f0] at z; exact nomatch z)⟩
    by_cases hb:b=s.heap.objs.size
    ·subst hb
     rw [aq] at q
     cases q
     exact⟨(by show 2<=sizeLine; decide),[.int i tk,x'],.cons ⟨_,rfl⟩ (.cons ru .nil),_,hTup,rfl,_,rfl⟩
    ·rw [aj hb] at q
     refine (I.hok b u' q).stay (fun c v hcv y=>keep2 c v ?_ ?_ y) (fun c y=>by rw [aj (ao y hTn)]; exact y) fun c ys y=>by rw [aj (ao y hTn)]; exact y
     ·rcases hcv with rfl | z
      ·exact (nT q).1
      ·exact (nT z).1
     ·rcases hcv with rfl | z
      ·exact (nT q).2
      ·exact (nT z).2
  refine⟨.ref s.heap.objs.size,_,J,rfl,⟨_,x,rfl,hTn,rfl,fun ys hy=>by rw [I.mO hy hq]; exact hx⟩,⟨⟨x',?_⟩,?_⟩,fun b hb=>?_⟩
  ·have he3:IsEnum h2 e it ((i:Int)+1) x':=by simpa using he2
   have ec:((i+1:Nat):Int)=(i:Int)+1:=by omega
   rw [ec]
   exact he3
  ·obtain⟨o,ho2,r⟩:=hs'.1
   exact⟨o,(hs2.2 it (Ć hei)).trans ho2,r⟩
  ·rw [aj]
   ·exact (hf b hb).1
   ·rcases Þ.mp hb with rfl | hb
    ·exact Ć hTe
    ·have z:b=it:=by simpa using hb
     subst z
     obtain⟨o,ho2,_⟩:=hit
     exact à (Ê ho2)
 done:=by
  intro X hP hw hK hc i pins s σ H E I hf st hg
  subst hP hw hK
  obtain⟨xs,hq,hx⟩:=hg
  obtain⟨its,rv,p,hz⟩:=I.list hq
  obtain⟨⟨old,he⟩,hit⟩:=st
  obtain⟨f0,f1,f2,f3,f4,f5⟩:=hf it (by simp)
  have hl:=rv.length
  have hT:s.TypeIs (.ref e) "enumerate":=⟨_,he,rfl⟩
  unfold pyNext
  refine Â (wpAny_attempt (ĵ (name:=Ł "__next__") hT į
   (ī į hT PySem.F.entry_enumerate_next ?_ (PySem.F.args_enumerate_next_1 _))))
  show wpAny _ _ (field (.ref e) 2 >>= _) _ _ _
  refine Â (Ĵ he rfl (x:=.ref it) rfl ?_)
  refine Â (wpAny_nextOf_list_end (I.ok.hd hc) hit p.isList (by simp; omega) fun h' x he' hx'=>?_)
  obtain⟨o,ho,hc'⟩:=hx'
  refine Â (wpAny_isInstance (T:="StopIteration") (b:=true) ⟨o,ho,hc'⟩ isSubtype_stop ?_)
  exact Ë ⟨rfl,I.turned (t':=s.toks) (fun b o hb e=>he' b o hb e) f0 f1 f3 f4 f5⟩
 self:=fun A i s Q E st h=>by
  obtain⟨⟨old,he⟩,_⟩:=st
  have hT:s.TypeIs (.ref e) "enumerate":=⟨_,he,rfl⟩
  refine wpAny_pyIter_slot hT Ţ (ī Ţ hT PySem.F.entry_enumerate_iter ?_ (PySem.F.args_enumerate_iter_1 _))
  show wpAny _ _ (ret (.ref e)) _ _ s
  exact Ë ⟨_,rfl,"enumerate",_,hT,į.lookup,h⟩
def SJ (K:Ü) (ta:TA):TI:=fun σ H R=>ta σ H fun vs H1=>∃ a,vs=[.ref a]/\(∃ xs,SqL K H1 a xs)/\R (Pz K a) H1
theorem Jw {X:Cx}{elts:List Expr}{kk:Nat}{tpos:Pos}{a:Expr}{ta:TA}{p pos:Pos} (hg:Gl X "enumerate") (hm:X.mg "enumerate"=none) (ha:PA X [a] ta) (hs:starEach [a] X.env=[(false,eval a X.env)]:=by rfl):PI X (.Tuple elts kk tpos) (.Call (.Name "enumerate" p) [a] [] pos) (SJ X.K ta):=by
 intro pins s σ H R I h
 refine Call_ (dF I hg hm boot_enumerate (ü (thn (ha pos pins s σ H _ I h) fun us s1 ⟨vs,H1,I1,r1,q1⟩=>?_) hs rfl))
 obtain⟨b,e,⟨xs,hq⟩,q⟩:=q1
 subst e
 obtain⟨u,rfl,rx⟩:=vals1 r1
 cases rx
 obtain⟨its,rv,pt,hz⟩:=I1.list hq
 refine call_enumerate_list pt.isList fun h' he hit hsz hk=>?_
 have I2:Inv X pins σ H1 { s1 with heap:=h' }:=I1.kept (t':=s1.toks) hk
 have T:Turn X.prog X.w X.K (.Tuple elts kk tpos) (Pz X.K b) [s1.heap.objs.size+1,s1.heap.objs.size] (s1.heap.objs.size+1) (fun i h=>(∃ old,IsEnum h (s1.heap.objs.size+1) s1.heap.objs.size i old)/\h.IsListIter s1.heap.objs.size b i):=Bp b _ _ (Ī (Ŝ _))
 refine T.self _ 0 _ _ _ ⟨⟨_,he⟩,hit⟩ ⟨_,_,_,_,H1,rfl,I2,T,⟨⟨_,he⟩,hit⟩,fun c hc=>?_,q⟩
 rcases Þ.mp hc with rfl | hc
 ·exact I1.Af (Ņ _) (I1.hok.fresh (Ņ _))
 ·have z:c=s1.heap.objs.size:=by simpa using hc
  subst z
  exact I1.Af (Ö _) (I1.hok.fresh (Ö _))
end L2
namespace Dl
open PySem L2 PyProof.Rows
variable [Gr]
section
variable {X:Cx}{tg:Expr}{pos:Pos}{ta:DA}
theorem Bl {K:Ü}{ok:Addr->Prop}{a:Addr}{ds:List D}:Wlk (fun H=>Rp ok H (.ref a) (.list ds)) (Pz K a) (nC ds) ok where
 go:=fun i H r hi=>by
  obtain⟨b,vs,e,_,h,rs⟩:=r.bL
  cases e
  have:i<vs.length:=by rw [rs.length]; rw [dY] at hi; exact hi
  exact⟨vs,vs[i],SqL.of h,by simp [this]⟩
 stop:=fun H r=>by
  obtain⟨b,vs,e,_,h,rs⟩:=r.bL
  cases e
  exact⟨vs,SqL.of h,by rw [rs.length,dY]; exact Ö _⟩
 yld:=fun i H x H' r y=>by
  obtain⟨t,v,rfl,ht,rfl,y⟩:=y
  have sm:Same H (upd H t (.tup [.int i,v])):=fun b u q=>by rw [aj (ao q ht)]; exact q
  refine⟨sm,fun d hd=>?_⟩
  obtain⟨b,vs,e,_,h,rs⟩:=r.bL
  cases e
  rw [gD] at hd
  cases he:ds[i]? with
  | none=>rw [he] at hd; cases hd
  | some d0 =>
   rw [he] at hd
   have e:=Õ hd
   subst e
   obtain⟨v',hv,rv⟩:=rs.getD he
   have:=y vs (SqL.of h)
   rw [hv] at this
   cases this
   exact .tup aq (.cons (.int _) (.cons (rv.mono (fun _ o=>o) (fun a o _ e=>sm a o e) fun a xs e=>sm a _ e) .nil))
 stab:=fun H H' r f t=>r.bY (fun a o n e=>⟨n,f a o n e⟩) t
def Vj (ta:DA):DI:=fun ρ P=>ta ρ fun ks=>match ks with
 | [(k,.list ds)]=>P k (nC ds)
 | _=>False
theorem ug {elts:List Expr}{kk:Nat}{tpos:Pos}{a:Expr}{ps:Pos} (hm:X.mg "enumerate"=none) (ha:PDA X [a] ta) (hg:Gl X "enumerate":=by rfl) (hs:starEach [a] X.env=[(false,eval a X.env)]:=by rfl):PDI X (.Tuple elts kk tpos) (.Call (.Name "enumerate" ps) [a] [] pos) (Vj ta):=PI.wk (Jw hg hm ha hs) (by
 rintro σ H R ⟨p,H0,own,ρ,P,E,t,q⟩
 refine⟨p,H0,own,ρ,_,E,t,fun ks vs H1 h A r=>?_⟩
 split at h
 ·rename_i k ds
  obtain⟨v,rfl,r'⟩:=eE r
  obtain⟨a,vs,e,_,ha,rs⟩:=Rp.bL r'
  subst e
  exact⟨a,rfl,⟨vs,SqL.of ha⟩,q k _ _ H1 _ h A Bl (rpA r')⟩
 ·exact h.elim)
end
section
variable {X:Cx}
theorem Hy (hc:X.calm=true):bA X (.builtin "min") (fun xs H Q=>∃ (p:Addr) (ns:List Int),xs=[.ref p]/\SqL X.K H p (ns.map V.int)/\ns≠[]/\∀ M,M∈ns->(∀ a∈ns,M<=a)->Q (.int M) H):=by
 intro pins s σ H xs us Q I r h
 obtain⟨p,ns,rfl,hp,hne,q⟩:=h
 obtain⟨u,rfl,rx⟩:=vals1 r
 cases rx
 obtain⟨its,rv,pl,hz⟩:=I.list hp
 have hi:IntsAre its ns:=intsAre_of rv
 obtain⟨zs,e⟩:=hi.allInts.items
 have hns:ns=zs.toList.map (·.1):=by rw [← hi.numsOf,← nums_intItems,← e]
 have hsz:0<zs.size:=by
  have h3:=List.length_pos_iff.mpr hne
  rw [hns,Ä,Ď] at h3; exact h3
 have hl:=pl.isList
 rw [e] at hl
 refine min_intList (I.ok.hd hc) hl hsz fun v h' tk hv hk=>?_
 obtain⟨t,rfl⟩:=intItems_at hv
 obtain⟨h1,h2⟩:=argBest_lt (numAt zs) (zs.size - 1)
 refine⟨.int _,H,I.kept fun b o eb=>hk b o eb,⟨_,rfl⟩,q _ ?_ fun a ha=>?_⟩
 ·rw [hns,numAt_eq]; refine getD_mem ?_; rw [Ä,Ď]; omega
 ·rw [hns] at ha
  obtain⟨j,hj,rfl⟩:=mem_getD ha
  rw [Ä,Ď] at hj
  have h3:=h2 j (by omega)
  rw [← numAt_eq]; exact h3
theorem HB (hc:X.calm=true):bA X (.builtin "max") (fun xs H Q=>∃ (p:Addr) (ns:List Int),xs=[.ref p]/\SqL X.K H p (ns.map V.int)/\ns≠[]/\∀ M,M∈ns->(∀ a∈ns,a<=M)->Q (.int M) H):=by
 intro pins s σ H xs us Q I r h
 obtain⟨p,ns,rfl,hp,hne,q⟩:=h
 obtain⟨u,rfl,rx⟩:=vals1 r
 cases rx
 obtain⟨its,rv,pl,hz⟩:=I.list hp
 have hi:IntsAre its ns:=intsAre_of rv
 obtain⟨zs,e⟩:=hi.allInts.items
 have hns:ns=zs.toList.map (·.1):=by rw [← hi.numsOf,← nums_intItems,← e]
 have hsz:0<zs.size:=by
  have h3:=List.length_pos_iff.mpr hne
  rw [hns,Ä,Ď] at h3; exact h3
 have hl:=pl.isList
 rw [e] at hl
 refine max_intList (I.ok.hd hc) hl hsz fun v h' tk hv hk=>?_
 obtain⟨t,rfl⟩:=intItems_at hv
 obtain⟨h1,h2⟩:=argBest_gt (numAt zs) (zs.size - 1)
 refine⟨.int _,H,I.kept fun b o eb=>hk b o eb,⟨_,rfl⟩,q _ ?_ fun a ha=>?_⟩
 ·rw [hns,numAt_eq]; refine getD_mem ?_; rw [Ä,Ď]; omega
 ·rw [hns] at ha
  obtain⟨j,hj,rfl⟩:=mem_getD ha
  rw [Ä,Ď] at hj
  have h3:=h2 j (by omega)
  rw [← numAt_eq]; exact h3
end
section
variable {prog:Program}{w:World}{A:Around}{E:Value->Shared->Prop}
theorem Ak {it l:Addr}{items:Array Value} (hne:l≠it):∀ (n i:Nat) (s:Shared) (Q:List Value->Shared->Prop),s.heap.IsListIter it l i->s.heap.IsList l items->i+n<=items.size ->
  (∀ h',h'.IsListIter it l (i+n)->Heap.SameBut it s.heap h'->Q ((items.toList.drop i).take n) { s with heap:=h' })->wpAny (model prog w) A (draw (.ref it) n) Q E s
 | 0,i,s,Q,hit,_,_,hQ=>by
  show wpAny _ _ (pure []) Q E s
  exact Ë (by simpa using hQ s.heap hit (Heap.SameBut.refl ..))
 | n+1,i,s,Q,hit,hl,hle,hQ=>by
  have hlt:i<items.size:=by omega
  show wpAny _ _ (pyNext (.ref it) >>= _) Q E s
  refine Â (wpAny_pyNext_list_item hit hl (x:=items[i]) (by simp [hlt]) fun h₁ hit₁ hs₁=>?_)
  refine Â (ă (Ak hne n (i+1) _ _ hit₁ (hl.extBut hs₁.extBut hne) (by omega) fun h₂ hit₂ hs₂=>Ë ?_))
  have hd:items.toList.drop i=items[i]::items.toList.drop (i+1):=by simp [Ż,hlt]
  have z:=hQ h₂ (by rw [show i+(n+1)=i+1+n by omega]; exact hit₂) (hs₁.trans hs₂)
  rw [hd,List.take_succ_cons] at z
  exact z
theorem qg {s:Shared}{l:Addr}{items:Array Value}{Q:List Value->Shared->Prop} (hh:A.handled=none) (hl:s.heap.IsList l items)
  (hQ:∀ h',Heap.ExtBut s.heap.objs.size s.heap h'->Q items.toList { s with heap:=h' }):wpAny (model prog w) A (unpackItems (.ref l) items.size none) Q E s:=by
 have hlt:l≠s.heap.objs.size:=by obtain⟨o,ho,_⟩:=hl; exact à (Ê ho)
 unfold unpackItems
 refine Â ?_
 unfold notIterableAtAll
 refine Â (wpAny_specialOf hl.typeIs slot_list_iter.lookup ?_)
 refine Ë ?_
 simp only [if_false,ĥ]
 refine Â (ă (wpAny_pyIter_list hl ?_))
 refine Â (ă (Ak hlt items.size 0 _ _ ⟨_,Û _ rfl,rfl,rfl⟩ (hl.push _) (by omega) fun h₁ hit₁ hs₁=>?_))
 have hall:ŷ items.size (Ÿ 0 items.toList)=items.toList:=by rw [List.drop_zero]; refine List.take_of_length_le ?_; simp
 rw [hall,if_neg (by simp)]
 have hl₁:h₁.IsList l items:=(hl.push _).extBut hs₁.extBut hlt
 refine Â (ă (wpAny_pyNext_list_end hh hit₁ hl₁ (by simp) fun h₂ he₂=>?_))
 simp only [if_false,Option.isSome_none,ĥ]
 exact Ë (hQ h₂ fun b o hb e=>he₂ b o hb (hs₁.extBut b o hb (Ì _ e)))
theorem pF {s:Shared}{env:Env}{elts:List Expr}{x1}{pos:Pos}{l:Addr}{items:Array Value}{Q:Unit->Shared->Prop} (hh:A.handled=none) (hl:s.heap.IsList l items)
  (hn:(assignEach elts env).length=items.size) (hstar:(assignEach elts env).findIdx? (·.1)=none)
  (h:∀ h',Heap.ExtBut s.heap.objs.size s.heap h'->wpAny (model prog w) A (assignInOrder ((assignEach elts env).map (·.2)) items.toList) Q E { s with heap:=h' }) :
  wpAny (model prog w) A (assign (.Tuple elts x1 pos) env (.ref l)) Q E s:=by
 rw [assign_Tuple]
 refine Â (wpAny_standAt ?_)
 unfold unpack
 rw [hn,hstar]
 exact Â (ă (qg hh hl h))
end
section
variable {X:Cx}{pos:Pos}
def Wg (K:Ü) (n:Nat) (t:TGs):TG:=fun v σ H Q=>∃ a xs,v=.ref a/\SqL K H a xs/\xs.length=n/\t xs σ H Q
theorem Ro {es:List Expr}{k:Nat}{t:TGs}{n:Nat} (hc:X.calm=true) (h:PGs X es t)
  (hn:(assignEach es X.env).length=n:=by rfl) (hst:(assignEach es X.env).findIdx? (·.1)=none:=by rfl):PG X (.Tuple es k pos) (Wg X.K n t):=by
 intro pins s σ H v u Q I r hw
 obtain⟨a,xs,e1,hq,hl,hw⟩:=hw
 subst e1
 cases r
 obtain⟨its,rv,pl,hz⟩:=I.list hq
 refine pF (I.ok.hd hc) pl.isList (by simp [hn,← hl,rv.length]) hst fun h' hx=>?_
 have I1:Inv X pins σ H { s with heap:=h' }:=I.kept (t':=s.toks) fun b o e=>hx b o (à (Ê e)) e
 exact h pins _ σ H xs _ Q I1 (by simpa using rv) hw
variable [Gr]
def gTL (n:Nat) (gs:DGs):DG:=fun k d ρ P=>match d with
 | .list ds=>ds.length=n/\gs k ds ρ P
 | _=>False
theorem Du {es:List Expr}{gs:DGs}{k n:Nat} (hc:X.calm=true) (h:PGs X es (oY gs)) (hn:(assignEach es X.env).length=n:=by rfl) (hst:(assignEach es X.env).findIdx? (·.1)=none:=by rfl):PDG X (.Tuple es k pos) (gTL n gs):=PG.wk (Ro hc h hn hst) (by
 rintro v σ H Q ⟨p,H0,own,ρ,k,d,P,E,r,t,q⟩
 cases d with
 | list ds =>
  obtain⟨a,vs,rfl,_,ha,rs⟩:=r.bL
  exact⟨a,vs,rfl,SqL.of ha,by rw [rs.length]; exact t.1,p,H0,own,ρ,k,ds,P,E,rs,t.2,q⟩
 | _=>exact t.elim)
end
section
variable {X:Cx}{pos:Pos}{a:Expr}{t:DA} [Gr]
def Hj (f:Int->Int->Int) (le:Int->Int->Prop):GC:=fun ks P=>match ks with
 | [(_,.tuple [.int i,.int j])]=>P .imm (.int (f i j))
 | [(_,.list ds)]=>∃ ns:List Int,ds=ns.map È/\ns≠[]/\∀ M,M∈ns->(∀ a∈ns,le M a)->P .imm (.int M)
 | _=>False
theorem wV {ps:Pos} (hc:X.calm=true) (hm:X.mg "min"=none) (ha:PDA X [a] t) (hg:Gl X "min":=by rfl) (he:zS X a []:=by rfl) (hpl:zP X pos []:=by rfl):PD X (.Call (.Name "min" ps) [a] [] pos) (tCl (Hj (fun i j=>if j<i then j else i) (fun M a=>M<=a)) t) :=
 cN (bA.or (Hx hc) (Hy hc)) (by
  intro p H0 own Hb H vs ks P Q A r t q
  unfold Hj at t
  split at t
  ·rename_i k i j
   obtain⟨v,rfl,r'⟩:=eE r
   obtain⟨x,xs,e1,h1,rs1⟩:=Rp.eZ r'
   obtain⟨v1,v2,e2,q1,q2⟩:=Rps.two rs1
   subst e1 e2
   rw [q1.int',q2.int'] at h1
   exact .inl ⟨x,i,j,rfl,SqT.of h1,q _ _ _ _ t Kp.refl A.pen (.int _)⟩
  ·obtain⟨ns,rfl,hne,t⟩:=t
   obtain⟨v,rfl,r'⟩:=eE r
   obtain⟨x,xs,e1,o1,h1,rs1⟩:=Rp.bL r'
   subst e1
   have e2:=Rps.ints rs1
   subst e2
   exact .inr ⟨x,ns,rfl,SqL.of h1,hne,fun M h1 h2=>q _ _ _ _ (t M h1 h2) Kp.refl A.pen (.int _)⟩
  ·exact t.elim) hg hm boot_min ha (by decide) (by decide) he hpl
theorem wW {ps:Pos} (hc:X.calm=true) (hm:X.mg "max"=none) (ha:PDA X [a] t) (hg:Gl X "max":=by rfl) (he:zS X a []:=by rfl) (hpl:zP X pos []:=by rfl):PD X (.Call (.Name "max" ps) [a] [] pos) (tCl (Hj (fun i j=>if j > i then j else i) (fun M a=>a<=M)) t) :=
 cN (bA.or (Hz hc) (HB hc)) (by
  intro p H0 own Hb H vs ks P Q A r t q
  unfold Hj at t
  split at t
  ·rename_i k i j
   obtain⟨v,rfl,r'⟩:=eE r
   obtain⟨x,xs,e1,h1,rs1⟩:=Rp.eZ r'
   obtain⟨v1,v2,e2,q1,q2⟩:=Rps.two rs1
   subst e1 e2
   rw [q1.int',q2.int'] at h1
   exact .inl ⟨x,i,j,rfl,SqT.of h1,q _ _ _ _ t Kp.refl A.pen (.int _)⟩
  ·obtain⟨ns,rfl,hne,t⟩:=t
   obtain⟨v,rfl,r'⟩:=eE r
   obtain⟨x,xs,e1,o1,h1,rs1⟩:=Rp.bL r'
   subst e1
   have e2:=Rps.ints rs1
   subst e2
   exact .inr ⟨x,ns,rfl,SqL.of h1,hne,fun M h1 h2=>q _ _ _ _ (t M h1 h2) Kp.refl A.pen (.int _)⟩
  ·exact t.elim) hg hm boot_max ha (by decide) (by decide) he hpl
def Dc:GC:=fun ks P=>match ks with
 | [(_,.dict ds)]=>∃ m:IM,ds=kvD m/\m.length<64/\∀ out:List Int,out.Perm (m.map (·.1))->out.Pairwise (·<=·)->P .new (.list (out.map È))
 | _=>False
theorem yV {ok:Addr->Prop}{H:Hp}:∀ {kvs:List (Key×V)}{ds:List (D×D)}{m:IM},Rkv ok H kvs ds->ds=kvD m->kvs.map (·.1)=(m.map (·.1)).map ó
 | _,_,[],.nil,_=>rfl
 | _,_,p::m,.cons h t,e=>by
  have e1:kD _=È p.1:=congrArg Prod.fst (List.cons.inj e).1
  have e2:=Kw e1
  rw [ý,ý,ý,yV (m:=m) t (List.cons.inj e).2,← e2]
 | _,_,[],.cons _ _,e=>nomatch e
 | _,_,_::_,.nil,e=>nomatch e
theorem sE {ps:Pos} (hc:X.calm=true) (hm:X.mg "sorted"=none) (ha:PDA X [a] t) (hg:Gl X "sorted":=by rfl) (he:zS X a []:=by rfl) (hpl:zP X pos []:=by rfl):PD X (.Call (.Name "sorted" ps) [a] [] pos) (tCl Dc t) :=
 cN (yu hc) (by
  intro p H0 own Hb H vs ks P Q A r t q
  unfold Dc at t
  split at t
  ·obtain⟨m,rfl,hl,t⟩:=t
   obtain⟨v,rfl,r'⟩:=eE r
   obtain⟨x,kvs,e1,o1,h1,rs1⟩:=Rp.Pb r'
   subst e1
   refine⟨x,kvs,m.map (·.1),rfl,h1,yV rs1 rfl,by rw [Ä]; exact hl,fun l out hl' hp hs=>?_⟩
   obtain⟨k2,i2,nw⟩:=A.new hl' (.lst (out.map V.int))
   exact q _ _ _ _ (t out hp hs) k2 i2 (.lst nw aq (Rps.ofMap (fun i=>.int i) out))
  ·exact t.elim) hg hm boot_sorted ha (by decide) (by decide) he hpl
def Fx:G2:=fun _ d1 _ d2 P=>match d2 with
 | .none=>P .imm (.bool (!NZ d1))
 | _=>False
theorem RQ:Ok2 Fx (fun x y H Q=>y=.non/\Q (.bl (!decide (x=.non))) H):=by
 intro p H0 own Hb H x y k1 d1 k2 d2 P Q A r1 r2 t q
 unfold Fx at t
 split at t
 ·cases r2
  rw [Er r1]
  exact⟨rfl,q _ _ _ _ t Kp.refl A.pen (.bl _)⟩
 ·exact t.elim
variable {b:Expr}{ta tb:DE}
theorem eN (ha:PD X a ta) (hb:PD X b tb):PDT X (.Compare a [.IsNot] [b] pos) (cJ (t2 Fx ta tb)):=cZ Nu RQ ha hb (cA _)
end
section
variable {X:Cx}
theorem HJ (hc:X.calm=true):bA X (.builtin "any") (fun xs H Q=>∃ (p:Addr) (bs:List Bool),xs=[.ref p]/\SqL X.K H p (bs.map V.bl)/\Q (.bl (bs.any id)) H):=by
 intro pins s σ H xs us Q I r h
 obtain⟨p,bs,rfl,hp,q⟩:=h
 obtain⟨u,rfl,rx⟩:=vals1 r
 cases rx
 obtain⟨its,rv,pl,hz⟩:=I.list hp
 have e:=vZ rv
 subst e
 have hlt:p≠s.heap.objs.size:=by obtain⟨o,ho,_⟩:=pl.isList; exact à (Ê ho)
 refine call_any_walk (wpAny_pyIter_list pl.isList ?_)
 refine⟨_,_,_,_,_,_,fun i=>bs.getD i false,rfl,Walks.list (A:=X.A.in1) (I.ok.hd hc) _ p hlt _,⟨⟨_,Û _ rfl,rfl,rfl⟩,pl.isList.push _⟩,?_,fun h' tk hk=>?_⟩
 ·intro i v s Q E hP hQ
  have hP':(bs.map Ų)[i]?=some v:=by simpa using hP
  rw [ç] at hP'
  cases hb:bs[i]? with
  | none=>rw [hb] at hP'; cases hP'
  | some b =>
   rw [hb] at hP'
   cases hP'
   refine ĭ ?_
   have e:bs.getD i false=b:=by rw [ĕ,hb]; rfl
   have hQ':Q (bs.getD i false) s:=hQ
   rw [e] at hQ'
   exact hQ'
 ·have e:(ã (bs.map Ų).toArray.size).any (fun i=>bs.getD i false)=bs.any id:=by
   rw [Ò,Ä,ĺ]
   simp only [List.any_eq_true,ģ]
   constructor
   ·rintro ⟨i,hi,h⟩
    simp [hi] at h
    exact⟨bs[i],ŏ hi,h⟩
   ·rintro ⟨x,hx,h⟩
    obtain⟨i,hi,e⟩:=List.mem_iff_getElem.mp hx
    exact⟨i,hi,by simp [hi,e]; exact h⟩
  rw [e]
  refine⟨.bl (bs.any id),H,I.kept fun b o eb=>hk b o ?_ (Ì _ eb),rfl,q⟩
  intro hm
  have:b=s.heap.objs.size:=by simpa using hm
  exact absurd (Ê eb) (by rw [this]; exact ć _)
end
section
variable {X:Cx}{pos:Pos}{a e:Expr}{te ta:DE}{t:DA}{st st2:Stmt}{rest:List Stmt} [Gr]
theorem boot_any:bootBuiltins "any"=some (.builtin "any"):=by decide +kernel
def S7:GC:=fun ks P=>match ks with
 | [(_,.list ds)]=>∃ bs:List Bool,ds=bs.map PyData.bool/\P .imm (.bool (bs.any id))
 | _=>False
theorem Ci {ps:Pos} (hc:X.calm=true) (hm:X.mg "any"=none) (ha:PDA X [a] t) (hg:Gl X "any":=by rfl) (he:zS X a []:=by rfl) (hpl:zP X pos []:=by rfl):PD X (.Call (.Name "any" ps) [a] [] pos) (tCl S7 t) :=
 cN (HJ hc) (by
  intro p H0 own Hb H vs ks P Q A r t q
  unfold S7 at t
  split at t
  ·obtain⟨bs,rfl,t⟩:=t
   obtain⟨v,rfl,r'⟩:=eE r
   obtain⟨x,xs,e1,o1,h1,rs1⟩:=Rp.bL r'
   subst e1
   have e2:=Rps.bools rs1
   subst e2
   exact⟨x,bs,rfl,SqL.of h1,q _ _ _ _ t Kp.refl A.pen (.bl _)⟩
  ·exact t.elim) hg hm boot_any ha (by decide) (by decide) he hpl
end
section
variable {X:Cx}{tg iter c:Expr}{pos pos1:Pos}{ret:Stmt}{ti:DI}{g:DG}{tc:DT} [Gr]
end
end Dl
namespace L2
open PySem PySem.Spec PyProof.Rows
end L2
set_option autoImplicit true
set_option relaxedAutoImplicit true
namespace Wr
open PySem L2 PyProof.Rows Dl
structure WD [Gr] (X:Cx) (e:Expr) (t:DE):Prop where
 h:PD X e t
structure WDT [Gr] (X:Cx) (e:Expr) (t:DT):Prop where
 h:PDT X e t
structure WDW [Gr] (X:Cx) (e:Expr) (t:DT):Prop where
 h:PDW X e t
structure WDA [Gr] (X:Cx) (e:List Expr) (t:DA):Prop where
 h:PDA X e t
structure WDS [Gr] (X:Cx) (e:Stmt) (t:DS):Prop where
 h:PDS X e t
structure WDSs [Gr] (X:Cx) (e:List Stmt) (t:DS):Prop where
 h:lC X e t
structure WDI [Gr] (X:Cx) (tg e:Expr) (t:DI):Prop where
 h:PDI X tg e t
structure WDG [Gr] (X:Cx) (e:Expr) (t:DG):Prop where
 h:PDG X e t
structure WDGs [Gr] (X:Cx) (e:List Expr) (t:DGs):Prop where
 h:PGs X e (oY t)
structure WDTs [Gr] (X:Cx) (e:List Expr) (t:DT):Prop where
 h:Mh X e t
structure WDO [Gr] (X:Cx) (e:Option Expr) (t:DO):Prop where
 h:PO X e (zU t)
structure WV (X:Cx) (e:Expr) (i:Nat):Prop where
 h:PE X e (qj i)
structure WC (X:Cx) (e:Expr) (v:V):Prop where
 h:PE X e (tC v)
section
variable [Gr]
theorem wv (i:Nat) {x:Str}{pos:Pos} (hN:X.N[i]?=some x:=by rfl) (hv:Vis X.env.scope x:=by first | exact Or.inl rfl | exact Or.inr (Or.inl rfl) | exact Or.inr (Or.inr rfl)) (hd:zB x:=by decide)
  (hcd:(x == ("__classdict__":Str))=false:=by decide):WV X (.Name x pos) i:=⟨pv i hN hv hd hcd⟩
theorem wpt {t:DT} (h:WDW X e t):WDT X e t:=⟨PDW.pt h.h⟩
theorem wty {x:Str}{T:String} (hg:Gl X x) (hm:X.mg x=none) (hv:bootBuiltins x=some (.type T)) (hn:x≠"__name__":=by decide) (hd:zB x:=by decide):WC X (.Name x ps) (.ty T):=⟨qM hg hm hv rfl hn hd⟩
theorem xX {i:Nat}{x:Str}{e:Expr}{te:DE}{pos' pos:Pos} (rg:Option Nat) (hN:X.N.Nodup) (hi:X.N[i]?=some x) (hx:Loc X.env.scope x) (he:WD X e te) (hs:swapsWith e (some (.Name x pos')) pos.line X.env=pure false:=by rfl) (hf:zL X x:=by first | exact .inl rfl | exact .inr rfl | assumption) :
  WDS X (.Assign [.Name x pos'] e pos) (Dv i rg te):=⟨Dl.xX rg (eF hN hi hx he.h hs hf)⟩
theorem nF (rg:Option Nat) (own:List Str) {i:Nat}{y:Str}{py spos:Pos} (hc:X.calm=true) (hN:X.N.Nodup) (hiN:X.N[i]?=some y) (hx:Loc X.env.scope y) (hi:WDI X tg iter ti) (hg:∀ c,WDG (X.comp own scope c) tg g) (ht:∀ c,WDTs (X.comp own scope c) ifs tt) (he:∀ c,WD (X.comp own scope c) elt te)
  (hsw:swapsWith (.ListComp elt [⟨tg,iter,ifs,0⟩] scope pos) (some (.Name y py)) spos.line X.env=pure true:=by rfl)
  (hk:eY X.env scope X.N=true:=by rfl) (hs:zF X iter:=by intro _; rfl) (hf:zL X y:=by first | exact .inl rfl | exact .inr rfl | assumption) :
  WDS X (.Assign [.Name y py] (.ListComp elt [⟨tg,iter,ifs,0⟩] scope pos) spos) (Dv i rg (dLC own.length ti g tt te)):=⟨Dl.xX rg (Rh own hc hN hiN hx hi.h (fun c=>(hg c).h) (fun c=>(ht c).h) (fun c=>(he c).h) hsw hk hs hf)⟩
theorem jx (r:Nat) (own:List Str) {i j:Nat}{y z:Str}{py spos zp lp:Pos} (hc:X.calm=true) (hN:X.N.Nodup) (hiN:X.N[i]?=some y) (hx:Loc X.env.scope y) (hi:WDI X (.Name z zp) iter ti) (hg:∀ c,WDG (X.comp own scope c) (.Name z zp) (gNm j))
  (hsw:swapsWith (.ListComp (.List [] lp) [⟨.Name z zp,iter,[],0⟩] scope pos) (some (.Name y py)) spos.line X.env=pure true:=by rfl)
  (hk:eY X.env scope X.N=true:=by rfl) (hs:zF X iter:=by intro _; rfl) (hf:zL X y:=by first | exact .inl rfl | exact .inr rfl | assumption) :
  WDS X (.Assign [.Name y py] (.ListComp (.List [] lp) [⟨.Name z zp,iter,[],0⟩] scope pos) spos) (Lp i r ti):=⟨Dl.jx r (Qc own hc hN hiN hx hi.h (fun c=>(hg c).h) (fun c=>qZ) (fun c=>BZ cu) hsw hk hs hf)⟩
theorem Dr {tg e:Expr}{te:DE}{g:DG} (he:WD X e te) (hg:WDG X tg g) (hs:swapsWithSole [tg] e pos.line X.env=pure false:=by rfl) (hw:swappedStores [tg] e X.env=pure none:=by rfl)
  (h1:(assignEach [tg] X.env).map (·.2)=[assign tg X.env]:=by rfl):WDS X (.Assign [tg] e pos) (Vx te g):=⟨Dl.Dr (wG he.h hg.h hs hw h1)⟩
theorem o9 {i:Nat}{x:Str}{e:Expr}{es:List Expr}{apos cpos np pos:Pos} (hv:WV X (.Name x np) i) (ha:WDA X (e::es) (bD te gJ))
  (hbase:attributeBase (.Name x np) "append" X.env (eval (.Name x np) X.env)=eval (.Name x np) X.env:=by rfl)
  (hfew:zW X cpos (e::es):=by rfl)
  (hline:(apos.endLine == cpos.line)=true:=by rfl) (hst:zS X e es:=by rfl) (hplain:zP X cpos es:=by rfl)
  (hs:swapsWith (.Call (.Attribute (.Name x np) "append" apos) (e::es) [] cpos) none pos.line X.env=pure false:=by rfl) :
  WDS X (.Expr (.Call (.Attribute (.Name x np) "append" apos) (e::es) [] cpos) pos) (Dy i te):=⟨Dl.o9 (lO (Ey PySem.F.plainAttrs_list PySem.F.slot_list_append PySem.F.type_list_append oX hv.h ha.h hbase hfew hline hst hplain) hs)⟩
theorem o8 {i:Nat}{x:Str}{e:Expr}{es:List Expr}{apos cpos np pos:Pos} (hv:WV X (.Name x np) i) (ha:WDA X (e::es) (bD tj (bD te gJ)))
  (hbase:attributeBase (.Name x np) "insert" X.env (eval (.Name x np) X.env)=eval (.Name x np) X.env:=by rfl)
  (hfew:zW X cpos (e::es):=by rfl)
  (hline:(apos.endLine == cpos.line)=true:=by rfl) (hst:zS X e es:=by rfl) (hplain:zP X cpos es:=by rfl)
  (hs:swapsWith (.Call (.Attribute (.Name x np) "insert" apos) (e::es) [] cpos) none pos.line X.env=pure false:=by rfl) :
  WDS X (.Expr (.Call (.Attribute (.Name x np) "insert" apos) (e::es) [] cpos) pos) (Tp i tj te):=⟨Dl.o8 (lO (Ey PySem.F.plainAttrs_list PySem.F.slot_list_insert PySem.F.type_list_insert GZ hv.h ha.h hbase hfew hline hst hplain) hs)⟩
theorem yc {i:Nat}{x:Str}{e:Expr}{es:List Expr}{apos cpos np pos:Pos} (hv:WV X (.Name x np) i) (ha:WDA X (e::es) (bD te gJ))
  (hbase:attributeBase (.Name x np) "append" X.env (eval (.Name x np) X.env)=eval (.Name x np) X.env:=by rfl)
  (hfew:zW X cpos (e::es):=by rfl)
  (hline:(apos.endLine == cpos.line)=true:=by rfl) (hst:zS X e es:=by rfl) (hplain:zP X cpos es:=by rfl)
  (hs:swapsWith (.Call (.Attribute (.Name x np) "append" apos) (e::es) [] cpos) none pos.line X.env=pure false:=by rfl) :
  WDS X (.Expr (.Call (.Attribute (.Name x np) "append" apos) (e::es) [] cpos) pos) (Ls i te):=⟨Dl.yc (lO (Ey PySem.F.plainAttrs_list PySem.F.slot_list_append PySem.F.type_list_append oX hv.h ha.h hbase hfew hline hst hplain) hs)⟩
theorem cU {i:Nat}{x:Str}{e ej:Expr}{es:List Expr}{apos cpos np sp pos:Pos} (hv:WV X (.Name x np) i) (hj:WD X ej tj) (ha:WDA X (e::es) (bD te gJ)) (hpx:rC ej:=by exact fun _ _=>rfl)
  (hbase:attributeBase (.Subscript (.Name x np) ej sp) "append" X.env (eval (.Subscript (.Name x np) ej sp) X.env)=eval (.Subscript (.Name x np) ej sp) X.env:=by rfl)
  (hfew:zW X cpos (e::es):=by rfl)
  (hline:(apos.endLine == cpos.line)=true:=by rfl) (hst:zS X e es:=by rfl) (hplain:zP X cpos es:=by rfl)
  (hs:swapsWith (.Call (.Attribute (.Subscript (.Name x np) ej sp) "append" apos) (e::es) [] cpos) none pos.line X.env=pure false:=by rfl) :
  WDS X (.Expr (.Call (.Attribute (.Subscript (.Name x np) ej sp) "append" apos) (e::es) [] cpos) pos) (yj i tj te):=⟨Dl.cU (lO (Ey PySem.F.plainAttrs_list PySem.F.slot_list_append PySem.F.type_list_append oX (je cQ hv.h hj.h hpx) ha.h hbase hfew hline hst hplain) hs)⟩
theorem q9 {i:Nat}{x:Str}{ek e:Expr}{np pos' pos:Pos} (hu:X.A.units+64<cLine) (hv:WV X (.Name x np) i) (hk:WD X ek tk) (he:WD X e tv) (hs:swapsWith e (some (.Subscript (.Name x np) ek pos')) pos.line X.env=pure false:=by rfl) :
  WDS X (.Assign [.Subscript (.Name x np) ek pos'] e pos) (Lr i tk tv):=⟨Dl.q9 (M8 (hu1 hu) hv.h hk.h he.h hs)⟩
theorem yg {i:Nat}{x:Str} (hN:X.N.Nodup) (hi:X.N[i]?=some x) (hx:Loc X.env.scope x) (hf:zL X x:=by first | exact .inl rfl | exact .inr rfl | assumption):WDG X (.Name x pos) (gNm i):=⟨Dl.yg (Nj hN hi hx hf)⟩
theorem oA {i:Int}{j:Nat}:WD X (.Constant (.int i) j pos) (tK (.int i)):=⟨Dl.oA ⟩
theorem Ez {i:Bool}{j:Nat}:WD X (.Constant (.bool i) j pos) (tK (.bool i)):=⟨Dl.Ez ⟩
theorem wU {j:Nat}:WD X (.Constant .none j pos) (tK .none):=⟨Dl.wU ⟩
theorem wO {x:Str}{j:Nat}:WD X (.Constant (.str x) j pos) (tK (.str x)):=⟨Dl.wO ⟩
theorem wJ {e:Expr}{t:DE} (h:WD X e t) (he:∀ whole,isTrue e X.env whole=(do let v ← whole; standAt e.pos; holding [v] (truthy v)):=by intro _; rfl):WDT X e (cJ t):=⟨Dl.wJ (h:=h.h) (he:=he)⟩
theorem wK {t:DT} (ha:WDT X a t):WDT X (.UnaryOp .Not a pos) (Vv t):=⟨Dl.wK (ha:=ha.h)⟩
theorem lQ (ha:WDT X a t):WDW X (.BoolOp .And [a] pos) t:=⟨Dl.lQ (ha:=ha.h)⟩
theorem cY (ha:WDT X a t):WDW X (.BoolOp .Or [a] pos) t:=⟨Dl.cY (ha:=ha.h)⟩
theorem qO {rest:List Expr} (ha:WDT X a t) (hb:WDW X (.BoolOp .And (b::rest) pos) u):WDW X (.BoolOp .And (a::b::rest) pos) (Ph t u):=⟨Dl.qO (ha:=ha.h) (hb:=hb.h)⟩
theorem dD {rest:List Expr} (ha:WDT X a t) (hb:WDW X (.BoolOp .Or (b::rest) pos) u):WDW X (.BoolOp .Or (a::b::rest) pos) (dOr t u):=⟨Dl.dD (ha:=ha.h) (hb:=hb.h)⟩
theorem lR :WDA X [] gJ:=⟨Dl.lR ⟩
theorem fZ (ha:WD X e te) (hr:WDA X es t) (hs:zS X e es:=by rfl):WDA X (e::es) (bD te t):=⟨Dl.fZ (ha:=ha.h) (hr:=hr.h) (hs:=hs)⟩
theorem qQ (h:WDA X es t):WD X (.List es pos) (PL t):=⟨Dl.qQ (h:=h.h)⟩
theorem lU {x1} (h:WDA X es t):WD X (.Tuple es x1 pos) (j9 t):=⟨Dl.lU (h:=h.h)⟩
theorem gQ (ha:WD X a ta) (hb:WD X b tb):WD X (.BinOp a .Sub b pos) (t2 (gI0 fun i j=>.int (i - j)) ta tb):=⟨Dl.gQ (ha:=ha.h) (hb:=hb.h)⟩
theorem qT (ha:WD X a ta) (hb:WD X b tb):WD X (.BinOp a .FloorDiv b pos) (t2 (gI TQ fun i j=>.int (i / j)) ta tb):=⟨Dl.qT (ha:=ha.h) (hb:=hb.h)⟩
theorem sI (ha:WD X a ta) (hb:WD X b tb):WD X (.BinOp a .Mod b pos) (t2 (gI (fun _ j=>0<j) fun i j=>.int (i % j)) ta tb):=⟨Dl.sI (ha:=ha.h) (hb:=hb.h)⟩
theorem wQ (ha:WD X a ta) (hb:WD X b tb):WD X (.BinOp a .Pow b pos) (t2 (gI TJ fun i j=>.int (i ^ j.toNat)) ta tb):=⟨Dl.wQ (ha:=ha.h) (hb:=hb.h)⟩
theorem JQ (ha:WD X a ta) (hb:WD X b tb):WD X (.Compare a [.Gt] [b] pos) (t2 (gI0 fun i j=>.bool (decide (j<i))) ta tb):=⟨Dl.JQ (ha:=ha.h) (hb:=hb.h)⟩
theorem wL (ha:WD X a ta) (hb:WD X b tb):WDT X (.Compare a [.Lt] [b] pos) (cJ (t2 (gI0 fun i j=>.bool (decide (i<j))) ta tb)):=⟨Dl.wL (ha:=ha.h) (hb:=hb.h)⟩
theorem wM (ha:WD X a ta) (hb:WD X b tb):WDT X (.Compare a [.Gt] [b] pos) (cJ (t2 (gI0 fun i j=>.bool (decide (j<i))) ta tb)):=⟨Dl.wM (ha:=ha.h) (hb:=hb.h)⟩
theorem Ce (ha:WD X a ta) (hb:WD X b tb):WDT X (.Compare a [.GtE] [b] pos) (cJ (t2 (gI0 fun i j=>.bool (decide (j<=i))) ta tb)):=⟨Dl.Ce (ha:=ha.h) (hb:=hb.h)⟩
theorem eO {ps:Pos} (hm:X.mg "len"=none) (ha:WDA X [a] t) (hg:Gl X "len":=by rfl) (he:zS X a []:=by rfl) (hpl:zP X pos []:=by rfl):WD X (.Call (.Name "len" ps) [a] [] pos) (tCl Oz t):=⟨Dl.eO (hm:=hm) (ha:=ha.h) (hg:=hg) (he:=he) (hpl:=hpl)⟩
theorem qR {ps:Pos} (hm:X.mg "int"=none) (hv:bootBuiltins "int"=some (.type "int")) (ha:WDA X [a] t) (hg:Gl X "int":=by rfl) (he:zS X a []:=by rfl) (hpl:zP X pos []:=by rfl):WD X (.Call (.Name "int" ps) [a] [] pos) (tCl S5 t):=⟨Dl.qR (hm:=hm) (hv:=hv) (ha:=ha.h) (hg:=hg) (he:=he) (hpl:=hpl)⟩
theorem Dm :WDSs X [] Ar:=⟨Dl.Dm ⟩
theorem xZ {st:Stmt}{rest:List Stmt} (h1:WDS X st t) (h2:WDSs X rest u):WDSs X (st::rest) (Dw t u):=⟨Dl.xZ (h1:=h1.h) (h2:=h2.h)⟩
theorem ud {st:Stmt} (h1:WDS X st t):WDSs X [st] t:=⟨Dl.ud (h1:=h1.h)⟩
theorem uc (he:WD X e te):WDS X (.Return (some e) pos) (Aq te):=⟨Dl.uc (he:=he.h)⟩
theorem Lh {c:Expr}{a b:List Stmt}{tc:DT} (hc:WDT X c tc) (ha:WDSs X a t) (hb:WDSs X b u):WDS X (.If c a b pos) (dIf tc t u):=⟨Dl.Lh (hc:=hc.h) (ha:=ha.h) (hb:=hb.h)⟩
theorem xY (he:WD X e te) (hs:swapsWith e none pos.line X.env=pure false:=by rfl):WDS X (.Expr e pos) (Qw te):=⟨Dl.xY (he:=he.h) (hs:=hs)⟩
theorem yd :WDGs X [] KH:=⟨Dl.yd ⟩
theorem uh {g:DG}{gs:DGs} (h1:WDG X e g) (h2:WDGs X es gs) (hs:(assignEach (e::es) X.env).map (·.2)=assign e X.env::(assignEach es X.env).map (·.2):=by rfl):WDGs X (e::es) (xT g gs):=⟨Dl.uh (h1:=h1.h) (h2:=h2.h) (hs:=hs)⟩
theorem eX {gs:DGs}{k n:Nat} (hc:X.calm=true) (h:WDGs X es gs) (hn:(assignEach es X.env).length=n:=by rfl) (hst:(assignEach es X.env).findIdx? (·.1)=none:=by rfl):WDG X (.Tuple es k pos) (gTp n gs):=⟨Dl.eX (hc:=hc) (h:=h.h) (hn:=hn) (hst:=hst)⟩
theorem Dt (hl:WD X l tl):WDI X tg l (iSq tl):=⟨Dl.Dt (hl:=hl.h)⟩
theorem pB {a:Expr}{ps:Pos} (hm:X.mg "range"=none) (ha:WDA X [a] ta) (hg:Gl X "range":=by rfl) (hs:starEach [a] X.env=[(false,eval a X.env)]:=by rfl):WDI X tg (.Call (.Name "range" ps) [a] [] pos) (iR1 ta):=⟨Dl.pB (hm:=hm) (ha:=ha.h) (hg:=hg) (hs:=hs)⟩
theorem pA {a b:Expr}{ps:Pos} (hm:X.mg "range"=none) (ha:WDA X [a,b] ta) (hg:Gl X "range":=by rfl) (hs:starEach [a,b] X.env=[(false,eval a X.env),(false,eval b X.env)]:=by rfl) (hs2:starEach [b] X.env=[(false,eval b X.env)]:=by rfl):WDI X tg (.Call (.Name "range" ps) [a,b] [] pos) (iR2 ta):=⟨Dl.pA (hm:=hm) (ha:=ha.h) (hg:=hg) (hs:=hs) (hs2:=hs2)⟩
theorem rA {elts:List Expr}{kk:Nat}{tpos:Pos}{a:Expr}{ps:Pos} (hm:X.mg "enumerate"=none) (ha:WDA X [a] ta) (hg:Gl X "enumerate":=by rfl) (hs:starEach [a] X.env=[(false,eval a X.env)]:=by rfl):WDI X (.Tuple elts kk tpos) (.Call (.Name "enumerate" ps) [a] [] pos) (iEn ta):=⟨Dl.rA (hm:=hm) (ha:=ha.h) (hg:=hg) (hs:=hs)⟩
theorem Dq {body:List Stmt} (hp:PassesOwn (model X.prog X.w) X.A X.env X.xe) (hc:X.calm=true) (hi:WDI X tg iter ti) (hg:WDG X tg g) (hb:WDSs X body tb) (hs:zF X iter:=by intro _; rfl):WDS X (.For tg iter body [] pos) (Vw ti g tb):=⟨Dl.Dq (hp:=hp) (hc:=hc) (hi:=hi.h) (hg:=hg.h) (hb:=hb.h) (hs:=hs)⟩
theorem nD {body:List Stmt}{c:Expr}{tc:DT} (hp:PassesOwn (model X.prog X.w) X.A X.env X.xe) (hc:WDT X c tc) (hb:WDSs X body tb):WDS X (.While c body [] pos) (Ln tc tb):=⟨Dl.nD (hp:=hp) (hc:=hc.h) (hb:=hb.h)⟩
theorem qZ {X:Cx}:WDTs X [] (fun _ P=>P true):=⟨Dl.qZ ⟩
theorem xW {X:Cx}{c:Expr}{t:DT} (hc:WDT X c t):WDTs X [c] t:=⟨Dl.xW (hc:=hc.h)⟩
theorem JM (own:List Str) (hc:X.calm=true) (hi:WDI X tg iter ti) (hg:∀ c,WDG (X.comp own scope c) tg g) (ht:∀ c,WDTs (X.comp own scope c) ifs tt) (he:∀ c,WD (X.comp own scope c) elt te) (hk:eY X.env scope X.N=true:=by rfl) (hs:zF X iter:=by intro _; rfl):WD X (.ListComp elt [⟨tg,iter,ifs,0⟩] scope pos) (dLC own.length ti g tt te):=⟨Dl.JM (own:=own) (hc:=hc) (hi:=hi.h) (hg:=fun c=>(hg c).h) (ht:=fun c=>(ht c).h) (he:=fun c=>(he c).h) (hk:=hk) (hs:=hs)⟩
theorem kJ {p1 p2 pos1 pos2:Pos} (hc:X.calm=true) (hml:X.mg "list"=none) (hmz:X.mg "zip"=none) (ha:WDA X [a,b] t) (hgl:Gl X "list":=by rfl) (hgz:Gl X "zip":=by rfl) (e1:starEach [.Call (.Name "zip" p2) [a,b] [] pos2] X.env=[(false,eval (.Call (.Name "zip" p2) [a,b] [] pos2) X.env)]:=by rfl) (e2:starEach [a,b] X.env=(false,eval a X.env)::starEach [b] X.env:=by rfl) (e3:(backTo pos2 (starEach [b] X.env)).any (·.1)=false:=by rfl):WD X (.Call (.Name "list" p1) [.Call (.Name "zip" p2) [a,b] [] pos2] [] pos1) (tCl SN t):=⟨Dl.kJ (hc:=hc) (hml:=hml) (hmz:=hmz) (ha:=ha.h) (hgl:=hgl) (hgz:=hgz) (e1:=e1) (e2:=e2) (e3:=e3)⟩
theorem sH (ha:WD X a ta):WD X (.UnaryOp .Not a pos) (PK ta):=⟨Dl.sH (ha:=ha.h)⟩
theorem cR {op} (h:WD X a ta):WD X (.BoolOp op [a] pos) ta:=⟨Dl.cR (h:=h.h)⟩
theorem sS {rest:List Expr} (ha:WD X a ta) (hb:WD X (.BoolOp .And (b::rest) pos) tb):WD X (.BoolOp .And (a::b::rest) pos) (Eh ta tb):=⟨Dl.sS (ha:=ha.h) (hb:=hb.h)⟩
theorem JL {rest:List Expr} (ha:WD X a ta) (hb:WD X (.BoolOp .Or (b::rest) pos) tb):WD X (.BoolOp .Or (a::b::rest) pos) (T9 ta tb):=⟨Dl.JL (ha:=ha.h) (hb:=hb.h)⟩
theorem lW {u:DT} (hc:WDT X c u) (ha:WD X a ta) (hb:WD X b tb):WD X (.IfExp c a b pos) (QL u ta tb):=⟨Dl.lW (hc:=hc.h) (ha:=ha.h) (hb:=hb.h)⟩
theorem oE {ps:Pos} (hc:X.calm=true) (hm:X.mg "all"=none) (hv:bootBuiltins "all"=some (.builtin "all")) (ha:WDA X [a] t) (hg:Gl X "all":=by rfl) (he:zS X a []:=by rfl) (hpl:zP X pos []:=by rfl):WD X (.Call (.Name "all" ps) [a] [] pos) (tCl S8 t):=⟨Dl.oE (hc:=hc) (hm:=hm) (hv:=hv) (ha:=ha.h) (hg:=hg) (he:=he) (hpl:=hpl)⟩
theorem wX {ps:Pos} (hc:X.calm=true) (hm:X.mg "max"=none) (ha:WDA X [a,b] t) (hg:Gl X "max":=by rfl) (he:starEach [a,b] X.env=(false,eval a X.env)::starEach [b] X.env:=by rfl) (hpl:(backTo pos (starEach [b] X.env)).any (·.1)=false:=by rfl):WD X (.Call (.Name "max" ps) [a,b] [] pos) (tCl (gMM fun i j=>if j > i then j else i) t):=⟨Dl.wX (hc:=hc) (hm:=hm) (ha:=ha.h) (hg:=hg) (he:=he) (hpl:=hpl)⟩
theorem lV {ps:Pos} (hm:X.mg "tuple"=none) (ha:WDA X [a] t) (hg:Gl X "tuple":=by rfl) (he:zS X a []:=by rfl) (hpl:zP X pos []:=by rfl):WD X (.Call (.Name "tuple" ps) [a] [] pos) (tCl KN t):=⟨Dl.lV (hm:=hm) (ha:=ha.h) (hg:=hg) (he:=he) (hpl:=hpl)⟩
theorem su {ps:Pos} (hm:X.mg "sorted"=none) (ha:WDA X [a] t) (hg:Gl X "sorted":=by rfl) (he:zS X a []:=by rfl) (hpl:zP X pos []:=by rfl):WD X (.Call (.Name "sorted" ps) [a] [] pos) (tCl CZ t):=⟨Dl.su (hm:=hm) (ha:=ha.h) (hg:=hg) (he:=he) (hpl:=hpl)⟩
theorem rZ {ps:Pos} (hm:X.mg "sorted"=none) (ha:WDA X [a] t) (hg:Gl X "sorted":=by rfl) (he:zS X a []:=by rfl) (hpl:zP X pos []:=by rfl):WD X (.Call (.Name "sorted" ps) [a] [] pos) (tCl CW t):=⟨Dl.rZ (hm:=hm) (ha:=ha.h) (hg:=hg) (he:=he) (hpl:=hpl)⟩
theorem zf (hu:X.A.units+64<cLine) (ha:WD X a ta) (hb:WD X b tb) (hm:behindInMarks .In b=false:=by rfl):WD X (.Compare a [.In] [b] pos) (t2 (gIn false) ta tb):=⟨Dl.zf (hu:=hu) (ha:=ha.h) (hb:=hb.h) (hm:=hm)⟩
theorem jf (hu:X.A.units+64<cLine) (ha:WD X a ta) (hb:WD X b tb) (hm:behindInMarks .NotIn b=false:=by rfl):WD X (.Compare a [.NotIn] [b] pos) (t2 (gIn true) ta tb):=⟨Dl.jf (hu:=hu) (ha:=ha.h) (hb:=hb.h) (hm:=hm)⟩
theorem oh (hu:X.A.units+64<cLine) (ha:WD X a ta) (hb:WD X b tb) (hm:behindInMarks .In b=false:=by rfl):WDT X (.Compare a [.In] [b] pos) (cJ (t2 (gIn false) ta tb)):=⟨Dl.oh (hu:=hu) (ha:=ha.h) (hb:=hb.h) (hm:=hm)⟩
theorem n8 (hu:X.A.units+64<cLine) (ha:WD X a ta) (hb:WD X b tb) (hm:behindInMarks .NotIn b=false:=by rfl):WDT X (.Compare a [.NotIn] [b] pos) (cJ (t2 (gIn true) ta tb)):=⟨Dl.n8 (hu:=hu) (ha:=ha.h) (hb:=hb.h) (hm:=hm)⟩
theorem rm :WDO X none Ql:=⟨Dl.rm ⟩
theorem fJ (h:WD X e te):WDO X (some e) (Qk te):=⟨Dl.fJ (h:=h.h)⟩
theorem jg (ha:WD X a ta):WD X (.UnaryOp .USub a pos) (Uc ta):=⟨Dl.jg (ha:=ha.h)⟩
theorem dc {f:List D->(D->Prop)->Prop} (C:Cal X.prog X.w X.K X.mg X.base k x ps (spD f)) (hr:Room j X.A) (ha:WDA X (e::es) t) (hk:k<=j:=by decide) (hg:Gl X x:=by rfl) (hdb:zB x:=by decide) (he:zS X e es:=by rfl) (hpl:zP X pos es:=by rfl):WD X (.Call (.Name x p) (e::es) [] pos) (tFn f t):=⟨Dl.dc (C:=C) (hr:=hr) (ha:=ha.h) (hk:=hk) (hg:=hg) (hdb:=hdb) (he:=he) (hpl:=hpl)⟩
theorem dcP {C:Pn->Prop}{i:Nat}{f:List D->(D->Prop)->Prop}{y:Str}{py:Pos} (CC:Cal X.prog X.w X.K X.mg X.base k x ps (spP C f)) (hr:Room j X.A) (hi:WV X (.Name y py) i) (ha:WDA X es t) (hk:k<=j:=by decide) (hg:Gl X x:=by rfl) (hdb:zB x:=by decide) (he:starEach (.Name y py::es) X.env=(false,eval (.Name y py) X.env)::starEach es X.env:=by rfl) (hpl:zP X pos es:=by rfl):WD X (.Call (.Name x p) (.Name y py::es) [] pos) (Bs C f i t):=⟨Dl.dcP (CC:=CC) (hr:=hr) (hi:=hi.h) (ha:=ha.h) (hk:=hk) (hg:=hg) (hdb:=hdb) (he:=he) (hpl:=hpl)⟩
theorem dv (i:Nat) {x:Str}{pos:Pos} (hN:X.N[i]?=some x:=by rfl) (hv:Vis X.env.scope x:=by first | exact Or.inl rfl | exact Or.inr (Or.inl rfl) | exact Or.inr (Or.inr rfl)) (hd:zB x:=by decide) (hcd:(x == ("__classdict__":Str))=false:=by decide):WD X (.Name x pos) (tV i):=⟨Dl.dv (i:=i) (hN:=hN) (hv:=hv) (hd:=hd) (hcd:=hcd)⟩
theorem kI (ha:WD X a ta) (hb:WD X b tb):WDT X (.Compare a [.IsNot] [b] pos) (cJ (t2 Fy ta tb)):=⟨Dl.kI (ha:=ha.h) (hb:=hb.h)⟩
theorem Cg (ha:WD X a ta) (hb:WD X b tb):WD X (.Compare a [.Is] [b] pos) (t2 Hl ta tb):=⟨Dl.Cg (ha:=ha.h) (hb:=hb.h)⟩
theorem gP (ha:WD X a ta) (hb:WD X b tb):WDT X (.Compare a [.Is] [b] pos) (cJ (t2 Hl ta tb)):=⟨Dl.gP (ha:=ha.h) (hb:=hb.h)⟩
theorem dcF [Gr] {f:FX}{t:DA} (C:Cal1 X.prog X.w X.K X.mg X.base k x ps (spX f)) (hr:Room j X.A) (ha:WDA X (e::es) t) (hk:k<=j:=by decide) (hg:Gl X x:=by rfl) (hdb:zB x:=by decide) (he:zS X e es:=by rfl) (hpl:zP X pos es:=by rfl):WD X (.Call (.Name x p) (e::es) [] pos) (Gp f (fun _=>False) t):=⟨Dl.dcF (C:=C) (hr:=hr) (ha:=ha.h) (hk:=hk) (hg:=hg) (hdb:=hdb) (he:=he) (hpl:=hpl)⟩
theorem ou {ps ps':Pos} (hc:X.calm=true) (hs:X.mg "set"=none) (hl:X.mg "len"=none) (ha:WDA X [a] t) (hgs:Gl X "set":=by rfl) (hgl:Gl X "len":=by rfl) (he:zS X a []:=by rfl) (hpl:zP X pos []:=by rfl) (he':starEach [Expr.Call (.Name "set" ps) [a] [] pos] X.env=(false,eval (Expr.Call (.Name "set" ps) [a] [] pos) X.env)::starEach [] X.env:=by rfl) (hpl':(backTo pos' (starEach [] X.env)).any (·.1)=false:=by rfl):WD X (.Call (.Name "len" ps') [.Call (.Name "set" ps) [a] [] pos] [] pos') (tCl Fz t):=⟨Dl.ou (hc:=hc) (hs:=hs) (hl:=hl) (ha:=ha.h) (hgs:=hgs) (hgl:=hgl) (he:=he) (hpl:=hpl) (he':=he') (hpl':=hpl')⟩
theorem JN (ha:WD X a ta) (hb:WD X b tb) (hs:rC b:=by exact fun _ _=>rfl):WD X (.Subscript a b pos) (t2 gIx ta tb):=⟨Dl.JN (ha:=ha.h) (hb:=hb.h) (hs:=hs)⟩
theorem wR (ha:WD X a ta) (hb:WD X b tb):WD X (.BinOp a .Add b pos) (t2 pY ta tb):=⟨Dl.wR (ha:=ha.h) (hb:=hb.h)⟩
theorem gb (ha:WD X a ta) (hb:WD X b tb):WD X (.BinOp a .Mult b pos) (t2 KQ ta tb):=⟨Dl.gb (ha:=ha.h) (hb:=hb.h)⟩
theorem fL (hu:X.A.units+64<cLine) (ha:WD X a ta) (hb:WD X b tb):WD X (.Compare a [.Eq] [b] pos) (t2 (o7 false) ta tb):=⟨Dl.fL (hu:=hu) (ha:=ha.h) (hb:=hb.h)⟩
theorem fB (hu:X.A.units+64<cLine) (ha:WD X a ta) (hb:WD X b tb):WDT X (.Compare a [.Eq] [b] pos) (cJ (t2 (o7 false) ta tb)):=⟨Dl.fB (hu:=hu) (ha:=ha.h) (hb:=hb.h)⟩
theorem jN (hu:X.A.units+64<cLine) (ha:WD X a ta) (hb:WD X b tb):WDT X (.Compare a [.NotEq] [b] pos) (cJ (t2 (o7 true) ta tb)):=⟨Dl.jN (hu:=hu) (ha:=ha.h) (hb:=hb.h)⟩
theorem Dp {rest:List Stmt} (i:Nat) (h:WDSs X rest t):WDSs X rest (Tq i t):=⟨Dl.Dp (i:=i) (h:=h.h)⟩
theorem Lg {rest:List Stmt} (i:Nat) (b:Bool) (h:WDSs X rest t):WDSs X rest (dSp i b t):=⟨Dl.Lg (i:=i) (b:=b) (h:=h.h)⟩
theorem uf {rest:List Stmt} (js:List Nat) (h:WDSs X rest t):WDSs X rest (yp js t):=⟨Dl.uf (js:=js) (h:=h.h)⟩
theorem qU :WD X (.Dict [] [] pos) (fun _ P=>P .new (.dict [])):=⟨Dl.qU ⟩
theorem wY (N:List Str) (sc:Scope) (tm:Tm) (h:okT N sc tm e=true) (hN:X.N=N:=by rfl) (hs:X.env.scope=sc:=by rfl) (s:smT tm=true:=by decide +kernel):WD X e (QK tm):=⟨Dl.wY (N:=N) (sc:=sc) (tm:=tm) (h:=h) (hN:=hN) (hs:=hs) (s:=s)⟩
theorem wN (n:Nat) (N:List Str) (sc:Scope) (ts:Tms) {t2:DA} (h2:WDA X (es.drop n) t2) (h:kZ N sc ts (es.take n)=true) (hN:X.N=N:=by rfl) (hs:X.env.scope=sc:=by rfl) (s:jT 1000 ts=true:=by decide +kernel):WDA X es (Tw ts t2):=⟨Dl.wN (n:=n) (N:=N) (sc:=sc) (ts:=ts) (h2:=h2.h) (h:=h) (hN:=hN) (hs:=hs) (s:=s)⟩
theorem u5 {lo hi:Option Expr}{tl th:DO} (he:WD X e te) (hl:WDO X lo tl) (hh:WDO X hi th):WD X (.Subscript e (.Slice lo hi none p2) pos) (T6 te tl th):=⟨Dl.u5 (he:=he.h) (hl:=hl.h) (hh:=hh.h)⟩
theorem sJ (ha:WD X a ta) (hb:WD X b tb):WD X (.Dict [some a] [b] pos) (tD1 ta tb):=⟨Dl.sJ (ha:=ha.h) (hb:=hb.h)⟩
theorem eG (hu:X.A.units+64<cLine) (ha:WD X a ta) (hb:WD X b tb) (hm:behindInMarks .NotIn b=false:=by rfl):WDT X (.Compare a [.NotIn] [b] pos) (cJ (t2 (OD true) ta tb)):=⟨Dl.eG (hu:=hu) (ha:=ha.h) (hb:=hb.h) (hm:=hm)⟩
theorem qW (hu:X.A.units+64<cLine) (ha:WD X a ta) (hb:WD X b tb) (hs:Py b:=by exact fun _ _=>rfl):WD X (.Subscript a b pos) (t2 KR ta tb):=⟨Dl.qW (hu:=hu) (ha:=ha.h) (hb:=hb.h) (hs:=hs)⟩
theorem qP (h:WD X e te) (he:∀ whole,isTrue e X.env whole=(do let v ← whole; standAt e.pos; holding [v] (truthy v)):=by intro _; rfl):WDT X e (T4 te):=⟨Dl.qP (h:=h.h) (he:=he)⟩
theorem Du {es:List Expr}{gs:DGs}{k n:Nat} (hc:X.calm=true) (h:WDGs X es gs) (hn:(assignEach es X.env).length=n:=by rfl) (hst:(assignEach es X.env).findIdx? (·.1)=none:=by rfl):WDG X (.Tuple es k pos) (gTL n gs):=⟨Dl.Du (hc:=hc) (h:=h.h) (hn:=hn) (hst:=hst)⟩
theorem wV {ps:Pos} (hc:X.calm=true) (hm:X.mg "min"=none) (ha:WDA X [a] t) (hg:Gl X "min":=by rfl) (he:zS X a []:=by rfl) (hpl:zP X pos []:=by rfl):WD X (.Call (.Name "min" ps) [a] [] pos) (tCl (Hj (fun i j=>if j<i then j else i) (fun M a=>M<=a)) t):=⟨Dl.wV (hc:=hc) (hm:=hm) (ha:=ha.h) (hg:=hg) (he:=he) (hpl:=hpl)⟩
theorem wW {ps:Pos} (hc:X.calm=true) (hm:X.mg "max"=none) (ha:WDA X [a] t) (hg:Gl X "max":=by rfl) (he:zS X a []:=by rfl) (hpl:zP X pos []:=by rfl):WD X (.Call (.Name "max" ps) [a] [] pos) (tCl (Hj (fun i j=>if j > i then j else i) (fun M a=>a<=M)) t):=⟨Dl.wW (hc:=hc) (hm:=hm) (ha:=ha.h) (hg:=hg) (he:=he) (hpl:=hpl)⟩
theorem sE {ps:Pos} (hc:X.calm=true) (hm:X.mg "sorted"=none) (ha:WDA X [a] t) (hg:Gl X "sorted":=by rfl) (he:zS X a []:=by rfl) (hpl:zP X pos []:=by rfl):WD X (.Call (.Name "sorted" ps) [a] [] pos) (tCl Dc t):=⟨Dl.sE (hc:=hc) (hm:=hm) (ha:=ha.h) (hg:=hg) (he:=he) (hpl:=hpl)⟩
theorem eN (ha:WD X a ta) (hb:WD X b tb):WDT X (.Compare a [.IsNot] [b] pos) (cJ (t2 Fx ta tb)):=⟨Dl.eN (ha:=ha.h) (hb:=hb.h)⟩
theorem Ci {ps:Pos} (hc:X.calm=true) (hm:X.mg "any"=none) (ha:WDA X [a] t) (hg:Gl X "any":=by rfl) (he:zS X a []:=by rfl) (hpl:zP X pos []:=by rfl):WD X (.Call (.Name "any" ps) [a] [] pos) (tCl S7 t):=⟨Dl.Ci (hc:=hc) (hm:=hm) (ha:=ha.h) (hg:=hg) (he:=he) (hpl:=hpl)⟩
end
section
theorem dcX {f:FX}{Hb:Hp}{t:DA}{E:XK}{x:Str}{p pos:Pos}{e:Expr}{es:List Expr} (C:Cal1 X.prog X.w X.K X.mg X.base k x ps (spX f)) (hr:Room j X.A) (hx:Passes (CX1 X.prog X.w) X E) (ha:@WDA (grX Hb) X (e::es) t) (hk:k<=j:=by decide) (hg:Gl X x:=by rfl)
  (hdb:zB x:=by decide) (he:zS X e es:=by rfl) (hpl:zP X pos es:=by rfl) :
  @WD (grX Hb) X (.Call (.Name x p) (e::es) [] pos) (Gp f (Rz E Hb) t):=@WD.mk (grX Hb) _ _ _ (Dl.dcX C hr hx (@WDA.h (grX Hb) _ _ _ ha) hk hg hdb he hpl)
theorem nG {Hb:Hp}{t:DA}{C:Addr}{E:XK}{x:Str}{pos:Pos}{e:Expr}{es:List Expr}{newId Bn initId:String}{bmB:List Value}{np cpos:Pos} (L:Lets X E) (hc:X.calm=true) (hg:Gl X x) (hm:X.mg x=some (.ref C)) (hx:ExcCls X.K C newId bmB) (B:ExcBaseFacts Bn newId initId bmB) (ha:@WDA (grX Hb) X (e::es) t) (hdb:zB x:=by decide)
  (he:zS X e es:=by rfl) (hpl:(backTo cpos (starEach (e::es) X.env)).any (·.1)=false:=by rfl) (hcons:backTo cpos (starEach (e::es) X.env)=(false,eval e X.env)::backTo cpos (starEach es X.env):=by rfl) :
  @WDS (grX Hb) X (.Raise (some (.Call (.Name x np) (e::es) [] cpos)) none pos) (Lq (Rz E Hb) C t):=@WDS.mk (grX Hb) _ _ _ (Dl.nG L hc hg hm hx B (@WDA.h (grX Hb) _ _ _ ha) hdb he hpl hcons)
theorem bU [Gr] {T:String}{x:Str}{e:Expr}{te:DE}{ps pt pos:Pos} (hk:∀ t:Value,(t=.type "NoneType"\/t=.type "bool"\/t=.type "int"\/t=.type "str"\/t=.type "list"\/t=.type "tuple"\/t=.type "dict")->∃ n,t=.type n/\W.kitOne X.K t (.type T)=some (n == T || (T == "int"&&n == "bool")))
  (hm:X.mg "isinstance"=none) (he:WD X e te) (hT:WC X (.Name x pt) (.ty T)) (hg:Gl X "isinstance":=by rfl) (h1:starEach [e,.Name x pt] X.env=(false,eval e X.env)::starEach [.Name x pt] X.env:=by rfl) (h2:starEach [.Name x pt] X.env=(false,eval (.Name x pt) X.env)::starEach [] X.env:=by rfl) (hpl:(backTo pos (starEach [.Name x pt] X.env)).any (·.1)=false:=by rfl) :
  WD X (.Call (.Name "isinstance" ps) [e,.Name x pt] [] pos) (tIs T te):=⟨Dl.bU hk hm he.h hT.h hg h1 h2 hpl⟩
end
end Wr
set_option autoImplicit false
set_option autoImplicit true
namespace Wr
open PySem L2 PyProof.Rows Dl
section
variable [Gr] {X:Cx}{tj te:DE}
theorem ug {elts:List Expr}{kk:Nat}{tpos pos:Pos}{a:Expr}{ps:Pos} (hm:X.mg "enumerate"=none) (ha:WDA X [a] ta) (hg:Gl X "enumerate":=by rfl) (hs:starEach [a] X.env=[(false,eval a X.env)]:=by rfl):WDI X (.Tuple elts kk tpos) (.Call (.Name "enumerate" ps) [a] [] pos) (Vj ta):=⟨Dl.ug hm ha.h hg hs⟩
end
section
variable [Gr] {X:Cx}{tj te te1 te2 ta:DE}{t:DS}
end
end Wr
namespace Dl
open PySem L2 PyProof.Rows
section
variable {X:Cx}{pins:List (Addr×Obj)}{σ:L2.St}{H:Hp}{s:Shared}{ok ok':Addr->Prop}
end
section
variable {X:Cx}{pos:Pos}{a e:Expr}{te:DE}{t:DA} [Gr]
end
section
variable [Gr]
abbrev DR:=(D->Prop)->List Sl->Prop
structure WishR (p:Pn) (own:Addr->Option Nat) (H:Hp) (P:D->Prop) (Q:Ends):Prop where
 rt:∀ d v H',P d->p.PI H'->(∀ b o,H b=some o->¬ p.fp b->own b=none->H' b=some o)->Rp (fun a=>¬ p.fp a) H' v d->Q.rt v H'
def Ve (t:DR):TS:=fun Q σ H=>∃ p H0 own ρ P,EnvD p H0 own σ H ρ/\t P ρ/\WishR p own H P Q
structure WR (X:Cx) (ss:List Stmt) (t:DR):Prop where
 h:PSs X ss (Ve t)
variable {X:Cx}{pos:Pos}{e:Expr}{te:DE}{st:Stmt}{rest:List Stmt}{t:DS}{u:DR}
variable {k j:Nat}{x:Str}{ps:List Str}{es:List Expr}{ta:DA}{p:Pos}
end
end Dl
namespace Wr
open PySem L2 PyProof.Rows Dl
variable [Gr] {X:Cx}{pos:Pos}{a:Expr}{t:DA}
end Wr
namespace L2
open PySem PySem.Spec PyProof.Rows
def TF (K:Ü) (a b:Addr):It :=
 ⟨fun i H=>∃ xs ys x y,SqL K H a xs/\SqL K H b ys/\xs[i]?=some x/\ys[i]?=some y,fun i H v H'=>∃ t x y,v=.ref t/\H t=none/\H'=upd H t (.tup [x,y])/\(∀ xs,SqL K H a xs->xs[i]?=some x)/\∀ ys,SqL K H b ys->ys[i]?=some y,fun i H=>∃ xs ys,SqL K H a xs/\SqL K H b ys/\(xs.length<=i\/ys.length<=i)⟩
theorem Ip {P:Program}{w:World}{K:Ü}{elts:List Expr}{kk:Nat}{pos:Pos}{a b z TI TO i1 i2:Addr} (D:ZipApart z TI TO i1 i2 a b) :
  Turn P w K (.Tuple elts kk pos) (TF K a b) [z,TI,TO,i1,i2] z (fun i h=>IsZip h z TI TO .none/\IsPair h TI (.ref i1) (.ref i2)/\(∃ u v,IsPair h TO u v)/\h.IsListIter i1 a i/\h.IsListIter i2 b i) where
 mem:=by simp
 obj:=fun i h st c hc=>by
  obtain⟨hz,hTI,⟨u,v,hTO⟩,⟨o1,j1,c1,d1⟩,⟨o2,j2,c2,d2⟩⟩:=st
  simp only [Þ,æ,or_false] at hc
  rcases hc with rfl | rfl | rfl | rfl | rfl
  ·exact⟨_,hz,fun v z=>nomatch z⟩
  ·exact⟨_,hTI,fun v z=>nomatch z⟩
  ·exact⟨_,hTO,fun v z=>nomatch z⟩
  ·exact⟨o1,j1,fun v z=>by rw [d1] at z; cases z⟩
  ·exact⟨o2,j2,fun v z=>by rw [d2] at z; cases z⟩
 keep:=fun i h h' st k=>by
  obtain⟨hz,hTI,⟨u,v,hTO⟩,⟨o1,j1,r1⟩,⟨o2,j2,r2⟩⟩:=st
  exact⟨k z (by simp) _ hz,k TI (by simp) _ hTI,⟨u,v,k TO (by simp) _ hTO⟩,⟨o1,k i1 (by simp) _ j1,r1⟩,⟨o2,k i2 (by simp) _ j2,r2⟩⟩
 item:=by
  intro X hP hw hK hc i pins s σ H E I hf st hg
  subst hP hw hK
  obtain⟨xs,ys,x,y,hq,hq2,hx,hy⟩:=hg
  obtain⟨its,rv,pl,hz1⟩:=I.list hq
  obtain⟨its2,rv2,pl2,hz2⟩:=I.list hq2
  obtain⟨u,hu,ru⟩:=rv.get hx
  obtain⟨u2,hu2,ru2⟩:=rv2.get hy
  obtain⟨hz,hTI,hTO,h1,h2⟩:=st
  have W:=WalksT.zip2 (prog:=X.prog) (w:=X.w) (A:=X.A) (I.ok.hd hc) z TI TO i1 i2 a b D its.toArray its2.toArray
  have l1:=(Æ.mp hu).1
  have l2:=(Æ.mp hu2).1
  refine W.item i s _ _ (by simp; omega) ⟨hz,hTI,hTO,h1,h2,pl.isList,pl2.isList⟩ fun T vals h' tk hP hTs hTup hMid hk=>⟨_,rfl,?_⟩
  obtain⟨x',y',e1,e2,rfl⟩:=hP
  have ex:x'=u:=by
   have:its[i]?=some x':=by simpa using e1
   rw [hu] at this
   exact (Õ this).symm
  have ey:y'=u2:=by
   have:its2[i]?=some y':=by simpa using e2
   rw [hu2] at this
   exact (Õ this).symm
  subst ex ey
  have ap:=W.apart i T h' hMid
  refine W.go elts kk pos i T _ _ _ hMid fun h3 hst3 hk3=>?_
  have hTn:H T=none:=I.hok.fresh hTs
  have keep2:∀ c o,c∉[z,TO,i1,i2]->s.heap.get? c=some o->h3.get? c=some o:=fun c o hc q=>hk3 c o hc (hk c o hc q)
  have fz:∀ c∈[z,TO,i1,i2],nR X pins H c:=fun c hc=>hf c (by
   simp only [Þ,æ,or_false] at hc ⊢
   rcases hc with h | h | h | h <;> simp [h])
  have nT:∀ {c:Addr}{y:HO},H c=some y->c∉[z,TO,i1,i2]:=fun {c y} q hc=>by
   have:=(fz c hc).1
   rw [this] at q
   cases q
  obtain⟨oT,hT1,hT2,nn,hT3⟩:=hTup
  have hTup3:IsTup h3 T #[x',y']:=⟨oT,hk3 T oT ap hT1,hT2,nn,hT3⟩
  have J:Inv X pins σ (upd H T (.tup [x,y])) { s with heap:=h3,toks:=tk }:=by
   refine I.step (g':=s.gens) (d':=s.drawn) (t':=tk) (ch:=[z,TO,i1,i2]) (fun c hc=>?_) (fun c o _ _ hcb q _=>keep2 c o hcb q)
    (fun c o _ _ hcb q _=>⟨o.slots,keep2 c o hcb q⟩) (fun c o _ q n=>by rw [aj (à (å (Ê q) hTs))]; exact n)
    (fun c o hcb q=>⟨o,keep2 c o hcb q⟩) (fun c ys q=>by rw [aj (ao q hTn)]; exact q) (fun c o y q=>by rw [aj (ao q hTn)]; exact q)
    (fun c ps q=>⟨#[],by rw [aj (ao q hTn),q]; simp⟩) (fun m hm=>?_) ?_ I.bare
   ·obtain⟨e0,e1,e2,e3,e4,e5⟩:=fz c hc
    exact⟨e3,e1,e4,e5⟩
   ·obtain⟨o,es,ep,ho',r⟩:=hm
    refine⟨o,es,ep,keep2 _ o (fun hc=>?_) ho',r⟩
    exact (fz _ hc).2.1 rfl
   ·intro c u' q
    by_cases hb:c=T
    ·subst hb
     rw [aq] at q
     cases q
     exact⟨(by show 2<=sizeLine; decide),[x',y'],.cons ru (.cons ru2 .nil),hTup3⟩
    ·rw [aj hb] at q
     refine (I.hok c u' q).stay (fun d v hcv y=>keep2 d v ?_ y) (fun d y=>by rw [aj (ao y hTn)]; exact y) fun d ys y=>by rw [aj (ao y hTn)]; exact y
     rcases hcv with rfl | z
     ·exact nT q
     ·exact nT z
  obtain⟨a1,a2,a3,a4,a5,_,_⟩:=hst3
  refine⟨.ref T,_,J,rfl,⟨T,x,y,rfl,hTn,rfl,fun xs' hy'=>by rw [I.mO hy' hq]; exact hx,fun ys' hy'=>by rw [I.mO hy' hq2]; exact hy⟩,⟨a1,a2,a3,a4,a5⟩,fun c hc=>?_⟩
  rw [aj]
  ·exact (hf c hc).1
  ·rintro rfl
   simp only [Þ,æ,or_false] at hc
   have lt:∀ {d:Addr}{o:Obj},s.heap.get? d=some o->c≠d:=fun e=>Ī (å (Ê e) hTs)
   obtain⟨w1,w2,hTO'⟩:=hTO
   obtain⟨o1,j1,_⟩:=h1
   obtain⟨o2,j2,_⟩:=h2
   rcases hc with h | h | h | h | h
   ·exact lt hz h
   ·exact lt hTI h
   ·exact lt hTO' h
   ·exact lt j1 h
   ·exact lt j2 h
 done:=by
  intro X hP hw hK hc i pins s σ H E I hf st hg
  subst hP hw hK
  obtain⟨xs,ys,hq,hq2,he⟩:=hg
  obtain⟨its,rv,pl,hz1⟩:=I.list hq
  obtain⟨its2,rv2,pl2,hz2⟩:=I.list hq2
  obtain⟨hz,hTI,⟨u,v,hTO⟩,h1,h2⟩:=st
  have r1:=rv.length
  have r2:=rv2.length
  refine wpAny_pyNext_zip_end (I.ok.hd hc) D hz hTI hTO h1 h2 pl.isList pl2.isList (xs:=its.toArray) (ys:=its2.toArray) ?_ fun h' hk=>⟨rfl,?_⟩
  ·rcases he with he | he
   ·left; simp; omega
   ·right; simp; omega
  have fz:∀ c∈[z,TO,i1,i2],nR X pins H c:=fun c hc=>hf c (by
   simp only [Þ,æ,or_false] at hc ⊢
   rcases hc with h | h | h | h <;> simp [h])
  have keep2:∀ c o,c∉[z,TO,i1,i2]->s.heap.get? c=some o->h'.get? c=some o:=fun c o hc q=>hk c o (fun e=>hc (by simp [e])) (fun e=>hc (by simp [e])) (fun e=>hc (by simp [e])) (fun e=>hc (by simp [e])) q
  have nT:∀ {c:Addr}{y:HO},H c=some y->c∉[z,TO,i1,i2]:=fun {c y} q hc=>by
   have:=(fz c hc).1
   rw [this] at q
   cases q
  refine I.step (g':=s.gens) (d':=s.drawn) (t':=s.toks) (ch:=[z,TO,i1,i2]) (fun c hc=>?_) (fun c o _ _ hcb q _=>keep2 c o hcb q)
    (fun c o _ _ hcb q _=>⟨o.slots,keep2 c o hcb q⟩) (fun c o _ q n=>n)
    (fun c o hcb q=>⟨o,keep2 c o hcb q⟩) (fun c ys q=>q) (fun c o y q=>q)
    (fun c ps q=>⟨#[],by rw [q]; simp⟩) (fun m hm=>?_) ?_ I.bare
  ·obtain⟨e0,e1,e2,e3,e4,e5⟩:=fz c hc
   exact⟨e3,e1,e4,e5⟩
  ·obtain⟨o,es,ep,ho',r⟩:=hm
   refine⟨o,es,ep,keep2 _ o (fun hc=>?_) ho',r⟩
   exact (fz _ hc).2.1 rfl
  ·intro c u' q
   refine (I.hok c u' q).stay (fun d v hcv y=>keep2 d v ?_ y) (fun d y=>y) fun d ys y=>y
   rcases hcv with rfl | z
   ·exact nT q
   ·exact nT z
 self:=fun A i s Q E st h=>by
  obtain⟨hz,_⟩:=st
  exact wpAny_pyIter_zip hz h
def Vf (K:Ü) (ta:TA):TI:=fun σ H R=>ta σ H fun vs H1=>∃ a b xs ys,vs=[.ref a,.ref b]/\SqL K H1 a xs/\SqL K H1 b ys/\R (TF K a b) H1
theorem Rj {X:Cx}{elts:List Expr}{kk:Nat}{tpos:Pos}{a b:Expr}{ta:TA}{p pos:Pos} (hg:Gl X "zip") (hm:X.mg "zip"=none) (ha:PA X [a,b] ta) (e2:starEach [a,b] X.env=(false,eval a X.env)::starEach [b] X.env:=by rfl) (e3:(backTo pos (starEach [b] X.env)).any (·.1)=false:=by rfl):PI X (.Tuple elts kk tpos) (.Call (.Name "zip" p) [a,b] [] pos) (Vf X.K ta):=by
 intro pins s σ H R I h
 refine Call_ (dF I hg hm PyProof.Rows.boot_zip (ü (thn (ha pos pins s σ H _ I h) fun us s1 ⟨vs,H1,I1,r1,q1⟩=>?_) e2 e3))
 obtain⟨a,b,xs,ys,rfl,hp,hq,k⟩:=q1
 obtain⟨u,u2,rfl,rx,ry⟩:=vals2 r1
 cases rx
 cases ry
 obtain⟨its,rv,pl,_⟩:=I1.list hp
 obtain⟨its2,rv2,pl2,_⟩:=I1.list hq
 refine call_zip_2 pl.isList pl2.isList fun h' hz hTI hTO hi1 hi2 hsz hk=>?_
 have lp:a<s1.heap.objs.size:=by obtain⟨o,e,_⟩:=pl.isList; exact Ê e
 have lq:b<s1.heap.objs.size:=by obtain⟨o,e,_⟩:=pl2.isList; exact Ê e
 have D:=zipApart_new lp lq
 have I2:Inv X pins σ H1 { s1 with heap:=h' }:=I1.kept (t':=s1.toks) hk
 have T:=Ip (P:=X.prog) (w:=X.w) (K:=X.K) (elts:=elts) (kk:=kk) (pos:=tpos) D
 refine T.self _ 0 _ _ _ ⟨hz,hTI,⟨_,_,hTO⟩,hi1,hi2⟩ ⟨_,_,_,_,H1,rfl,I2,T,⟨hz,hTI,⟨_,_,hTO⟩,hi1,hi2⟩,fun c hc=>?_,k⟩
 have fr:∀ j,nR X pins H1 (s1.heap.objs.size+j):=fun j=>I1.Af (ź _ _) (I1.hok.fresh (ź _ _))
 simp only [Þ,æ,or_false] at hc
 rcases hc with h | h | h | h | h
 ·rw [h]; exact fr 4
 ·rw [h]; exact fr 2
 ·rw [h]; exact fr 3
 ·rw [h]; exact fr 0
 ·rw [h]; exact fr 1
end L2
namespace Dl
open PySem L2 PyProof.Rows
variable [Gr]
section
variable {X:Cx}{tg:Expr}{pos:Pos}{ta:DA}
theorem Ij {K:Ü}{ok:Addr->Prop}{a b:Addr}{ds es:List D}:Wlk (fun H=>Rp ok H (.ref a) (.list ds)/\Rp ok H (.ref b) (.list es)) (TF K a b) ((ds.zip es).map prD) ok where
 go:=fun i H r hi=>by
  obtain⟨b,vs,e,_,h,rs⟩:=r.1.bL
  cases e
  obtain⟨b2,vs2,e,_,h2,rs2⟩:=r.2.bL
  cases e
  rw [Ä,List.length_zip] at hi
  have l1:i<vs.length:=by rw [rs.length]; omega
  have l2:i<vs2.length:=by rw [rs2.length]; omega
  exact⟨vs,vs2,vs[i],vs2[i],SqL.of h,SqL.of h2,by simp [l1],by simp [l2]⟩
 stop:=fun H r=>by
  obtain⟨b,vs,e,_,h,rs⟩:=r.1.bL
  cases e
  obtain⟨b2,vs2,e,_,h2,rs2⟩:=r.2.bL
  cases e
  refine⟨vs,vs2,SqL.of h,SqL.of h2,?_⟩
  rw [Ä,List.length_zip,rs.length,rs2.length]
  omega
 yld:=fun i H x H' r y=>by
  obtain⟨t,v,v2,rfl,ht,rfl,y1,y2⟩:=y
  have sm:Same H (upd H t (.tup [v,v2])):=fun b u q=>by rw [aj (ao q ht)]; exact q
  refine⟨sm,fun d hd=>?_⟩
  obtain⟨b,vs,e,_,h,rs⟩:=r.1.bL
  cases e
  obtain⟨b2,vs2,e,_,h2,rs2⟩:=r.2.bL
  cases e
  rw [ç] at hd
  cases he:(ds.zip es)[i]? with
  | none=>rw [he] at hd; cases hd
  | some pq =>
   rw [he] at hd
   have e:=Õ hd
   subst e
   obtain⟨g1,g2⟩:=List.getElem?_zip_eq_some.mp he
   obtain⟨w1,hw1,rw1⟩:=rs.getD g1
   obtain⟨w2,hw2,rw2⟩:=rs2.getD g2
   have z1:=y1 vs (SqL.of h)
   rw [hw1] at z1
   cases z1
   have z2:=y2 vs2 (SqL.of h2)
   rw [hw2] at z2
   cases z2
   exact .tup aq (.cons (rw1.mono (fun _ o=>o) (fun a o _ e=>sm a o e) fun a xs e=>sm a _ e) (.cons (rw2.mono (fun _ o=>o) (fun a o _ e=>sm a o e) fun a xs e=>sm a _ e) .nil))
 stab:=fun H H' r f t=>⟨r.1.bY (fun a o n e=>⟨n,f a o n e⟩) t,r.2.bY (fun a o n e=>⟨n,f a o n e⟩) t⟩
def iZp (ta:DA):DI:=fun ρ P=>ta ρ fun ks=>match ks with
 | [(k1,.list ds),(k2,.list es)]=>P (k1.join k2) ((ds.zip es).map prD)
 | _=>False
theorem Ds {elts:List Expr}{kk:Nat}{tpos:Pos}{a b:Expr}{ps:Pos} (hm:X.mg "zip"=none) (ha:PDA X [a,b] ta) (hg:Gl X "zip":=by rfl) (e2:starEach [a,b] X.env=(false,eval a X.env)::starEach [b] X.env:=by rfl) (e3:(backTo pos (starEach [b] X.env)).any (·.1)=false:=by rfl):PDI X (.Tuple elts kk tpos) (.Call (.Name "zip" ps) [a,b] [] pos) (iZp ta):=PI.wk (Rj hg hm ha e2 e3) (by
 rintro σ H R ⟨p,H0,own,ρ,P,E,t,q⟩
 refine⟨p,H0,own,ρ,_,E,t,fun ks vs H1 h A r=>?_⟩
 split at h
 ·rename_i k1 ds k2 es
  obtain⟨v1,v2,rfl,r1,r2⟩:=Jg r
  have r1:=jc A (dh k1 k2).1 r1
  have r2:=jc A (dh k1 k2).2 r2
  obtain⟨a,vs,e,_,ha,rs⟩:=Rp.bL (id r1)
  subst e
  obtain⟨b,vs2,e,_,hb,rs2⟩:=Rp.bL (id r2)
  subst e
  exact⟨a,b,vs,vs2,rfl,SqL.of ha,SqL.of hb,q (k1.join k2) _ _ H1 _ h A Ij ⟨rpA r1,rpA r2⟩⟩
 ·exact h.elim)
end
end Dl
namespace Wr
open PySem L2 PyProof.Rows Dl
variable [Gr] {X:Cx}{pos:Pos}{ta:DA}
theorem Ds {elts:List Expr}{kk:Nat}{tpos:Pos}{a b:Expr}{ps:Pos} (hm:X.mg "zip"=none) (ha:WDA X [a,b] ta) (hg:Gl X "zip":=by rfl) (e2:starEach [a,b] X.env=(false,eval a X.env)::starEach [b] X.env:=by rfl) (e3:(backTo pos (starEach [b] X.env)).any (·.1)=false:=by rfl):WDI X (.Tuple elts kk tpos) (.Call (.Name "zip" ps) [a,b] [] pos) (iZp ta):=⟨Dl.Ds hm ha.h hg e2 e3⟩
end Wr
namespace Dl
open PySem L2 PyProof.Rows
variable [Gr]
section
variable {X:Cx}{pos:Pos}{st:Stmt}{rest:List Stmt}{t u:DS}{te tj t1 t2:DE}
end
end Dl
namespace Wr
open PySem L2 PyProof.Rows Dl
section
variable [Gr] {X:Cx}{tj te t1 t2:DE}{t u:DS}
end
end Wr
set_option autoImplicit false
namespace L2
open PySem PySem.Spec PyProof.Rows
section
variable {X:Cx}{k:Nat}{f CF:Addr}{fd:FuncData}{ps:List Str}{sp:Sp}{E:XK}{x hx n:Str}{p np cpos epos hpos pos:Pos}{e:Expr}{es:List Expr}{t:TA}{b₀:Stmt}{suite:List Stmt}{ts:TS}{j:Nat}
end
section
variable {X:Cx}{k:Nat}{f CF:Addr}{fd:FuncData}{ps:List Str}{sp:Sp}{E:XK}{x hx n:Str}{p np cpos epos hpos pos:Pos}{e:Expr}{es:List Expr}{t:TA}{b₀:Stmt}{suite:List Stmt}{ts:TS}{j:Nat}
end
end L2
namespace Dl
open PySem L2 PyProof.Rows
section
variable [Gr] {X:Cx}{pos:Pos}{a:Expr}{t:DA}
theorem boot_str:bootBuiltins "str"=some (.type "str"):=by decide +kernel
end
end Dl
namespace Wr
open PySem L2 PyProof.Rows Dl
section
variable [Gr] {X:Cx}{pos:Pos}{a:Expr}{t:DA}
end
end Wr
namespace Dl
open PySem L2 PyProof.Rows
structure Ext (p q:Pn):Prop where
 pv:q.pv=p.pv
 fp:∀ a,p.fp a->q.fp a
 pi:∀ H,q.PI H->p.PI H
 go:∀ H H',q.PI H->Kp p H H'->p.PI H'->q.PI H'
def CE (C:Pn->Prop) (q:Pn):Prop:=∃ p,C p/\Ext p q
section
variable [Gr]
variable {X:Cx}{pos:Pos}{c:Expr}{a rest:List Stmt}{tc:DT}{t u:DR}
variable {k j i:Nat}{x y:Str}{ps:List Str}{es:List Expr}{ta:DA}{pp py:Pos}
end
end Dl
namespace L2
open PySem PySem.Spec PyProof.Rows Builtin
section
variable {X:Cx}
end
end L2
namespace Dl
open PySem L2 PyProof.Rows
section
variable [Gr]
variable {X:Cx}{pos:Pos}{a b e:Expr}{ta tb te:DE}{p1 p2 p3:Pos}
end
end Dl
namespace Wr
open PySem L2 PyProof.Rows Dl
section
variable [Gr] {X:Cx}{pos:Pos}{a b e:Expr}{ta tb te:DE}{p1 p2 p3:Pos}
end
end Wr
namespace L2
open PySem PySem.Spec PyProof.Rows Builtin
section
variable {X:Cx}
end
end L2
namespace Dl
open PySem L2 PyProof.Rows
section
variable [Gr] {X:Cx}{pos p2:Pos}{a b e:Expr}{t:DA}{ta tb te:DE}
end
end Dl
namespace Wr
open PySem L2 PyProof.Rows Dl
section
variable [Gr] {X:Cx}{pos p2:Pos}{a b e:Expr}{t:DA}{ta tb te:DE}
end
end Wr
namespace Dl
open PySem L2 PyProof.Rows
variable [Gr]
section
variable {X:Cx}{st st2:Stmt}{rest:List Stmt}{te1 te2:DE}{tt:DT}{tr:TS}{t:DS}
end
section
variable {X:Cx}{own:List Str}{scope:Scope}{tg iter elt:Expr}{ifs:List Expr}{pos:Pos}{g:DG}{tt:DT}{te:DE}
end
end Dl
namespace Wr
open PySem L2 PyProof.Rows Dl
variable [Gr]
section
variable {X:Cx}{te1 te2:DE}{tt:DT}{tr:TS}{t:DS}
end
end Wr
namespace PySem
open PySem.W PyProof.Rows PySem.Spec
theorem BL:typeLookup (.type "list_reverseiterator") "__len__"=pure none:=by rw [typeLookup_type,builtinLookup_eq_fast]; kernel_rfl
theorem Jd:typeLookup (.type "list_reverseiterator") "__length_hint__"=pure (some (.builtin "list_reverseiterator.__length_hint__")):=by rw [typeLookup_type,builtinLookup_eq_fast]; kernel_rfl
section
variable {prog:Program}{w:World}{A:Around}{E:Value->Shared->Prop}{s:Shared}{it l:Addr}{items:Array Value}
theorem Gw {Q:Bool->Shared->Prop} (hT:s.TypeIs (.ref it) "list_reverseiterator") (h:Q false s):wpAny (model prog w) A (Builtin.List.listLengthHint (.ref it)) Q E s:=by
 unfold Builtin.List.listLengthHint
 refine Â (wpAny_specialOf hT BL ?_)
 show wpAny _ _ (specialOf (Ā it) (Ł "__length_hint__") >>= _) _ _ _
 refine Â (wpAny_specialOf hT Jd ?_)
 generalize hid:("list_reverseiterator.__length_hint__":String)=nm
 wp_delta
 rw [show splitId nm=some ("list_reverseiterator","__length_hint__") from by subst hid; decide +kernel]
 subst hid
 refine Â (wpAny_isInstance (T:="list_reverseiterator") (b:=true) hT (by rw [isSubtype_type]; kernel_rfl) ?_)
 refine wpAny_ite_split (fun z=>absurd z (by decide)) (fun _=>?_)
 refine wpAny_ite_split (fun _=>?_) (fun z=>absurd (by decide +kernel) z)
 refine wpAny_ite_split (fun z=>absurd z (by decide +kernel)) (fun _=>?_)
 exact Ë h
theorem Jc {Q:Value->Shared->Prop} (hh:A.handled=none) (hne:l≠it) (hit:s.heap.IsRevIter it l ((items.size:Int) - 1)) (hl:s.heap.IsList l items) (hn:items.size<=sizeLine)
  (hQ:∀ h' tk acc c,(∀ b o,b≠it->s.heap.get? b=some o->h'.get? b=some o)->h'.get? s.heap.objs.size=some { cls:=.type "list",dict:=none,data:=.seq acc c,slots:=#[] }->ItemsOf (fun i v=>items[items.size - 1 - i]?=some v) acc items.size->Q (.ref s.heap.objs.size) { s with heap:=h',toks:=tk }) :
  wpAny (model prog w) A (call (.type "list") [.ref it]) Q E s:=by
 obtain⟨oi,ei,_⟩:=id hit
 obtain⟨ol,el,_⟩:=id hl
 have lt:∀ {b:Addr}{o:Obj},s.heap.get? b=some o->s.heap.objs.size≠b:=fun e=>Ī (Ê e)
 refine callType_codes (Q₁:=fun obj s₁=>obj=.ref s.heap.objs.size/\s₁={ s with heap:=s.heap.push { cls:=.type "list",data:=.seq #[] } }) F.called_list (F.typeCall_list_1 _) F.entry_list_init (code_list_new _ ⟨rfl,rfl⟩) fun obj s₁ hx=>?_
 obtain⟨rfl,rfl⟩:=hx
 have hS:(s.heap.push { cls:=.type "list",data:=.seq #[] }).get? s.heap.objs.size=some { cls:=.type "list",data:=.seq #[] }:=Û _ rfl
 refine⟨⟨_,hS,rfl⟩,F.args_list_init_2 _ _,?_⟩
 show wpAny _ _ (ž (.ref s.heap.objs.size) >>= fun old=>Builtin.List.listUpdate (.ref s.heap.objs.size) (fun _=>#[]) >>= fun _=>letGo old.toList.reverse >>= fun _=>Ĝ (.ref s.heap.objs.size) (.ref it) .none) _ _ _
 have old:∀ b o,s.heap.get? b=some o->(s.heap.push { cls:=.type "list",data:=.seq #[] }).get? b=some o:=fun b o e=>Ì _ e
 refine Â ?_
 unfold ž
 refine Â (wpAny_seqItems hS rfl (Ë ?_))
 refine Â (m:=updateSeq s.heap.objs.size (fun _=>#[])) (wpAny_updateSeq hS rfl ?_)
 have hS2:=ĝ (ð (fun _=>(#[]:Array Value))) hS rfl
 refine Â (wpAny_letGo ?_)
 generalize hg:(s.heap.push { cls:=.type "list",data:=.seq #[] }).update s.heap.objs.size (ð fun _=>(#[]:Array Value))=g at hS2
 have kg:∀ b o,s.heap.get? b=some o->g.get? b=some o:=fun b o e=>by rw [← hg]; exact (ú _ _ (lt e)).trans (old b o e)
 have hit2:g.IsRevIter it l ((items.size:Int) - 1):=hit.at fun o e=>kg _ o e
 have hl2:g.IsList l items:=hl.at fun o e=>kg _ o e
 have hT:({ s with heap:=g }:Shared).TypeIs (.ref it) "list_reverseiterator":=⟨oi,kg _ _ ei,(id hit:_).elim fun o x=>by rw [ei] at x; cases x.1; exact x.2.1⟩
 unfold Ĝ
 refine Â (wpAny_typeOf hT ?_)
 have q1:ů (.ref s.heap.objs.size) (.ref it)=false:=by simp [ů,lt ei]
 have q2:(û "list_reverseiterator" == û "list")=false:=by decide
 have q3:(û "list_reverseiterator" == û "tuple")=false:=by decide
 simp only [q1,q2,q3,Bool.or_false,ĥ,if_false]
 refine Â (wpAny_pyIter_revIter hit2 ?_)
 refine Â (ă (Gw hT ?_))
 refine wpAny_ite_split (fun z=>absurd z (by decide)) (fun _=>?_)
 have W:=Walks.listRev (prog:=prog) (w:=w) (A:=A.in1.in1) hh it l hne items
 have hSf:s.heap.objs.size∉[it,l]:=by simp only [Þ,æ,or_false,not_or]; exact⟨lt ei,lt el⟩
 refine Ë ⟨plainId_quiet F.plain_extend_loop _,codeAny_extend_loopS (A:=A.in1) W.toS hn s.heap.objs.size hSf .none items.size 0 _ #[] _ rfl (Ě _) ⟨Ě _,by simpa using hit2,hl2⟩ hS2 (ItemsOf.nil _) fun s' acc c hm hS' hacc=>?_⟩
 rw [Moved.eq_with hm]
 refine⟨rfl,hQ s'.heap s'.toks acc c (fun b o hb e=>hm.heap b o (fun z=>?_) (kg b o e)) hS' hacc⟩
 rcases Þ.mp z with z | z
 ·exact lt e z.symm
 ·exact hb (Í.mp z)
end
end PySem
namespace L2
open PySem PySem.Spec PyProof.Rows
section
variable {X:Cx}
def tLR (K:Ü) (ta:TA):TE:=fun σ H Q=>ta σ H fun vs H1=>∃ p xs,vs=[.ref p]/\SqL K H1 p xs/\∀ l,H1 l=none->Q (.ref l) (upd H1 l (.lst xs.reverse))
theorem Hf {its:List Value}{acc:Array Value} (h:ItemsOf (fun i v=>its.toArray[its.toArray.size - 1 - i]?=some v) acc its.toArray.size):acc.toList=its.reverse:=by
 have hs:acc.size=its.length:=by have:=h.1; simpa using this
 refine List.ext_getElem? fun i=>?_
 by_cases hi:i<acc.size
 ·have e:acc.toList[i]?=some acc[i]:=by rw [Array.getElem?_toList]; exact Ź hi
  have q:=h.2 i acc[i] (Ź hi)
  rw [e,List.getElem?_reverse (by omega)]
  simpa using q.symm
 ·rw [List.getElem?_eq_none (by rw [Ď]; omega),List.getElem?_eq_none (by rw [List.length_reverse]; omega)]
theorem Cd {a:Expr}{ta:TA}{p1 p2 pos1 pos2:Pos} (hc:X.calm=true) (hgl:Gl X "list") (hml:X.mg "list"=none) (hgr:Gl X "reversed") (hmr:X.mg "reversed"=none) (ha:PA X [a] ta)
  (e1:starEach [.Call (.Name "reversed" p2) [a] [] pos2] X.env=[(false,eval (.Call (.Name "reversed" p2) [a] [] pos2) X.env)]:=by rfl) (e2:zS X a []:=by rfl) (e3:zP X pos2 []:=by rfl) :
  PE X (.Call (.Name "list" p1) [.Call (.Name "reversed" p2) [a] [] pos2] [] pos1) (tLR X.K ta):=by
 intro pins s σ H Q I h
 refine ń (dF I hgl hml boot_list ?_)
 refine ü ?_ e1 rfl
 rw [e1]
 refine Calls.spliced_cons ?_
 refine ń (dF I hgr hmr PyProof.Rows.boot_reversed ?_)
 refine ü (thn (ha pos2 pins s σ H _ I h) fun us s1 ⟨vs,H1,I1,r1,q1⟩=>?_) e2 e3
 obtain⟨p,xs,rfl,hp,k⟩:=q1
 obtain⟨u,rfl,rx⟩:=vals1 r1
 cases rx
 obtain⟨its,rv,pl,hz⟩:=I1.list hp
 refine call_reversed_list pl.isList ?_
 refine Calls.spliced_nil ?_
 have hl1:=rv.length
 have lp:p<s1.heap.objs.size:=by obtain⟨o,e,_⟩:=pl.isList; exact Ê e
 refine Jc (items:=its.toArray) (l:=p) (it:=s1.heap.objs.size) (s:={ s1 with heap:=s1.heap.push (revObj p ((its.toArray.size:Int) - 1)) }) (I1.ok.hd hc) (à lp) ⟨_,Û _ rfl,rfl,rfl⟩ (pl.isList.at fun o e=>Ì _ e) (by rw [Ò]; omega) fun h' tk acc c hk hS hacc=>?_
 have kept:∀ b o,s1.heap.get? b=some o->h'.get? b=some o:=fun b o e=>hk b o (à (Ê e)) (Ì _ e)
 have ea:=Hf hacc
 have sz:(s1.heap.push (revObj p ((its.toArray.size:Int) - 1))).objs.size=s1.heap.objs.size+1:=Ń ..
 have hle:s1.heap.objs.size<=(s1.heap.push (revObj p ((its.toArray.size:Int) - 1))).objs.size:=by omega
 refine⟨.ref (s1.heap.push (revObj p ((its.toArray.size:Int) - 1))).objs.size,_,I1.laid (t':=tk) (o:=.lst xs.reverse) kept hle ⟨by rw [List.length_reverse]; omega,its.reverse,c,rv.reverse,?_⟩,rfl,k _ (I1.hok.fresh hle)⟩
 rw [← ea,Array.toArray_toList]
 exact hS
end
end L2
namespace Dl
open PySem L2 PyProof.Rows
section
variable [Gr] {X:Cx}{a:Expr}{t:DA}
def SQ:GC:=fun ks P=>match ks with
 | [(k,.list ds)]=>newP k ds.reverse fun k'=>P k' (.list ds.reverse)
 | _=>False
theorem gR {p1 p2 pos1 pos2:Pos} (hc:X.calm=true) (hml:X.mg "list"=none) (hmr:X.mg "reversed"=none) (ha:PDA X [a] t) (hgl:Gl X "list":=by rfl) (hgr:Gl X "reversed":=by rfl)
  (e1:starEach [.Call (.Name "reversed" p2) [a] [] pos2] X.env=[(false,eval (.Call (.Name "reversed" p2) [a] [] pos2) X.env)]:=by rfl) (e2:zS X a []:=by rfl) (e3:zP X pos2 []:=by rfl) :
  PD X (.Call (.Name "list" p1) [.Call (.Name "reversed" p2) [a] [] pos2] [] pos1) (tCl SQ t):=PE.wk (Cd hc hgl hml hgr hmr ha e1 e2 e3) (by
 rintro σ H Q ⟨p,H0,own,ρ,P,E,t,q⟩
 refine⟨p,H0,own,ρ,_,E,t,fun ks vs H1 h A r=>?_⟩
 unfold SQ at h
 split at h
 ·rename_i k ds
  obtain⟨v,rfl,r'⟩:=eE r
  obtain⟨x,xs,rfl,o,h1,rs⟩:=r'.bL
  refine⟨x,xs,rfl,SqL.of h1,fun l hl=>?_⟩
  obtain⟨k2,i2,nw⟩:=A.new hl (.lst xs.reverse)
  obtain⟨k',hk',rk'⟩:=mD A (cM A k2 rs.rev) nw aq h
  exact q _ _ _ _ hk' (A.go k2 i2) rk'
 ·exact h.elim)
end
end Dl
namespace Wr
open PySem L2 PyProof.Rows Dl
section
variable [Gr] {X:Cx}{a:Expr}{t:DA}
theorem gR {p1 p2 pos1 pos2:Pos} (hc:X.calm=true) (hml:X.mg "list"=none) (hmr:X.mg "reversed"=none) (ha:WDA X [a] t) (hgl:Gl X "list":=by rfl) (hgr:Gl X "reversed":=by rfl)
  (e1:starEach [.Call (.Name "reversed" p2) [a] [] pos2] X.env=[(false,eval (.Call (.Name "reversed" p2) [a] [] pos2) X.env)]:=by rfl) (e2:zS X a []:=by rfl) (e3:zP X pos2 []:=by rfl) :
  WD X (.Call (.Name "list" p1) [.Call (.Name "reversed" p2) [a] [] pos2] [] pos1) (tCl SQ t):=⟨Dl.gR hc hml hmr ha.h hgl hgr e1 e2 e3⟩
end
end Wr
set_option autoImplicit true
namespace Wr
open PySem L2 PyProof.Rows Dl
variable [Gr] {X:Cx}{pos:Pos}{a b:Expr}{ta tb:DE}
theorem Nr (ha:WD X a ta) (hb:WD X b tb):WD X (.BinOp a .BitXor b pos) (t2 (gI0 fun i j=>.int (Builtin.bitXor i j)) ta tb):=⟨Dl.sG Ry (GR fun i j _=>.int _) ha.h hb.h⟩
end Wr
namespace Dl
open PySem L2 PyProof.Rows
structure Spo (ok:Addr->Prop) (H H':Hp):Prop where
 keep:∀ b o,H b=some o->¬ ok b->H' b=some o
 tup:∀ b xs,H b=some (.tup xs)->H' b=some (.tup xs)
 al:∀ b,H b≠none->H' b≠none
def LiI (ok:Addr->Prop) (H:Hp) (k:Nat) (a:Addr):Prop:=ok a/\∃ ns:List Int,H a=some (.lst (ns.map V.int))/\ns.length<=k
inductive Part (ok:Addr->Prop) (H:Hp) (k:Nat):V->Prop
 | int (i:Int):Part ok H k (.int i)
 | lst {a:Addr} (h:LiI ok H k a):Part ok H k (.ref a)
 | two {t a b:Addr} (h:H t=some (.tup [.ref a,.ref b])) (ha:LiI ok H k a) (hb:LiI ok H k b):Part ok H k (.ref t)
section
variable [Gr] {p:Pn}{H0 H:Hp}{own:Addr->Option Nat}{σ:L2.St}{ρ:List Sl}
end
end Dl
namespace Wr
open PySem L2 PyProof.Rows Dl
variable [Gr] {X:Cx}{pos p1 p2 p3:Pos}
end Wr
namespace L2
open PySem PySem.Spec PyProof.Rows
section
variable {prog:Program}{w:World}{A:Around}{E:Value->Shared->Prop}{s:Shared}
end
section
variable {X:Cx}
end
end L2
namespace Dl
open PySem L2 PyProof.Rows
section
variable {X:Cx}{pos:Pos}{a e:Expr}{t:DA} [Gr]
end
section
variable [Gr] {X:Cx}{st:Stmt}
end
end Dl
namespace L2
open PySem PySem.Spec PyProof.Rows
section
variable {X:Cx}{pins:List (Addr×Obj)}{σ:St}{H:Hp}{s:Shared}
end
end L2
namespace Dl
open PySem L2 PyProof.Rows
def kept (m:IM) (vs:List V) (p:Int->Bool) (n:Nat):List (Int×V):=(((m.map (·.1)).zip vs).take n).filter fun q=>p q.1
section
variable [Gr] {X:Cx}{st:Stmt}
end
end Dl
namespace Wr
open PySem L2 PyProof.Rows Dl
variable [Gr] {X:Cx}{pos p1 p2 p3 p4 p5 p6:Pos}
end Wr
namespace Dl
open PySem L2 PyProof.Rows PySem.W
section
variable [Gr] {X:Cx}
end
end Dl
namespace Wr
open PySem L2 PyProof.Rows Dl
section
variable [Gr] {X:Cx}{pos pos':Pos}{a b:Expr}{ta tb:DE}
end
end Wr
namespace Dl
open PySem L2 PyProof.Rows
section
variable [Gr]
section
variable {K:Ü}{i:Nat}{σ:L2.St}{H:Hp}{a b t:Addr}{vs us ws:List V}{v:V}{Q:VK}{Dn:Ends}
end
end
end Dl
namespace Wr
open PySem L2 PyProof.Rows Dl
variable [Gr] {X:Cx}
end Wr
open Wr renaming fZ → À,lR → Á,dv → Ã,oA → Å,xZ → Ç,JN → Ï,ud → Ð,uc → Ø,yg → á,Dm → â,uf → è,xX → é,lU → ï,Lh → þ,dc → ā,uh → ē,Dt → Ė,qQ → ğ,wJ → Ħ,Dq → İ,wv → ķ,n8 → ĸ,wK → Ĺ,pB → ł,wU → ň,Ez → Ō,dcP → Ŗ,JM → Ř,wR → Š,xY → š,wO → Ũ,xW → Ŵ,qZ → ŵ,yd → Ŷ,sS → ż,o9 → Ž
open Wr.WDSs renaming h → ë
open Dl renaming Cal → ì,Oe → Ē,Bn → Ģ,Pu → ĩ,any_ints → Ő
open L2 renaming S9 → č,jO → Ĭ,JD → ŀ,yZ → ŕ
namespace Nf
open PySem PySem.W PyProof.Rows
def qI (tb:String->Option Builtin) (p:Program) (w:World) (m:Nat) (ann:Option Value):Nat->SharedT->Thread->Option SharedT
 | 0,_,_=>none
 | n+1,s,t=>match through t with
  | true=>some s
  | false=>match stepOk m ann t with
   | false=>none
   | true=>match stepT (denote tb) p w s t with
    | none=>none
    | some r=>qI tb p w m ann n r.1 r.2
theorem uQ {tb:String->Option Builtin}{p:Program}{w:World}{m:Nat}{ann:Option Value}:∀ {n:Nat}{s s':SharedT}{t:Thread},qI tb p w m ann n s t=some s'->topRun tb p w m ann n s.abs t=some s'.abs
 | 0,_,_,_,h=>by cases h
 | n+1,s,s',t,h=>by
  unfold qI at h
  unfold topRun
  cases he:through t with
  | true=>rw [he] at h; cases h; rfl
  | false =>
   rw [he] at h
   cases hk:stepOk m ann t with
   | false=>rw [hk] at h; cases h
   | true =>
    rw [hk] at h
    cases hs:stepT (denote tb) p w s t with
    | none=>rw [hs] at h; cases h
    | some r=>obtain⟨s2,t2⟩:=r; rw [hs] at h; rw [stepT_spec hs]; exact uQ h
def tZ (P:Params):List DictEntry:=match (boot_o_0 P).data with | .dict es _=>es.toList | _=>[]
def gF (P:Params) (i:Nat):List DictEntry:=((tZ P).drop i).take 16
def b0 (P:Params):List DictEntry:=by
 refine (?f:(l:List DictEntry)->l=gF P 0->List DictEntry) ?l ?h
 case f=>exact fun l _=>l
 case h=>unfold gF tZ boot_o_0; dsimp only [Ÿ,ŷ]; exact rfl
def b1 (P:Params):List DictEntry:=by
 refine (?f:(l:List DictEntry)->l=gF P 16->List DictEntry) ?l ?h
 case f=>exact fun l _=>l
 case h=>unfold gF tZ boot_o_0; dsimp only [Ÿ,ŷ]; exact rfl
def b2 (P:Params):List DictEntry:=by
 refine (?f:(l:List DictEntry)->l=gF P 32->List DictEntry) ?l ?h
 case f=>exact fun l _=>l
 case h=>unfold gF tZ boot_o_0; dsimp only [Ÿ,ŷ]; exact rfl
def b3 (P:Params):List DictEntry:=by
 refine (?f:(l:List DictEntry)->l=gF P 48->List DictEntry) ?l ?h
 case f=>exact fun l _=>l
 case h=>unfold gF tZ boot_o_0; dsimp only [Ÿ,ŷ]; exact rfl
def b4 (P:Params):List DictEntry:=by
 refine (?f:(l:List DictEntry)->l=gF P 64->List DictEntry) ?l ?h
 case f=>exact fun l _=>l
 case h=>unfold gF tZ boot_o_0; dsimp only [Ÿ,ŷ]; exact rfl
def b5 (P:Params):List DictEntry:=by
 refine (?f:(l:List DictEntry)->l=gF P 80->List DictEntry) ?l ?h
 case f=>exact fun l _=>l
 case h=>unfold gF tZ boot_o_0; dsimp only [Ÿ,ŷ]; exact rfl
def b6 (P:Params):List DictEntry:=by
 refine (?f:(l:List DictEntry)->l=gF P 96->List DictEntry) ?l ?h
 case f=>exact fun l _=>l
 case h=>unfold gF tZ boot_o_0; dsimp only [Ÿ,ŷ]; exact rfl
def b7 (P:Params):List DictEntry:=by
 refine (?f:(l:List DictEntry)->l=gF P 112->List DictEntry) ?l ?h
 case f=>exact fun l _=>l
 case h=>unfold gF tZ boot_o_0; dsimp only [Ÿ,ŷ]; exact rfl
def b8 (P:Params):List DictEntry:=by
 refine (?f:(l:List DictEntry)->l=gF P 128->List DictEntry) ?l ?h
 case f=>exact fun l _=>l
 case h=>unfold gF tZ boot_o_0; dsimp only [Ÿ,ŷ]; exact rfl
def b9 (P:Params):List DictEntry:=by
 refine (?f:(l:List DictEntry)->l=gF P 144->List DictEntry) ?l ?h
 case f=>exact fun l _=>l
 case h=>unfold gF tZ boot_o_0; dsimp only [Ÿ,ŷ]; exact rfl
def bo0 (P:Params):Obj:={ cls:=.type "dict",data:=.dict ⟨b0 P++(b1 P++(b2 P++(b3 P++(b4 P++(b5 P++(b6 P++(b7 P++(b8 P++(b9 P)))))))))⟩ 159 }
theorem Tt:boot_o_0=bo0:=by funext P; kernel_rfl
def LK (P:Params):Heap:={ objs:=⟨[bo0 P,boot_o_1 P,boot_o_2 P,boot_o_3 P,boot_o_4 P,boot_o_5 P,boot_o_6 P,boot_o_7 P,boot_o_8 P,boot_o_9 P,boot_o_10 P]⟩ }
theorem Bc:ř=LK:=by
 funext P
 show Heap.mk ⟨boot_o_0 P::_⟩ _=_
 rw [Tt]
 rfl
def Bb (P:Params):BT:=((((((((((BT.nil.ins 0 (bo0 P)).ins 1 (boot_o_1 P)).ins 2 (boot_o_2 P)).ins 3 (boot_o_3 P)).ins 4 (boot_o_4 P)).ins 5 (boot_o_5 P)).ins 6 (boot_o_6 P)).ins 7 (boot_o_7 P)).ins 8 (boot_o_8 P)).ins 9 (boot_o_9 P)).ins 10 (boot_o_10 P)
def Qn:Life:={}
theorem HS (P:Params):absHeap (Bb P) 11 Qn=ř P:=by rw [Bc]; kernel_rfl
def Bu (w:World) (os:OsState):SharedT:=⟨Bb w.params,11,Qn,#[],boot_drawn,boot_toks,os⟩
theorem Gq (w:World) (os:OsState):(Bu w os).abs=⟨ř w.params,#[],boot_drawn,boot_toks,os⟩:=by
 unfold Bu SharedT.abs
 dsimp only
 rw [HS]
def Em (P:Params):=((ř P).isNs mainGlobals,(ř P).objs.size,(ř P).nsMap mainGlobals "__annotations__")
theorem BK:Em=Em:=rfl
end Nf
name_quick sizeQ for Nf.Em by Nf.BK
namespace Nf
open PySem PySem.W PyProof.Rows
theorem HW (w:World):((ř w.params).isNs mainGlobals,(ř w.params).objs.size,(ř w.params).nsMap mainGlobals "__annotations__")=(true,11,some (.ref 6)):=by
 show Em w.params=_
 rw [W.Fast.sizeQ_eq]
 kernel_rfl
def Gx (p:Program) (N:Nat) (w:World) (os:OsState):=qI treeTable p w 11 (some (.ref 6)) N (Bu w os) (topStub p)
def I9 (p q:Program) (Xt:Shared->Bool) (w:World) (s:Shared) :=
 (staticsOk (importedModules p.main.body) (LK w.params) s.heap&&namesBound p s.heap&&gensDone s&&laidKept (LK w.params) s.heap,openSeen q [] (importedModules p.main.body) Xt true s)
theorem Og {p q:Program}{Xt:Shared->Bool}{β:Type}{Yf:Shared->List β}{Ya:World->List β}{N:Nat} (k:Nat)
  (open_:∀ w:World,(fencedOpening treeTable p w N).map (fun s=>(s.heap,s.gens,s.drawn,s.toks))=some (ř w.params,Array.mk [],boot_drawn,boot_toks))
  (look:∀ (w:World) (os:OsState),(Gx p N w os).map (fun s=>I9 p q Xt w s.abs)=some (true,openGood q []))
  (front:∀ (w:World) (os:OsState),(Gx p N w os).map (fun s=>(Yf s.abs).take k)=some ((Ya w).take k))
  (back:∀ (w:World) (os:OsState),(Gx p N w os).map (fun s=>(Yf s.abs).drop k)=some ((Ya w).drop k)):LeftO p q [] Xt Yf Ya N:=fun w=>by
 obtain⟨⟨h,gs,d,j,os⟩,e,e'⟩:=Option.map_eq_some_iff.mp (open_ w)
 obtain⟨rfl,rfl,rfl,rfl⟩:h=ř w.params/\gs=#[]/\d=boot_drawn/\j=boot_toks:=by simpa using e'
 obtain⟨z1,z2,z3⟩:_/\_/\_:=by simpa only [Prod.mk.injEq] using HW w
 obtain⟨s,hs,l⟩:=Option.map_eq_some_iff.mp (look w os)
 have l4:(Yf s.abs).take k=(Ya w).take k:=by
  have:=front w os
  rw [hs] at this
  exact Õ this
 have l5:(Yf s.abs).drop k=(Ya w).drop k:=by
  have:=back w os
  rw [hs] at this
  exact Õ this
 have l3:Yf s.abs=Ya w:=by rw [← Ŧ k (Yf s.abs),l4,l5,Ŧ]
 unfold I9 at l
 rw [← Bc] at l
 obtain⟨l1,l2⟩:=Prod.mk.inj l
 have r:=uQ hs
 rw [Gq] at r
 have t:topFrom treeTable p w N ⟨ř w.params,#[],boot_drawn,boot_toks,os⟩=some s.abs:=by
  unfold topFrom
  dsimp only
  rw [z1,z2,z3,r]
  show (match staticsOk (importedModules p.main.body) (ř w.params) s.abs.heap&&namesBound p s.abs.heap&&gensDone s.abs&&laidKept (ř w.params) s.abs.heap with | true=>_ | false=>_)=_
  rw [l1]
 unfold openEnds
 rw [e]
 show (topFrom treeTable p w N _).map _=_
 rw [t]
 exact congrArg some (Prod.ext l2 l3)
end Nf
namespace Nf
open PySem L2 PyProof.Rows Dl
def top (i:Nat):Stmt:=PySem.Challenge.pw_nofall_k11_no_two_places.main.body.getD i (.Pass ⟨0,0,0,0⟩)
theorem aO (d:D):aD d=.im d\/aD d=.sh d:=by
 unfold aD
 by_cases h:bx d=true
 ·rw [if_pos h]; exact .inl rfl
 ·rw [if_neg h]; exact .inr rfl
theorem PSs.wk {X:Cx}{ss:List Stmt}{t t':TS} (h:PSs X ss t) (w:∀ D σ H,t' D σ H->t D σ H):PSs X ss t':=fun pins s σ H D I q=>h pins s σ H D I (w D σ H q)
def Rq (p sc:Addr) (ns:List Int) (b:Bool):Pn where
 fp:=fun a=>a=p\/(b=true/\a=sc)
 PI:=fun H=>(∃ x y:Int,H p=some (.lst [.ref sc,.int x,.int y]))/\(b=true->Rd H sc (.lst (ns.map V.int)))
 pv:=.ref p
 mono:=fun H H' ⟨⟨x,y,h⟩,r⟩ k=>⟨⟨x,y,k _ _ (.inl rfl) h⟩,fun e=>(r e).elim (fun z=>.inl (k _ _ (.inr ⟨e,rfl⟩) z)) fun ⟨o,z⟩=>.inr ⟨o,k _ _ (.inr ⟨e,rfl⟩) z⟩⟩
 is:=fun H a ⟨⟨x,y,h⟩,r⟩ hb=>by
  rcases hb with rfl | ⟨e,rfl⟩
  ·exact⟨_,h,fun xs z=>nomatch z⟩
  ·rcases r e with z | ⟨o,z⟩
   ·exact⟨_,z,fun xs z=>nomatch z⟩
   ·exact⟨_,z,fun xs z=>nomatch z⟩
def CP (K:Ü) (q:Pn):Prop:=∃ p sc ns b,(b=true->p≠sc)/\(b=false->∀ H,SqL K H sc (ns.map V.int))/\q=Rq p sc ns b
theorem Jy {K:Ü}{H:Hp}{sc:Addr}{ns:List Int}{b:Bool} (r:b=true->Rd H sc (.lst (ns.map V.int))) (hb:b=false->∀ H,SqL K H sc (ns.map V.int)):SqL K H sc (ns.map V.int):=by
 cases b with
 | true=>exact .inl (r rfl)
 | false=>exact hb rfl H
theorem Jk {H:Hp}{sc p:Addr}{u o:HO} (h:Rd H sc u) (n:p≠sc):Rd (upd H p o) sc u:=by
 rcases h with z | ⟨o',z⟩
 ·exact .inl (by rw [aj (Ć n)]; exact z)
 ·exact .inr ⟨o',by rw [aj (Ć n)]; exact z⟩
def j8 (ds:List D) (P:D->Prop):Prop:=∃ m:Int,ds=[.int m]/\0<m/\m<1073741824/\∀ r:Int,0<=r->r<m->P (.int r)
theorem mQ {C:Pn->Prop}{f:List D->(D->Prop)->Prop}{n:Nat} (hn:∀ ds P,f ds P->ds.length=n:=by intro _ _ h; repeat (first | (obtain⟨rfl,_⟩:=h; rfl) | obtain⟨_,h⟩:=h)):∀ vs H Q E,spP C f vs H Q E->vs.length=n+1:=fun vs H Q E h=>by
 obtain⟨p,vs',ds,P,_,rfl,_,r,t,_⟩:=h
 rw [ĉ,r.length,hn ds P t]
theorem Ke {x m:Int} (hm:0<m) (hb:m<=2 ^ 32):-(2 ^ 64)<x % m/\x % m<2 ^ 64:=by
 have h1:=ť x (b:=m) (by omega)
 have h2:=Œ x hm
 omega
theorem Pa {i:Int}{ns:List Int} (h:(0:Int)<((ns.map V.int).length:Nat)):∃ v:Int,atI (ns.map V.int) (i % (((ns.map V.int).length:Nat):Int))=some (.int v):=by
 rw [Ä] at h ⊢
 have h1:=ť i (b:=(ns.length:Int)) (by omega)
 have h2:=Œ i h
 have hk:(i % (ns.length:Int)).toNat<ns.length:=by omega
 have ek:i % (ns.length:Int)=(((i % (ns.length:Int)).toNat:Nat):Int):=by omega
 have q:atI (ns.map V.int) (((i % (ns.length:Int)).toNat:Nat):Int)=some (.int ns[(i % (ns.length:Int)).toNat]):=cj (by rw [ç,Ó hk]; rfl)
 rw [← ek] at q
 exact⟨_,q⟩
def tTk:TS:=fun D σ H=>∃ (a0 a2 a5:Option V) (m a cell:Int),σ=[a0,some (.int m),a2,some (.int a),some (.int cell),a5]/\0<m/\m<1073741824/\∀ r:Int,0<=r->r<m->D.rt (.int r) H
def tCe (K:Ü) (p sc:Addr) (ns:List Int):TS:=fun D σ H=>∃ (a2 a5:Option V) (m a cell x y:Int),σ=[some (.ref p),some (.int m),a2,some (.int a),some (.int cell),a5]/\0<m/\m<1073741824/\H p=some (.lst [.ref sc,.int x,.int y])/\SqL K H sc (ns.map V.int) /\
 (∀ r:Int,0<=r->r<m->D.rt (.int r) H)/\∀ r z:Int,0<=r->r<m->D.rt (.int r) (upd H p (.lst [.ref sc,.int x,.int z]))
theorem Tn {K:Ü}{T:DS}{N:List Str}{H:Hp}{Q:VK}{sc:Addr}{ns:List Int} (hS:SqL K H sc (ns.map V.int)) (q:∀ H',Q (.bl true) H') (hN:2<=N.length)
  (body:T { nx:=fun _=>False,rt:=fun d=>d=.bool true } (.any::.pen (CP K)::Ñ (N.length - 2) .any)) :
  T7 (uF (QJ (yM (qj 0) (yM (tC (.int 0)) (yM (tC (.int 0)) QG)))) (ju 1)) (j4 T) { nx:=fun _ H'=>Q .non H',rt:=Q } (L2.start N [.ref sc]) H:=by
 refine⟨_,rfl,by show 3<=sizeLine; decide,fun p hp=>?_⟩
 show j4 T _ ((L2.start N [.ref sc]).set 1 (some (.ref p))) _
 have main:∀ b,(b=true->p≠sc)->(b=false->∀ H,SqL K H sc (ns.map V.int))->(b=true->Rd (upd H p (.lst [.ref sc,.int 0,.int 0])) sc (.lst (ns.map V.int)))->j4 T { nx:=fun _ H'=>Q .non H',rt:=Q } ((L2.start N [.ref sc]).set 1 (some (.ref p))) (upd H p (.lst [.ref sc,.int 0,.int 0])):=by
  intro b h1 h2 h3
  refine⟨Rq p sc ns b,upd H p (.lst [.ref sc,.int 0,.int 0]),fun _=>none,_,_,?_,body,⟨fun _ _ _ _ _ _ n=>n.elim,fun d v H' n w=>?_,fun _ _ _ _ _ _ n=>n.elim,fun _ _ _ _ _ _ n=>n.elim⟩⟩
  ·have hl:(L2.start N [.ref sc]).length=N.length:=by unfold L2.start; simp; omega
   refine⟨fun b o e _=>e,⟨⟨0,0,aq⟩,h3⟩,fun a r e=>(nomatch e),fun j s e=>?_,by rw [List.length_set,hl,ĉ,ĉ,ŧ]; omega,trivial⟩
   rcases j with _ | _ | j
   ·cases e; trivial
   ·cases e
    exact⟨Ĉ (by rw [hl]; omega),p,sc,ns,b,h1,h2,rfl⟩
   ·rw [List.getElem?_cons_succ,List.getElem?_cons_succ] at e
    have e2:=(List.mem_replicate.mp (É e)).2
    subst e2
    trivial
  ·have n:d=.bool true:=n
   subst n
   have r:=w.rp
   cases r
   exact q H'
 rcases hS with h | h
 ·have hn:p≠sc:=by
   rintro rfl
   rcases h with z | ⟨o,z⟩ <;> rw [hp] at z <;> cases z
  exact main true (fun _=>hn) (fun z=>nomatch z) fun _=>Jk h hn
 ·exact main false (fun z=>nomatch z) (fun _ H=>.inr h) fun z=>nomatch z
section
variable {P:Program}{w:World}{K:Ü}{mg:Str->Option Value}{base:Heap}{f:Addr}{fd:FuncData}
theorem Eo:FnScope ["_law_pen","_law_many","_law_digit","_law_at","_law_cell","_law_number"] ["_law_pen","_law_many"] (ak (top 62)):=zC
theorem Nz (F:Fun K "_law_take" "_law_take" (top 62) f fd) (B:Ģ mg):FnOk P w K mg base CX0 1 f fd ["_law_pen","_law_many"] (spP (CP K) j8):=by
 refine F.ok Eo mQ (fun cdv A outer s H vs Q E hr h=>?_)
 obtain⟨_,vs',ds,P,⟨p,sc,ns,b,hps,hbK,rfl⟩,rfl,⟨⟨x,y,hp⟩,hsc⟩,rp,⟨m,rfl,m0,m30,hP⟩,q⟩:=h
 obtain rfl:vs'=[.int m]:=by
  cases rp with
  | cons h1 t=>cases h1; cases t; rfl
 have nd:=Eo.nd
 have hS:=Jy hsc hbK
 refine⟨_,ŕ (uY (jL EY (je cQ (pv 0) ŀ (fun _ _=>rfl)) ŀ (cA _))
   (ŕ (eF (i:=2) nd rfl (Or.inl rfl) (bM gU (je cQ (pv 0) ŀ (fun _ _=>rfl)) (pv 1)))
   (ŕ (wG (bM qX (je cQ (pv 0) ŀ (fun _ _=>rfl)) (pv 1)) (BX (pv 0) ŀ set_list))
   (dM (kE (pv 2))))) jM)
  (ŕ (eF (i:=3) nd rfl (Or.inl rfl) (je cQ (pv 0) ŀ (fun _ _=>rfl)))
  (ŕ (wG (bM jh (pv 3) ŀ) (BX (pv 0) ŀ set_list))
  (ŕ (eF (i:=4) nd rfl (Or.inl rfl) ŀ)
  (ŕ (uY (jL EY (bQ dX rfl B.len PySem.boot_len (Ĭ (je cQ (pv 0) ŀ (fun _ _=>rfl)) cu)) ŀ (cA _))
   (dM (eF (i:=4) nd rfl (Or.inl rfl) (je cQ (je cQ (pv 0) ŀ (fun _ _=>rfl)) (bM gU (pv 3) (bQ dX rfl B.len PySem.boot_len (Ĭ (je cQ (pv 0) ŀ (fun _ _=>rfl)) cu))) (fun _ _=>rfl)))) jM)
  (PSs.wk (t':=tCe K p sc ns) (ŕ (uY (PW.pt (Jm (jL JT (pv 3) (bQ dX rfl B.len PySem.boot_len (Ĭ (je cQ (pv 0) ŀ (fun _ _=>rfl)) cu)) (cA _)) (Eu (jL Qe (bQ uz rfl B.abs Dl.boot_abs (Ĭ (pv 4) cu)) (bM JR ŀ ŀ) (cA _)))))
   (ŕ (wG (bM qX (bQ uz rfl B.abs Dl.boot_abs (Ĭ (pv 4) cu)) (pv 1)) (BX (pv 0) ŀ set_list))
   (dM (kE (bM gU (bQ uz rfl B.abs Dl.boot_abs (Ĭ (pv 4) cu)) (pv 1))))) jM)
  (PSs.wk (t':=tTk) (ŕ (eF (i:=5) nd rfl (Or.inl rfl) (bM gU (bM kO (bM jh (bM jh (bM gU (pv 4) ŀ) (bM kO ŀ (pv 3))) ŀ) ŀ) ŀ))
  (ŕ (eF (i:=5) nd rfl (Or.inl rfl) (bM gU (bM jh (bM jh (bM kO (pv 5) (pv 5)) (bM kO ŀ (pv 5))) (pv 3)) ŀ))
  (ŕ (eF (i:=5) nd rfl (Or.inl rfl) (bM gU (bM jh (bM jh (bM kO (pv 5) (pv 5)) (bM kO ŀ (pv 5))) ŀ) ŀ))
  (dM (kE (bM gU (bM qX (pv 5) ŀ) (pv 1))))))) ?tk)) ?ce))))),?_⟩
 case tk =>
  rintro D σ H' ⟨a0,a2,a5,m,a,cell,rfl,m0,m30,hq⟩
  have md:∀ x:Int,0<=x % m/\x % m<m:=fun x=>⟨ť _ (by omega),Œ _ m0⟩
  refine⟨_,rfl,_,_,rfl,rfl,(by show (0:Int)<2147483629; decide),_,rfl,_,_,rfl,rfl,.inl ⟨by decide,by decide⟩,_,_,rfl,rfl,_,_,rfl,rfl,_,_,rfl,rfl,.inr ⟨by decide,by decide⟩,_,_,rfl,rfl,(by show (0:Int)<2147483647; decide),?_⟩
  refine⟨_,rfl,_,rfl,_,_,rfl,rfl,.inl (Ke (by decide) (by decide)),_,rfl,_,_,rfl,rfl,.inl ⟨by decide,by decide⟩,_,_,rfl,rfl,_,rfl,_,_,rfl,rfl,_,_,rfl,rfl,(by show (0:Int)<2147483587; decide),?_⟩
  refine⟨_,rfl,_,rfl,_,_,rfl,rfl,.inl (Ke (by decide) (by decide)),_,rfl,_,_,rfl,rfl,.inl ⟨by decide,by decide⟩,_,_,rfl,rfl,_,_,rfl,rfl,_,_,rfl,rfl,(by show (0:Int)<2147483563; decide),?_⟩
  exact⟨_,rfl,_,_,rfl,rfl,⟨by decide,by decide⟩,_,rfl,_,_,rfl,rfl,m0,hq _ (md _).1 (md _).2⟩
 case ce =>
  rintro D σ H' ⟨a2,a5,m,a,cell,x,y,rfl,m0,m30,hp,hS,hq,hq2⟩
  have md:∀ x:Int,0<=x % m/\x % m<m:=fun x=>⟨ť _ (by omega),Œ _ m0⟩
  have el:tTk D [some (.ref p),some (.int m),a2,some (.int a),some (.int cell),a5] H':=⟨_,_,_,m,a,cell,rfl,m0,m30,hq⟩
  refine⟨_,rfl,_,rfl,p,_,_,_,rfl,rfl,SqL.of hp,rfl,sc,_,rfl,.inl hS,_,_,rfl,rfl,_,rfl,eV (fun c1=>?_) (fun c1=>aL el)⟩
  refine⟨_,rfl,cell,rfl,_,_,rfl,rfl,⟨by decide,by decide,by decide⟩,_,_,rfl,rfl,_,rfl,eV (fun c2=>?_) (fun c2=>el)⟩
  exact⟨_,rfl,cell,rfl,_,rfl,_,_,rfl,rfl,⟨m0,m30⟩,_,rfl,p,_,_,_,rfl,rfl,hp,rfl,_,rfl,cell,rfl,_,rfl,_,_,rfl,rfl,m0,hq2 _ _ (md _).1 (md _).2⟩
 have md:∀ x:Int,0<=x % m/\x % m<m:=fun x=>⟨ť _ (by omega),Œ _ m0⟩
 have rdk:∀ (H':Hp) (o:HO),(b=true->Rd H' sc (.lst (ns.map V.int)))->b=true->Rd (upd H' p o) sc (.lst (ns.map V.int)):=fun H' o r e=>Jk (r e) (hps e)
 have fin:∀ (H':Hp) (r:Int),0<=r->r<m->(∀ a o,H a=some o->a≠p->H' a=some o)->(Rq p sc ns b).PI H'->Q (.int r) H':=fun H' r h1 h2 k e =>
  q _ _ _ (hP r h1 h2) (fun a o e n=>k a o e fun z=>n (.inl z)) e (.int r)
 have kU:∀ (H1:Hp) (o:HO),(∀ a o,H a=some o->a≠p->H1 a=some o)->∀ a u,H a=some u->a≠p->upd H1 p o a=some u:=fun H1 o k a u e n=>by rw [aj n]; exact k a u e n
 refine⟨_,rfl,p,_,_,_,rfl,rfl,SqL.of hp,rfl,_,_,rfl,rfl,_,rfl,eV (fun c1=>?_) (fun c1=>?_)⟩
 ·exact⟨_,rfl,p,_,_,_,rfl,rfl,SqL.of hp,rfl,_,rfl,_,_,rfl,rfl,m0,_,rfl,p,_,_,_,rfl,rfl,SqL.of hp,rfl,_,rfl,_,_,rfl,rfl,⟨m0,m30⟩,_,rfl,p,_,_,_,rfl,rfl,hp,rfl,_,rfl,fin _ _ (md _).1 (md _).2 (kU _ _ fun b o e _=>e) ⟨⟨_,_,aq⟩,rdk _ _ hsc⟩⟩
 ·have hp1:upd H p (.lst [.ref sc,.int (x+1),.int y]) p=some (.lst [.ref sc,.int (x+1),.int y]):=aq
  have r1:=rdk H (.lst [.ref sc,.int (x+1),.int y]) hsc
  have k1:=kU H (.lst [.ref sc,.int (x+1),.int y]) fun b o e _=>e
  have hS1:=Jy r1 hbK
  have en:∀ (a4:Int) (a2 a5:Option V),tCe K p sc ns { nx:=fun _ H'=>Q .non H',rt:=Q } [some (.ref p),some (.int m),a2,some (.int x),some (.int a4),a5] (upd H p (.lst [.ref sc,.int (x+1),.int y])):=fun a4 a2 a5 =>
   ⟨a2,a5,m,x,a4,x+1,y,rfl,m0,m30,hp1,hS1,fun r r0 r1'=>fin _ r r0 r1' k1 ⟨⟨_,_,hp1⟩,r1⟩,fun r z r0 r1'=>fin _ r r0 r1' (kU _ _ k1) ⟨⟨_,_,aq⟩,rdk _ _ r1⟩⟩
  refine⟨_,rfl,p,_,_,_,rfl,rfl,SqL.of hp,rfl,?_⟩
  refine⟨_,rfl,_,_,rfl,rfl,_,rfl,p,_,_,_,rfl,rfl,hp,rfl,?_⟩
  refine⟨_,rfl,p,_,_,_,rfl,rfl,SqL.of hp1,rfl,sc,_,rfl,.inl hS1,_,_,rfl,rfl,_,rfl,eV (fun c2=>?_) (fun c2=>en _ _ _)⟩
  have c2:=of_decide_eq_true c2
  obtain⟨v,hv⟩:=Pa (i:=x) c2
  exact⟨_,rfl,p,_,_,_,rfl,rfl,SqL.of hp1,rfl,_,rfl,_,rfl,p,_,_,_,rfl,rfl,SqL.of hp1,rfl,sc,_,rfl,.inl hS1,_,_,rfl,rfl,c2,sc,_,_,_,rfl,rfl,hS1,hv,en _ _ _⟩
end
end Nf
set_option maxHeartbeats 4000000
namespace Nf
open PySem L2 PyProof.Rows Dl
structure IsOrd (n:Int) (l:List Int):Prop where
 len:(l.length:Int)=n
 rng:∀ x∈l,0<=x/\x<n
 nd:l.Nodup
theorem IsOrd.ins {k:Nat}{l:List Int} (h:IsOrd k l) (j:Nat):IsOrd ((k+1:Nat):Int) (l.take j++((k:Nat):Int)::l.drop j):=by
 have p:(l.take j++((k:Nat):Int)::l.drop j).Perm (((k:Nat):Int)::l):=by
  refine List.perm_middle.trans ?_
  rw [Ŧ]
 refine⟨?_,fun x hx=>?_,?_⟩
 ·rw [p.length_eq,ĉ]
  have:=h.len
  omega
 ·rcases Þ.mp (p.mem_iff.mp hx) with z | z
  ·omega
  ·have:=h.rng x z
   omega
 ·refine p.symm.nodup ?_
  refine Ť.mpr ⟨fun z=>?_,h.nd⟩
  have:=h.rng _ z
  omega
theorem IsOrd.at {n:Int}{l:List Int} (h:IsOrd n l) {a:Int} (h0:0<=a) (h1:a<n):∃ x:Int,atI (l.map È) a=some (.int x)/\(0<=x/\x<n)/\l[a.toNat]?=some x:=by
 have hl:=h.len
 have hk:a.toNat<l.length:=by omega
 have ek:a=((a.toNat:Nat):Int):=by omega
 have z:atI (l.map È) ((a.toNat:Nat):Int)=some (.int l[a.toNat]):=cj (by rw [ç,Ó hk]; rfl)
 rw [← ek] at z
 exact⟨_,z,h.rng _ (ŏ hk),Ó hk⟩
def OkT (n:Int) (t:Tie):Prop:=(0<=t.1/\t.1<n)/\(0<=t.2/\t.2<n)/\t.1≠t.2
def OkN (n:Int) (us:List Tie):Prop:=∀ t∈us,OkT n t
theorem OkN.snoc {n:Int}{us:List Tie}{t:Tie} (h:OkN n us) (h':OkT n t):OkN n (us++[t]):=fun u hu=>(ñ.mp hu).elim (h u) fun z=>by rw [Í.mp z]; exact h'
def OkW (n:Int) (us:List Tie):Prop:=∀ t∈us,0<=t.1/\t.1<t.2/\t.2<n
theorem app1 (ts:List Tie) (a b:Int):ts.map pD++[ŝ [.int a,.int b]]=(ts++[((a,b):Tie)]).map pD:=by
 rw [ê]
 rfl
theorem NP (us:List Tie):okD (.list (us.map pD))=true/\okD (.tuple (us.map pD))=true:=by
 have h1:∀ us:List Tie,ĳ (us.map pD)=true:=fun us=>by
  induction us with
  | nil=>rfl
  | cons t us ih=>exact ih
 have h2:∀ us:List Tie,œ (us.map pD)<=1:=fun us=>by
  induction us with
  | nil=>exact Ě _
  | cons t us ih =>
   show max (max 0 (max 0 0)+1) (œ (us.map pD))<=1
   omega
 have h3:œ (us.map pD)+1<=60:=by have:=h2 us; omega
 constructor
 ·show (ĳ (us.map pD)&&decide (œ (us.map pD)+1<=60))=true
  rw [h1,decide_eq_true h3]; rfl
 ·show (ĳ (us.map pD)&&decide (œ (us.map pD)+1<=60))=true
  rw [h1,decide_eq_true h3]; rfl
theorem QB {x y:Int}{out:List Int} (p:out.Perm [x,y]) (s:out.Pairwise (·<=·)) (n:x≠y):∃ u v,out=[u,v]/\u<v/\(u=x\/u=y)/\(v=x\/v=y):=by
 have hl:=p.length_eq
 match out,hl with
 | [u,v],_ =>
  have hu:u∈[x,y]:=p.mem_iff.mp (by simp)
  have hv:v∈[x,y]:=p.mem_iff.mp (by simp)
  have hx:x∈[u,v]:=p.mem_iff.mpr (by simp)
  have hy:y∈[u,v]:=p.mem_iff.mpr (by simp)
  simp at hu hv hx hy s
  exact⟨u,v,rfl,by omega,hu,hv⟩
theorem BJ {x:Int} (h0:0<=x) (h1:x<4) (a b c d:D):∃ e,atI [a,b,c,d] x=some e/\(e=a\/e=b\/e=c\/e=d):=by
 rcases (by omega:x=0\/x=1\/x=2\/x=3) with rfl | rfl | rfl | rfl
 ·exact⟨a,rfl,.inl rfl⟩
 ·exact⟨b,rfl,.inr (.inl rfl)⟩
 ·exact⟨c,rfl,.inr (.inr (.inl rfl))⟩
 ·exact⟨d,rfl,.inr (.inr (.inr rfl))⟩
def lD2 (t:Tie):D:=.list [.int t.1,.int t.2]
def Qt (ds:List D) (P:D->Prop):Prop:=∃ (n:Int) (ts:List Tie),ds=[.int n,.list (ts.map pD)]/\2<=n/\n<=16/\ts.length<=60/\OkN n ts/\∀ t,OkT n t->P (pD t)
def Vm (ds:List D) (P:D->Prop):Prop:=∃ a b:Int,ds=[.int a,.int b]/\1<=a/\a<=16/\1<=b/\b<=16/\∀ (n:Int) (us:List Tie),1<=n->(n<=a\/n<=b)->us.length<=39->OkW n us->P (aA n us)
section
variable {P:Program}{w:World}{K:Ü}{mg:Str->Option Value}{base:Heap}{f:Addr}{fd:FuncData}
theorem pN:FnScope ["_law_pen","_law_n","_law_ties","_law_sort","_law_one"] ["_law_pen","_law_n","_law_ties"] (ak (top 63)):=zC
theorem zu (F:Fun K "_law_more" "_law_more" (top 63) f fd) (B:Ģ mg) (C__law_take:ì P w K mg base 1 "_law_take" ["_law_pen","_law_many"] (spP (CP K) j8)):FnOk P w K mg base CX0 2 f fd ["_law_pen","_law_n","_law_ties"] (spP (CP K) Qt):=by
 refine F.ok pN mQ (fun cdv A outer s H vs Q E hr h=>?_)
 have nd:=pN.nd
 refine⟨_,ë (Ç (é none (i:=3) nd rfl zQ (Ŗ C__law_take hr (ķ 0) (À Å Á)))
  (Ç (þ (Wr.wpt (Wr.qO (Wr.fB hr.units (Ã 3) Å) (Wr.lQ (Wr.jN hr.units (Ã 2) (ğ Á))))) (Ð (Ø (Ï (Ã 2) (Ŗ C__law_take hr (ķ 0) (À (Wr.eO B.len (À (Ã 2) Á)) Á))))) â)
  (Ç (é none (i:=4) nd rfl zQ (Ŗ C__law_take hr (ķ 0) (À (Ã 1) Á)))
  (Ç (þ (Wr.wpt (Wr.qO (Wr.fB hr.units (Ã 3) Å) (Wr.lQ (Wr.wM (Ã 1) Å)))) (Ð (Ø (ï (À (Ã 4) (À (Wr.sI (Š (Ã 4) Å) (Ã 1)) Á))))) â)
  (Ð (Ø (ï (À (Ã 4) (À (Wr.sI (Š (Š (Ã 4) Å) (Ŗ C__law_take hr (ķ 0) (À (Wr.gQ (Ã 1) Å) Á))) (Ã 1)) Á))))))))),enterQ h ?_⟩
 rintro ds P ⟨n,ts,rfl,n2,n16,lt,ok,q⟩
 refine⟨[.im (.int n),.sh (.list (ts.map pD)),.any,.any],rfl,?_⟩
 refine⟨rfl,4,rfl,by decide,by decide,fun r r0 r1=>?_⟩
 have rest:∀ s:Int,Dw (Dv 4 none (Bs (CP K) j8 0 (bD (tV 1) gJ)))
   (Dw (dIf (Ph (cJ (t2 (o7 false) (tV 3) (tK (È 1)))) (cJ (t2 (gI0 fun i j=>PyData.bool (decide (j<i))) (tV 1) (tK (È 2)))))
    (Aq (j9 (bD (tV 4) (bD (t2 (gI (fun x j=>0<j) fun i j=>È (i % j)) (t2 pY (tV 4) (tK (È 2))) (tV 1)) gJ)))) Ar)
   (Aq (j9 (bD (tV 4) (bD (t2 (gI (fun x j=>0<j) fun i j=>È (i % j)) (t2 pY (t2 pY (tV 4) (tK (È 1))) (Bs (CP K) j8 0 (bD (t2 (gI0 fun i j=>È (i - j)) (tV 1) (tK (È 1))) gJ))) (tV 1)) gJ)))))
   { nx:=fun x=>P PyData.none,rt:=P } [.pen (CP K),.im (.int n),.sh (.list (ts.map pD)),.im (.int s),.any]:=by
  intro s
  refine⟨rfl,n,rfl,by omega,by omega,fun o o0 o1=>?_⟩
  have last:∀ d:Int,0<=d->d<n - 1->OkT n (o,(o+1+d) % n):=fun d d0 d1=>by
   have e1:=ť (o+1+d) (b:=n) (by omega)
   have e2:=Œ (o+1+d) (b:=n) (by omega)
   refine⟨⟨o0,o1⟩,⟨e1,e2⟩,fun z=>?_⟩
   have z:o=(o+1+d) % n:=z
   by_cases hh:o+1+d<n
   ·rw [Int.emod_eq_of_lt (by omega) hh] at z
    omega
   ·have:(o+1+d) % n=o+1+d - n:=by
     have h2:(o+1+d)=(o+1+d - n)+n:=by omega
     rw [h2,Int.add_emod_right,Int.emod_eq_of_lt (by omega) (by omega)]
     omega
    omega
  have el:Aq (j9 (bD (tV 4) (bD (t2 (gI (fun x j=>0<j) fun i j=>È (i % j)) (t2 pY (t2 pY (tV 4) (tK (È 1))) (Bs (CP K) j8 0 (bD (t2 (gI0 fun i j=>È (i - j)) (tV 1) (tK (È 1))) gJ))) (tV 1)) gJ))) { nx:=fun x=>P PyData.none,rt:=P } [.pen (CP K),.im (.int n),.sh (.list (ts.map pD)),.im (.int s),.im (.int o)] :=
   ⟨rfl,n - 1,rfl,by omega,by omega,fun d d0 d1=>⟨by omega,zK,rfl,q (o,(o+1+d) % n) (last d d0 d1)⟩⟩
  show if decide (s=1)=true then _ else _
  refine eV (fun c=>?_) (fun c=>aL (A:=True) el)
  show if decide (2<n)=true then _ else _
  refine eV (fun c=>?_) (fun c=>el)
  have c:=of_decide_eq_true c
  have lo:=last 1 (by omega) (by omega)
  exact⟨by omega,zK,rfl,q (o,(o+2) % n) (by rw [show o+2=o+1+1 by omega]; exact lo)⟩
 show if decide (r=0)=true then _ else _
 refine eV (fun c=>?_) (fun c=>aL (A:=True) (rest r))
 refine⟨zK,(NP ts).1,rfl,?_⟩
 show if (!(ò (.list (ts.map pD)) (.list [])))=true then _ else _
 cases ts with
 | nil=>exact aL (A:=True) (rest r)
 | cons t ts =>
  refine aG (B:=True) ⟨rfl,_,rfl,?_,?_,fun d d0 d1=>?_⟩
  ·show (0:Int)<(((t::ts).map pD).length:Nat)
   rw [Ä,ĉ]; omega
  ·show (((t::ts).map pD).length:Int)<1073741824
   rw [Ä]; omega
  ·rw [Ä] at d1
   have hk:d.toNat<(t::ts).length:=by omega
   have ek:d=((d.toNat:Nat):Int):=by omega
   have z:atI ((t::ts).map pD) ((d.toNat:Nat):Int)=some (pD (t::ts)[d.toNat]):=cj (by rw [ç,Ó hk]; rfl)
   rw [← ek] at z
   exact⟨_,z,rfl,q _ (ok _ (ŏ hk))⟩
theorem rO:FnScope ["_law_pen","_law_few","_law_great","_law_n","_law_turned","_law_k","_law_shape","_law_spared","_law_ties","_law_other","_law_turn","_law_found"] ["_law_pen","_law_few","_law_great"] (ak (top 64)):=zC
theorem dN:(["_law_a","_law_b","_law_pen","_law_few","_law_great","_law_n","_law_turned","_law_k","_law_shape","_law_spared","_law_ties","_law_other","_law_turn","_law_found"]:List Str).Nodup:=by decide +kernel
theorem Cp (F:Fun K "_law_web" "_law_web" (top 64) f fd) (B:Ģ mg) (C__law_take:ì P w K mg base 1 "_law_take" ["_law_pen","_law_many"] (spP (CP K) j8)) (C__law_more:ì P w K mg base 2 "_law_more" ["_law_pen","_law_n","_law_ties"] (spP (CP K) Qt)):FnOk P w K mg base CX0 3 f fd ["_law_pen","_law_few","_law_great"] (spP (CP K) Vm):=by
 refine F.ok rO mQ (fun cdv A outer s H vs Q E hr h=>?_)
 have nd:=rO.nd
 refine⟨_,ë (Ç (é none (i:=3) nd rfl zQ (Š Å (Ŗ C__law_take hr (ķ 0) (À (Ï (ğ (À (Ã 1) (À (Ã 2) Á))) (Wr.qR B.int boot_int (À (Wr.fL hr.units (Ŗ C__law_take hr (ķ 0) (À Å Á)) Å) Á))) Á))))
  (Ç (é (some 0) (i:=4) nd rfl zQ (ğ Á))
  (Ç (İ ô rfl (ł B.range (À (Ã 3) Á)) (á (i:=5) nd rfl zQ) (Ç (Wr.o8 (ķ 4) (À (Ŗ C__law_take hr (ķ 0) (À (Š (Ã 5) Å) Á)) (À (Ã 5) Á))) (è [5] â)))
  (è [5] (Ç (é none (i:=6) nd rfl zQ (Ŗ C__law_take hr (ķ 0) (À Å Á)))
  (Ç (é none (i:=7) nd rfl zQ (Ï (ğ (À Å (À Å (À Å (À Å Á))))) (Ŗ C__law_take hr (ķ 0) (À Å Á))))
  (Ç (é (some 1) (i:=8) nd rfl zQ (ğ Á))
  (Ç (İ ô rfl (Wr.pA B.range (À Å (À (Ã 3) Á))) (á (i:=5) nd rfl zQ) (Ç (é none (i:=9) nd rfl zQ (Ï (ğ (À (Wr.gQ (Ã 5) Å) (À (Ŗ C__law_take hr (ķ 0) (À (Ã 5) Á)) (À (Wr.wX rfl B.max (À Å (À (Wr.gQ (Wr.gQ (Ã 5) Å) (Ŗ C__law_take hr (ķ 0) (À Å Á))) Á))) (À Å Á))))) (Ã 6)))
  (Ç (þ (Wr.Ce (Ŗ C__law_take hr (ķ 0) (À Å Á)) (Ã 7)) (Ð (Ž (ķ 8) (À (ï (À (Ã 9) (À (Ã 5) Á))) Á))) â) (è [5,9] â))))
  (è [5,9] (Ç (İ ô rfl (ł B.range (À (Wr.gb (Ŗ C__law_take hr (ķ 0) (À (Ï (ğ (À Å (À Å (À Å (À Å Á))))) (Ŗ C__law_take hr (ķ 0) (À Å Á))) Á)) (Wr.qR B.int boot_int (À (Wr.JQ (Ã 3) Å) Á))) Á)) (á (i:=10) nd rfl zQ) (Ç (Ž (ķ 8) (À (Ŗ C__law_more hr (ķ 0) (À (Ã 3) (À (Ã 8) Á))) Á)) (è [10] â)))
  (è [10] (Ç (Wr.nF none ["_law_a","_law_b"] (i:=11) rfl nd rfl zQ (Ė (Ã 8)) (fun c=>(Wr.eX (n:=2) rfl (ē (á (i:=0) dN rfl zQ) (ē (á (i:=1) dN rfl zQ) Ŷ)))) (fun c=>ŵ) (fun c=>(Wr.su B.sorted (À (ğ (À (Ï (Ã 6) (Ã 0)) (À (Ï (Ã 6) (Ã 1)) Á))) Á))))
  (Ð (Ø (ï (À (Ã 3) (À (Wr.lV B.tuple (À (Wr.rZ B.sorted (À (Ř ["_law_a","_law_b"] rfl (Ė (Ã 11)) (fun c=>(Wr.Du (n:=2) rfl (ē (á (i:=0) dN rfl zQ) (ē (á (i:=1) dN rfl zQ) Ŷ)))) (fun c=>ŵ) (fun c=>(ï (À (Ã 0) (À (Ã 1) Á))))) Á)) Á)) Á))))))))))))))))),enterQ h ?_⟩
 rintro ds P ⟨a,b,rfl,a1,a16,b1,b16,q⟩
 refine⟨[.im (.int a),.im (.int b),.any,.any,.any,.any,.any,.any,.any,.any,.any],rfl,?_⟩
 refine⟨rfl,zK,rfl,12,rfl,by decide,by decide,fun r r0 r1=>?_⟩
 obtain⟨m,m1,m16,mab,hm⟩:∃ m:Int,1<=m/\m<=16/\(m=a\/m=b)/\atI [È a,È b] (if decide (r=11)=true then 1 else 0)=some (.int m):=by
  cases decide (r=11)
  ·exact⟨a,a1,a16,.inl rfl,rfl⟩
  ·exact⟨b,b1,b16,.inr rfl,rfl⟩
 refine⟨.int m,hm,m,rfl,by omega,by omega,fun x x0 x1=>?_⟩
 have n1:1<=1+x:=by omega
 have nm:1+x<=m:=by omega
 show Dv 3 none (fun _ P=>P .imm (.int (1+x))) _ _
 generalize 1+x=n at n1 nm
 clear hm x0 x1
 refine⟨zK,⟨by omega,by omega⟩,rfl,fun (i:Nat) ρ=>∃ (l:List Int),ρ=[.pen (CP K),.im (.int a),.im (.int b),.im (.int n),.dw 0 (.list (l.map È)),.any,.any,.any,.any,.any,.any,.any]/\IsOrd i l,⟨[],rfl,rfl,fun x hx=>(nomatch hx),.nil⟩,?_,?_⟩
 ·rintro i d ρ hd ⟨l,rfl,hl⟩
  obtain⟨hi,rfl⟩:=cG hd
  have hlen:=hl.len
  refine⟨rfl,_,rfl,by omega,by omega,fun r r0 r1=>⟨rfl,r0,?_,?_,?_⟩⟩
  ·rw [Ä]; omega
  ·rw [Ä]; omega
  ·refine⟨l.take r.toNat++((i:Nat):Int)::l.drop r.toNat,?_,hl.ins r.toNat⟩
   show [Sl.pen (CP K),_,_,_,Sl.dw 0 (.list ((l.map È).take r.toNat++È (0+((i:Nat):Int))::(l.map È).drop r.toNat)),_,_,_,_,_,_,_]=_
   rw [ê,ý,List.map_take,List.map_drop,Int.zero_add]
   rfl
 rintro ρ ⟨l,rfl,hl⟩
 rw [bH] at hl
 rw [show ((n.toNat:Nat):Int)=n by omega] at hl
 refine⟨rfl,4,rfl,by decide,by decide,fun sh s0 s1=>?_⟩
 refine⟨zK,rfl,4,rfl,by decide,by decide,fun p p0 p1=>?_⟩
 obtain⟨v,hv⟩:∃ v:Int,atI [È 0,.int 0,.int 1,.int 4] p=some (.int v):=by
  obtain⟨e,he,z⟩:=BJ p0 p1 (.int 0) (.int 0) (.int 1) (.int 4)
  rcases z with rfl | rfl | rfl | rfl <;> exact⟨_,he⟩
 refine⟨.int v,hv,zK,?_⟩
 refine⟨⟨by omega,by omega,by omega,by omega⟩,rfl,fun (i:Nat) ρ=>∃ (ts:List Tie),ρ=[.pen (CP K),.im (.int a),.im (.int b),.im (.int n),.dw 0 (.list (l.map È)),.any,.im (.int sh),.im (.int v),.dw 1 (.list (ts.map pD)),.any,.any,.any]/\ts.length<=i/\OkN n ts,⟨[],rfl,Ö _,fun t ht=>nomatch ht⟩,?_,?_⟩
 ·rintro i d ρ hd ⟨ts,rfl,lt,ok⟩
  obtain⟨hi,rfl⟩:=cG hd
  have lm:(ts.map pD).length=ts.length:=Ä ..
  refine⟨rfl,1+((i:Nat):Int),rfl,by omega,by omega,fun x x0 x1=>⟨rfl,2,rfl,by decide,by decide,fun y y0 y1=>⟨zK,?_⟩⟩⟩
  obtain⟨o,ho,o0,o1⟩:∃ o:Int,atI [È (1+((i:Nat):Int) - 1),.int x,.int (if 1+((i:Nat):Int) - 1 - y > 0 then 1+((i:Nat):Int) - 1 - y else 0),.int 0] sh=some (.int o)/\0<=o/\o<1+((i:Nat):Int):=by
   obtain⟨e,he,z⟩:=BJ s0 s1 (.int (1+((i:Nat):Int) - 1)) (.int x) (.int (if 1+((i:Nat):Int) - 1 - y > 0 then 1+((i:Nat):Int) - 1 - y else 0)) (.int 0)
   rcases z with rfl | rfl | rfl | rfl
   ·exact⟨_,he,by omega,by omega⟩
   ·exact⟨_,he,by omega,by omega⟩
   ·refine⟨_,he,?_,?_⟩ <;> split <;> omega
   ·exact⟨_,he,by omega,by omega⟩
  refine⟨.int o,ho,rfl,12,rfl,by decide,by decide,fun z z0 z1=>?_⟩
  show if decide (v<=z)=true then _ else _
  refine eV (fun c=>⟨zK,rfl,by omega,ts++[(o,1+((i:Nat):Int))],?_,by rw [Ô,Ğ]; omega,ok.snoc ⟨⟨o0,by omega⟩,⟨by omega,by omega⟩,fun e=>?_⟩⟩) (fun c=>⟨ts,rfl,by omega,ok⟩)
  ·rw [← app1]; rfl
  ·have e:o=1+((i:Nat):Int):=e
   omega
 rintro ρ ⟨ts,rfl,lt,ok⟩
 rw [bH] at lt
 have lt:ts.length<=15:=by omega
 refine⟨rfl,zK,rfl,4,rfl,by decide,by decide,fun p p0 p1=>?_⟩
 obtain⟨c,hc,c0,c1⟩:∃ c:Int,atI [È 1,.int 3,.int 6,.int 25] p=some (.int c)/\1<=c/\c<=25:=by
  obtain⟨e,he,z⟩:=BJ p0 p1 (.int 1) (.int 3) (.int 6) (.int 25)
  rcases z with rfl | rfl | rfl | rfl
  ·exact⟨1,he,by decide,by decide⟩
  ·exact⟨3,he,by decide,by decide⟩
  ·exact⟨6,he,by decide,by decide⟩
  ·exact⟨25,he,by decide,by decide⟩
 refine⟨.int c,hc,c,rfl,by omega,by omega,fun z z0 z1=>?_⟩
 obtain⟨g,hg,g01,g1⟩:∃ g:Int,(if decide (1<n)=true then (1:Int) else 0)=g/\(g=0\/g=1)/\(g=1->2<=n):=by
  by_cases h:1<n
  ·exact⟨1,if_pos (decide_eq_true h),.inr rfl,fun _=>by omega⟩
  ·exact⟨0,if_neg (by rw [decide_eq_false h]; exact Î),.inl rfl,fun z=>by omega⟩
 have zg:0<=z * g/\z * g<=24/\(0<z * g->2<=n):=by
  rcases g01 with rfl | rfl
  ·rw [Int.mul_zero]; omega
  ·rw [Int.mul_one]; omega
 show Mj z (if decide (1<n)=true then (1:Int) else 0)/\_
 rw [hg]
 refine⟨.inr (by rcases g01 with rfl | rfl <;> exact⟨by decide,by decide⟩),?_⟩
 show (-(2 ^ 62)<=z * g/\z * g<2 ^ 62)/\_
 generalize z * g=w0 at zg
 refine⟨⟨by omega,by omega⟩,rfl,fun (i:Nat) ρ=>∃ (ts:List Tie),ρ=[.pen (CP K),.im (.int a),.im (.int b),.im (.int n),.dw 0 (.list (l.map È)),.any,.im (.int sh),.im (.int v),.dw 1 (.list (ts.map pD)),.any,.any,.any]/\ts.length<=15+i/\OkN n ts,⟨ts,rfl,lt,ok⟩,?_,?_⟩
 ·rintro i d ρ hd ⟨ts,rfl,lt,ok⟩
  obtain⟨hi,rfl⟩:=cG hd
  have lm:(ts.map pD).length=ts.length:=Ä ..
  refine⟨rfl,n,ts,rfl,zg.2.2 (by omega),by omega,by omega,ok,fun t ht=>⟨rfl,by omega,ts++[t],?_,by rw [Ô,Ğ]; omega,ok.snoc ht⟩⟩
  rw [ê]; rfl
 rintro ρ ⟨ts,rfl,lt,ok⟩
 rw [bH] at lt
 have lt:ts.length<=39:=by omega
 have lm:(ts.map pD).length=ts.length:=Ä ..
 refine⟨by omega,.new,fun i ys=>∃ us:List Tie,ys=us.map lD2/\us.length=i/\OkW n us,⟨[],rfl,rfl,fun t ht=>nomatch ht⟩,?_,?_⟩
 ·rintro i d ys hd ⟨us,rfl,hu,oku⟩
  obtain⟨t,ht,rfl⟩:=dR hd
  obtain⟨⟨a0,a1⟩,⟨b0,b1⟩,nab⟩:=ok t (É ht)
  obtain⟨x,ex,xr,xl⟩:=hl.at a0 a1
  obtain⟨y,ey,yr,yl⟩:=hl.at b0 b1
  have nxy:x≠y:=fun e=>by
   subst e
   have h1:=Æ.mp xl
   have h2:=Æ.mp yl
   have:=(List.getElem_inj hl.nd (h₀:=h1.1) (h₁:=h2.1)).mp (h1.2.trans h2.2.symm)
   omega
  refine⟨rfl,aG (B:=True) ⟨.int x,ex,.int y,ey,zK,[x,y],rfl,(show 2<64 by decide),fun out hp hs=>?_⟩⟩
  obtain⟨u,v,rfl,uv,eu,ev⟩:=QB hp hs nxy
  refine⟨rfl,us++[(u,v)],by rw [ê]; rfl,by rw [Ô,Ğ,hu],fun w hw=>?_⟩
  rcases ñ.mp hw with z | z
  ·exact oku w z
  ·rw [Í.mp z]
   exact⟨by rcases eu with rfl | rfl <;> omega,uv,by rcases ev with rfl | rfl <;> omega⟩
 rintro ys ⟨us,rfl,hu,oku⟩
 have lu:(us.map lD2).length=us.length:=Ä ..
 have hu:us.length<=39:=by omega
 refine G6 us lD2 pD .imm rfl (by omega) (fun t ht A B hA=>⟨rfl,aG (B:=B) ⟨zK,rfl,hA⟩⟩) ?_
 refine⟨us,.inl rfl,by omega,fun t ht=>⟨by have:=oku t ht; omega,by have:=oku t ht; omega⟩,fun us' hp _=>⟨zK,?_,q n us' n1 ?_ (by rw [hp.length_eq]; omega) fun t ht=>oku t (hp.mem_iff.mp ht)⟩⟩
 ·have e:=mX n us'
  show (norm _ (aA n us')).le .n0=true
  rw [aX e]
  rfl
 ·rcases mab with rfl | rfl
  ·exact .inl nm
  ·exact .inr nm
end
inductive Rt (us:List Tie):Int->Int->Prop
 | refl (a:Int):Rt us a a
 | step {a b c:Int} (h:Rt us a b) (t:(b,c)∈us):Rt us a c
theorem Rt.trans {us:List Tie}{a b c:Int} (h:Rt us a b) (k:Rt us b c):Rt us a c:=by
 induction k with
 | refl=>exact h
 | step _ t ih=>exact .step ih t
theorem MJ {us vs:List Tie} (h:∀ a b,(a,b)∈us->(b,a)∈vs) {a b:Int} (r:Rt us a b):Rt vs b a:=by
 induction r with
 | refl=>exact .refl _
 | step _ t ih=>exact (Rt.step (.refl _) (h _ _ t)).trans ih
theorem Rt.mono {us vs:List Tie} (h:∀ t∈us,t∈vs) {a b:Int} (r:Rt us a b):Rt vs a b:=by
 induction r with
 | refl=>exact .refl _
 | step _ t ih=>exact .step ih (h _ t)
theorem Rt.sym {us:List Tie} (h:∀ a b,(a,b)∈us->(b,a)∈us) {a b:Int} (r:Rt us a b):Rt us b a:=MJ h r
theorem Rt.rng {us:List Tie}{n:Nat} (ok:∀ t∈us,0<=t.2/\t.2<n) {a b:Int} (h:0<=a/\a<n) (r:Rt us a b):0<=b/\b<n:=by
 cases r with
 | refl=>exact h
 | step _ t=>exact ok _ t
open Classical in
def RZ (us:List Tie) (a b:Int):Bool:=decide (Rt us a b)
theorem aN {us:List Tie}{a b:Int}:RZ us a b=true↔Rt us a b:=by
 classical
 unfold RZ
 exact decide_eq_true_iff
def RB (us:List Tie) (a b:Nat):Bool:=RZ us ((a:Nat):Int) ((b:Nat):Int)
theorem iu {us:List Tie}{a b:Nat}:RB us a b=true↔Rt us ((a:Nat):Int) ((b:Nat):Int):=aN
theorem rB (us:List Tie) (a:Nat):RB us a a=true:=iu.mpr (.refl _)
def fD (R:Nat->Nat->Bool) (n a:Nat):List Nat:=(ã n).filter fun b=>R a b&&R b a
def jt (R:Nat->Nat->Bool) (n a:Nat):Bool:=decide ((fD R n a).head?=some a)
def zI (l:List Nat):List Int:=l.map fun i:Nat=>0+((i:Nat):Int)
def uw (R:Nat->Nat->Bool) (n k:Nat):List (List Int):=(((ã n).take k).filter (jt R n)).map fun a=>zI (fD R n a)
theorem Gd (R:Nat->Nat->Bool) (n k:Nat):(uw R n k).length<=n:=by
 unfold uw
 rw [Ä]
 have h1:=ą (jt R n) ((ã n).take k)
 rw [Ĕ,Ę] at h1
 omega
theorem Ly (R:Nat->Nat->Bool) {n k:Nat} (h:k<n):uw R n (k+1)=uw R n k++if jt R n k=true then [zI (fD R n k)] else []:=by
 unfold uw
 have e:(ã n).take (k+1)=(ã n).take k++[k]:=by
  rw [ė,List.getElem?_range h]
  rfl
 rw [e,ő,ê]
 cases hf:jt R n k <;> simp [hf]
theorem Cw {l:List Nat}{x:Int}:x∈zI l↔0<=x/\x.toNat∈l:=by
 unfold zI
 rw [Ĩ]
 constructor
 ·rintro ⟨i,hi,rfl⟩
  rw [show ((0+((i:Nat):Int)).toNat)=i by omega]
  exact⟨by omega,hi⟩
 ·intro h
  exact⟨x.toNat,h.2,by omega⟩
theorem xH {n:Nat}{x:Int}:x∈zI (ã n)↔0<=x/\x<n:=by
 rw [Cw,ģ]
 omega
theorem vX {l:List Nat} (h:l.Pairwise (·<·)):(zI l).Pairwise (·<·):=by
 unfold zI
 rw [List.pairwise_map]
 exact h.imp fun h=>by omega
def rsI (vs:List Tie) (n:Nat) (a:Int):List Int:=(zI (ã n)).filter (RZ vs a)
theorem cT {vs:List Tie}{n:Nat}{a x:Int}:x∈rsI vs n a↔(0<=x/\x<n)/\Rt vs a x:=by
 unfold rsI
 rw [Ý,xH,aN]
theorem jH {vs:List Tie}{n:Nat}{a:Int}:(rsI vs n a).Pairwise (·<·):=(vX List.pairwise_lt_range).filter _
theorem Q0 (vs:List Tie) (n:Nat) (a:Int):(rsI vs n a).length<=n:=by
 unfold rsI
 have:=ą (RZ vs a) (zI (ã n))
 unfold zI at this
 rw [Ä,Ę] at this
 exact this
theorem wB {l:List Int} (h:l.Pairwise (·<·)):l.Nodup:=h.imp fun h=>by omega
theorem uW {out ks l:List Int} (hp:out.Perm ks) (hs:out.Pairwise (·<=·)) (hn:ks.Nodup) (hl:l.Pairwise (·<·)) (hk:∀ q,q∈ks↔q∈l):out=l :=
 W.ksm_same (hp.trans ((List.perm_ext_iff_of_nodup hn (wB hl)).mpr hk)) hs (hl.imp fun h=>by omega)
theorem rT {l k:List Int} (hl:l.Pairwise (·<·)) (hk:k.Pairwise (·<·)) (h:∀ q,q∈l↔q∈k):l=k:=uW (List.Perm.refl _) (hl.imp fun h=>by omega) (wB hl) hk h
theorem Ul {vs:List Tie}{n:Nat}{a:Int}{out ks:List Int} (hp:out.Perm ks) (hs:out.Pairwise (·<=·)) (hn:ks.Nodup) (hk:∀ q,q∈ks↔Rt vs a q) (hr:∀ q,Rt vs a q->0<=q/\q<n):out=rsI vs n a :=
 uW hp hs hn jH fun q=>by
  rw [cT,hk]
  exact⟨fun h=>⟨hr q h,h⟩,fun h=>h.2⟩
theorem MK {vs us:List Tie}{n:Nat}{a:Int} (h:∀ x,Rt vs a x↔Rt us a x):rsI vs n a=rsI us n a:=rT jH jH fun q=>by rw [cT,cT,h]
def adj (us:List Tie) (F B:List Int):List Tie:=us.zipIdx.flatMap fun p=>if ((p.2:Nat):Int)∈F then [] else [p.1,(p.1.2,p.1.1)].filter fun t=>decide (t.2∉B)
theorem bG {us:List Tie}{F B:List Int}{x y:Int}:(x,y)∈adj us F B↔∃ k:Nat,(us[k]?=some (x,y)\/us[k]?=some (y,x))/\((k:Nat):Int)∉F/\y∉B:=by
 unfold adj
 rw [List.mem_flatMap]
 constructor
 ·rintro ⟨⟨t,k⟩,hk,h⟩
  have hk:=õ.mp hk
  by_cases hF:((k:Nat):Int)∈F
  ·rw [if_pos hF] at h; cases h
  ·rw [if_neg hF,Ý] at h
   obtain⟨h,hB⟩:=h
   refine⟨k,?_,hF,of_decide_eq_true hB⟩
   rcases Þ.mp h with e | e
   ·left; rw [e]; exact hk
   ·right
    have e:=Í.mp e
    have e1:x=t.2:=congrArg Prod.fst e
    have e2:y=t.1:=congrArg Prod.snd e
    rw [e1,e2]; exact hk
 ·rintro ⟨k,h,hF,hB⟩
  rcases h with h | h
  ·refine⟨((x,y),k),õ.mpr h,?_⟩
   rw [if_neg hF,Ý]
   exact⟨ä,decide_eq_true hB⟩
  ·refine⟨((y,x),k),õ.mpr h,?_⟩
   rw [if_neg hF,Ý]
   exact⟨Ù _ (Í.mpr rfl),decide_eq_true hB⟩
theorem Gh {us:List Tie}{F B:List Int}{n:Int} (ok:OkN n us) (n0:0<=n):∀ t∈adj us F B,(0<=t.1/\t.1<(n.toNat:Nat))/\0<=t.2/\t.2<(n.toNat:Nat):=by
 rintro ⟨x,y⟩ h
 obtain⟨k,e,_⟩:=bG.mp h
 have en:((n.toNat:Nat):Int)=n:=by omega
 rcases e with e | e
 ·have o:=ok _ (É e)
  exact⟨by rw [en]; exact o.1,by rw [en]; exact o.2.1⟩
 ·have o:=ok _ (É e)
  exact⟨by rw [en]; exact o.2.1,by rw [en]; exact o.1⟩
theorem Gg {us:List Tie}{F:List Int}:∀ a b,(a,b)∈adj us F []->(b,a)∈adj us F []:=fun a b h=>by
 obtain⟨k,e,hF,_⟩:=bG.mp h
 exact bG.mpr ⟨k,e.symm,hF,fun z=>nomatch z⟩
theorem OkW.okN {n:Int}{us:List Tie} (h:OkW n us):OkN n us:=fun t ht=>by
 have:=h t ht
 exact⟨⟨by omega,by omega⟩,⟨by omega,by omega⟩,by omega⟩
theorem nP (x a b:Int):([È a,.int b].any fun e=>ò e (.int x))=decide (x=a\/x=b):=by
 show (a == x || (b == x || false))=_
 rw [ĺ]
 simp
 omega
theorem zH {n:Nat}{l:List Int} (nd:l.Nodup) (h:∀ x∈l,0<=x/\x<n):l.length<=n:=by
 induction n generalizing l with
 | zero=>cases l with
  | nil=>exact Ö _
  | cons x l=>have:=h x (ä ..); omega
 | succ n ih =>
  by_cases e:((n:Nat):Int)∈l
  ·have z:=ih (nd.erase ((n:Nat):Int)) fun x hx=>by
    have:=h x (List.mem_of_mem_erase hx)
    have:x≠((n:Nat):Int):=(nd.mem_erase_iff.mp hx).1
    omega
   rw [List.length_erase_of_mem e] at z
   omega
  ·have z:=ih nd fun x hx=>by
    have:=h x hx
    have:x≠((n:Nat):Int):=fun w=>e (w ▸ hx)
    omega
   omega
structure Fd (n:Nat) (es:List Tie) (a:Int) (l:List Int) (at':Nat):Prop where
 nd:l.Nodup
 rng:∀ x∈l,0<=x/\x<n
 st:a∈l
 rt:∀ x∈l,Rt es a x
 cl:∀ (j:Nat) (x:Int),j<at'->l[j]?=some x->∀ y,(x,y)∈es->y∈l
section
variable {P:Program}{w:World}{K:Ü}{mg:Str->Option Value}{base:Heap}{f:Addr}{fd:FuncData}
end
abbrev Put:=Int×Tie
def rowOf (ps:List Put) (p:Nat):List Tie:=(ps.filter fun q=>decide (q.1=((p:Nat):Int))).map (·.2)
def stOf (n:Nat) (ps:List Put):List (List Tie):=(ã n).map (rowOf ps)
def edg (ps:List Put):List Tie:=ps.map fun q=>(q.1,q.2.1)
structure PutsOk (n:Nat) (ps:List Put):Prop where
 few:ps.length<=200
 rng:∀ q∈ps,(0<=q.1/\q.1<n)/\0<=q.2.1/\q.2.1<n
theorem gM (n:Nat) (ps:List Put):(stOf n ps).length=n:=by
 unfold stOf
 rw [Ä,Ę]
theorem wj {n p:Nat} (ps:List Put) (h:p<n):(stOf n ps)[p]?=some (rowOf ps p):=by
 unfold stOf
 rw [ç,List.getElem?_range h]
 rfl
theorem Fg {ps:List Put}{p:Nat}{t:Tie}:t∈rowOf ps p↔(((p:Nat):Int),t)∈ps:=by
 unfold rowOf
 rw [Ĩ]
 constructor
 ·rintro ⟨q,hq,rfl⟩
  obtain⟨h1,h2⟩:=Ý.mp hq
  have h2:q.1=((p:Nat):Int):=of_decide_eq_true h2
  rw [← h2]
  exact h1
 ·intro h
  exact⟨_,Ý.mpr ⟨h,decide_eq_true rfl⟩,rfl⟩
theorem lM (ps:List Put) (p:Nat):(rowOf ps p).length<=ps.length:=by
 unfold rowOf
 rw [Ä]
 exact ą _ _
theorem Jh (ps:List Put) (q:Put) (p:Nat):rowOf (ps++[q]) p=if q.1=((p:Nat):Int) then rowOf ps p++[q.2] else rowOf ps p:=by
 unfold rowOf
 rw [ő,ê]
 by_cases h:q.1=((p:Nat):Int)
 ·rw [if_pos h,List.filter_cons_of_pos (by exact decide_eq_true h)]
  rfl
 ·rw [if_neg h,List.filter_cons_of_neg (by rw [decide_eq_false h]; exact Î)]
  exact ÿ _
theorem Mw {n:Nat}{ps:List Put}{q:Put} (h:0<=q.1/\q.1<n):(stOf n ps).set q.1.toNat (rowOf ps q.1.toNat++[q.2])=stOf n (ps++[q]):=by
 refine List.ext_getElem? fun i=>?_
 by_cases hi:i<n
 ·rw [wj _ hi,Jh]
  by_cases e:q.1.toNat=i
  ·rw [e,Ĉ (by rw [gM]; exact hi),if_pos (by omega)]
  ·rw [Ĥ e,wj _ hi,if_neg (by omega)]
 ·rw [List.getElem?_eq_none (by rw [List.length_set,gM]; omega),List.getElem?_eq_none (by rw [gM]; omega)]
theorem Bv (n:Nat):stOf n []=Ñ n []:=by
 refine List.eq_replicate_iff.mpr ⟨gM _ _,fun b hb=>?_⟩
 obtain⟨p,_,rfl⟩:=Ĩ.mp hb
 rfl
def stD (S:List (List Tie)):D:=.list (S.map fun ts=>.list (ts.map pD))
def rP (S:List (List Tie)):List (List D):=S.map fun ts=>ts.map pD
theorem Bw (S:List (List Tie)):Į ((rP S).map Į)=stD S:=by
 unfold rP stD
 rw [ş]
 rfl
theorem Q5 (S:List (List Tie)) (k:Nat) (l:List Tie) (u:Tie):(rP S).set k (l.map pD++[pD u])=rP (S.set k (l++[u])):=by
 unfold rP
 rw [List.map_set,ê]
 rfl
theorem rW {n p:Nat} (ps:List Put) (h:p<n):(rP (stOf n ps))[p]?=some ((rowOf ps p).map pD):=by
 unfold rP
 rw [ç,wj ps h]
 rfl
theorem lN {n:Nat}{ps:List Put}{q:Put} (h:0<=q.1/\q.1<n):(rP (stOf n ps)).set q.1.toNat ((rowOf ps q.1.toNat).map pD++[pD q.2])=rP (stOf n (ps++[q])):=by
 rw [Q5,Mw h]
theorem Gi {us:List Tie}{x y:Int}:(x,y)∈adj us [] []↔((x,y)∈us\/(y,x)∈us):=by
 rw [bG]
 constructor
 ·rintro ⟨k,e | e,_⟩
  ·exact .inl (É e)
  ·exact .inr (É e)
 ·rintro (e | e)
  ·obtain⟨k,hk⟩:=ę e
   exact⟨k,.inl hk,æ,æ⟩
  ·obtain⟨k,hk⟩:=ę e
   exact⟨k,.inr hk,æ,æ⟩
theorem fG {ps:List Put}{x y:Int}:(x,y)∈edg ps↔∃ k,(x,(y,k))∈ps:=by
 unfold edg
 rw [Ĩ]
 constructor
 ·rintro ⟨⟨p,y',k⟩,hq,e⟩
  cases e
  exact⟨k,hq⟩
 ·rintro ⟨k,h⟩
  exact⟨_,h,rfl⟩
def aB (m:IM):List Int:=m.map (·.1)
theorem dz {m:IM}{k:Int}:dU m k=true↔k∈aB m:=by
 unfold dU aB
 rw [List.any_eq_true,Ĩ]
 constructor
 ·rintro ⟨p,hp,e⟩; exact⟨p,hp,of_decide_eq_true e⟩
 ·rintro ⟨p,hp,e⟩; exact⟨p,hp,decide_eq_true e⟩
theorem KD {m:IM}{k:Int} (h:dU m k=false):k∉aB m:=fun z=>by rw [dz.mpr z] at h; cases h
theorem wC {m:IM}{k:Int}{d:D} (h:dU m k=false):iI m k d=m++[(k,d)]:=by
 unfold iI
 rw [h]
 rfl
inductive Cm (ps:List Put) (a:Int):IM->Prop
 | base:Cm ps a [(a,.none)]
 | snoc {m:IM}{x p k:Int} (h:Cm ps a m) (hp:p∈aB m) (hx:x∉aB m) (j:(p,(x,k))∈ps):Cm ps a (m++[(x,.tuple [.int p,.int k])])
structure Sr (n:Nat) (ps:List Put) (a:Int) (m:IM) (open':Int->Prop):Prop where
 im:tU m=true
 nd:(aB m).Nodup
 rng:∀ x∈aB m,0<=x/\x<n
 st:a∈aB m
 rt:∀ x∈aB m,Rt (edg ps) a x
 cl:∀ x∈aB m,open' x\/∀ b,(x,b)∈edg ps->b∈aB m
 cm:Cm ps a m
theorem Sr.few {n:Nat}{ps:List Put}{a:Int}{m:IM}{o:Int->Prop} (h:Sr n ps a m o):m.length<=n:=by
 have:=zH h.nd h.rng
 unfold aB at this
 rwa [Ä] at this
theorem Sr.all {n:Nat}{ps:List Put}{a:Int}{m:IM} (h:Sr n ps a m fun _=>False):∀ x,dU m x=true↔Rt (edg ps) a x:=fun x=>by
 rw [dz]
 refine⟨h.rt x,fun r=>?_⟩
 induction r with
 | refl=>exact h.st
 | step r t ih=>exact (h.cl _ ih).elim ġ fun z=>z _ t
theorem Sr.add {n:Nat}{ps:List Put}{a x c k:Int}{m:IM}{o o':Int->Prop} (h:Sr n ps a m o) (jn:(x,(c,k))∈ps) (hx:x∈aB m) (hc:0<=c/\c<n) (nw:dU m c=false) (oo:∀ y,o y->o' y) (oc:o' c):Sr n ps a (iI m c (.tuple [.int x,.int k])) o':=by
 have t:(x,c)∈edg ps:=fG.mpr ⟨k,jn⟩
 generalize hdd:ŝ [.int x,.int k]=d
 have hd:bx d=true:=by rw [← hdd]; rfl
 have kk:aB (m++[(c,d)])=aB m++[c]:=by unfold aB; rw [ê]; rfl
 rw [wC nw]
 refine⟨?_,?_,?_,?_,?_,?_,by rw [← hdd]; exact .snoc h.cm hx (KD nw) jn⟩
 ·have:=h.im
  unfold tU at this ⊢
  rw [List.all_append,this]
  show (true&&(bx d&&true))=true
  rw [hd]; rfl
 ·rw [kk]
  exact List.nodup_append.mpr ⟨h.nd,by simp,fun y hy z hz=>by rw [Í.mp hz]; rintro rfl; exact KD nw hy⟩
 ·rw [kk]
  intro y hy
  rcases ñ.mp hy with z | z
  ·exact h.rng y z
  ·rw [Í.mp z]; exact hc
 ·rw [kk]; exact í _ h.st
 ·rw [kk]
  intro y hy
  rcases ñ.mp hy with z | z
  ·exact h.rt y z
  ·rw [Í.mp z]; exact .step (h.rt x hx) t
 ·rw [kk]
  intro y hy
  rcases ñ.mp hy with z | z
  ·exact (h.cl y z).imp (oo y) fun q b hb=>í _ (q b hb)
  ·rw [Í.mp z]; exact .inl oc
theorem Sr.wk {n:Nat}{ps:List Put}{a:Int}{m:IM}{o o':Int->Prop} (h:Sr n ps a m o) (f:∀ x∈aB m,o x->o' x\/∀ b,(x,b)∈edg ps->b∈aB m):Sr n ps a m o' :=
 ⟨h.im,h.nd,h.rng,h.st,h.rt,fun x hx=>(h.cl x hx).elim (f x hx) .inr,h.cm⟩
def visit (y:Int) (st:IM×List Int) (t:Tie):IM×List Int:=if dU st.1 t.1=true then st else (iI st.1 t.1 (.tuple [.int y,.int t.2]),st.2++[t.1])
def visits (ps:List Put) (st:IM×List Int) (y:Int):IM×List Int:=(rowOf ps y.toNat).foldl (visit y) st
def Gs (ps:List Put):Nat->IM->List Int->IM
 | 0,m,_=>m
 | _+1,m,[]=>m
 | k+1,m,x::r=>Gs ps k ((x::r).foldl (visits ps) (m,[])).1 ((x::r).foldl (visits ps) (m,[])).2
def srM (n:Nat) (ps:List Put) (a:Int):IM:=Gs ps (2 * n+2) [(a,.none)] [a]
structure VI (n:Nat) (ps:List Put) (a:Int) (k:Nat) (R rest:List Int) (y:Int) (st:IM×List Int):Prop where
 sr:Sr n ps a st.1 (fun z=>(z∈st.2\/z∈rest)\/z=y)
 row:∀ z∈R,z∈aB st.1
 la:∀ z∈st.2,z∈aB st.1
 len:st.1.length=k+st.2.length
 me:y∈aB st.1
theorem VI.one {n:Nat}{ps:List Put}{a:Int}{k:Nat}{R rest:List Int}{y:Int}{st:IM×List Int} (ok:PutsOk n ps) (h:VI n ps a k R rest y st) {t:Tie} (ht:(y,t)∈ps):VI n ps a k R rest y (visit y st t)/\t.1∈aB (visit y st t).1/\∀ z∈aB st.1,z∈aB (visit y st t).1:=by
 unfold visit
 cases hb:dU st.1 t.1 with
 | true =>
  rw [if_pos rfl]
  exact⟨h,dz.mp hb,fun z hz=>hz⟩
 | false =>
  rw [if_neg Î]
  have kk:aB (iI st.1 t.1 (.tuple [.int y,.int t.2]))=aB st.1++[t.1]:=by
   rw [wC hb]; unfold aB; rw [ê]; rfl
  have sub:∀ z∈aB st.1,z∈aB (iI st.1 t.1 (.tuple [.int y,.int t.2])):=fun z hz=>by rw [kk]; exact í _ hz
  have own:t.1∈aB (iI st.1 t.1 (.tuple [.int y,.int t.2])):=by rw [kk]; exact ß _ (Í.mpr rfl)
  refine⟨⟨h.sr.add (x:=y) ht h.me (ok.rng _ ht).2 hb (fun z hz=>?_) (.inl (.inl (ß _ (Í.mpr rfl)))),fun z hz=>sub z (h.row z hz),fun z hz=>?_,?_,sub y h.me⟩,own,sub⟩
  ·rcases hz with (z | z) | z
   ·exact .inl (.inl (í _ z))
   ·exact .inl (.inr z)
   ·exact .inr z
  ·rcases ñ.mp hz with z | z
   ·exact sub _ (h.la _ z)
   ·rw [Í.mp z]; exact own
  ·have:=h.len
   rw [wC hb,Ô,Ô]
   show st.1.length+1=k+(st.2.length+1)
   omega
theorem VI.many {n:Nat}{ps:List Put}{a:Int}{k:Nat}{R rest:List Int}{y:Int} (ok:PutsOk n ps):∀ (ts:List Tie) {st:IM×List Int},(∀ t∈ts,(y,t)∈ps)->VI n ps a k R rest y st->VI n ps a k R rest y (ts.foldl (visit y) st)/\(∀ t∈ts,t.1∈aB (ts.foldl (visit y) st).1)/\∀ z∈aB st.1,z∈aB (ts.foldl (visit y) st).1
 | [],st,_,h=>⟨h,(fun t ht=>nomatch ht),fun z hz=>hz⟩
 | t::ts,st,hp,h=>by
  obtain⟨h1,h2,h3⟩:=h.one ok (hp t ä)
  obtain⟨g1,g2,g3⟩:=VI.many ok ts (fun u hu=>hp u (Ù _ hu)) h1
  refine⟨g1,fun u hu=>?_,fun z hz=>g3 z (h3 z hz)⟩
  rcases Þ.mp hu with rfl | hu
  ·exact g3 _ h2
  ·exact g2 u hu
structure WI (n:Nat) (ps:List Put) (a:Int) (k:Nat) (R rest:List Int) (st:IM×List Int):Prop where
 sr:Sr n ps a st.1 (fun z=>z∈st.2\/z∈rest)
 row:∀ z∈R,z∈aB st.1
 la:∀ z∈st.2,z∈aB st.1
 len:st.1.length=k+st.2.length
theorem WI.into {n:Nat}{ps:List Put}{a:Int}{k:Nat}{R rest:List Int}{y:Int}{st:IM×List Int} (h:WI n ps a k R (y::rest) st) (hy:y∈R):VI n ps a k R rest y st:=⟨h.sr.wk fun z _ hz=>.inl (by
 rcases hz with hz | hz
 ·exact .inl (.inl hz)
 ·rcases Þ.mp hz with e | e
  ·exact .inr e
  ·exact .inl (.inr e)),h.row,h.la,h.len,h.row y hy⟩
theorem Ji {ps:List Put}{y:Int} (y0:0<=y):∀ t∈rowOf ps y.toNat,(y,t)∈ps:=fun t ht=>by
 have:=Fg.mp ht
 rwa [show ((y.toNat:Nat):Int)=y by omega] at this
theorem WI.next {n:Nat}{ps:List Put}{a:Int}{k:Nat}{R rest:List Int}{y:Int}{st:IM×List Int} (ok:PutsOk n ps) (h:WI n ps a k R (y::rest) st) (hy:y∈R):WI n ps a k R rest (visits ps st y):=by
 have yr:=h.sr.rng y (h.row y hy)
 obtain⟨g1,g2,g3⟩:=(h.into hy).many ok (rowOf ps y.toNat) (Ji yr.1)
 unfold visits
 refine⟨g1.sr.wk fun z hz hz'=>?_,g1.row,g1.la,g1.len⟩
 rcases hz' with z' | z'
 ·exact .inl z'
 ·right
  intro b hb
  rw [z'] at hb
  obtain⟨k,hk⟩:=fG.mp hb
  refine g2 (b,k) (Fg.mpr ?_)
  rwa [show ((y.toNat:Nat):Int)=y by omega]
theorem WI.many {n:Nat}{ps:List Put}{a:Int}{k:Nat}{R:List Int} (ok:PutsOk n ps):∀ (l rest:List Int) {st:IM×List Int},(∀ y∈l,y∈R)->WI n ps a k R (l++rest) st->WI n ps a k R rest (l.foldl (visits ps) st)
 | [],rest,st,_,h=>h
 | y::l,rest,st,hl,h=>WI.many ok l rest (fun z hz=>hl z (Ù _ hz)) (h.next ok (hl y ä))
theorem WI.start {n:Nat}{ps:List Put}{a:Int}{m:IM}{R:List Int} (h:Sr n ps a m (·∈R)) (hr:∀ x∈R,x∈aB m):WI n ps a m.length R R (m,[]):=⟨h.wk fun x _ hx=>.inl (.inr hx),hr,(fun y hy=>nomatch hy),rfl⟩
theorem WI.at {n:Nat}{ps:List Put}{a:Int}{m:IM}{R:List Int} (ok:PutsOk n ps) (h:Sr n ps a m (·∈R)) (hr:∀ x∈R,x∈aB m) (i:Nat):WI n ps a m.length R (R.drop i) ((R.take i).foldl (visits ps) (m,[])) :=
 WI.many ok (R.take i) (R.drop i) (fun y hy=>List.mem_of_mem_take hy) (by rw [Ŧ]; exact WI.start h hr)
def mes (n:Nat) (m:IM) (R:List Int):Nat:=2 * (n - m.length)+(if R=[] then 0 else 1)
theorem WI.less {n:Nat}{ps:List Put}{a:Int}{m:IM}{R:List Int}{st:IM×List Int} (h:WI n ps a m.length R [] st) (hR:R≠[]):mes n st.1 st.2<mes n m R:=by
 have few:=h.sr.few
 have len:=h.len
 unfold mes
 rw [if_neg hR]
 by_cases e:st.2=[]
 ·rw [e] at len
  rw [if_pos e]
  have len:st.1.length=m.length+0:=len
  omega
 ·rw [if_neg e]
  have:=List.length_pos_iff.mpr e
  omega
theorem WI.done {n:Nat}{ps:List Put}{a:Int}{m:IM}{R:List Int}{st:IM×List Int} (h:WI n ps a m.length R [] st):Sr n ps a st.1 (·∈st.2):=h.sr.wk fun z _ hz=>.inl (hz.elim id fun q=>nomatch q)
theorem Ek {n:Nat}{ps:List Put}{a:Int} (ok:PutsOk n ps):∀ (k:Nat) (m:IM) (R:List Int),mes n m R<=k->Sr n ps a m (·∈R)->(∀ x∈R,x∈aB m)->Sr n ps a (Gs ps k m R) fun _=>False
 | k,m,[],_,h,_=>by
  have e:Gs ps k m []=m:=by cases k <;> rfl
  rw [e]
  exact h.wk fun z _ hz=>nomatch hz
 | 0,m,x::r,hk,_,_=>by
  unfold mes at hk
  rw [if_neg (fun z=>nomatch z)] at hk
  omega
 | k+1,m,x::r,hk,h,hr=>by
  have W:=WI.at ok h hr (x::r).length
  rw [List.drop_length,ħ] at W
  have l:=W.less (fun z=>nomatch z)
  exact Ek ok k _ _ (by omega) W.done W.la
theorem yN {n:Nat}{ps:List Put}{a:Int} (a0:0<=a) (a1:a<n):Sr n ps a [(a,.none)] (·∈[a]):=by
 refine⟨rfl,by simp [aB],fun x hx=>?_,by simp [aB],fun x hx=>?_,fun x hx=>.inl ?_,.base⟩
 ·have e:x=a:=by simpa [aB] using hx
  omega
 ·have e:x=a:=by simpa [aB] using hx
  rw [e]; exact .refl _
 ·have e:x=a:=by simpa [aB] using hx
  rw [e]; exact Í.mpr rfl
theorem vm (a:Int):∀ x∈[a],x∈aB [(a,PyData.none)]:=fun x hx=>by
 rw [Í.mp hx]
 simp [aB]
theorem kh {n:Nat}{ps:List Put}{a:Int} (ok:PutsOk n ps) (a0:0<=a) (a1:a<n):Sr n ps a (srM n ps a) fun _=>False:=Ek ok _ _ _ (by
 unfold mes
 rw [if_neg (fun z=>nomatch z)]
 show 2 * (n - 1)+1<=2 * n+2
 omega) (yN a0 a1) (vm a)
def nA (ds:List D) (P:D->Prop):Prop:=∃ n ps a,ds=[stD (stOf n ps),.int a]/\n<=100/\PutsOk n ps/\0<=a/\a<n/\P (.dict (kvD (srM n ps a)))
section
variable {P:Program}{w:World}{K:Ü}{mg:Str->Option Value}{base:Heap}{f:Addr}{fd:FuncData}
theorem uU:FnScope ["steps","start","came","row","later","place","step"] ["steps","start"] (ak (top 21)):=zC
theorem GP (F:Fun K "search" "search" (top 21) f fd) (B:Ģ mg):FnOk P w K mg base CX0 1 f fd ["steps","start"] (spD nA):=by
 refine F.ok uU Ē (fun cdv A outer s H vs Q E hr h=>?_)
 have nd:=uU.nd
 refine⟨_,ë (Ç (é (some 0) (i:=2) nd rfl zQ (Wr.sJ (Ã 1) ň))
  (Ç (é none (i:=3) nd rfl zQ (ğ (À (Ã 1) Á)))
  (Ç (Wr.nD ô (Wr.qP (Ã 3)) (Ç (é (some 1) (i:=4) nd rfl zQ (ğ Á))
  (Ç (İ ô rfl (Ė (Ã 3)) (á (i:=5) nd rfl zQ) (Ç (İ ô rfl (Ė (Ï (Ã 0) (Ã 5))) (á (i:=6) nd rfl zQ) (Ç (þ (Wr.eG hr.units (Ï (Ã 6) Å) (Ã 2)) (Ç (Wr.q9 hr.units (ķ 2) (Ï (Ã 6) Å) (ï (À (Ã 5) (À (Ï (Ã 6) Å) Á))))
  (Ð (Ž (ķ 4) (À (Ï (Ã 6) Å) Á)))) â) (è [6] â))) (è [5,6] â)))
  (è [5,6] (Wr.Dp 4 (Ç (é none (i:=3) nd rfl zQ (Ã 4)) (è [4,5,6] â)))))))
  (è [3,4,5,6] (Ð (Ø (Ã 2))))))),aK h ?_⟩
 rintro ds P ⟨n,ps,a,rfl,n16,ok,a0,a1,q⟩
 refine⟨[.sh (stD (stOf n ps)),.im (.int a),.any,.any,.any,.any,.any],rfl,?_⟩
 refine⟨rfl,zK,?_⟩
 refine⟨fun mm ρ=>∃ (m:IM) (row:List Int) (fuel:Nat),ρ=[.sh (stD (stOf n ps)),.im (.int a),.dw 0 (.dict (kvD m)),.sn (iD row),.any,.any,.any]/\Sr n ps a m (·∈row)/\(∀ x∈row,x∈aB m)/\mm=mes n m row/\mm<=fuel/\Gs ps fuel m row=srM n ps a,⟨_,[(a,.none)],[a],2 * n+2,rfl,yN a0 a1,vm a,rfl,?_,rfl⟩,?_⟩
 ·unfold mes
  rw [if_neg (fun z=>nomatch z)]
  show 2 * (n - 1)+1<=2 * n+2
  omega
 rintro mm ρ ⟨m,R,fuel,rfl,h,hr,rfl,hf,e⟩
 show if (!(R.map È).isEmpty)=true then _ else _
 cases hR:R with
 | nil =>
  subst hR
  refine aL (A:=True) ⟨rfl,?_⟩
  have e2:Gs ps fuel m []=m:=by cases fuel <;> rfl
  rw [e2] at e
  rw [e]
  exact q
 | cons x0 R0 =>
  refine aG (B:=True) ?_
  rw [← hR]
  have hne:R≠[]:=by rw [hR]; exact fun z=>nomatch z
  refine⟨by decide,rfl,fun (i:Nat) ρ=>∃ st:IM×List Int,st=(R.take i).foldl (visits ps) (m,[])/\ρ=[.sh (stD (stOf n ps)),.im (.int a),.dw 0 (.dict (kvD st.1)),.sn (iD R),.dw 1 (iD st.2),.any,.any],⟨(m,[]),rfl,rfl⟩,?_,?_⟩
  ·rintro i d ρ hd ⟨st,hst,rfl⟩
   obtain⟨y,hy,rfl⟩:=dR hd
   have ym:=É hy
   have W:=WI.at ok h hr i
   rw [← hst] at W
   have dr:R.drop i=y::R.drop (i+1):=by
    have hi:=(Æ.mp hy).1
    rw [Ż hi,(Æ.mp hy).2]
   rw [dr] at W
   have V:=W.into ym
   have yr:=W.sr.rng y (W.row y ym)
   have fl:=lM ps y.toNat
   have fl2:=ok.few
   have eat:atI ((stOf n ps).map fun ts=>Į (ts.map pD)) y=some (.list ((rowOf ps y.toNat).map pD)):=by
    have:=cj (xs:=(stOf n ps).map fun ts=>Į (ts.map pD)) (j:=y.toNat) (v:=.list ((rowOf ps y.toNat).map pD)) (by rw [ç,wj ps (by omega)]; rfl)
    rwa [show ((y.toNat:Nat):Int)=y by omega] at this
   have tk:R.take (i+1)=R.take i++[y]:=by rw [ė,hy]; rfl
   refine⟨.list ((rowOf ps y.toNat).map pD),eat,rfl,fun (j:Nat) ρ=>∃ s2:IM×List Int,s2=((rowOf ps y.toNat).take j).foldl (visit y) st/\ρ=[.sh (stD (stOf n ps)),.im (.int a),.dw 0 (.dict (kvD s2.1)),.sn (iD R),.dw 1 (iD s2.2),.im (.int y),.any],⟨st,rfl,rfl⟩,?_,?_⟩
   ·rintro j d ρ hd ⟨s2,hs2,rfl⟩
    obtain⟨t,ht,rfl⟩:=dR hd
    have tj:(rowOf ps y.toNat).take (j+1)=(rowOf ps y.toNat).take j++[t]:=by rw [ė,ht]; rfl
    have V2:=(V.many ok ((rowOf ps y.toNat).take j) fun u hu=>Ji yr.1 u (List.mem_of_mem_take hu)).1
    rw [← hs2] at V2
    have few2:=V2.sr.few
    have len2:=V2.len
    have nx:visit y s2 t=((rowOf ps y.toNat).take (j+1)).foldl (visit y) st:=by rw [tj,List.foldl_append,← hs2]; rfl
    refine⟨.int t.1,rfl,s2.1,rfl,?_⟩
    show if (!dU s2.1 t.1)=true then _ else _
    unfold visit at nx
    cases hb:dU s2.1 t.1 with
    | true =>
     rw [hb,if_pos rfl] at nx
     exact aL (A:=True) ⟨s2,nx,rfl⟩
    | false =>
     rw [hb,if_neg Î] at nx
     have ll:(s2.2.map È).length=s2.2.length:=Ä ..
     refine aG (B:=True) ⟨.int t.2,rfl,zK,.int t.1,rfl,s2.1,rfl,rfl,V2.sr.im,by omega,.int t.1,rfl,rfl,by omega,_,nx,?_⟩
     unfold iD
     rw [ê]
     rfl
   ·rintro ρ ⟨s2,hs2,rfl⟩
    rw [Ä,ħ] at hs2
    refine⟨s2,?_,rfl⟩
    rw [tk,List.foldl_append,← hst,hs2]
    rfl
  ·rintro ρ ⟨st,hst,rfl⟩
   rw [Ä] at hst
   have W:=WI.at ok h hr R.length
   rw [← hst,List.drop_length] at W
   have less:=W.less hne
   rw [ħ] at hst
   refine⟨rfl,mes n st.1 st.2,less,st.1,st.2,fuel - 1,rfl,W.done,W.la,rfl,by omega,?_⟩
   cases fuel with
   | zero=>omega
   | succ k =>
    rw [hst,← e,hR]
    rfl
end
inductive Wy (ws:List Put) (a:Int):List Int->List Int->Int->Prop
 | one:Wy ws a [a] [] a
 | step {ps ks:List Int}{p x k:Int} (h:Wy ws a ps ks p) (hx:x∉ps) (j:(p,(x,k))∈ws):Wy ws a (ps++[x]) (ks++[k]) x
inductive TR (m:IM):List Int->List Int->Int->Prop
 | one {a:Int} (h:mZ m a=some .none):TR m [a] [] a
 | step {ps ks:List Int}{p x k:Int} (h:TR m ps ks p) (g:mZ m x=some (.tuple [.int p,.int k])):TR m (ps++[x]) (ks++[k]) x
theorem Ab {m:IM}{x:Int}{e:D}{q:Int×D} (h:mZ m x=some e):mZ (m++[q]) x=some e:=by
 unfold mZ at h ⊢
 rw [List.find?_append]
 cases hf:m.find? fun p=>decide (p.1=x) with
 | none=>rw [hf] at h; cases h
 | some z=>rw [hf] at h; exact h
theorem Ox {m:IM}{y:Int}{d:D} (hx:y∉aB m):mZ (m++[(y,d)]) y=some d:=by
 unfold mZ
 have hf:(m.find? fun p=>decide (p.1=y))=none:=List.find?_eq_none.mpr fun p hp z=>hx (Ĩ.mpr ⟨p,hp,of_decide_eq_true z⟩)
 rw [List.find?_append,hf]
 show ((List.find? (fun p=>decide (p.1=y)) [(y,d)])).map (·.2)=some d
 rw [List.find?_cons_of_pos (by exact decide_eq_true rfl)]
 rfl
theorem TR.snoc {m:IM}{q:Int×D}{ps ks:List Int}{x:Int} (h:TR m ps ks x):TR (m++[q]) ps ks x:=by
 induction h with
 | one h=>exact .one (Ab h)
 | step _ g ih=>exact .step ih (Ab g)
theorem Cm.tr {ws:List Put}{a:Int}{m:IM} (h:Cm ws a m):∀ x∈aB m,∃ ps ks,Wy ws a ps ks x/\TR m ps ks x/\(∀ y∈ps,y∈aB m)/\ps.length<=m.length/\ks.length<=m.length:=by
 induction h with
 | base =>
  intro x hx
  have e:x=a:=by simpa [aB] using hx
  subst e
  exact⟨[x],[],.one,.one (by unfold mZ; rw [List.find?_cons_of_pos (by exact decide_eq_true rfl)]; rfl),fun y hy=>by rw [Í.mp hy]; simp [aB],Ö _,Ě _⟩
 | @snoc m x0 p k h hp hx j ih =>
  have kk:aB (m++[(x0,.tuple [.int p,.int k])])=aB m++[x0]:=by unfold aB; rw [ê]; rfl
  intro x hxm
  rw [kk] at hxm
  rcases ñ.mp hxm with z | z
  ·obtain⟨ps,ks,w,t,hs,l1,l2⟩:=ih x z
   exact⟨ps,ks,w,t.snoc,fun y hy=>by rw [kk]; exact í _ (hs y hy),by rw [Ô]; omega,by rw [Ô]; omega⟩
  ·rw [Í.mp z]
   obtain⟨ps,ks,w,t,hs,l1,l2⟩:=ih p hp
   refine⟨ps++[x0],ks++[k],.step w (fun q=>hx (hs _ q)) j,.step t.snoc (Ox hx),fun y hy=>?_,by rw [Ô,Ô]; simpa using l1,by rw [Ô,Ô]; simpa using l2⟩
   rw [kk]
   rcases ñ.mp hy with q | q
   ·exact í _ (hs y q)
   ·exact ß _ q
theorem TR.val {m:IM}{ps ks:List Int}{x:Int} (h:TR m ps ks x):∃ d,mZ m x=some d/\((d=.none/\ps=[x]/\ks=[])\/∃ ps' ks' p k,d=.tuple [.int p,.int k]/\ps=ps'++[x]/\ks=ks'++[k]/\TR m ps' ks' p):=by
 cases h with
 | one h=>exact⟨_,h,.inl ⟨rfl,rfl,rfl⟩⟩
 | step h g=>exact⟨_,g,.inr ⟨_,_,_,_,rfl,rfl,rfl,h⟩⟩
theorem TR.uniq {m:IM}{ps ks:List Int}{x:Int} (h:TR m ps ks x):∀ {ps' ks':List Int},TR m ps' ks' x->ps=ps'/\ks=ks':=by
 induction h with
 | one h =>
  intro ps' ks' h'
  cases h' with
  | one _=>exact⟨rfl,rfl⟩
  | step _ g=>rw [h] at g; cases g
 | step _ g ih =>
  intro ps' ks' h'
  cases h' with
  | one h=>rw [g] at h; cases h
  | step h2 g2 =>
   rw [g] at g2
   cases g2
   obtain⟨rfl,rfl⟩:=ih h2
   exact⟨rfl,rfl⟩
open Classical in
def trO (m:IM) (g:Int):Option (List Int×List Int):=if h:∃ r:List Int×List Int,TR m r.1 r.2 g then some h.choose else none
theorem Ec {m:IM}{g:Int}{ps ks:List Int} (h:TR m ps ks g):trO m g=some (ps,ks):=by
 have e:∃ r:List Int×List Int,TR m r.1 r.2 g:=⟨(ps,ks),h⟩
 unfold trO
 rw [dif_pos e]
 obtain⟨h1,h2⟩:=h.uniq e.choose_spec
 exact congrArg some (Prod.ext h1.symm h2.symm)
theorem Ed {m:IM}{g:Int} (h:dU m g=false):trO m g=none:=by
 unfold trO
 refine dif_neg fun ⟨r,hr⟩=>?_
 obtain⟨d,hd,_⟩:=hr.val
 unfold mZ at hd
 cases hf:m.find? fun p=>decide (p.1=g) with
 | none=>rw [hf] at hd; cases hd
 | some z =>
  have h1:=List.mem_of_find?_eq_some hf
  have h2:=List.find?_some hf
  have:dU m g=true:=List.any_eq_true.mpr ⟨z,h1,h2⟩
  rw [this] at h
  cases h
def cH:Option (List Int×List Int)->D
 | none=>.none
 | some r=>.tuple [iD r.1,iD r.2]
def bC (n:Nat) (ps:List Put) (a g:Int):Option (List Int×List Int):=trO (srM n ps a) g
theorem aW {n:Nat}{ps:List Put}{a g:Int} (ok:PutsOk n ps) (a0:0<=a) (a1:a<n) (r:Rt (edg ps) a g):∃ P K,bC n ps a g=some (P,K)/\Wy ps a P K g/\P.length<=n/\K.length<=n:=by
 have S:=kh ok a0 a1
 obtain⟨P,K,W,T,_,l1,l2⟩:=S.cm.tr g (dz.mp ((S.all g).mpr r))
 have few:=S.few
 exact⟨P,K,Ec T,W,by omega,by omega⟩
theorem GK {n:Nat}{ps:List Put}{a g:Int} (ok:PutsOk n ps) (a0:0<=a) (a1:a<n) (r:¬ Rt (edg ps) a g):bC n ps a g=none:=Ed (by
 have S:=kh ok a0 a1
 rw [Ċ]
 exact fun z=>r ((S.all g).mp z))
def aJ (us:List Tie):List Put:=us.zipIdx.flatMap fun p=>[(p.1.1,(p.1.2,((p.2:Nat):Int))),(p.1.2,(p.1.1,((p.2:Nat):Int)))]
theorem BR {us:List Tie}{i:Nat}{t:Tie} (h:us[i]?=some t):aJ (us.take (i+1))=aJ (us.take i)++[(t.1,(t.2,((i:Nat):Int)))]++[(t.2,(t.1,((i:Nat):Int)))]:=by
 have hi:=(Æ.mp h).1
 have tk:us.take (i+1)=us.take i++[t]:=by rw [ė,h]; rfl
 unfold aJ
 rw [tk,List.zipIdx_append,List.flatMap_append,Ĕ,Nat.min_eq_left (by omega),Ķ,Nat.zero_add]
 rfl
theorem bV {us:List Tie}{p x k:Int}:(p,(x,k))∈aJ us↔∃ j:Nat,k=((j:Nat):Int)/\(us[j]?=some (p,x)\/us[j]?=some (x,p)):=by
 unfold aJ
 rw [List.mem_flatMap]
 constructor
 ·rintro ⟨⟨t,j⟩,ht,hm⟩
  have ht:us[j]?=some t:=õ.mp ht
  simp only [Þ,æ,or_false,Prod.mk.injEq] at hm
  rcases hm with ⟨rfl,rfl,rfl⟩ | ⟨rfl,rfl,rfl⟩
  ·exact⟨j,rfl,.inl ht⟩
  ·exact⟨j,rfl,.inr ht⟩
 ·rintro ⟨j,rfl,e | e⟩
  ·exact⟨((p,x),j),õ.mpr e,by simp⟩
  ·exact⟨((x,p),j),õ.mpr e,by simp⟩
theorem qH {α β:Type} (f g:α->β):∀ l:List α,(l.flatMap fun p=>[f p,g p]).length=2 * l.length
 | []=>rfl
 | x::l=>by
  rw [List.flatMap_cons,Ô,qH f g l]
  show 2+2 * l.length=2 * (l.length+1)
  omega
theorem uX (us:List Tie):(aJ us).length=2 * us.length:=by
 unfold aJ
 rw [qH,List.length_zipIdx]
theorem fY {n:Int}{us:List Tie} (n0:0<=n) (lu:us.length<=100) (ok:OkN n us):PutsOk n.toNat (aJ us):=by
 refine⟨by rw [uX]; omega,fun q hq=>?_⟩
 obtain⟨p,x,k⟩:=q
 obtain⟨j,_,e | e⟩:=bV.mp hq
 ·obtain⟨⟨h1,h2⟩,⟨h3,h4⟩,_⟩:=ok _ (É e)
  dsimp only at *
  omega
 ·obtain⟨⟨h1,h2⟩,⟨h3,h4⟩,_⟩:=ok _ (É e)
  dsimp only at *
  omega
theorem vI {us:List Tie}{x y:Int}:(x,y)∈edg (aJ us)↔(x,y)∈adj us [] []:=by
 rw [fG,Gi]
 constructor
 ·rintro ⟨k,h⟩
  obtain⟨j,_,e | e⟩:=bV.mp h
  ·exact .inl (É e)
  ·exact .inr (É e)
 ·rintro (e | e)
  ·obtain⟨j,hj⟩:=ę e
   exact⟨_,bV.mpr ⟨j,rfl,.inl hj⟩⟩
  ·obtain⟨j,hj⟩:=ę e
   exact⟨_,bV.mpr ⟨j,rfl,.inr hj⟩⟩
theorem iZ {us:List Tie}{x y:Int}:Rt (edg (aJ us)) x y↔Rt (adj us [] []) x y:=⟨Rt.mono fun ⟨_,_⟩ h=>vI.mp h,Rt.mono fun ⟨_,_⟩ h=>vI.mpr h⟩
def xU (ds:List D) (P:D->Prop):Prop:=∃ (ws:List Put) (a:Int) (m:IM) (g:Int),ds=[.dict (kvD m),.int g]/\Cm ws a m/\m.length<=100/\P (cH (trO m g))
def Dh (ds:List D) (P:D->Prop):Prop:=∃ n us,ds=[aA n us]/\0<=n/\n<=100/\us.length<=100/\OkN n us/\P (stD (stOf n.toNat (aJ us)))
def pZ (ds:List D) (P:D->Prop):Prop:=∃ n us a,ds=[aA n us,.int a]/\0<=n/\n<=60/\us.length<=100/\OkN n us/\0<=a/\a<n/\P (iD (rsI (adj us [] []) n.toNat a))
def Vn (ds:List D) (P:D->Prop):Prop:=∃ n us a b,ds=[aA n us,.int a,.int b]/\0<=n/\n<=60/\us.length<=100/\OkN n us/\0<=a/\a<n/\0<=b/\b<n/\P (cH (bC n.toNat (aJ us) a b))
def FP (ds:List D) (P:D->Prop):Prop:=∃ n us d,ds=[aA n us,d]/\P (.bool (bW n d))
def K8 (ds:List D) (P:D->Prop):Prop:=∃ n us d,ds=[aA n us,d]/\P (.bool (bW (us.length:Nat) d))
def La (CN:Addr):FX:=fun ds P R=>∃ n us d,ds=[aA n us,d]/\((bW n d=false/\R (.ref CN))\/(bW n d=true/\P .none))
def Two (n:Int) (d e:D):Prop:=∃ i j:Int,d=.int i/\e=.int j/\0<=i/\i<n/\0<=j/\j<n/\i≠j
def qe (n:Int) (d e:D):Prop:=bW n d=false\/bW n e=false\/∃ i:Int,d=.int i/\e=.int i
def Ah (CN:Addr):FX:=fun ds P R=>∃ n us d e,ds=[aA n us,d,e]/\((qe n d e/\R (.ref CN))\/(Two n d e/\P .none))
section
variable {P:Program}{w:World}{K:Ü}{mg:Str->Option Value}{base:Heap}{f:Addr}{fd:FuncData}{CN:Addr}
theorem yP:FnScope ["came","goal","places","ties","step"] ["came","goal"] (ak (top 22)):=zC
theorem JZ (F:Fun K "trace" "trace" (top 22) f fd) (B:Ģ mg) (m_reversed:mg "reversed"=none):FnOk P w K mg base CX0 1 f fd ["came","goal"] (spD xU):=by
 refine F.ok yP Ē (fun cdv A outer s H vs Q E hr h=>?_)
 have nd:=yP.nd
 refine⟨_,ë (Ç (þ (Wr.eG hr.units (Ã 1) (Ã 0)) (Ð (Ø ň)) â)
  (Ç (é (some 0) (i:=2) nd rfl zQ (ğ (À (Ã 1) Á)))
  (Ç (é (some 1) (i:=3) nd rfl zQ (ğ Á))
  (Ç (é none (i:=4) nd rfl zQ (Wr.qW hr.units (Ã 0) (Ã 1)))
  (Ç (Wr.nD ô (Wr.eN (Ã 4) ň) (Ç (Ž (ķ 2) (À (Ï (Ã 4) Å) Á))
  (Ç (Ž (ķ 3) (À (Ï (Ã 4) Å) Á))
  (Ð (é none (i:=4) nd rfl zQ (Wr.qW hr.units (Ã 0) (Ï (Ã 4) Å)))))))
  (è [4] (Ð (Ø (ï (À (Wr.gR rfl B.list m_reversed (À (Ã 2) Á)) (À (Wr.gR rfl B.list m_reversed (À (Ã 3) Á)) Á))))))))))),aK h ?_⟩
 rintro ds P ⟨ws,a,m,g,rfl,C,lm,qq⟩
 refine⟨[.sh (.dict (kvD m)),.im (.int g),.any,.any,.any],rfl,m,rfl,?_⟩
 show if (!dU m g)=true then _ else _
 cases hb:dU m g with
 | false=>exact aG (B:=True) ⟨rfl,by rw [Ed hb] at qq; exact qq⟩
 | true =>
  obtain⟨ps,ks,W,T,_,l1,l2⟩:=C.tr g (dz.mp hb)
  have q:P (.tuple [iD ps,iD ks]):=by rw [Ec T] at qq; exact qq
  obtain⟨d0,hg0,hv0⟩:=T.val
  have im0:∀ k,norm k d0=.imm:=fun k=>by
   rcases hv0 with ⟨rfl,_⟩ | ⟨_,_,p,k2,rfl,_⟩
   ·exact aX rfl
   ·exact aX rfl
  refine aL (A:=True) ⟨zK,zK,m,d0,rfl,hg0,?_⟩
  show Dv 4 none (fun _ P=>P (norm .shr d0) d0) _ _
  unfold Dv
  simp only [im0]
  show Dw _ _ _ [.sh (.dict (kvD m)),.im (.int g),.dw 0 (iD [g]),.dw 1 (iD []),.im d0]
  refine⟨fun mm ρ=>∃ (c:Int) (p1 k1 S T:List Int) (d:D),ρ=[.sh (.dict (kvD m)),.im (.int g),.dw 0 (iD (S.reverse++[c])),.dw 1 (iD T.reverse),.im d]/\TR m p1 k1 c/\mZ m c=some d/\p1++S=ps/\k1++T=ks/\mm=p1.length,⟨_,g,ps,ks,[],[],d0,rfl,T,hg0,ÿ _,ÿ _,rfl⟩,?_⟩
  rintro mm ρ ⟨c,p1,k1,S,T',d,rfl,t,hg,e1,e2,rfl⟩
  have L1:(S.reverse++[c]).length<=101:=by
   have h1:=congrArg List.length e1
   rw [Ô] at h1
   rw [Ô,List.length_reverse,Ğ]
   omega
  have L2:T'.reverse.length<=100:=by
   have h1:=congrArg List.length e2
   rw [Ô] at h1
   rw [List.length_reverse]
   omega
  obtain⟨d2,hg2,hv⟩:=t.val
  rw [hg] at hg2
  cases hg2
  rcases hv with ⟨rfl,rfl,rfl⟩ | ⟨p',k',p,k,rfl,rfl,rfl,t'⟩
  ·have r1:((S.reverse++[c]).map È).reverse=ps.map È:=by
    rw [← List.map_reverse,List.reverse_append,List.reverse_reverse,← e1]
    rfl
   have r2:(T'.reverse.map È).reverse=ks.map È:=by
    rw [← List.map_reverse,List.reverse_reverse,← e2]
    rfl
   refine aL (A:=True) (.inl ⟨by rw [r1]; exact tR _,.inl ⟨by rw [r2]; exact tR _,zK,rfl,?_⟩⟩)
   show P (.tuple [.list ((S.reverse++[c]).map È).reverse,.list (T'.reverse.map È).reverse])
   rw [r1,r2]
   exact q
  ·obtain⟨d3,hg3,hv3⟩:=t'.val
   have im3:∀ k,norm k d3=.imm:=fun k=>by
    rcases hv3 with ⟨rfl,_⟩ | ⟨_,_,_,_,rfl,_⟩
    ·exact aX rfl
    ·exact aX rfl
   refine aG (B:=True) ⟨.int p,rfl,rfl,by rw [Ä]; omega,.int k,rfl,rfl,by rw [Ä]; omega,.int p,rfl,m,d3,rfl,hg3,?_⟩
   simp only [im3]
   refine⟨p'.length,by rw [Ô,Ğ]; omega,p,p',k',c::S,k::T',d3,?_,t',hg3,by rw [← e1,Ķ]; rfl,by rw [← e2,Ķ]; rfl,rfl⟩
   have r1:(S.reverse++[c]).map È++[È p]=((c::S).reverse++[p]).map È:=by
    rw [Ŭ,ê (l₂:=[p])]
    rfl
   have r2:T'.reverse.map È++[È k]=(k::T').reverse.map È:=by
    rw [Ŭ,ê]
    rfl
   show ([_,_,Sl.dw 0 (.list ((S.reverse++[c]).map È++[È p])),Sl.dw 1 (.list (T'.reverse.map È++[È k])),_]:List Sl)=[_,_,Sl.dw 0 (.list (((c::S).reverse++[p]).map È)),Sl.dw 1 (.list ((k::T').reverse.map È)),_]
   rw [r1,r2]
   rfl
theorem sc4:FnScope ["thing"] ["thing"] (ak (top 13)):=zC
theorem JX (F:Fun K "is_whole" "is_whole" (top 13) f fd) (B:Ģ mg):FnOk P w K mg base CX0 1 f fd ["thing"] (spD Dg):=by
 refine F.ok sc4 Ē (fun cdv A outer s H vs Q E hr h=>?_)
 refine⟨_,ud (uc (sS (bU Oj B.isinstance (dv 0) (qM (v:=.ty "int") rfl B.int boot_int rfl)) (cR (sH (bU Ku B.isinstance (dv 0) (qM (v:=.ty "bool") rfl B.bool boot_bool rfl)))))),Dk h ?_⟩
 rintro ds P ⟨d,rfl,q⟩
 unfold Aq Eh tIs
 refine Bq (d:=d) rfl fun k=>?_
 cases d <;> exact⟨rfl,q⟩
theorem sc5:FnScope ["limit","thing"] ["limit","thing"] (ak (top 14)):=zC
theorem J3 (F:Fun K "is_below" "is_below" (top 14) f fd) (W:ì P w K mg base 1 "is_whole" ["thing"] (spD Dg)):FnOk P w K mg base CX0 2 f fd ["limit","thing"] (spD Di):=by
 refine F.ok sc5 Ē (fun cdv A outer s H vs Q E hr h=>?_)
 refine⟨_,ud (uc (sS (dc W hr (fZ (dv 1) lR)) (cR (Nq oA (dv 1) (dv 0))))),Dk h ?_⟩
 rintro ds P ⟨m,d,rfl,q⟩
 unfold Aq Eh tFn bD
 refine Bq (d:=d) rfl fun k=>⟨d,rfl,?_⟩
 cases d with
 | int i =>
  have e:P (.bool (decide (0<=i/\i<m))):=q
  by_cases h0:(0:Int)<=i
  ·show if decide ((0:Int)<=i)=true then _ else _
   rw [decide_eq_true h0]
   refine aG (B:=True) ⟨rfl,?_⟩
   have e2:decide (0<=i/\i<m)=decide (i<m):=by simp [h0]
   rw [e2] at e
   exact e
  ·show if decide ((0:Int)<=i)=true then _ else _
   rw [decide_eq_false h0]
   refine aL (A:=True) ⟨rfl,?_⟩
   have e2:decide (0<=i/\i<m)=false:=by simp [h0]
   rw [e2] at e
   exact e
 | _=>exact⟨rfl,q⟩
theorem pO:FnScope ["web","thing"] ["web","thing"] (ak (top 15)):=zC
theorem zx (F:Fun K "is_place" "is_place" (top 15) f fd) (B:Ģ mg) (C_is_below:ì P w K mg base 2 "is_below" ["limit","thing"] (spD Di)):FnOk P w K mg base CX0 3 f fd ["web","thing"] (spD FP):=by
 refine F.ok pO Ē (fun cdv A outer s H vs Q E hr h=>?_)
 have nd:=pO.nd
 refine⟨_,ë (Ð (Ø (ā C_is_below hr (À (Ï (Ã 0) Å) (À (Ã 1) Á))))),aK h ?_⟩
 rintro ds P ⟨n,us,d,rfl,q⟩
 refine⟨[.im (aA n us),aD d],by show [aD (aA n us),aD d]=_; rw [ĩ],?_⟩
 refine⟨.int n,rfl,?_⟩
 refine Bq rfl fun k=>⟨n,d,rfl,?_⟩
 exact⟨rfl,q⟩
theorem fW:FnScope ["web","thing"] ["web","thing"] (ak (top 16)):=zC
theorem oM (F:Fun K "is_tie_number" "is_tie_number" (top 16) f fd) (B:Ģ mg) (C_is_below:ì P w K mg base 2 "is_below" ["limit","thing"] (spD Di)):FnOk P w K mg base CX0 3 f fd ["web","thing"] (spD K8):=by
 refine F.ok fW Ē (fun cdv A outer s H vs Q E hr h=>?_)
 have nd:=fW.nd
 refine⟨_,ë (Ð (Ø (ā C_is_below hr (À (Wr.eO B.len (À (Ï (Ã 0) Å) Á)) (À (Ã 1) Á))))),aK h ?_⟩
 rintro ds P ⟨n,us,d,rfl,q⟩
 refine⟨[.im (aA n us),aD d],by show [aD (aA n us),aD d]=_; rw [ĩ],?_⟩
 rcases aO d with e | e
 all_goals
  rw [e]
  refine⟨.tuple (us.map pD),rfl,_,d,rfl,?_⟩
  rw [Ä]
  exact⟨rfl,q⟩
theorem iW:FnScope ["web","thing"] ["web","thing"] (ak (top 17)):=zC
theorem sZ {newId Bn0 initId:String}{bmB:List Value} (F:Fun K "check_place" "check_place" (top 17) f fd) (B:Ģ mg) (mX_NoPlace:mg "NoPlace"=some (.ref CN)) (XC_NoPlace:ExcCls K CN newId bmB) (XB:ExcBaseFacts Bn0 newId initId bmB) (C_is_place:ì P w K mg base 3 "is_place" ["web","thing"] (spD FP)):FnOk P w K mg base (CX1 P w) 4 f fd ["web","thing"] (spX (La CN)):=by
 refine F.ok1 iW gY (fun cdv A outer s H vs Q E hr h=>?_)
 have nd:=iW.nd
 letI:=grX H
 refine⟨_,ë (Ð (þ (Ĺ (Ħ (ā C_is_place hr (À (Ã 0) (À (Ã 1) Á))))) (Ð (Wr.nG (E:=E) cB rfl rfl mX_NoPlace XC_NoPlace XB (À Ũ Á))) â)),enterX h ?_ ?mono⟩
 case mono=>exact fun ds P R R' hR ⟨n,us,d,e,x⟩=>⟨n,us,d,e,x.imp (fun ⟨a,b⟩=>⟨a,hR _ b⟩) id⟩
 rintro ds P ⟨n,us,d,rfl,x⟩
 refine⟨[.im (aA n us),aD d],?_,?_⟩
 ·show [aD (aA n us),aD d]=_
  rw [ĩ]
 rcases x with ⟨e,r⟩ | ⟨e,q⟩
 ·rcases aO d with e2 | e2 <;> rw [e2] <;> (refine⟨n,us,d,rfl,?_⟩; show if (!bW n d)=true then _ else _; rw [e]; exact aG (B:=True) ⟨zK,r⟩)
 ·rcases aO d with e2 | e2 <;> rw [e2] <;> (refine⟨n,us,d,rfl,?_⟩; show if (!bW n d)=true then _ else _; rw [e]; exact aL (A:=True) q)
theorem dI:FnScope ["web","a","b"] ["web","a","b"] (ak (top 18)):=zC
theorem jW {newId Bn0 initId:String}{bmB:List Value} (F:Fun K "check_two_places" "check_two_places" (top 18) f fd) (B:Ģ mg) (mX_NoPlace:mg "NoPlace"=some (.ref CN)) (XC_NoPlace:ExcCls K CN newId bmB) (XB:ExcBaseFacts Bn0 newId initId bmB) (C_check_place:Dl.Cal1 P w K mg base 4 "check_place" ["web","thing"] (spX (La CN))):FnOk P w K mg base (CX1 P w) 5 f fd ["web","a","b"] (spX (Ah CN)):=by
 refine F.ok1 dI gY (fun cdv A outer s H vs Q E hr h=>?_)
 have nd:=dI.nd
 letI:=grX H
 refine⟨_,ë (Ç (š (Wr.dcX (E:=E) C_check_place hr (jZ cB) (À (Ã 0) (À (Ã 1) Á))))
  (Ç (š (Wr.dcX (E:=E) C_check_place hr (jZ cB) (À (Ã 0) (À (Ã 2) Á))))
  (Ð (þ (Wr.fB hr.units (Ã 1) (Ã 2)) (Ð (Wr.nG (E:=E) cB rfl rfl mX_NoPlace XC_NoPlace XB (À Ũ Á))) â)))),enterX h ?_ ?mono⟩
 case mono=>exact fun ds P R R' hR ⟨n,us,d,e,z,x⟩=>⟨n,us,d,e,z,x.imp (fun ⟨a,b⟩=>⟨a,hR _ b⟩) id⟩
 rintro ds P ⟨n,us,d,d2,rfl,x⟩
 refine⟨[.im (aA n us),aD d,aD d2],?_,?_⟩
 ·show [aD (aA n us),aD d,aD d2]=_
  rw [ĩ]
 rcases x with ⟨nt,r⟩ | ⟨⟨i,j,rfl,rfl,i0,i1,j0,j1,ne⟩,q⟩
 ·cases e1:bW n d with
  | false=>rcases aO d with z | z <;> rcases aO d2 with z2 | z2 <;> rw [z,z2] <;> exact⟨n,us,d,rfl,.inl ⟨e1,r⟩⟩
  | true =>
   cases e2:bW n d2 with
   | false=>rcases aO d with z | z <;> rcases aO d2 with z2 | z2 <;> rw [z,z2] <;> exact⟨n,us,d,rfl,.inr ⟨e1,n,us,d2,rfl,.inl ⟨e2,r⟩⟩⟩
   | true =>
    rcases nt with h | h | ⟨i,rfl,rfl⟩
    ·rw [h] at e1; cases e1
    ·rw [h] at e2; cases e2
    ·refine⟨n,us,.int i,rfl,.inr ⟨e1,n,us,.int i,rfl,.inr ⟨e2,?_⟩⟩⟩
     show if decide (i=i)=true then _ else _
     rw [decide_eq_true rfl]
     exact aG (B:=True) ⟨zK,r⟩
 ·refine⟨n,us,.int i,rfl,.inr ⟨decide_eq_true ⟨i0,i1⟩,n,us,.int j,rfl,.inr ⟨decide_eq_true ⟨j0,j1⟩,?_⟩⟩⟩
  show if decide (i=j)=true then _ else _
  rw [decide_eq_false ne]
  exact aL (A:=True) q
theorem iy:FnScope ["web","steps","number","tie"] ["web"] (ak (top 20)):=zC
theorem mG:(["place","web","steps","number","tie"]:List Str).Nodup:=by decide +kernel
theorem qp (F:Fun K "steps_of_web" "steps_of_web" (top 20) f fd) (B:Ģ mg) (m_enumerate:mg "enumerate"=none):FnOk P w K mg base CX0 1 f fd ["web"] (spD Dh):=by
 refine F.ok iy Ē (fun cdv A outer s H vs Q E hr h=>?_)
 have nd:=iy.nd
 refine⟨_,ë (Ç (Wr.jx 0 ["place"] (i:=1) rfl nd rfl zQ (ł B.range (À (Ï (Ã 0) Å) Á)) (fun c=>(á (i:=0) mG rfl zQ)))
  (Ç (İ ô rfl (Wr.rA m_enumerate (À (Ï (Ã 0) Å) Á)) (Wr.eX (n:=2) rfl (ē (á (i:=2) nd rfl zQ) (ē (á (i:=3) nd rfl zQ) Ŷ))) (Ç (Wr.cU (ķ 1) (Ï (Ã 3) Å) (À (ï (À (Ï (Ã 3) Å) (À (Ã 2) Á))) Á))
  (Ç (Wr.cU (ķ 1) (Ï (Ã 3) Å) (À (ï (À (Ï (Ã 3) Å) (À (Ã 2) Á))) Á)) (è [2,3] â))))
  (è [2,3] (Ð (Ø (Ã 1)))))),aK h ?_⟩
 rintro ds P ⟨n,us,rfl,n1,n16,lu,ok,q⟩
 refine⟨[.im (aA n us),.any,.any,.any],?_,?_⟩
 ·show [aD (aA n us),.any,.any,.any]=_
  rw [ĩ]
 refine⟨.int n,rfl,⟨by omega,by omega⟩,by rw [bH]; omega,rfl,?_⟩
 rw [bH]
 refine⟨.tuple (us.map pD),rfl,rfl,fun (i:Nat) ρ=>ρ=[.im (aA n us),.rw 0 (rP (stOf n.toNat (aJ (us.take i)))),.any,.any],?_,?_,?_⟩
 ·show [_,Sl.rw 0 (Ñ n.toNat []),_,_]=[_,Sl.rw 0 (rP (stOf n.toNat [])),_,_]
  rw [Bv]
  unfold rP
  rw [List.map_replicate]
  rfl
 ·rintro i d ρ hd rfl
  rw [gD,ç] at hd
  obtain⟨t,ht,rfl⟩:∃ t,us[i]?=some t/\ŝ [.int ((i:Nat):Int),pD t]=d:=by
   cases e:us[i]? with
   | none=>rw [e] at hd; cases hd
   | some t=>rw [e] at hd; exact⟨t,rfl,Õ hd⟩
  obtain⟨⟨o1,o2⟩,⟨o3,o4⟩,o5⟩:=ok t (É ht)
  have hi:=(Æ.mp ht).1
  have l1:(aJ (us.take i)).length<=200:=by rw [uX,Ĕ]; omega
  have r1:=lM (aJ (us.take i)) t.1.toNat
  have r2:=lM (aJ (us.take i)++[(t.1,(t.2,((i:Nat):Int)))]) t.2.toNat
  rw [Ô,Ğ] at r2
  have s1:=lN (n:=n.toNat) (ps:=aJ (us.take i)) (q:=(t.1,(t.2,((i:Nat):Int)))) ⟨o1,by show t.1<_; omega⟩
  have s2:=lN (n:=n.toNat) (ps:=aJ (us.take i)++[(t.1,(t.2,((i:Nat):Int)))]) (q:=(t.2,(t.1,((i:Nat):Int)))) ⟨o3,by show t.2<_; omega⟩
  rw [← s1] at s2
  refine⟨rfl,.int t.1,rfl,t.1.toNat,(rowOf (aJ (us.take i)) t.1.toNat).map pD,?_,rW _ (by omega),.int t.2,rfl,zK,rfl,by rw [Ä]; omega,.int t.2,rfl,?_⟩
  ·unfold ixN rP
   rw [if_pos o1,if_pos (by rw [Ä,gM]; omega)]
  refine⟨t.2.toNat,(rowOf (aJ (us.take i)++[(t.1,(t.2,((i:Nat):Int)))]) t.2.toNat).map pD,?_,?_,.int t.1,rfl,zK,rfl,by rw [Ä]; omega,?_⟩
  ·unfold ixN rP
   rw [if_pos o3,if_pos (by rw [List.length_set,Ä,gM]; omega)]
  ·have:=rW (n:=n.toNat) (aJ (us.take i)++[(t.1,(t.2,((i:Nat):Int)))]) (p:=t.2.toNat) (by omega)
   rw [← s1] at this
   exact this
  ·show [Sl.im (aA n us),Sl.rw 0 (((rP (stOf n.toNat (aJ (us.take i)))).set t.1.toNat ((rowOf (aJ (us.take i)) t.1.toNat).map pD++[pD (t.2,((i:Nat):Int))])).set t.2.toNat ((rowOf (aJ (us.take i)++[(t.1,(t.2,((i:Nat):Int)))]) t.2.toNat).map pD++[pD (t.1,((i:Nat):Int))])),Sl.any,Sl.any]=[_,Sl.rw 0 (rP (stOf n.toNat (aJ (us.take (i+1))))),_,_]
   rw [BR ht,← s2]
 ·rintro ρ rfl
  rw [dY,Ä,ħ]
  refine⟨rfl,?_⟩
  show P (.list ((rP (stOf n.toNat (aJ us))).map Į))
  rw [Bw]
  exact q
theorem rN:FnScope ["web","place"] ["web","place"] (ak (top 23)):=zC
theorem Ck (F:Fun K "part_of" "part_of" (top 23) f fd) (B:Ģ mg) (C_search:ì P w K mg base 1 "search" ["steps","start"] (spD nA)) (C_steps_of_web:ì P w K mg base 1 "steps_of_web" ["web"] (spD Dh)):FnOk P w K mg base CX0 2 f fd ["web","place"] (spD pZ):=by
 refine F.ok rN Ē (fun cdv A outer s H vs Q E hr h=>?_)
 have nd:=rN.nd
 refine⟨_,ë (Ð (Ø (Wr.sE rfl B.sorted (À (ā C_search hr (À (ā C_steps_of_web hr (À (Ã 0) Á)) (À (Ã 1) Á))) Á)))),aK h ?_⟩
 rintro ds P ⟨n,us,a,rfl,n1,n16,lu,ok,a0,a1,q⟩
 refine⟨[.im (aA n us),.im (.int a)],?_,?_⟩
 ·show [aD (aA n us),.im (.int a)]=_
  rw [ĩ]
 have an:=Gh (F:=[]) (B:=[]) ok (by omega)
 have po:=fY (by omega) lu ok
 have S:=kh (n:=n.toNat) po a0 (by omega)
 have few:=S.few
 refine⟨n,us,rfl,by omega,by omega,lu,ok,n.toNat,aJ us,a,rfl,by omega,po,a0,by omega,srM n.toNat (aJ us) a,rfl,by omega,fun out hp hs=>⟨rfl,?_⟩⟩
 have e:=Ul (vs:=adj us [] []) (n:=n.toNat) (a:=a) hp hs S.nd (fun x=>by rw [← iZ,← S.all,dz]; rfl) fun x r=>r.rng (fun t ht=>(an t ht).2) ⟨a0,by omega⟩
 rw [e]
 exact q
theorem Ja:FnScope ["web","a","b"] ["web","a","b"] (ak (top 25)):=zC
theorem RM (F:Fun K "way" "way" (top 25) f fd) (B:Ģ mg) (C_check_place:Dl.Cal1 P w K mg base 4 "check_place" ["web","thing"] (spX (La CN))) (C_trace:ì P w K mg base 1 "trace" ["came","goal"] (spD xU)) (C_search:ì P w K mg base 1 "search" ["steps","start"] (spD nA)) (C_steps_of_web:ì P w K mg base 1 "steps_of_web" ["web"] (spD Dh)):FnOk P w K mg base CX0 5 f fd ["web","a","b"] (spD Vn):=by
 refine F.ok Ja Ē (fun cdv A outer s H vs Q E hr h=>?_)
 have nd:=Ja.nd
 refine⟨_,ë (Ç (š (Wr.dcF C_check_place hr (À (Ã 0) (À (Ã 1) Á))))
  (Ç (š (Wr.dcF C_check_place hr (À (Ã 0) (À (Ã 2) Á))))
  (Ð (Ø (ā C_trace hr (À (ā C_search hr (À (ā C_steps_of_web hr (À (Ã 0) Á)) (À (Ã 1) Á))) (À (Ã 2) Á))))))),aK h ?_⟩
 rintro ds P ⟨n,us,a,b,rfl,n0,n60,lu,ok,a0,a1,b0,b1,q⟩
 refine⟨[.im (aA n us),.im (.int a),.im (.int b)],by show [aD (aA n us),.im (.int a),.im (.int b)]=_; rw [ĩ],?_⟩
 have po:=fY (by omega) lu ok
 have S:=kh (n:=n.toNat) po a0 (by omega)
 have few:=S.few
 refine⟨n,us,.int a,rfl,.inr ⟨decide_eq_true ⟨a0,a1⟩,n,us,.int b,rfl,.inr ⟨decide_eq_true ⟨b0,b1⟩,n,us,rfl,n0,by omega,lu,ok,n.toNat,aJ us,a,rfl,by omega,po,a0,by omega,aJ us,a,srM n.toNat (aJ us) a,b,rfl,S.cm,by omega,?_⟩⟩⟩
 show _/\P (cH (bC n.toNat (aJ us) a b))
 refine⟨?_,q⟩
 show (norm .new (cH (trO (srM n.toNat (aJ us) a) b))).le .n0=true
 cases trO (srM n.toNat (aJ us) a) b with
 | none=>rfl
 | some r=>rfl
end
def aR (arcs:List Tie) (i:Int):Tie:=arcs.getD i.toNat (0,0)
def lft (arcs:List Tie) (U:List Int):List Put:=arcs.zipIdx.map fun p=>if ((p.2:Nat):Int)∈U then (p.1.2,(p.1.1,((p.2:Nat):Int))) else (p.1.1,(p.1.2,((p.2:Nat):Int)))
def alg (arcs:List Tie) (U:List Int):List Put:=U.map fun i=>((aR arcs i).1,((aR arcs i).2,i))
def OkA (n:Int) (arcs:List Tie):Prop:=∀ e∈arcs,(0<=e.1/\e.1<n)/\0<=e.2/\e.2<n
def InL (arcs:List Tie) (U:List Int):Prop:=U.length<=200/\∀ i∈U,0<=i/\i<(arcs.length:Int)
def sd (L:Nat) (U K:List Int):List Int:=(zI (ã L)).filter fun i=>decide (i∈U) != decide (i∈K)
def aug (n:Nat) (arcs:List Tie) (a b:Int):Nat->List Int->Option (List Int)
 | 0,U=>some U
 | k+1,U=>match bC n (lft arcs U) a b with
  | none=>none
  | some r=>aug n arcs a b k (sd arcs.length U r.2)
def TY:Option (List Int)->D
 | none=>.none
 | some U=>iD U
theorem nO {arcs:List Tie}{i:Int} (h0:0<=i) (h1:i<(arcs.length:Int)):arcs[i.toNat]?=some (aR arcs i):=by
 unfold aR
 rw [ĕ,Ó (by omega)]
 rfl
theorem Ma {arcs:List Tie}{i:Int} (h0:0<=i) (h1:i<(arcs.length:Int)):atI (arcs.map pD) i=some (pD (aR arcs i)):=by
 have q:atI (arcs.map pD) ((i.toNat:Nat):Int)=some (pD (aR arcs i)):=cj (by rw [ç,nO h0 h1]; rfl)
 rwa [show ((i.toNat:Nat):Int)=i by omega] at q
theorem Kq {arcs:List Tie}{U:List Int}{i:Nat}{t:Tie} (h:arcs[i]?=some t):lft (arcs.take (i+1)) U=lft (arcs.take i) U++[if ((i:Nat):Int)∈U then (t.2,(t.1,((i:Nat):Int))) else (t.1,(t.2,((i:Nat):Int)))]:=by
 have hi:=(Æ.mp h).1
 have tk:arcs.take (i+1)=arcs.take i++[t]:=by rw [ė,h]; rfl
 unfold lft
 rw [tk,List.zipIdx_append,ê,Ĕ,Nat.min_eq_left (by omega),Nat.zero_add]
 rfl
theorem cP {arcs:List Tie}{U:List Int}{p x k:Int}:(p,(x,k))∈lft arcs U↔∃ j:Nat,k=((j:Nat):Int)/\((k∈U/\arcs[j]?=some (x,p))\/(k∉U/\arcs[j]?=some (p,x))):=by
 unfold lft
 rw [Ĩ]
 constructor
 ·rintro ⟨⟨t,j⟩,ht,hm⟩
  have ht:arcs[j]?=some t:=õ.mp ht
  dsimp only at hm
  by_cases hU:((j:Nat):Int)∈U
  ·rw [if_pos hU] at hm
   cases hm
   exact⟨j,rfl,.inl ⟨hU,ht⟩⟩
  ·rw [if_neg hU] at hm
   cases hm
   exact⟨j,rfl,.inr ⟨hU,ht⟩⟩
 ·rintro ⟨j,rfl,⟨hU,e⟩ | ⟨hU,e⟩⟩
  ·exact⟨((x,p),j),õ.mpr e,if_pos hU⟩
  ·exact⟨((p,x),j),õ.mpr e,if_neg hU⟩
theorem Fo (arcs:List Tie) (U:List Int):(lft arcs U).length=arcs.length:=by
 unfold lft
 rw [Ä,List.length_zipIdx]
theorem lB {n:Int}{arcs:List Tie}{U:List Int} (n0:0<=n) (la:arcs.length<=200) (ok:OkA n arcs):PutsOk n.toNat (lft arcs U):=by
 refine⟨by rw [Fo]; exact la,fun q hq=>?_⟩
 obtain⟨p,x,k⟩:=q
 obtain⟨j,_,⟨_,e⟩ | ⟨_,e⟩⟩:=cP.mp hq
 ·obtain⟨⟨h1,h2⟩,h3,h4⟩:=ok _ (É e)
  dsimp only at *
  omega
 ·obtain⟨⟨h1,h2⟩,h3,h4⟩:=ok _ (É e)
  dsimp only at *
  omega
theorem LR {n:Int}{arcs:List Tie}{i:Int} (ok:OkA n arcs) (h0:0<=i) (h1:i<(arcs.length:Int)):(0<=(aR arcs i).1/\(aR arcs i).1<n)/\0<=(aR arcs i).2/\(aR arcs i).2<n:=ok _ (É (nO h0 h1))
theorem dO {arcs:List Tie}{U:List Int}{p x k:Int}:(p,(x,k))∈alg arcs U↔k∈U/\aR arcs k=(p,x):=by
 unfold alg
 rw [Ĩ]
 constructor
 ·rintro ⟨i,hi,e⟩
  cases e
  exact⟨hi,rfl⟩
 ·rintro ⟨hk,e⟩
  exact⟨k,hk,by rw [e]⟩
theorem pI {n:Int}{arcs:List Tie}{U:List Int} (n0:0<=n) (ok:OkA n arcs) (hU:InL arcs U):PutsOk n.toNat (alg arcs U):=by
 refine⟨by unfold alg; rw [Ä]; exact hU.1,fun q hq=>?_⟩
 obtain⟨p,x,k⟩:=q
 obtain⟨h1,h2⟩:=dO.mp hq
 obtain⟨k0,k1⟩:=hU.2 k h1
 have:=LR ok k0 k1
 rw [h2] at this
 dsimp only at *
 omega
theorem PN {arcs:List Tie}{U K:List Int} (la:arcs.length<=200):InL arcs (sd arcs.length U K):=by
 refine⟨?_,fun i hi=>?_⟩
 ·unfold sd zI
  refine Ą (ą _ _) ?_
  rw [Ä,Ę]
  exact la
 ·exact xH.mp (Ý.mp hi).1
theorem QV (L:Nat) (U K:List Int):((ã L).filter fun v=>decide ((0+((v:Nat):Int))∈U) != decide ((0+((v:Nat):Int))∈K)).map (fun v=>È (0+((v:Nat):Int)))=(sd L U K).map È:=by
 unfold sd zI
 rw [List.filter_map,ş]
 rfl
def Ld (ds:List D) (P:D->Prop):Prop:=∃ n arcs U,ds=[.int n,.list (arcs.map pD),iD U]/\0<=n/\n<=100/\arcs.length<=200/\OkA n arcs/\InL arcs U/\P (stD (stOf n.toNat (alg arcs U)))
def Qu (ds:List D) (P:D->Prop):Prop:=∃ n arcs U,ds=[.int n,.list (arcs.map pD),iD U]/\0<=n/\n<=100/\arcs.length<=200/\OkA n arcs/\InL arcs U/\P (stD (stOf n.toNat (lft arcs U)))
def Td (ds:List D) (P:D->Prop):Prop:=∃ n arcs a b,ds=[.int n,.list (arcs.map pD),.int a,.int b]/\0<=n/\n<=100/\arcs.length<=200/\OkA n arcs/\0<=a/\a<n/\P (TY (aug n.toNat arcs a b 2 []))
def Tf (ds:List D) (P:D->Prop):Prop:=∃ n arcs U a b r1 r2,ds=[.int n,.list (arcs.map pD),iD U,.int a,.int b]/\0<=n/\n<=100/\arcs.length<=200/\OkA n arcs/\InL arcs U/\0<=a/\a<n/\bC n.toNat (alg arcs U) a b=some r1/\bC n.toNat (alg arcs (U.filter fun i=>!decide (i∈r1.2))) a b=some r2/\P (.list [cH (some r1),cH (some r2)])
section
variable {P:Program}{w:World}{K:Ü}{mg:Str->Option Value}{base:Heap}{f:Addr}{fd:FuncData}
theorem iQ:FnScope ["count","arcs","used","steps","index"] ["count","arcs","used"] (ak (top 34)):=zC
theorem oU:(["node","count","arcs","used","steps","index"]:List Str).Nodup:=by decide +kernel
theorem sV (F:Fun K "steps_along" "steps_along" (top 34) f fd) (B:Ģ mg):FnOk P w K mg base CX0 1 f fd ["count","arcs","used"] (spD Ld):=by
 refine F.ok iQ Ē (fun cdv A outer s H vs Q E hr h=>?_)
 have nd:=iQ.nd
 refine⟨_,ë (Ç (Wr.jx 0 ["node"] (i:=3) rfl nd rfl zQ (ł B.range (À (Ã 0) Á)) (fun c=>(á (i:=0) oU rfl zQ)))
  (Ç (İ ô rfl (Ė (Ã 2)) (á (i:=4) nd rfl zQ) (Ç (Wr.cU (ķ 3) (Ï (Ï (Ã 1) (Ã 4)) Å) (À (ï (À (Ï (Ï (Ã 1) (Ã 4)) Å) (À (Ã 4) Á))) Á)) (è [4] â)))
  (è [4] (Ð (Ø (Ã 3)))))),aK h ?_⟩
 rintro ds P ⟨n,arcs,U,rfl,n0,n1,la,ok,hU,q⟩
 refine⟨[.im (.int n),.sh (.list (arcs.map pD)),.sh (iD U),.any,.any],rfl,?_⟩
 refine⟨⟨by omega,by omega⟩,by rw [bH]; omega,rfl,?_⟩
 rw [bH]
 refine⟨rfl,fun (i:Nat) ρ=>ρ=[.im (.int n),.sh (.list (arcs.map pD)),.sh (iD U),.rw 0 (rP (stOf n.toNat (alg arcs (U.take i)))),.any],?_,?_,?_⟩
 ·show [_,_,_,Sl.rw 0 (Ñ n.toNat []),_]=[_,_,_,Sl.rw 0 (rP (stOf n.toNat [])),_]
  rw [Bv]
  unfold rP
  rw [List.map_replicate]
  rfl
 ·rintro i d ρ hd rfl
  obtain⟨k,hk,rfl⟩:=dR hd
  have hi:=(Æ.mp hk).1
  obtain⟨k0,k1⟩:=hU.2 k (É hk)
  obtain⟨⟨o1,o2⟩,o3,o4⟩:=LR ok k0 k1
  have tk:U.take (i+1)=U.take i++[k]:=by rw [ė,hk]; rfl
  have l1:(alg arcs (U.take i)).length<=200:=by unfold alg; rw [Ä,Ĕ]; have:=hU.1; omega
  have r1:=lM (alg arcs (U.take i)) (aR arcs k).1.toNat
  have s1:=lN (n:=n.toNat) (ps:=alg arcs (U.take i)) (q:=((aR arcs k).1,((aR arcs k).2,k))) ⟨o1,by show (aR arcs k).1<_; omega⟩
  refine⟨_,Ma k0 k1,.int (aR arcs k).1,rfl,(aR arcs k).1.toNat,(rowOf (alg arcs (U.take i)) (aR arcs k).1.toNat).map pD,?_,rW _ (by omega),_,Ma k0 k1,.int (aR arcs k).2,rfl,zK,rfl,by rw [Ä]; omega,?_⟩
  ·unfold ixN rP
   rw [if_pos o1,if_pos (by rw [Ä,gM]; omega)]
  ·show [_,_,_,Sl.rw 0 ((rP (stOf n.toNat (alg arcs (U.take i)))).set (aR arcs k).1.toNat ((rowOf (alg arcs (U.take i)) (aR arcs k).1.toNat).map pD++[pD ((aR arcs k).2,k)])),_]=[_,_,_,Sl.rw 0 (rP (stOf n.toNat (alg arcs (U.take (i+1))))),_]
   have ea:alg arcs (U.take (i+1))=alg arcs (U.take i)++[((aR arcs k).1,((aR arcs k).2,k))]:=by
    unfold alg
    rw [tk,ê]
    rfl
   rw [ea,← s1]
   rfl
 ·rintro ρ rfl
  rw [Ä,ħ]
  refine⟨rfl,?_⟩
  show P (.list ((rP (stOf n.toNat (alg arcs U))).map Į))
  rw [Bw]
  exact q
theorem jY:FnScope ["count","arcs","used","steps","index","arc"] ["count","arcs","used"] (ak (top 35)):=zC
theorem qy:(["node","count","arcs","used","steps","index","arc"]:List Str).Nodup:=by decide +kernel
theorem uH (F:Fun K "steps_left" "steps_left" (top 35) f fd) (B:Ģ mg) (m_enumerate:mg "enumerate"=none):FnOk P w K mg base CX0 1 f fd ["count","arcs","used"] (spD Qu):=by
 refine F.ok jY Ē (fun cdv A outer s H vs Q E hr h=>?_)
 have nd:=jY.nd
 refine⟨_,ë (Ç (Wr.jx 0 ["node"] (i:=3) rfl nd rfl zQ (ł B.range (À (Ã 0) Á)) (fun c=>(á (i:=0) qy rfl zQ)))
  (Ç (İ ô rfl (Wr.ug m_enumerate (À (Ã 1) Á)) (Wr.eX (n:=2) rfl (ē (á (i:=4) nd rfl zQ) (ē (á (i:=5) nd rfl zQ) Ŷ))) (Ç (þ (Wr.oh hr.units (Ã 4) (Ã 2)) (Ð (Wr.cU (ķ 3) (Ï (Ã 5) Å) (À (ï (À (Ï (Ã 5) Å) (À (Ã 4) Á))) Á))) (Ð (Wr.cU (ķ 3) (Ï (Ã 5) Å) (À (ï (À (Ï (Ã 5) Å) (À (Ã 4) Á))) Á)))) (è [4,5] â)))
  (è [4,5] (Ð (Ø (Ã 3)))))),aK h ?_⟩
 rintro ds P ⟨n,arcs,U,rfl,n0,n1,la,ok,hU,q⟩
 refine⟨[.im (.int n),.sh (.list (arcs.map pD)),.sh (iD U),.any,.any,.any],rfl,?_⟩
 refine⟨⟨by omega,by omega⟩,by rw [bH]; omega,rfl,?_⟩
 rw [bH]
 refine⟨rfl,fun (i:Nat) ρ=>ρ=[.im (.int n),.sh (.list (arcs.map pD)),.sh (iD U),.rw 0 (rP (stOf n.toNat (lft (arcs.take i) U))),.any,.any],?_,?_,?_⟩
 ·show [_,_,_,Sl.rw 0 (Ñ n.toNat []),_,_]=[_,_,_,Sl.rw 0 (rP (stOf n.toNat [])),_,_]
  rw [Bv]
  unfold rP
  rw [List.map_replicate]
  rfl
 ·rintro i d ρ hd rfl
  rw [gD,ç] at hd
  obtain⟨t,ht,rfl⟩:∃ t,arcs[i]?=some t/\ŝ [.int ((i:Nat):Int),pD t]=d:=by
   cases e:arcs[i]? with
   | none=>rw [e] at hd; cases hd
   | some t=>rw [e] at hd; exact⟨t,rfl,Õ hd⟩
  obtain⟨⟨o1,o2⟩,o3,o4⟩:=ok t (É ht)
  have hi:=(Æ.mp ht).1
  have l1:(lft (arcs.take i) U).length<=200:=by rw [Fo,Ĕ]; omega
  have ea:=Kq (U:=U) ht
  have r1:=lM (lft (arcs.take i) U)
  refine⟨rfl,rfl,bF U,?_⟩
  show if ((U.map È).any fun e=>ò e (.int ((i:Nat):Int)))=true then _ else _
  rw [Ő]
  by_cases hF:((i:Nat):Int)∈U
  ·rw [decide_eq_true hF]
   rw [if_pos hF] at ea
   have s1:=lN (n:=n.toNat) (ps:=lft (arcs.take i) U) (q:=(t.2,(t.1,((i:Nat):Int)))) ⟨o3,by show t.2<_; omega⟩
   have r1:=r1 t.2.toNat
   refine aG (B:=True) ⟨.int t.2,rfl,t.2.toNat,(rowOf (lft (arcs.take i) U) t.2.toNat).map pD,?_,rW _ (by omega),.int t.1,rfl,zK,rfl,by rw [Ä]; omega,?_⟩
   ·unfold ixN rP
    rw [if_pos o3,if_pos (by rw [Ä,gM]; omega)]
   ·show [_,_,_,Sl.rw 0 ((rP (stOf n.toNat (lft (arcs.take i) U))).set t.2.toNat ((rowOf (lft (arcs.take i) U) t.2.toNat).map pD++[pD (t.1,((i:Nat):Int))])),_,_]=[_,_,_,Sl.rw 0 (rP (stOf n.toNat (lft (arcs.take (i+1)) U))),_,_]
    rw [ea,← s1]
    rfl
  ·rw [decide_eq_false hF]
   rw [if_neg hF] at ea
   have s1:=lN (n:=n.toNat) (ps:=lft (arcs.take i) U) (q:=(t.1,(t.2,((i:Nat):Int)))) ⟨o1,by show t.1<_; omega⟩
   have r1:=r1 t.1.toNat
   refine aL (A:=True) ⟨.int t.1,rfl,t.1.toNat,(rowOf (lft (arcs.take i) U) t.1.toNat).map pD,?_,rW _ (by omega),.int t.2,rfl,zK,rfl,by rw [Ä]; omega,?_⟩
   ·unfold ixN rP
    rw [if_pos o1,if_pos (by rw [Ä,gM]; omega)]
   ·show [_,_,_,Sl.rw 0 ((rP (stOf n.toNat (lft (arcs.take i) U))).set t.1.toNat ((rowOf (lft (arcs.take i) U) t.1.toNat).map pD++[pD (t.2,((i:Nat):Int))])),_,_]=[_,_,_,Sl.rw 0 (rP (stOf n.toNat (lft (arcs.take (i+1)) U))),_,_]
    rw [ea,← s1]
    rfl
 ·rintro ρ rfl
  rw [dY,Ä,ħ]
  refine⟨rfl,?_⟩
  show P (.list ((rP (stOf n.toNat (lft arcs U))).map Į))
  rw [Bw]
  exact q
theorem iY:FnScope ["count","arcs","start","goal","used","turn","found"] ["count","arcs","start","goal"] (ak (top 36)):=zC
theorem oW:(["index","count","arcs","start","goal","used","turn","found"]:List Str).Nodup:=by decide +kernel
theorem tu (F:Fun K "arcs_of_two" "arcs_of_two" (top 36) f fd) (B:Ģ mg) (C_trace:ì P w K mg base 1 "trace" ["came","goal"] (spD xU)) (C_search:ì P w K mg base 1 "search" ["steps","start"] (spD nA)) (C_steps_left:ì P w K mg base 1 "steps_left" ["count","arcs","used"] (spD Qu)):FnOk P w K mg base CX0 2 f fd ["count","arcs","start","goal"] (spD Td):=by
 refine F.ok iY Ē (fun cdv A outer s H vs Q E hr h=>?_)
 have nd:=iY.nd
 refine⟨_,ë (Ç (é none (i:=4) nd rfl zQ (ğ Á))
  (Ç (İ ô rfl (ł B.range (À Å Á)) (á (i:=5) nd rfl zQ) (Ç (é none (i:=6) nd rfl zQ (ā C_trace hr (À (ā C_search hr (À (ā C_steps_left hr (À (Ã 0) (À (Ã 1) (À (Ã 4) Á)))) (À (Ã 2) Á))) (À (Ã 3) Á))))
  (Ç (þ (Wr.gP (Ã 6) ň) (Ð (Ø ň)) â)
  (Ç (é none (i:=4) nd rfl zQ (Ř ["index"] rfl (ł B.range (À (Wr.eO B.len (À (Ã 1) Á)) Á)) (fun c=>(á (i:=0) oW rfl zQ)) (fun c=>(Ŵ (Wr.jN hr.units (Wr.zf hr.units (Ã 0) (Ã 5)) (Wr.zf hr.units (Ã 0) (Ï (Ã 7) Å))))) (fun c=>(Ã 0)))) (è [5,6] â)))))
  (è [5,6] (Ð (Ø (Ã 4)))))),aK h ?_⟩
 rintro ds P ⟨n,arcs,a,b,rfl,n0,n1,la,ok,a0,a1,q⟩
 refine⟨[.im (.int n),.sh (.list (arcs.map pD)),.im (.int a),.im (.int b),.any,.any,.any],rfl,?_⟩
 generalize hG:aug n.toNat arcs a b 2 []=G at q
 refine⟨zK,⟨by decide,by decide⟩,rfl,fun (i:Nat) ρ=>∃ U,InL arcs U/\aug n.toNat arcs a b (2 - i) U=G/\ρ=[.im (.int n),.sh (.list (arcs.map pD)),.im (.int a),.im (.int b),.sn (iD U),.any,.any],⟨[],⟨Ě _,(fun i hi=>nomatch hi)⟩,hG,rfl⟩,?_,?_⟩
 ·rintro i d ρ hd ⟨U,hU,e,rfl⟩
  obtain⟨hi,rfl⟩:=cG hd
  have po:=lB (U:=U) (by omega) la ok
  have S:=kh (n:=n.toNat) po a0 (by omega)
  have few:=S.few
  refine⟨n,arcs,U,rfl,n0,n1,la,ok,hU,n.toNat,lft arcs U,a,rfl,by omega,po,a0,by omega,lft arcs U,a,srM n.toNat (lft arcs U) a,b,rfl,S.cm,by omega,?_⟩
  have e2:2 - i=(1 - i)+1:=by omega
  rw [e2] at e
  unfold aug at e
  show (match Dl.stK none _ 6 (norm (norm .new (cH (bC n.toNat (lft arcs U) a b))) (cH (bC n.toNat (lft arcs U) a b))) (cH (bC n.toNat (lft arcs U) a b)) with
   | some s=>_
   | none=>False)
  cases hp:bC n.toNat (lft arcs U) a b with
  | none =>
   rw [hp] at e
   refine aG (B:=True) ⟨rfl,?_⟩
   rw [← e] at q
   exact q
  | some r =>
   rw [hp] at e
   obtain⟨r1,r2⟩:=r
   have lm:(arcs.map pD).length=arcs.length:=Ä ..
   have hx:∀ x y:Bool,(!decide (x=y))=(x != y):=fun x y=>by cases x <;> cases y <;> rfl
   refine aL (A:=True) ⟨⟨by omega,by omega⟩,?_⟩
   refine j7 (ã arcs.length) (fun v=>È (0+((v:Nat):Int))) (fun v=>decide ((0+((v:Nat):Int))∈U) != decide ((0+((v:Nat):Int))∈r2)) (fun v=>È (0+((v:Nat):Int))) .imm ?_ (by rw [Ę]; omega) (fun v hv A B hA hB=>?_) ?_
   ·rw [lm,ŗ]
    rfl
   ·refine⟨rfl,bF U,_,rfl,rfl,bF r2,?_⟩
    show if (!decide (((U.map È).any fun e=>ò e (.int (0+((v:Nat):Int))))=((r2.map È).any fun e=>ò e (.int (0+((v:Nat):Int))))))=true then _ else _
    rw [Ő,Ő,hx]
    exact eV (fun c=>⟨rfl,hA c⟩) (fun c=>hB (Ċ.mpr c))
   show ∃ U',InL arcs U'/\aug n.toNat arcs a b (2 - (i+1)) U'=G/\[Sl.im (.int n),.sh (.list (arcs.map pD)),.im (.int a),.im (.int b),.sn (.list (((ã arcs.length).filter fun v=>decide ((0+((v:Nat):Int))∈U) != decide ((0+((v:Nat):Int))∈r2)).map fun v=>È (0+((v:Nat):Int)))),.any,.any]=[Sl.im (.int n),.sh (.list (arcs.map pD)),.im (.int a),.im (.int b),.sn (iD U'),.any,.any]
   refine⟨sd arcs.length U r2,PN la,by rw [show 2 - (i+1)=1 - i by omega]; exact e,?_⟩
   rw [QV]
   rfl
 ·rintro ρ ⟨U,hU,e,rfl⟩
  have e:some U=G:=e
  rw [← e] at q
  exact⟨rfl,q⟩
theorem lH:FnScope ["count","arcs","used","start","goal","one","rest","other"] ["count","arcs","used","start","goal"] (ak (top 37)):=zC
theorem tG:(["index","count","arcs","used","start","goal","one","rest","other"]:List Str).Nodup:=by decide +kernel
theorem wZ (F:Fun K "two_along" "two_along" (top 37) f fd) (B:Ģ mg) (C_trace:ì P w K mg base 1 "trace" ["came","goal"] (spD xU)) (C_search:ì P w K mg base 1 "search" ["steps","start"] (spD nA)) (C_steps_along:ì P w K mg base 1 "steps_along" ["count","arcs","used"] (spD Ld)):FnOk P w K mg base CX0 2 f fd ["count","arcs","used","start","goal"] (spD Tf):=by
 refine F.ok lH Ē (fun cdv A outer s H vs Q E hr h=>?_)
 have nd:=lH.nd
 refine⟨_,ë (Ç (é none (i:=5) nd rfl zQ (ā C_trace hr (À (ā C_search hr (À (ā C_steps_along hr (À (Ã 0) (À (Ã 1) (À (Ã 2) Á)))) (À (Ã 3) Á))) (À (Ã 4) Á))))
  (Ç (Wr.nF none ["index"] (i:=6) rfl nd rfl zQ (Ė (Ã 2)) (fun c=>(á (i:=0) tG rfl zQ)) (fun c=>(Ŵ (ĸ hr.units (Ã 0) (Ï (Ã 6) Å)))) (fun c=>(Ã 0)))
  (Ç (é none (i:=7) nd rfl zQ (ā C_trace hr (À (ā C_search hr (À (ā C_steps_along hr (À (Ã 0) (À (Ã 1) (À (Ã 6) Á)))) (À (Ã 3) Á))) (À (Ã 4) Á))))
  (Ð (Ø (ğ (À (Ã 5) (À (Ã 7) Á)))))))),aK h ?_⟩
 rintro ds P ⟨n,arcs,U,a,b,r1,r2,rfl,n0,n1,la,ok,hU,a0,a1,p1,p2,q⟩
 refine⟨[.im (.int n),.sh (.list (arcs.map pD)),.sh (iD U),.im (.int a),.im (.int b),.any,.any,.any],rfl,?_⟩
 have po:=pI (by omega) ok hU
 have S:=kh (n:=n.toNat) po a0 (by omega)
 have few:=S.few
 refine⟨n,arcs,U,rfl,n0,n1,la,ok,hU,n.toNat,alg arcs U,a,rfl,by omega,po,a0,by omega,alg arcs U,a,srM n.toNat (alg arcs U) a,b,rfl,S.cm,by omega,?_⟩
 show (match Dl.stK none _ 5 (norm (norm .new (cH (bC n.toNat (alg arcs U) a b))) (cH (bC n.toNat (alg arcs U) a b))) (cH (bC n.toNat (alg arcs U) a b)) with
  | some s=>_
  | none=>False)
 rw [p1]
 refine j7 U È (fun i=>!decide (i∈r1.2)) È .imm rfl (by have:=hU.1; omega) (fun i hi A B hA hB=>?_) ?_
 ·refine⟨_,rfl,rfl,bF r1.2,?_⟩
  show if (!((r1.2.map È).any fun e=>ò e (.int i)))=true then _ else _
  rw [Ő]
  exact eV (fun c=>⟨rfl,hA c⟩) (fun c=>hB (Ċ.mpr c))
 have hU2:InL arcs (U.filter fun i=>!decide (i∈r1.2)):=⟨Ą (ą _ _) hU.1,fun i hi=>hU.2 i (Ý.mp hi).1⟩
 have po2:=pI (by omega) ok hU2
 have S2:=kh (n:=n.toNat) po2 a0 (by omega)
 have few2:=S2.few
 refine⟨n,arcs,_,rfl,n0,n1,la,ok,hU2,n.toNat,alg arcs (U.filter fun i=>!decide (i∈r1.2)),a,rfl,by omega,po2,a0,by omega,alg arcs (U.filter fun i=>!decide (i∈r1.2)),a,srM n.toNat (alg arcs (U.filter fun i=>!decide (i∈r1.2))) a,b,rfl,S2.cm,by omega,?_⟩
 show (match Dl.stK none _ 7 (norm (norm .new (cH (bC n.toNat (alg arcs (U.filter fun i=>!decide (i∈r1.2))) a b))) (cH (bC n.toNat (alg arcs (U.filter fun i=>!decide (i∈r1.2))) a b))) (cH (bC n.toNat (alg arcs (U.filter fun i=>!decide (i∈r1.2))) a b)) with
  | some s=>_
  | none=>False)
 rw [p2]
 exact⟨zK,rfl,q⟩
end
def bK:Nat->(Nat->Int)->Int
 | 0,_=>0
 | k+1,g=>bK k g+g k
theorem cL {g h:Nat->Int}:∀ {L:Nat},(∀ i,i<L->g i=h i)->bK L g=bK L h
 | 0,_=>rfl
 | L+1,e=>by
  show bK L g+g L=bK L h+h L
  rw [cL fun i hi=>e i (by omega),e L (by omega)]
theorem sum_add {g h:Nat->Int}:∀ L:Nat,bK L (fun i=>g i+h i)=bK L g+bK L h
 | 0=>rfl
 | L+1=>by
  show bK L (fun i=>g i+h i)+(g L+h L)=bK L g+g L+(bK L h+h L)
  rw [sum_add L]
  omega
theorem lF:∀ L:Nat,bK L (fun _=>0)=0
 | 0=>rfl
 | L+1=>by
  show bK L (fun _=>0)+0=0
  rw [lF L]
  rfl
theorem qJ {g:Nat->Int}{j:Nat}:∀ {L:Nat},j<L->bK L (fun i=>if i=j then g i else 0)=g j
 | L+1,h=>by
  show bK L (fun i=>if i=j then g i else 0)+(if L=j then g L else 0)=g j
  by_cases e:L=j
  ·subst e
   rw [if_pos rfl,cL (h:=fun _=>0) fun i hi=>if_neg (by omega),lF]
   omega
  ·rw [if_neg e,qJ (by omega)]
   omega
theorem Iz {g:Nat->Int}:∀ {L:Nat},(∀ i,i<L->g i<=0)->bK L g<=0
 | 0,_=>Ļ _
 | L+1,h=>by
  have h1:=Iz (L:=L) (g:=g) fun i hi=>h i (ď hi)
  have h2:=h L (by omega)
  show bK L g+g L<=0
  omega
theorem IK {g:Nat->Int}:∀ {L:Nat},(∀ i,i<L->0<=g i)->0<=bK L g
 | 0,_=>Ļ _
 | L+1,h=>by
  have h1:=IK (L:=L) (g:=g) fun i hi=>h i (ď hi)
  have h2:=h L (by omega)
  show 0<=bK L g+g L
  omega
theorem Ei {g:Nat->Int}{i j L:Nat} (hi:i<L) (hj:j<L) (ne:i≠j) (h:∀ k,k<L->0<=g k):g i+g j<=bK L g:=by
 have e:bK L g=bK L (fun k=>if k=i then g k else 0)+(bK L (fun k=>if k=j then g k else 0)+bK L (fun k=>if k=i\/k=j then 0 else g k)):=by
  rw [← sum_add,← sum_add]
  refine cL fun k hk=>?_
  by_cases a:k=i
  ·subst a
   rw [if_pos rfl,if_neg ne,if_pos (.inl rfl)]
   omega
  ·by_cases b:k=j
   ·subst b
    rw [if_neg a,if_pos rfl,if_pos (.inr rfl)]
    omega
   ·rw [if_neg a,if_neg b,if_neg (fun z=>z.elim a b)]
    omega
 have r:0<=bK L (fun k=>if k=i\/k=j then 0 else g k):=IK fun k hk=>by
  by_cases z:k=i\/k=j
  ·rw [if_pos z]
   exact Ļ _
  ·rw [if_neg z]
   exact h k hk
 rw [qJ hi,qJ hj] at e
 omega
theorem v7 {g:Nat->Int}:∀ {L:Nat},0<bK L g->∃ i,i<L/\0<g i
 | 0,h=>absurd (show (0:Int)<0 from h) (by decide)
 | L+1,h=>by
  have h:0<bK L g+g L:=h
  by_cases e:0<g L
  ·exact⟨L,by omega,e⟩
  ·obtain⟨i,hi,hg⟩:=v7 (L:=L) (g:=g) (by omega)
   exact⟨i,by omega,hg⟩
theorem nW {g:Nat->Int}:∀ T:Nat,bK (2 * T) g=bK T fun k=>g (2 * k)+g (2 * k+1)
 | 0=>rfl
 | T+1=>by
  show bK (2 * T) g+g (2 * T)+g (2 * T+1)=bK T (fun k=>g (2 * k)+g (2 * k+1))+(g (2 * T)+g (2 * T+1))
  rw [nW T]
  omega
def chi (S:Int->Bool) (x:Int):Int:=if S x=true then 1 else 0
def flo (arcs:List Tie) (S:Int->Bool) (i:Nat):Int:=chi S (aR arcs i).1 - chi S (aR arcs i).2
def net (arcs:List Tie) (U:List Int) (S:Int->Bool):Int:=bK arcs.length fun i=>if ((i:Nat):Int)∈U then flo arcs S i else 0
def Flow (arcs:List Tie) (a b c:Int) (U:List Int):Prop:=∀ S,net arcs U S=c * (chi S a - chi S b)
theorem DQ (S:Int->Bool) (x:Int):0<=chi S x/\chi S x<=1:=by
 unfold chi
 cases S x
 ·exact⟨by decide,by decide⟩
 ·exact⟨by decide,by decide⟩
theorem jA {S:Int->Bool}{x:Int} (h:S x=true):chi S x=1:=if_pos h
theorem qd {S:Int->Bool}{x:Int} (h:S x=false):chi S x=0:=by
 unfold chi
 rw [h]
 rfl
theorem Wy.hop {ws:List Put}{a:Int}{P K:List Int}{x:Int} (h:Wy ws a P K x):∀ k∈K,∃ p y,(p,(y,k))∈ws/\y∈P:=by
 induction h with
 | one=>exact fun k hk=>nomatch hk
 | step h hx j ih =>
  intro k hk
  rcases ñ.mp hk with z | z
  ·obtain⟨p,y,h1,h2⟩:=ih k z
   exact⟨p,y,h1,í _ h2⟩
  ·rw [Í.mp z]
   exact⟨_,_,j,ß _ (Í.mpr rfl)⟩
theorem Ib {ws:List Put}{L:Nat}{g:Nat->Int}{S:Int->Bool}{a:Int}{P K:List Int}{x:Int} (hg:∀ p y k,(p,(y,k))∈ws->∃ j:Nat,k=((j:Nat):Int)/\j<L/\g j=chi S p - chi S y) (uq:∀ p y p' y' k,(p,(y,k))∈ws->(p',(y',k))∈ws->y=y')
  (h:Wy ws a P K x):bK L (fun i=>if ((i:Nat):Int)∈K then g i else 0)=chi S a - chi S x:=by
 induction h with
 | one =>
  rw [cL (h:=fun _=>0) fun i _=>if_neg (fun z=>nomatch z),lF]
  omega
 | @step P K p y k h hx j ih =>
  obtain⟨q,rfl,hq,gq⟩:=hg _ _ _ j
  have nk:((q:Nat):Int)∉K:=fun z=>by
   obtain⟨p',y',h1,h2⟩:=h.hop _ z
   rw [uq _ _ _ _ _ j h1] at hx
   exact hx h2
  have e:bK L (fun i=>if ((i:Nat):Int)∈K++[((q:Nat):Int)] then g i else 0)=bK L (fun i=>if ((i:Nat):Int)∈K then g i else 0)+bK L (fun i=>if i=q then g i else 0):=by
   rw [← sum_add]
   refine cL fun i _=>?_
   by_cases a1:i=q
   ·subst a1
    rw [if_pos (ß _ (Í.mpr rfl)),if_neg nk,if_pos rfl]
    omega
   ·rw [if_neg a1]
    by_cases a2:((i:Nat):Int)∈K
    ·rw [if_pos (í _ a2),if_pos a2]
     omega
    ·rw [if_neg (fun z=>(ñ.mp z).elim a2 fun z=>a1 (by have:=Í.mp z; omega)),if_neg a2]
     omega
  rw [e,ih,qJ hq,gq]
  omega
theorem cC {arcs:List Tie}{j:Nat}{t:Tie} (h:arcs[j]?=some t):aR arcs ((j:Nat):Int)=t:=by
 unfold aR
 rw [ŗ,ĕ,h]
 rfl
theorem gC (arcs:List Tie) (a b:Int):Flow arcs a b 0 []:=fun S=>by
 unfold net
 rw [cL (h:=fun _=>0) fun i _=>if_neg (fun z=>nomatch z),lF,Int.zero_mul]
theorem R5 {L:Nat}{U K:List Int}{i:Nat} (hi:i<L):((i:Nat):Int)∈sd L U K↔¬ (((i:Nat):Int)∈U↔((i:Nat):Int)∈K):=by
 unfold sd
 rw [Ý]
 have h1:((i:Nat):Int)∈zI (ã L):=xH.mpr ⟨by omega,by omega⟩
 by_cases a:((i:Nat):Int)∈U <;> by_cases b:((i:Nat):Int)∈K <;> simp [a,b,h1]
theorem tY {arcs:List Tie}{a b c:Int}{U P K:List Int} (h:Flow arcs a b c U) (w:Wy (lft arcs U) a P K b):Flow arcs a b (c+1) (sd arcs.length U K):=fun S=>by
 have s:=Ib (L:=arcs.length) (g:=fun i=>if ((i:Nat):Int)∈U then - flo arcs S i else flo arcs S i) (S:=S) (fun p y k hk=>?_) (fun p y p' y' k h1 h2=>?_) w
 ·have e:net arcs (sd arcs.length U K) S=net arcs U S+bK arcs.length (fun i=>if ((i:Nat):Int)∈K then (if ((i:Nat):Int)∈U then - flo arcs S i else flo arcs S i) else 0):=by
   unfold net
   rw [← sum_add]
   refine cL fun i hi=>?_
   have m:=R5 (U:=U) (K:=K) hi
   by_cases u:((i:Nat):Int)∈U <;> by_cases k:((i:Nat):Int)∈K
   ·rw [if_neg (fun z=>m.mp z ⟨fun _=>k,fun _=>u⟩),if_pos u,if_pos k,if_pos u]
    omega
   ·rw [if_pos (m.mpr fun z=>k (z.mp u)),if_pos u,if_neg k]
    omega
   ·rw [if_pos (m.mpr fun z=>u (z.mpr k)),if_neg u,if_pos k,if_neg u]
    omega
   ·rw [if_neg (fun z=>m.mp z ⟨fun q=>absurd q u,fun q=>absurd q k⟩),if_neg u,if_neg k]
    omega
  rw [e,s,h S,Int.add_mul,Int.one_mul]
 ·obtain⟨j,rfl,⟨hu,e⟩ | ⟨hu,e⟩⟩:=cP.mp hk
  ·refine⟨j,rfl,(Æ.mp e).1,?_⟩
   show (if ((j:Nat):Int)∈U then - flo arcs S j else flo arcs S j)=_
   rw [if_pos hu]
   unfold flo
   rw [cC e]
   show -(chi S y - chi S p)=chi S p - chi S y
   omega
  ·refine⟨j,rfl,(Æ.mp e).1,?_⟩
   show (if ((j:Nat):Int)∈U then - flo arcs S j else flo arcs S j)=_
   rw [if_neg hu]
   unfold flo
   rw [cC e]
 ·obtain⟨j,rfl,x1⟩:=cP.mp h1
  obtain⟨j',e',x2⟩:=cP.mp h2
  have ej:j=j':=by omega
  subst ej
  rcases x1 with ⟨u1,e1⟩ | ⟨u1,e1⟩ <;> rcases x2 with ⟨u2,e2⟩ | ⟨u2,e2⟩
  ·rw [e1] at e2; cases e2; rfl
  ·exact absurd u1 u2
  ·exact absurd u2 u1
  ·rw [e1] at e2; cases e2; rfl
theorem Px {arcs:List Tie}{U:List Int} (hU:InL arcs U) {S:Int->Bool}{p y k:Int} (hk:(p,(y,k))∈alg arcs U):∃ j:Nat,k=((j:Nat):Int)/\j<arcs.length/\flo arcs S j=chi S p - chi S y:=by
 obtain⟨h1,h2⟩:=dO.mp hk
 obtain⟨k0,k1⟩:=hU.2 k h1
 refine⟨k.toNat,by omega,by omega,?_⟩
 unfold flo
 rw [show ((k.toNat:Nat):Int)=k by omega,h2]
theorem vD {arcs:List Tie}{a b c:Int}{U P K:List Int} (hU:InL arcs U) (h:Flow arcs a b c U) (w:Wy (alg arcs U) a P K b):Flow arcs a b (c - 1) (U.filter fun i=>!decide (i∈K)):=fun S=>by
 have s:=Ib (L:=arcs.length) (g:=flo arcs S) (S:=S) (fun p y k hk=>Px hU hk) (fun p y p' y' k h1 h2=>?_) w
 ·have e:net arcs U S=net arcs (U.filter fun i=>!decide (i∈K)) S+bK arcs.length (fun i=>if ((i:Nat):Int)∈K then flo arcs S i else 0):=by
   unfold net
   rw [← sum_add]
   refine cL fun i hi=>?_
   have m:((i:Nat):Int)∈(U.filter fun i=>!decide (i∈K))↔((i:Nat):Int)∈U/\((i:Nat):Int)∉K:=by
    rw [Ý,ņ,decide_eq_false_iff_not]
   by_cases k:((i:Nat):Int)∈K
   ·have u:((i:Nat):Int)∈U:=by
     obtain⟨p,y,h1,_⟩:=w.hop _ k
     exact (dO.mp h1).1
    rw [if_pos u,if_neg (fun z=>(m.mp z).2 k),if_pos k]
    omega
   ·by_cases u:((i:Nat):Int)∈U
    ·rw [if_pos u,if_pos (m.mpr ⟨u,k⟩),if_neg k]
     omega
    ·rw [if_neg u,if_neg (fun z=>u (m.mp z).1),if_neg k]
     omega
  have hS:=h S
  rw [e,s] at hS
  rw [Int.sub_mul,Int.one_mul]
  omega
 ·have e1:=(dO.mp h1).2
  rw [(dO.mp h2).2] at e1
  cases e1
  rfl
theorem nu {arcs:List Tie}{a b c:Int}{U:List Int} (hc:0<c) (h:Flow arcs a b c U):Rt (edg (alg arcs U)) a b:=by
 by_cases r:Rt (edg (alg arcs U)) a b
 ·exact r
 ·exfalso
  have hS:=h (RZ (edg (alg arcs U)) a)
  rw [jA (aN.mpr (.refl _)),qd (Ċ.mpr fun z=>r (aN.mp z))] at hS
  have le:net arcs U (RZ (edg (alg arcs U)) a)<=0:=Iz fun i hi=>by
   by_cases u:((i:Nat):Int)∈U
   ·rw [if_pos u]
    unfold flo
    cases e:RZ (edg (alg arcs U)) a (aR arcs ((i:Nat):Int)).1 with
    | false =>
     rw [qd e]
     have:=DQ (RZ (edg (alg arcs U)) a) (aR arcs ((i:Nat):Int)).2
     omega
    | true =>
     have r2:Rt (edg (alg arcs U)) a (aR arcs ((i:Nat):Int)).2:=.step (aN.mp e) (fG.mpr ⟨_,dO.mpr ⟨u,rfl⟩⟩)
     rw [jA e,jA (aN.mpr r2)]
     omega
   ·rw [if_neg u]
    exact Ļ _
  omega
def aC (us:List Tie):List Tie:=us.flatMap fun t=>[t,(t.2,t.1)]
theorem d7 (us:List Tie):(aC us).length=2 * us.length:=qH id (fun t:Tie=>(t.2,t.1)) us
theorem cV:∀ (us:List Tie) (k:Nat) {t:Tie},us[k]?=some t->(aC us)[2 * k]?=some t/\(aC us)[2 * k+1]?=some (t.2,t.1)
 | u::us,0,t,h=>by
  cases h
  exact⟨rfl,rfl⟩
 | u::us,k+1,t,h=>by
  have:=cV us k (t:=t) h
  exact this
theorem nJ {n:Int}{us:List Tie} (ok:OkN n us):OkA n (aC us):=fun e he=>by
 obtain⟨t,ht,hm⟩:=List.mem_flatMap.mp he
 obtain⟨⟨h1,h2⟩,⟨h3,h4⟩,_⟩:=ok t ht
 simp only [Þ,æ,or_false] at hm
 rcases hm with rfl | rfl
 ·exact⟨⟨h1,h2⟩,h3,h4⟩
 ·exact⟨⟨h3,h4⟩,h1,h2⟩
def prt (i:Int):Int:=if i % 2=0 then i+1 else i - 1
def gk (U:List Int):List Int:=U.filter fun i=>!decide (prt i∈U)
theorem Hq {us:List Tie}{a b c:Int}{U:List Int} (h:Flow (aC us) a b c U):Flow (aC us) a b c (gk U):=fun S=>by
 rw [← h S]
 unfold net
 rw [d7,nW,nW]
 refine cL fun k hk=>?_
 obtain⟨t,ht⟩:∃ t,us[k]?=some t:=⟨_,Ó hk⟩
 obtain⟨g1,g2⟩:=cV us k ht
 have f1:flo (aC us) S (2 * k)=chi S t.1 - chi S t.2:=by unfold flo; rw [cC g1]
 have f2:flo (aC us) S (2 * k+1)=chi S t.2 - chi S t.1:=by unfold flo; rw [cC g2]
 have p1:prt ((2 * k:Nat):Int)=((2 * k+1:Nat):Int):=by
  unfold prt
  rw [if_pos (by omega)]
  omega
 have p2:prt ((2 * k+1:Nat):Int)=((2 * k:Nat):Int):=by
  unfold prt
  rw [if_neg (by omega)]
  omega
 have m:∀ i:Int,i∈gk U↔i∈U/\prt i∉U:=fun i=>by
  unfold gk
  rw [Ý,ņ,decide_eq_false_iff_not]
 have m1:=m ((2 * k:Nat):Int)
 have m2:=m ((2 * k+1:Nat):Int)
 rw [p1] at m1
 rw [p2] at m2
 rw [f1,f2]
 by_cases x:((2 * k:Nat):Int)∈U <;> by_cases y:((2 * k+1:Nat):Int)∈U
 ·rw [if_neg (fun z=>(m1.mp z).2 y),if_neg (fun z=>(m2.mp z).2 x),if_pos x,if_pos y]
  omega
 ·rw [if_pos (m1.mpr ⟨x,y⟩),if_neg (fun z=>y (m2.mp z).1),if_pos x,if_neg y]
 ·rw [if_neg (fun z=>x (m1.mp z).1),if_pos (m2.mpr ⟨y,x⟩),if_neg x,if_pos y]
 ·rw [if_neg (fun z=>x (m1.mp z).1),if_neg (fun z=>y (m2.mp z).1),if_neg x,if_neg y]
theorem Pj {us:List Tie}{a b:Int}{U:List Int} (h:Flow (aC us) a b 1 U) (hr:¬ Rt (edg (lft (aC us) U)) a b):∃ k:Nat,k<us.length/\¬ Rt (adj us [((k:Nat):Int)] []) a b:=by
 let S:=RZ (edg (lft (aC us) U)) a
 have hS:=h S
 have ca:chi S a=1:=jA (aN.mpr (.refl _))
 have cb:chi S b=0:=qd (Ċ.mpr fun z=>hr (aN.mp z))
 rw [ca,cb] at hS
 have st:∀ (j:Nat) (p x:Int),(p,(x,((j:Nat):Int)))∈lft (aC us) U->S p=true->S x=true:=fun j p x hm hp=>aN.mpr (.step (aN.mp hp) (fG.mpr ⟨_,hm⟩))
 have get:∀ i,i<(aC us).length->(aC us)[i]?=some (aR (aC us) ((i:Nat):Int)):=fun i hi=>nO (arcs:=aC us) (i:=((i:Nat):Int)) (by omega) (by omega)
 have ge:∀ i,i<(aC us).length->0<=(if ((i:Nat):Int)∈U then flo (aC us) S i else 0):=fun i hi=>by
  by_cases u:((i:Nat):Int)∈U
  ·rw [if_pos u]
   unfold flo
   cases e:S (aR (aC us) ((i:Nat):Int)).2 with
   | false =>
    rw [qd e]
    have:=DQ S (aR (aC us) ((i:Nat):Int)).1
    omega
   | true =>
    have:S (aR (aC us) ((i:Nat):Int)).1=true:=st i _ _ (cP.mpr ⟨i,rfl,.inl ⟨u,get i hi⟩⟩) e
    rw [jA e,jA this]
    omega
  ·rw [if_neg u]
   exact Ļ _
 have hS:bK (aC us).length (fun i=>if ((i:Nat):Int)∈U then flo (aC us) S i else 0)=1:=hS
 obtain⟨i0,hi0,g0⟩:=v7 (by rw [hS]; decide)
 have g0:0<(if ((i0:Nat):Int)∈U then flo (aC us) S i0 else 0):=g0
 have only:∀ j,j<(aC us).length->((j:Nat):Int)∈U->S (aR (aC us) ((j:Nat):Int)).1=true->S (aR (aC us) ((j:Nat):Int)).2=false->j=i0:=fun j hj u h1 h2=>by
  by_cases e:j=i0
  ·exact e
  ·have:=Ei hj hi0 e ge
   have this:(if ((j:Nat):Int)∈U then flo (aC us) S j else 0)+(if ((i0:Nat):Int)∈U then flo (aC us) S i0 else 0)<=_:=this
   rw [hS,if_pos u] at this
   unfold flo at this
   rw [jA h1,qd h2] at this
   unfold flo at g0
   omega
 have la:=d7 us
 refine⟨i0 / 2,by omega,fun r=>?_⟩
 have all:∀ x,Rt (adj us [((i0 / 2:Nat):Int)] []) a x->S x=true:=fun x r=>by
  induction r with
  | refl=>exact aN.mpr (.refl _)
  | @step y z _ t ih =>
   obtain⟨k,e,nk,_⟩:=bG.mp t
   have nk:k≠i0 / 2:=fun q=>nk (by rw [q]; exact Í.mpr rfl)
   have arc:∃ j,j<(aC us).length/\j / 2=k/\(aC us)[j]?=some (y,z):=by
    rcases e with e | e
    ·have g:=(cV us k e).1
     exact⟨2 * k,(Æ.mp g).1,by omega,g⟩
    ·have g:=(cV us k e).2
     exact⟨2 * k+1,(Æ.mp g).1,by omega,g⟩
   obtain⟨j,hj,jk,g⟩:=arc
   by_cases u:((j:Nat):Int)∈U
   ·cases e2:S z with
    | true=>rfl
    | false =>
     have:=only j hj u (by rw [cC g]; exact ih) (by rw [cC g]; exact e2)
     omega
   ·exact st j _ _ (cP.mpr ⟨j,rfl,.inr ⟨u,g⟩⟩) ih
 have:=all b r
 rw [show S b=RZ (edg (lft (aC us) U)) a b from rfl,aN] at this
 exact hr this
def oN (n a b v:Int):Int:=if v=a\/v=b then v else v+n
def inn (n a b:Int):List Int:=(zI (ã n.toNat)).filter fun v=>!decide (v=a\/v=b)
def bO (n a b:Int) (us:List Tie):List Tie:=us.flatMap fun t=>[(oN n a b t.1,t.2),(oN n a b t.2,t.1)]
def aH (n a b:Int) (us:List Tie):List Tie:=bO n a b us++(inn n a b).map fun v=>(v,v+n)
theorem cW (n a b:Int) (us:List Tie):(bO n a b us).length=2 * us.length:=qH (fun t:Tie=>(oN n a b t.1,t.2)) (fun t:Tie=>(oN n a b t.2,t.1)) us
theorem vU (n a b:Int):∀ (us:List Tie) (k:Nat) {t:Tie},us[k]?=some t->(bO n a b us)[2 * k]?=some (oN n a b t.1,t.2)/\(bO n a b us)[2 * k+1]?=some (oN n a b t.2,t.1)
 | u::us,0,t,h=>by
  cases h
  exact⟨rfl,rfl⟩
 | u::us,k+1,t,h=>by
  have:=vU n a b us k (t:=t) h
  exact this
theorem dg {n a b v:Int}:v∈inn n a b↔(0<=v/\v<n)/\v≠a/\v≠b:=by
 unfold inn
 rw [Ý,xH,ņ,decide_eq_false_iff_not]
 constructor
 ·rintro ⟨⟨h0,h1⟩,h2⟩
  exact⟨⟨h0,by omega⟩,fun z=>h2 (.inl z),fun z=>h2 (.inr z)⟩
 ·rintro ⟨⟨h0,h1⟩,h2,h3⟩
  exact⟨⟨h0,by omega⟩,fun z=>z.elim h2 h3⟩
theorem Sy (n a b:Int):(inn n a b).Nodup:=wB ((vX List.pairwise_lt_range).filter _)
theorem xP (n a b:Int):(inn n a b).length<=n.toNat:=by
 unfold inn zI
 refine Ą (ą _ _) ?_
 rw [Ä,Ę]
 exact Ö _
theorem pG (n a b:Int) (us:List Tie):(aH n a b us).length=2 * us.length+(inn n a b).length:=by
 unfold aH
 rw [Ô,cW,Ä]
theorem pH {n a b:Int}{us:List Tie}{k:Nat}{t:Tie} (h:us[k]?=some t):(aH n a b us)[2 * k]?=some (oN n a b t.1,t.2)/\(aH n a b us)[2 * k+1]?=some (oN n a b t.2,t.1):=by
 obtain⟨g1,g2⟩:=vU n a b us k h
 unfold aH
 rw [ě (Æ.mp g1).1,ě (Æ.mp g2).1]
 exact⟨g1,g2⟩
theorem Bg {n a b v:Int}{us:List Tie} (h:v∈inn n a b):∃ j:Nat,2 * us.length<=j/\(inn n a b)[j - 2 * us.length]?=some v/\(aH n a b us)[j]?=some (v,v+n):=by
 obtain⟨i,hi⟩:=ę h
 refine⟨2 * us.length+i,by omega,by rw [show 2 * us.length+i - 2 * us.length=i by omega]; exact hi,?_⟩
 unfold aH
 rw [Ă (by rw [cW]; omega),cW,show 2 * us.length+i - 2 * us.length=i by omega,ç,hi]
 rfl
theorem gH {n a b:Int}{us:List Tie}{j:Nat}{e:Tie} (h:(aH n a b us)[j]?=some e):(∃ t,j<2 * us.length/\us[j / 2]?=some t/\((j=2 * (j / 2)/\e=(oN n a b t.1,t.2))\/(j=2 * (j / 2)+1/\e=(oN n a b t.2,t.1))))\/(2 * us.length<=j/\∃ v,(inn n a b)[j - 2 * us.length]?=some v/\e=(v,v+n)):=by
 by_cases hj:j<2 * us.length
 ·left
  have hk:j / 2<us.length:=by omega
  have ht:=Ó hk
  obtain⟨g1,g2⟩:=pH (n:=n) (a:=a) (b:=b) ht
  refine⟨_,hj,ht,?_⟩
  rcases Nat.mod_two_eq_zero_or_one j with m | m
  ·left
   have ej:2 * (j / 2)=j:=by omega
   rw [ej,h] at g1
   exact⟨ej.symm,Õ g1⟩
  ·right
   have ej:2 * (j / 2)+1=j:=by omega
   rw [ej,h] at g2
   exact⟨ej.symm,Õ g2⟩
 ·right
  refine⟨by omega,?_⟩
  unfold aH at h
  rw [Ă (by rw [cW]; omega),cW,ç] at h
  cases hv:(inn n a b)[j - 2 * us.length]? with
  | none=>rw [hv] at h; cases h
  | some v =>
   rw [hv] at h
   exact⟨v,rfl,(Õ h).symm⟩
theorem xg {n a b v:Int} (h0:0<=v) (h1:v<n):0<=oN n a b v/\oN n a b v<2 * n:=by
 unfold oN
 split <;> omega
theorem nM {n a b:Int}{us:List Tie} (ok:OkN n us):OkA (2 * n) (aH n a b us):=fun e he=>by
 obtain⟨j,hj⟩:=ę he
 rcases gH hj with ⟨t,_,ht,h⟩ | ⟨_,v,hv,rfl⟩
 ·obtain⟨⟨h1,h2⟩,⟨h3,h4⟩,_⟩:=ok t (É ht)
  have o1:=xg (a:=a) (b:=b) h1 h2
  have o2:=xg (a:=a) (b:=b) h3 h4
  rcases h with ⟨_,rfl⟩ | ⟨_,rfl⟩
  ·exact⟨o1,by show 0<=t.2; omega,by show t.2<2 * n; omega⟩
  ·exact⟨o2,by show 0<=t.1; omega,by show t.1<2 * n; omega⟩
 ·obtain⟨⟨h0,h1⟩,_⟩:=dg.mp (É hv)
  exact⟨⟨h0,by show v<2 * n; omega⟩,by show 0<=v+n; omega,by show v+n<2 * n; omega⟩
theorem Pk {arcs:List Tie}{a b:Int}{U:List Int} (h:Flow arcs a b 1 U) (hr:¬ Rt (edg (lft arcs U)) a b):∃ i0,i0<arcs.length/\∀ j,j<arcs.length->RZ (edg (lft arcs U)) a (aR arcs ((j:Nat):Int)).1=true->RZ (edg (lft arcs U)) a (aR arcs ((j:Nat):Int)).2=false->j=i0:=by
 let S:=RZ (edg (lft arcs U)) a
 have hS:=h S
 have ca:chi S a=1:=jA (aN.mpr (.refl _))
 have cb:chi S b=0:=qd (Ċ.mpr fun z=>hr (aN.mp z))
 rw [ca,cb] at hS
 have st:∀ (j:Nat) (p x:Int),(p,(x,((j:Nat):Int)))∈lft arcs U->S p=true->S x=true:=fun j p x hm hp=>aN.mpr (.step (aN.mp hp) (fG.mpr ⟨_,hm⟩))
 have get:∀ i,i<arcs.length->arcs[i]?=some (aR arcs ((i:Nat):Int)):=fun i hi=>nO (arcs:=arcs) (i:=((i:Nat):Int)) (by omega) (by omega)
 have ge:∀ i,i<arcs.length->0<=(if ((i:Nat):Int)∈U then flo arcs S i else 0):=fun i hi=>by
  by_cases u:((i:Nat):Int)∈U
  ·rw [if_pos u]
   unfold flo
   cases e:S (aR arcs ((i:Nat):Int)).2 with
   | false =>
    rw [qd e]
    have:=DQ S (aR arcs ((i:Nat):Int)).1
    omega
   | true =>
    have:S (aR arcs ((i:Nat):Int)).1=true:=st i _ _ (cP.mpr ⟨i,rfl,.inl ⟨u,get i hi⟩⟩) e
    rw [jA e,jA this]
    omega
  ·rw [if_neg u]
   exact Ļ _
 have hS:bK arcs.length (fun i=>if ((i:Nat):Int)∈U then flo arcs S i else 0)=1:=hS
 obtain⟨i0,hi0,g0⟩:=v7 (by rw [hS]; decide)
 have g0:0<(if ((i0:Nat):Int)∈U then flo arcs S i0 else 0):=g0
 refine⟨i0,hi0,fun j hj h1 h2=>?_⟩
 have h1:S (aR arcs ((j:Nat):Int)).1=true:=h1
 have h2:S (aR arcs ((j:Nat):Int)).2=false:=h2
 by_cases u:((j:Nat):Int)∈U
 ·by_cases e:j=i0
  ·exact e
  ·have:=Ei hj hi0 e ge
   have this:(if ((j:Nat):Int)∈U then flo arcs S j else 0)+(if ((i0:Nat):Int)∈U then flo arcs S i0 else 0)<=_:=this
   rw [hS,if_pos u] at this
   unfold flo at this
   rw [jA h1,qd h2] at this
   unfold flo at g0
   omega
 ·have:S (aR arcs ((j:Nat):Int)).2=true:=st j _ _ (cP.mpr ⟨j,rfl,.inr ⟨u,get j hj⟩⟩) h1
  rw [h2] at this
  cases this
theorem Va (n a b:Int):oN n a b a=a:=if_pos (.inl rfl)
theorem U9 (n a b:Int):oN n a b b=b:=if_pos (.inr rfl)
theorem Bh {n a b:Int}{us:List Tie}{x y:Int}{k:Nat} (e:us[k]?=some (x,y)\/us[k]?=some (y,x)):∃ j,j<(aH n a b us).length/\j / 2=k/\j<2 * us.length/\aR (aH n a b us) ((j:Nat):Int)=(oN n a b x,y)/\(aH n a b us)[j]?=some (oN n a b x,y):=by
 rcases e with e | e
 ·have g:=(pH (n:=n) (a:=a) (b:=b) e).1
  have hk:=(Æ.mp e).1
  exact⟨2 * k,(Æ.mp g).1,by omega,by omega,cC g,g⟩
 ·have g:=(pH (n:=n) (a:=a) (b:=b) e).2
  have hk:=(Æ.mp e).1
  exact⟨2 * k+1,(Æ.mp g).1,by omega,by omega,cC g,g⟩
theorem Lw {n a b:Int}{us:List Tie}{U:List Int} (ok:OkN n us) (h:Flow (aH n a b us) a b 1 U) (hr:¬ Rt (edg (lft (aH n a b us) U)) a b):(∃ v,v∈inn n a b/\¬ Rt (adj us [] [v]) a b)\/∃ k:Nat,k<us.length/\¬ Rt (adj us [((k:Nat):Int)] []) a b:=by
 obtain⟨i0,hi0,only⟩:=Pk h hr
 rw [pG] at hi0
 generalize hS:RZ (edg (lft (aH n a b us) U)) a=S at only
 have Sa:S a=true:=by rw [← hS]; exact aN.mpr (.refl _)
 have Sb:S b=false:=by rw [← hS]; exact Ċ.mpr fun z=>hr (aN.mp z)
 have step:∀ (F B:List Int),(∀ k:Nat,k=i0 / 2->i0<2 * us.length->((k:Nat):Int)∈F)->(∀ v,(inn n a b)[i0 - 2 * us.length]?=some v->2 * us.length<=i0->v∈B)->¬ Rt (adj us F B) a b:=fun F B hF hB r=>by
  have all:∀ x,Rt (adj us F B) a x->S (oN n a b x)=true:=fun x r=>by
   induction r with
   | refl=>rw [Va]; exact Sa
   | @step y z _ t ih =>
    obtain⟨k,e,nk,nz⟩:=bG.mp t
    obtain⟨j,hj,jk,jl,ja,_⟩:=Bh (n:=n) (a:=a) (b:=b) e
    have Sz:S z=true:=by
     cases e2:S z with
     | true=>rfl
     | false =>
      have:=only j hj (by rw [ja]; exact ih) (by rw [ja]; exact e2)
      subst this
      exact absurd (hF k jk.symm jl) nk
    by_cases zz:z=a\/z=b
    ·unfold oN
     rw [if_pos zz]
     exact Sz
    ·have zr:0<=z/\z<n:=by
      rcases e with e | e
      ·exact (ok _ (É e)).2.1
      ·exact (ok _ (É e)).1
     have zi:z∈inn n a b:=dg.mpr ⟨zr,fun q=>zz (.inl q),fun q=>zz (.inr q)⟩
     obtain⟨j2,l2,g2,e2⟩:=Bg (us:=us) zi
     have ho:oN n a b z=z+n:=if_neg zz
     rw [ho]
     cases e3:S (z+n) with
     | true=>rfl
     | false =>
      have:=only j2 (Æ.mp e2).1 (by rw [cC e2]; exact Sz) (by rw [cC e2]; exact e3)
      subst this
      exact absurd (hB z g2 l2) nz
  have:=all b r
  rw [U9,Sb] at this
  cases this
 by_cases c:i0<2 * us.length
 ·right
  refine⟨i0 / 2,by omega,step [((i0 / 2:Nat):Int)] [] (fun k hk _=>by rw [hk]; exact Í.mpr rfl) (fun v _ l=>by omega)⟩
 ·cases hv:(inn n a b)[i0 - 2 * us.length]? with
  | some v =>
   left
   refine⟨v,É hv,step [] [v] (fun k _ l=>by omega) (fun w hw _=>by rw [hv] at hw; cases hw; exact Í.mpr rfl)⟩
  | none =>
   exfalso
   have:=List.getElem?_eq_none_iff.mp hv
   omega
theorem Jf {n a b:Int}{us:List Tie} (ok:OkN n us) {x:Int} (r:Rt (adj us [] []) a x):Rt (edg (lft (aH n a b us) [])) a (oN n a b x):=by
 have st:∀ (j:Nat) (e:Tie),(aH n a b us)[j]?=some e->e∈edg (lft (aH n a b us) []):=fun j e he=>fG.mpr ⟨_,cP.mpr ⟨j,rfl,.inr ⟨æ,he⟩⟩⟩
 induction r with
 | refl=>rw [Va]; exact .refl _
 | @step y z _ t ih =>
  obtain⟨k,e,_,_⟩:=bG.mp t
  obtain⟨j,hj,jk,jl,ja,g⟩:=Bh (n:=n) (a:=a) (b:=b) e
  have rz:=Rt.step ih (st j _ g)
  by_cases zz:z=a\/z=b
  ·unfold oN
   rw [if_pos zz]
   exact rz
  ·have zr:0<=z/\z<n:=by
    rcases e with e | e
    ·exact (ok _ (É e)).2.1
    ·exact (ok _ (É e)).1
   have zi:z∈inn n a b:=dg.mpr ⟨zr,fun q=>zz (.inl q),fun q=>zz (.inr q)⟩
   obtain⟨j2,l2,g2,e2⟩:=Bg (us:=us) zi
   have ho:oN n a b z=z+n:=if_neg zz
   rw [ho]
   exact .step rz (st j2 _ e2)
def piN (n x:Int):Int:=if x<n then x else x - n
theorem Uv {n a b v:Int} (h0:0<=v) (h1:v<n):piN n (oN n a b v)=v:=by
 unfold piN oN
 by_cases c:v=a\/v=b
 ·rw [if_pos c,if_pos h1]
 ·rw [if_neg c,if_neg (by omega)]
  omega
def gA (n:Int) (P:List Int):List Int:=P.filter fun x=>decide (x<n)
def gB (T:Nat) (K:List Int):List Int:=(K.filter fun i=>decide (i<2 * ((T:Nat):Int))).map fun i=>i / 2
theorem uD {arcs:List Tie}{N:List Int} (hN:InL arcs N) {p y k:Int} (j:(p,(y,k))∈alg arcs N):∃ i:Nat,k=((i:Nat):Int)/\k∈N/\arcs[i]?=some (p,y):=by
 obtain⟨h1,h2⟩:=dO.mp j
 obtain⟨k0,k1⟩:=hN.2 k h1
 refine⟨k.toNat,by omega,h1,?_⟩
 rw [nO k0 k1,h2]
theorem qG {n a b:Int}{us:List Tie}{N P K:List Int}{x:Int} (ok:OkN n us) (ha:0<=a/\a<n) (hN:InL (aH n a b us) N) (h:Wy (alg (aH n a b us) N) a P K x):Wy (aJ us) a (gA n P) (gB us.length K) (piN n x):=by
 induction h with
 | one =>
  have e1:gA n [a]=[a]:=by unfold gA; rw [List.filter_cons_of_pos (by exact decide_eq_true ha.2)]; rfl
  have e2:piN n a=a:=if_pos ha.2
  rw [e1,e2]
  exact .one
 | @step P K p y k h hx j ih =>
  obtain⟨i,rfl,_,hi⟩:=uD hN j
  rcases gH hi with ⟨t,hl,ht,e⟩ | ⟨hl,v,hv,e⟩
  ·obtain⟨⟨h1,h2⟩,⟨h3,h4⟩,_⟩:=ok t (É ht)
   obtain⟨u,z,eu,hp,hy,u0,u1,z0,z1⟩:∃ u z,(us[i / 2]?=some (u,z)\/us[i / 2]?=some (z,u))/\p=oN n a b u/\y=z/\0<=u/\u<n/\0<=z/\z<n:=by
    rcases e with ⟨_,e⟩ | ⟨_,e⟩
    ·exact⟨t.1,t.2,.inl ht,congrArg Prod.fst e,congrArg Prod.snd e,h1,h2,h3,h4⟩
    ·exact⟨t.2,t.1,.inr ht,congrArg Prod.fst e,congrArg Prod.snd e,h3,h4,h1,h2⟩
   subst hp hy
   rw [Uv u0 u1] at ih
   have e1:gA n (P++[y])=gA n P++[y]:=by
    unfold gA
    rw [ő,List.filter_cons_of_pos (l:=[]) (by exact decide_eq_true z1)]
    rfl
   have e2:gB us.length (K++[((i:Nat):Int)])=gB us.length K++[((i / 2:Nat):Int)]:=by
    unfold gB
    rw [ő,List.filter_cons_of_pos (l:=[]) (by exact decide_eq_true (by omega)),ê]
    show _++[((i:Nat):Int) / 2]=_
    congr 1
   have e3:piN n y=y:=if_pos z1
   rw [e1,e2,e3]
   refine .step ih (fun q=>hx (Ý.mp q).1) (bV.mpr ⟨i / 2,rfl,eu⟩)
  ·have ev:=dg.mp (É hv)
   have hp:p=v:=congrArg Prod.fst e
   have hy:y=v+n:=congrArg Prod.snd e
   subst hp hy
   have e1:gA n (P++[p+n])=gA n P:=by
    unfold gA
    rw [ő,List.filter_cons_of_neg (l:=[]) (by rw [decide_eq_false (by omega)]; exact Î)]
    exact ÿ _
   have e2:gB us.length (K++[((i:Nat):Int)])=gB us.length K:=by
    unfold gB
    rw [ő,List.filter_cons_of_neg (l:=[]) (by rw [decide_eq_false (by omega)]; exact Î)]
    rw [List.filter_nil,ÿ]
   have e3:piN n (p+n)=piN n p:=by
    unfold piN
    rw [if_neg (by omega),if_pos ev.1.2]
    omega
   rw [e1,e2,e3]
   exact ih
theorem yF {ws:List Put}{a:Int}{P K:List Int}{x:Int} (h:Wy ws a P K x):∀ v∈P,v≠x->∃ y k,k∈K/\(v,(y,k))∈ws:=by
 induction h with
 | one=>exact fun v hv ne=>absurd (Í.mp hv) ne
 | @step P K p y k h hx j ih =>
  intro v hv ne
  rcases ñ.mp hv with z | z
  ·by_cases e:v=p
   ·subst e
    exact⟨y,k,ß _ (Í.mpr rfl),j⟩
   ·obtain⟨y',k',h1,h2⟩:=ih v z e
    exact⟨y',k',í _ h1,h2⟩
  ·exact absurd (Í.mp z) ne
theorem TX {ws:List Put}{a:Int}{P K:List Int}{x:Int} (h:Wy ws a P K x):a∈P/\x∈P:=by
 induction h with
 | one=>exact⟨Í.mpr rfl,Í.mpr rfl⟩
 | step _ _ _ ih=>exact⟨í _ ih.1,ß _ (Í.mpr rfl)⟩
theorem vY {ws:List Put}{a:Int}{P K:List Int}{x:Int} (h:Wy ws a P K x):∀ k∈K,∃ p y,(p,(y,k))∈ws/\y≠a/\p∈P/\y∈P:=by
 induction h with
 | one=>exact fun k hk=>nomatch hk
 | @step P K p y k h hx j ih =>
  obtain⟨stP,pP⟩:=TX h
  intro k' hk
  rcases ñ.mp hk with z | z
  ·obtain⟨p',y',h1,h2,h3,h4⟩:=ih k' z
   exact⟨p',y',h1,h2,í _ h3,í _ h4⟩
  ·rw [Í.mp z]
   exact⟨p,y,j,(fun e=>hx (e ▸ stP)),í _ pP,ß _ (Í.mpr rfl)⟩
theorem gO {arcs:List Tie}{U K:List Int} (h:InL arcs U):InL arcs (U.filter fun i=>!decide (i∈K)):=⟨Ą (ą _ _) h.1,fun i hi=>h.2 i (Ý.mp hi).1⟩
theorem Vc {l:List Int}{i j:Nat}{v:Int} (nd:l.Nodup) (h1:l[i]?=some v) (h2:l[j]?=some v):i=j:=by
 obtain⟨a1,b1⟩:=Æ.mp h1
 obtain⟨a2,b2⟩:=Æ.mp h2
 have pw:=List.pairwise_iff_getElem.mp nd
 rcases Nat.lt_trichotomy i j with z | z | z
 ·exact absurd (b1.trans b2.symm) (pw _ _ a1 a2 z)
 ·exact z
 ·exact absurd (b2.trans b1.symm) (pw _ _ a2 a1 z)
section
variable {n a b:Int}{us:List Tie}{U:List Int}{P1 K1 P2 K2:List Int}
theorem G5 {v y y':Int}{i j:Nat} (hv:v∈inn n a b) (hi:(aH n a b us)[i]?=some (v,y)) (hj:(aH n a b us)[j]?=some (v,y')) (ok:OkN n us):i=j:=by
 have ev:=dg.mp hv
 have one:∀ {i:Nat}{y:Int},(aH n a b us)[i]?=some (v,y)->2 * us.length<=i/\(inn n a b)[i - 2 * us.length]?=some v:=fun {i y} h=>by
  rcases gH h with ⟨t,_,ht,e⟩ | ⟨hl,w,hw,e⟩
  ·exfalso
   obtain⟨⟨h1,h2⟩,⟨h3,h4⟩,_⟩:=ok t (É ht)
   have no:∀ u,0<=u->v≠oN n a b u:=fun u u0 z=>by
    unfold oN at z
    by_cases c:u=a\/u=b
    ·rw [if_pos c] at z
     rcases c with c | c
     ·exact ev.2.1 (z.trans c)
     ·exact ev.2.2 (z.trans c)
    ·rw [if_neg c] at z
     omega
   rcases e with ⟨_,e⟩ | ⟨_,e⟩
   ·exact no t.1 h1 (congrArg Prod.fst e)
   ·exact no t.2 h3 (congrArg Prod.fst e)
  ·have:v=w:=congrArg Prod.fst e
   subst this
   exact⟨hl,hw⟩
 obtain⟨l1,g1⟩:=one hi
 obtain⟨l2,g2⟩:=one hj
 have nd:=Sy n a b
 have:=Vc nd g1 g2
 omega
theorem rD (ok:OkN n us) (hU:InL (aH n a b us) U) (W1:Wy (alg (aH n a b us) U) a P1 K1 b) (W2:Wy (alg (aH n a b us) (U.filter fun i=>!decide (i∈K1))) a P2 K2 b):∀ v∈gA n P1,v∈gA n P2->v=a\/v=b:=fun v h1 h2=>by
 refine Classical.byContradiction fun c=>?_
 have c1:v≠a:=fun z=>c (.inl z)
 have c2:v≠b:=fun z=>c (.inr z)
 obtain⟨m1,l1⟩:=Ý.mp h1
 obtain⟨m2,_⟩:=Ý.mp h2
 have l1:v<n:=of_decide_eq_true l1
 obtain⟨y1,k1,q1,j1⟩:=yF W1 v m1 c2
 obtain⟨y2,k2,q2,j2⟩:=yF W2 v m2 c2
 obtain⟨i1,rfl,_,e1⟩:=uD hU j1
 obtain⟨i2,rfl,u2,e2⟩:=uD (gO hU) j2
 have v0:0<=v:=by
  rcases gH e1 with ⟨t,_,ht,e⟩ | ⟨_,w,hw,e⟩
  ·obtain⟨⟨h1,h2⟩,⟨h3,h4⟩,_⟩:=ok t (É ht)
   rcases e with ⟨_,e⟩ | ⟨_,e⟩
   ·have:v=oN n a b t.1:=congrArg Prod.fst e
    have:=xg (a:=a) (b:=b) h1 h2
    omega
   ·have:v=oN n a b t.2:=congrArg Prod.fst e
    have:=xg (a:=a) (b:=b) h3 h4
    omega
  ·have:=(dg.mp (É hw)).1.1
   have:v=w:=congrArg Prod.fst e
   omega
 have e:=G5 (dg.mpr ⟨⟨v0,l1⟩,c1,c2⟩) e1 e2 ok
 subst e
 have u2:=(Ý.mp u2).2
 rw [decide_eq_true q1] at u2
 cases u2
theorem Ii (ok:OkN n us) (ha:0<=a/\a<n) (hU:InL (aH n a b us) U) (W1:Wy (alg (aH n a b us) U) a P1 K1 b) (W2:Wy (alg (aH n a b us) (U.filter fun i=>!decide (i∈K1))) a P2 K2 b):∀ k∈gB us.length K1,k∉gB us.length K2:=fun k h1 h2=>by
 obtain⟨i,hi,rfl⟩:=Ĩ.mp h1
 obtain⟨j,hj,ej⟩:=Ĩ.mp h2
 obtain⟨i1,il⟩:=Ý.mp hi
 obtain⟨j1,jl⟩:=Ý.mp hj
 have il:=of_decide_eq_true il
 have jl:=of_decide_eq_true jl
 have X1:=qG ok ha hU W1
 have X2:=qG ok ha (gO hU) W2
 have pl:=rD ok hU W1 W2
 obtain⟨p1,y1,g1,n1,_,_⟩:=vY W1 i i1
 obtain⟨p2,y2,g2,n2,_,_⟩:=vY W2 j j1
 obtain⟨i',rfl,_,e1⟩:=uD hU g1
 obtain⟨j',rfl,uj,e2⟩:=uD (gO hU) g2
 have ne:i'≠j':=fun z=>by
  subst z
  have uj:=(Ý.mp uj).2
  rw [decide_eq_true i1] at uj
  cases uj
 have hij:i' / 2=j' / 2:=by
  have:((j':Nat):Int) / 2=((i':Nat):Int) / 2:=ej
  omega
 have tie:∀ {q:Nat}{p y:Int},((q:Nat):Int)<2 * ((us.length:Nat):Int)->(aH n a b us)[q]?=some (p,y)->∃ t,us[q / 2]?=some t/\((q=2 * (q / 2)/\y=t.2)\/(q=2 * (q / 2)+1/\y=t.1)):=fun {q p y} hl h=>by
  rcases gH h with ⟨t,_,ht,e⟩ | ⟨hl',_⟩
  ·refine⟨t,ht,?_⟩
   rcases e with ⟨e0,e⟩ | ⟨e0,e⟩
   ·exact .inl ⟨e0,congrArg Prod.snd e⟩
   ·exact .inr ⟨e0,congrArg Prod.snd e⟩
  ·omega
 obtain⟨t,ht,c1⟩:=tie il e1
 obtain⟨t',ht',c2⟩:=tie jl e2
 rw [← hij,ht] at ht'
 cases ht'
 -- both places of the tie are on both ways
 have on:∀ {P K:List Int}{x:Int},Wy (aJ us) a P K x->((i':Nat):Int) / 2∈K->t.1∈P/\t.2∈P:=fun {P K x} W hk=>by
  obtain⟨p,y,hp,_,pm,ym⟩:=vY W _ hk
  obtain⟨q,eq,h⟩:=bV.mp hp
  have eq:i' / 2=q:=by omega
  subst eq
  rw [ht] at h
  rcases h with h | h
  ·cases h
   exact⟨pm,ym⟩
  ·cases h
   exact⟨ym,pm⟩
 obtain⟨a1,a2⟩:=on X1 h1
 obtain⟨b1,b2⟩:=on X2 h2
 have q1:=pl _ a1 b1
 have q2:=pl _ a2 b2
 have nt:=(ok t (É ht)).2.2
 have nn:t.1≠a/\t.2≠a:=by
  rcases c1 with ⟨x1,rfl⟩ | ⟨x1,rfl⟩ <;> rcases c2 with ⟨x2,rfl⟩ | ⟨x2,rfl⟩
  ·omega
  ·exact⟨n2,n1⟩
  ·exact⟨n1,n2⟩
  ·omega
 rcases q1 with q1 | q1
 ·exact nn.1 q1
 ·rcases q2 with q2 | q2
  ·exact nn.2 q2
  ·exact nt (q1.trans q2.symm)
end
theorem FJ {R:Nat->Nat->Bool}{n i:Nat} (hi:i<n) (hs:R i i=true):jt R n i=true↔∀ b,b<i->(R i b&&R b i)=false:=by
 unfold jt fD
 rw [decide_eq_true_iff,List.head?_filter,List.find?_range_eq_some]
 constructor
 ·intro h b hb
  have:=h.2.2 b hb
  rwa [ņ] at this
 ·intro h
  refine⟨by rw [hs]; rfl,ģ.mpr hi,fun j hj=>?_⟩
  rw [h j hj]; rfl
theorem xG {es:List Tie} (sy:∀ a b,(a,b)∈es->(b,a)∈es) (n i:Nat):rsI es n ((i:Nat):Int)=zI (fD (RB es) n i):=by
 refine rT jH (vX (List.pairwise_lt_range.filter _)) fun q=>?_
 rw [cT,Cw]
 unfold fD
 rw [Ý,ģ,Ú,iu,iu]
 constructor
 ·rintro ⟨⟨h0,h1⟩,r⟩
  rw [Int.toNat_of_nonneg h0]
  exact⟨h0,by omega,r,r.sym sy⟩
 ·rintro ⟨h0,h1,r,_⟩
  rw [Int.toNat_of_nonneg h0] at r
  exact⟨⟨h0,by omega⟩,r⟩
structure Seen (n:Nat) (es:List Tie) (i:Nat) (m:IM):Prop where
 im:tU m=true
 nd:(aB m).Nodup
 rng:∀ x∈aB m,0<=x/\x<n
 is:∀ x,x∈aB m↔∃ p:Nat,p<i/\Rt es ((p:Nat):Int) x
theorem Jo {m:IM} (k:Int) (d:D):∀ x,x∈aB (iI m k d)↔x∈aB m\/x=k:=fun x=>by
 unfold iI
 by_cases h:dU m k=true
 ·rw [if_pos h]
  have e:aB (m.map fun p=>if p.1=k then (p.1,d) else p)=aB m:=by
   unfold aB
   rw [ş]
   refine List.map_congr_left fun p _=>?_
   show (if p.1=k then (p.1,d) else p).1=p.1
   split <;> rfl
  rw [e]
  exact⟨.inl,fun z=>z.elim id fun z=>z ▸ dz.mp h⟩
 ·rw [if_neg h]
  unfold aB
  rw [ê,ñ]
  exact Iff.rfl.trans ⟨fun z=>z.imp id Í.mp,fun z=>z.imp id fun z=>Í.mpr z⟩
theorem M4 {m:IM} (k:Int) (d:D) (h:tU m=true) (hd:bx d=true):tU (iI m k d)=true:=by
 unfold iI
 split
 ·unfold tU at *
  rw [List.all_map,Ŀ]
  intro p hp
  show bx (if p.1=k then (p.1,d) else p).2=true
  split
  ·exact hd
  ·exact Ŀ.mp h p hp
 ·unfold tU at *
  rw [List.all_append,h]
  show (true&&(bx d&&true))=true
  rw [hd]; rfl
theorem Q9 {m:IM} (k:Int) (d:D) (h:(aB m).Nodup):(aB (iI m k d)).Nodup:=by
 unfold iI
 by_cases hh:dU m k=true
 ·rw [if_pos hh]
  have e:aB (m.map fun p=>if p.1=k then (p.1,d) else p)=aB m:=by
   unfold aB
   rw [ş]
   refine List.map_congr_left fun p _=>?_
   show (if p.1=k then (p.1,d) else p).1=p.1
   split <;> rfl
  rw [e]; exact h
 ·rw [if_neg hh]
  unfold aB at *
  rw [ê]
  refine List.nodup_append.mpr ⟨h,by simp,fun y hy z hz=>?_⟩
  have hz:=Í.mp hz
  rw [hz]
  rintro rfl
  exact hh (dz.mpr hy)
theorem jP {P:DEnds}{ρ:List Sl}{rg:Option Nat}{i:Nat}{k:Kd}{d:D}{s:Sl} (e:stK rg ρ i (norm k d) d=some s) (h:P.nx (ρ.set i s)):(match stK rg ρ i (norm k d) d with
 | some s=>P.nx (ρ.set i s)
 | none=>False):=by
 rw [e]
 exact h
def noV (us:List Tie) (v:Int):List Tie:=us.filter fun t=>!decide (v=t.1\/v=t.2)
def RV (us:List Tie) (v:Nat):Nat->Nat->Bool:=RB (adj (noV us ((v:Nat):Int)) [] [])
def pwI (n:Nat) (us:List Tie) (v:Nat):List (List Int):=(((ã n).filter (jt (RV us v) n)).filter fun a=>decide (a≠v)).map fun a=>zI (fD (RV us v) n a)
theorem R3 {n:Int}{us:List Tie} (ok:OkN n us) (v:Int):OkN n (noV us v):=fun t ht=>ok t ((Ý.mp ht).1)
theorem N5 (us:List Tie) (v:Int):(noV us v).length<=us.length:=ą _ _
theorem xq {us:List Tie}{v x y:Int}:(x,y)∈adj (noV us v) [] []↔(x,y)∈adj us [] []/\x≠v/\y≠v:=by
 have key:∀ (ws:List Tie),(x,y)∈adj ws [] []↔(x,y)∈ws\/(y,x)∈ws:=fun ws=>by
  rw [bG]
  constructor
  ·rintro ⟨k,e | e,_⟩
   ·exact .inl (É e)
   ·exact .inr (É e)
  ·rintro (e | e)
   ·obtain⟨k,hk⟩:=ę e
    exact⟨k,.inl hk,æ,æ⟩
   ·obtain⟨k,hk⟩:=ę e
    exact⟨k,.inr hk,æ,æ⟩
 have fl:∀ a b:Int,((a,b):Tie)∈noV us v↔(a,b)∈us/\a≠v/\b≠v:=fun a b=>by
  unfold noV
  rw [Ý]
  simp only [ņ,decide_eq_false_iff_not,not_or]
  constructor
  ·rintro ⟨h,h1,h2⟩
   exact⟨h,fun z=>h1 z.symm,fun z=>h2 z.symm⟩
  ·rintro ⟨h,h1,h2⟩
   exact⟨h,fun z=>h1 z.symm,fun z=>h2 z.symm⟩
 rw [key,key,fl,fl]
 constructor
 ·rintro (⟨h,a,b⟩ | ⟨h,a,b⟩)
  ·exact⟨.inl h,a,b⟩
  ·exact⟨.inr h,b,a⟩
 ·rintro ⟨h | h,a,b⟩
  ·exact .inl ⟨h,a,b⟩
  ·exact .inr ⟨h,b,a⟩
theorem vd {us:List Tie}{v a:Int} (r:Rt (adj (noV us v) [] []) a v):a=v:=by
 cases r with
 | refl=>rfl
 | step r t=>exact absurd rfl (xq.mp t).2.2
theorem Uu {n:Nat}{us:List Tie}{v:Nat} (hv:v<n):(uw (RV us v) n n).filter (fun l=>!decide (((v:Nat):Int)∈l))=pwI n us v:=by
 unfold uw pwI
 rw [List.take_of_length_le (by rw [Ę]; exact Ö _),List.filter_map]
 congr 1
 refine List.filter_congr fun a ha=>?_
 show (!decide (((v:Nat):Int)∈zI (fD (RV us v) n a)))=decide (a≠v)
 have h:((v:Nat):Int)∈zI (fD (RV us v) n a)↔a=v:=by
  rw [Cw]
  unfold fD
  rw [Ý,Ú]
  show 0<=((v:Nat):Int)/\v∈ã n/\RV us v a v=true/\RV us v v a=true↔_
  constructor
  ·rintro ⟨_,_,h,_⟩
   have:=vd (iu.mp h)
   omega
  ·rintro rfl
   exact⟨by omega,ģ.mpr hv,rB _ _,rB _ _⟩
 by_cases e:a=v
 ·rw [decide_eq_true (h.mpr e),decide_eq_false (fun z=>z e)]; rfl
 ·rw [decide_eq_false (fun z=>e (h.mp z)),decide_eq_true e]; rfl
theorem Q8 (n:Nat) (us:List Tie) (v:Nat):(pwI n us v).length<=n:=by
 unfold pwI
 rw [Ä]
 have h1:=ą (fun a=>decide (a≠v)) ((ã n).filter (jt (RV us v) n))
 have h2:=ą (jt (RV us v) n) (ã n)
 rw [Ę] at h2
 omega
def K5 (ds:List D) (P:D->Prop):Prop:=∃ n us,ds=[aA n us]/\0<=n/\n<=60/\us.length<=100/\OkN n us/\P (.list ((uw (RB (adj us [] [])) n.toNat n.toNat).map iD))
def fPW (ds:List D) (P:D->Prop):Prop:=∃ (n:Int) (us:List Tie) (v:Nat),ds=[aA n us,.int ((v:Nat):Int)]/\1<=n/\n<=60/\us.length<=100/\OkN n us/\v<n.toNat/\P (.list ((pwI n.toNat us v).map iD))
theorem R9 {Q:Nat->Prop}:∀ k,Q k->∃ m,m<=k/\Q m/\∀ b,b<m->¬ Q b:=by
 intro k
 induction k using Nat.strongRecOn with
 | ind k ih =>
  intro h
  by_cases c:∃ b,b<k/\Q b
  ·obtain⟨b,hb,qb⟩:=c
   obtain⟨m,hm,qm,hl⟩:=ih b hb qb
   exact⟨m,by omega,qm,hl⟩
  ·exact⟨k,Ö _,h,fun b hb qb=>c ⟨b,hb,qb⟩⟩
theorem QZ {us:List Tie}{v a y:Int} (ne:a≠v):Rt (adj (noV us v) [] []) a y↔Rt (adj us [] [v]) a y:=by
 constructor
 ·exact Rt.mono fun ⟨p,q⟩ h=>by
   obtain⟨h1,_,h3⟩:=xq.mp h
   obtain⟨k,e,hk,_⟩:=bG.mp h1
   exact bG.mpr ⟨k,e,hk,fun z=>h3 (Í.mp z)⟩
 ·intro r
  have:Rt (adj (noV us v) [] []) a y/\y≠v:=by
   induction r with
   | refl=>exact⟨.refl _,ne⟩
   | @step p q _ t ih =>
    obtain⟨k,e,hk,hq⟩:=bG.mp t
    have nq:q≠v:=fun z=>hq (Í.mpr z)
    exact⟨.step ih.1 (xq.mpr ⟨bG.mpr ⟨k,e,hk,æ⟩,ih.2,nq⟩),nq⟩
  exact this.1
theorem Mu {n:Nat}{us:List Tie}{v:Nat}{a:Int} (a0:0<=a) (a1:a<n) (ne:a≠((v:Nat):Int)):∃ r,(pwI n us v).filter (fun l=>decide (a∈l))=rsI (adj us [] [((v:Nat):Int)]) n a::r:=by
 have sy:∀ x y,(x,y)∈adj (noV us ((v:Nat):Int)) [] []->(y,x)∈adj (noV us ((v:Nat):Int)) [] []:=Gg
 have each:∀ l∈pwI n us v,a∈l->l=rsI (adj us [] [((v:Nat):Int)]) n a:=fun l hl ha=>by
  obtain⟨x,hx,rfl⟩:=Ĩ.mp hl
  have e:=xG sy n x
  have e:zI (fD (RV us v) n x)=rsI (adj (noV us ((v:Nat):Int)) [] []) n ((x:Nat):Int):=e.symm
  rw [e] at ha ⊢
  have r:=(cT.mp ha).2
  refine rT jH jH fun y=>?_
  rw [cT,cT,← QZ ne]
  exact⟨fun z=>⟨z.1,(r.sym sy).trans z.2⟩,fun z=>⟨z.1,r.trans z.2⟩⟩
 obtain⟨m,hm0,hm,hl⟩:=R9 (Q:=fun k=>Rt (adj (noV us ((v:Nat):Int)) [] []) a ((k:Nat):Int)) a.toNat (by rw [show ((a.toNat:Nat):Int)=a by omega]; exact .refl _)
 have mn:m<n:=by omega
 have mv:m≠v:=fun z=>by
  subst z
  exact ne (vd hm)
 have mem:zI (fD (RV us v) n m)∈pwI n us v:=by
  refine Ĩ.mpr ⟨m,Ý.mpr ⟨Ý.mpr ⟨ģ.mpr mn,?_⟩,decide_eq_true mv⟩,rfl⟩
  show jt (RB (adj (noV us ((v:Nat):Int)) [] [])) n m=true
  rw [FJ mn (rB _ m)]
  intro b hb
  rw [Ċ]
  intro z
  rw [Ú] at z
  exact hl b hb (hm.trans (iu.mp z.1))
 have am:a∈zI (fD (RV us v) n m):=by
  have e:zI (fD (RV us v) n m)=rsI (adj (noV us ((v:Nat):Int)) [] []) n ((m:Nat):Int):=(xG sy n m).symm
  rw [e,cT]
  exact⟨⟨a0,a1⟩,hm.sym sy⟩
 cases hf:(pwI n us v).filter (fun l=>decide (a∈l)) with
 | nil=>exact absurd (decide_eq_true am) (List.filter_eq_nil_iff.mp hf _ mem)
 | cons l r =>
  have:=Ý.mp (show l∈(pwI n us v).filter (fun l=>decide (a∈l)) by rw [hf]; exact ä)
  exact⟨r,by rw [each l this.1 (of_decide_eq_true this.2)]⟩
def fSW (ds:List D) (P:D->Prop):Prop:=∃ (n:Int) (us:List Tie) (v:Nat) (a:Int),ds=[aA n us,.int ((v:Nat):Int),.int a]/\1<=n/\n<=60/\us.length<=100/\OkN n us/\v<n.toNat/\0<=a/\a<n/\a≠((v:Nat):Int)/\P (iD (rsI (adj us [] [((v:Nat):Int)]) n.toNat a))
open Classical in
def ppF (n:Nat) (us:List Tie) (a b:Int):List Nat->D
 | []=>.none
 | v::r=>if (((v:Nat):Int)=a\/((v:Nat):Int)=b)\/Rt (adj us [] [((v:Nat):Int)]) a b then ppF n us a b r else .tuple [.str "place",.int ((v:Nat):Int),iD (rsI (adj us [] [((v:Nat):Int)]) n a)]
def Te (ds:List D) (P:D->Prop):Prop:=∃ (n:Int) (us:List Tie) (a b:Int),ds=[aA n us,.int a,.int b]/\1<=n/\n<=60/\us.length<=100/\OkN n us/\0<=a/\a<n/\0<=b/\b<n/\P (ppF n.toNat us a b (ã n.toNat))
section
variable {P:Program}{w:World}{K:Ü}{mg:Str->Option Value}{base:Heap}{f:Addr}{fd:FuncData}{CN:Addr}
theorem yR:FnScope ["web","told","seen","place","part","member"] ["web"] (ak (top 24)):=zC
theorem J1 (F:Fun K "parts" "parts" (top 24) f fd) (B:Ģ mg) (C_part_of:ì P w K mg base 2 "part_of" ["web","place"] (spD pZ)):FnOk P w K mg base CX0 3 f fd ["web"] (spD K5):=by
 refine F.ok yR Ē (fun cdv A outer s H vs Q E hr h=>?_)
 have nd:=yR.nd
 refine⟨_,ë (Ç (é (some 0) (i:=1) nd rfl zQ (ğ Á))
  (Wr.Lg 1 true (Ç (é (some 1) (i:=2) nd rfl zQ Wr.qU)
  (Ç (İ ô rfl (ł B.range (À (Ï (Ã 0) Å) Á)) (á (i:=3) nd rfl zQ) (Ç (þ (Wr.eG hr.units (Ã 3) (Ã 2)) (Ç (é none (i:=4) nd rfl zQ (ā C_part_of hr (À (Ã 0) (À (Ã 3) Á))))
  (Ç (Wr.yc (ķ 1) (À (Ã 4) Á))
  (Ç (İ ô rfl (Ė (Ã 4)) (á (i:=5) nd rfl zQ) (Ç (Wr.q9 hr.units (ķ 2) (Ã 5) Ō) (è [5] â))) (è [5] â)))) â) (è [3,4,5] â)))
  (è [3,4,5] (Ð (Ø (Ã 1)))))))),aK h ?_⟩
 rintro ds P ⟨n,us,rfl,n1,n16,lu,ok,q⟩
 refine⟨[.im (aA n us),.any,.any,.any,.any,.any],?_,?_⟩
 ·show [aD (aA n us),.any,.any,.any,.any,.any]=_
  rw [ĩ]
 have an:=Gh (F:=[]) (B:=[]) ok (by omega)
 have sy:=Gg (us:=us) (F:=[])
 generalize hes:adj us [] []=es at an sy q
 refine⟨zK,rfl,.int n,rfl,⟨by omega,by omega⟩,rfl,fun (i:Nat) ρ=>∃ m,ρ=[.im (aA n us),.sp 0 true ((uw (RB es) n.toNat i).map iD),.dw 1 (.dict (kvD m)),.any,.any,.any]/\Seen n.toNat es i m,⟨[],rfl,rfl,by simp [aB],fun x hx=>(nomatch hx),fun x=>⟨fun z=>(nomatch z),fun ⟨p,hp,_⟩=>absurd hp (Nat.not_lt_zero _)⟩⟩,?_,?_⟩
 ·rintro i d ρ hd ⟨m,rfl,h⟩
  obtain⟨hi,rfl⟩:=cG hd
  have ec:=Ly (RB es) hi
  have hl:=Gd (RB es) n.toNat i
  refine⟨m,rfl,?_⟩
  show if (!dU m (0+((i:Nat):Int)))=true then _ else _
  rw [Int.zero_add]
  have hf:jt (RB es) n.toNat i=!dU m ((i:Nat):Int):=by
   rw [ĺ,FJ hi (rB es i),ņ,← Bool.not_eq_true,dz,h.is]
   constructor
   ·rintro z ⟨p,hp,r⟩
    have:=z p hp
    rw [iu.mpr r,iu.mpr (r.sym sy)] at this
    cases this
   ·intro z b hb
    rw [Bool.and_eq_false_iff,← Bool.not_eq_true,← Bool.not_eq_true,iu,iu]
    exact .inr fun r=>z ⟨b,hb,r⟩
  cases hb:dU m ((i:Nat):Int) with
  | true =>
   rw [hf,hb,if_neg (by decide),ÿ] at ec
   refine aL (A:=True) ⟨m,?_,h.im,h.nd,h.rng,fun x=>?_⟩
   ·rw [ec]
    rfl
   ·rw [h.is]
    constructor
    ·rintro ⟨p,hp,r⟩
     exact⟨p,by omega,r⟩
    ·rintro ⟨p,hp,r⟩
     by_cases e:p=i
     ·subst e
      obtain⟨p',hp',r'⟩:=(h.is _).mp (dz.mp hb)
      exact⟨p',hp',r'.trans r⟩
     ·exact⟨p,by omega,r⟩
  | false =>
   rw [hf,hb,if_pos (by decide)] at ec
   refine aG (B:=True) ⟨n,us,_,rfl,by omega,by omega,lu,ok,by omega,by omega,?_⟩
   rw [hes]
   have pm:∀ x,x∈rsI es n.toNat ((i:Nat):Int)↔Rt es ((i:Nat):Int) x:=fun x=>by
    rw [cT]
    exact⟨fun z=>z.2,fun r=>⟨r.rng (fun t ht=>(an t ht).2) ⟨by omega,by omega⟩,r⟩⟩
   rw [← xG sy] at ec
   have pl:=Q0 es n.toNat ((i:Nat):Int)
   generalize rsI es n.toNat ((i:Nat):Int)=pt at ec pm pl
   refine⟨rfl,by rw [Ä]; omega,?_⟩
   refine⟨rfl,fun (j:Nat) ρ=>∃ m',ρ=[.im (aA n us),.sp 0 true ((uw (RB es) n.toNat (i+1)).map iD),.dw 1 (.dict (kvD m')),.im (.int ((i:Nat):Int)),.sn (iD pt),.any]/\tU m'=true/\(aB m').Nodup/\∀ x,x∈aB m'↔x∈aB m\/x∈pt.take j,⟨m,?_,h.im,h.nd,fun x=>⟨.inl,fun z=>z.elim id fun z=>nomatch z⟩⟩,?_,?_⟩
   ·rw [ec,ê]
    rfl
   ·rintro j d ρ hd ⟨m',rfl,im',nd',is'⟩
    obtain⟨x,hx,rfl⟩:=dR hd
    have xr:=(pm x).mp (É hx)
    have tk:pt.take (j+1)=pt.take j++[x]:=by rw [ė,hx]; rfl
    have ln:=zH nd' fun y hy=>show 0<=y/\y<n.toNat from by
     rcases (is' y).mp hy with z | z
     ·exact h.rng y z
     ·exact ((pm y).mp (List.mem_of_mem_take z)).rng (fun t ht=>(an t ht).2) ⟨by omega,by omega⟩
    unfold aB at ln
    rw [Ä] at ln
    refine⟨m',rfl,rfl,im',by omega,iI m' x (.bool true),rfl,M4 _ _ im' rfl,Q9 _ _ nd',fun y=>?_⟩
    rw [Jo,is',tk,ñ,List.mem_singleton,or_assoc]
   ·rintro ρ ⟨m',rfl,im',nd',is'⟩
    rw [Ä,ħ] at is'
    refine⟨m',rfl,im',nd',fun y hy=>?_,fun x=>?_⟩
    ·rcases (is' y).mp hy with z | z
     ·exact h.rng y z
     ·exact ((pm y).mp z).rng (fun t ht=>(an t ht).2) ⟨by omega,by omega⟩
    ·rw [is',h.is,pm]
     constructor
     ·rintro (⟨p,hp,r⟩ | r)
      ·exact⟨p,by omega,r⟩
      ·exact⟨i,by omega,r⟩
     ·rintro ⟨p,hp,r⟩
      by_cases e:p=i
      ·subst e; exact .inr r
      ·exact .inl ⟨p,by omega,r⟩
 ·rintro ρ ⟨m,rfl,h⟩
  rw [bH]
  exact⟨rfl,q⟩
theorem fQ:FnScope ["web","v","left"] ["web","v"] (ak (top 32)):=zC
theorem lA:(["tie","web","v","left"]:List Str).Nodup:=by decide +kernel
theorem lg:(["part","web","v","left"]:List Str).Nodup:=by decide +kernel
theorem oJ (F:Fun K "parts_without" "parts_without" (top 32) f fd) (B:Ģ mg) (C_check_place:Dl.Cal1 P w K mg base 4 "check_place" ["web","thing"] (spX (La CN))) (C_parts:ì P w K mg base 3 "parts" ["web"] (spD K5)):FnOk P w K mg base CX0 5 f fd ["web","v"] (spD fPW):=by
 refine F.ok fQ Ē (fun cdv A outer s H vs Q E hr h=>?_)
 have nd:=fQ.nd
 refine⟨_,ë (Ç (š (Wr.dcF C_check_place hr (À (Ã 0) (À (Ã 1) Á))))
  (Ç (é none (i:=2) nd rfl zQ (ï (À (Ï (Ã 0) Å) (À (Wr.lV B.tuple (À (Ř ["tie"] rfl (Ė (Ï (Ã 0) Å)) (fun c=>(á (i:=0) lA rfl zQ)) (fun c=>(Ŵ (ĸ hr.units (Ã 2) (Ã 0)))) (fun c=>(Ã 0))) Á)) Á))))
  (Ð (Ø (Ř ["part"] rfl (Ė (ā C_parts hr (À (Ã 2) Á))) (fun c=>(á (i:=0) lg rfl zQ)) (fun c=>(Ŵ (ĸ hr.units (Ã 2) (Ã 0)))) (fun c=>(Ã 0))))))),aK h ?_⟩
 rintro ds P ⟨n,us,v,rfl,n1,n60,lu,ok,hv,q⟩
 refine⟨[.im (aA n us),.im (.int ((v:Nat):Int)),.any],?_,?_⟩
 ·show [aD (aA n us),.im (.int ((v:Nat):Int)),.any]=_
  rw [ĩ]
 refine⟨n,us,_,rfl,.inr ⟨decide_eq_true ⟨by omega,by omega⟩,?_⟩⟩
 refine⟨.int n,rfl,.tuple (us.map pD),rfl,j7 us pD (fun t=>!decide (((v:Nat):Int)=t.1\/((v:Nat):Int)=t.2)) pD .imm rfl (by omega) (fun t ht A B hA hB=>?_) ?_⟩
 ·refine⟨rfl,rfl,?_⟩
  show if (!([È t.1,.int t.2].any fun e=>ò e (.int ((v:Nat):Int))))=true then _ else _
  rw [nP]
  cases h1:decide (((v:Nat):Int)=t.1\/((v:Nat):Int)=t.2) with
  | true=>exact aL (A:=True) (hB (by rw [h1]; rfl))
  | false=>exact aG (B:=True) ⟨rfl,hA (by rw [h1]; rfl)⟩
 refine⟨zK,jP (s:=.im (aA n (noV us ((v:Nat):Int)))) (by
  show stK none _ 2 (norm _ (aA n (noV us ((v:Nat):Int)))) (aA n (noV us ((v:Nat):Int)))=some (.im (aA n (noV us ((v:Nat):Int))))
  rw [aX (mX n _)]; rfl) ?_⟩
 have cl:=Gd (RV us v) n.toNat n.toNat
 refine⟨n,noV us ((v:Nat):Int),rfl,by omega,n60,by have:=N5 us ((v:Nat):Int); omega,R3 ok _,j7 (uw (RV us v) n.toNat n.toNat) iD (fun l=>!decide (((v:Nat):Int)∈l)) iD .snw rfl (by omega) (fun l hl A B hA hB=>?_) ?_⟩
 ·refine⟨rfl,bF l,?_⟩
  show if (!((l.map È).any fun e=>ò e (.int ((v:Nat):Int))))=true then _ else _
  rw [Ő]
  cases h1:decide (((v:Nat):Int)∈l) with
  | true=>exact aL (A:=True) (hB (by rw [h1]; rfl))
  | false=>exact aG (B:=True) ⟨rfl,hA (by rw [h1]; rfl)⟩
 ·rw [Uu hv]
  exact⟨rfl,q⟩
theorem iz:FnScope ["web","v","a"] ["web","v","a"] (ak (top 47)):=zC
theorem mH:(["part","web","v","a"]:List Str).Nodup:=by decide +kernel
theorem qt (F:Fun K "side_without" "side_without" (top 47) f fd) (B:Ģ mg) (C_parts_without:ì P w K mg base 5 "parts_without" ["web","v"] (spD fPW)):FnOk P w K mg base CX0 6 f fd ["web","v","a"] (spD fSW):=by
 refine F.ok iz Ē (fun cdv A outer s H vs Q E hr h=>?_)
 have nd:=iz.nd
 refine⟨_,ë (Ð (Ø (Ï (Ř ["part"] rfl (Ė (ā C_parts_without hr (À (Ã 0) (À (Ã 1) Á)))) (fun c=>(á (i:=0) mH rfl zQ)) (fun c=>(Ŵ (Wr.oh hr.units (Ã 3) (Ã 0)))) (fun c=>(Ã 0))) Å))),aK h ?_⟩
 rintro ds P ⟨n,us,v,a,rfl,n1,n60,lu,ok,hv,a0,a1,ne,q⟩
 refine⟨[.im (aA n us),.im (.int ((v:Nat):Int)),.im (.int a)],by show [aD (aA n us),.im (.int ((v:Nat):Int)),.im (.int a)]=_; rw [ĩ],?_⟩
 obtain⟨r,hr2⟩:=Mu (n:=n.toNat) (us:=us) a0 (by omega) ne
 have pl:=Q8 n.toNat us v
 refine⟨n,us,v,rfl,n1,n60,lu,ok,hv,j7 (pwI n.toNat us v) iD (fun l=>decide (a∈l)) iD .snw rfl (by omega) (fun l hl A B hA hB=>?_) ?_⟩
 ·refine⟨rfl,bF l,?_⟩
  show if ((l.map È).any fun e=>ò e (.int a))=true then _ else _
  rw [Ő]
  exact eV (fun c=>⟨rfl,hA c⟩) (fun c=>hB (Ċ.mpr c))
 rw [hr2]
 exact⟨_,cj (j:=0) rfl,rfl,q⟩
theorem fV:FnScope ["web","a","b","v","side"] ["web","a","b"] (ak (top 48)):=zC
theorem oK (F:Fun K "parting_place" "parting_place" (top 48) f fd) (B:Ģ mg) (C_side_without:ì P w K mg base 6 "side_without" ["web","v","a"] (spD fSW)):FnOk P w K mg base CX0 7 f fd ["web","a","b"] (spD Te):=by
 refine F.ok fV Ē (fun cdv A outer s H vs Q E hr h=>?_)
 have nd:=fV.nd
 refine⟨_,ë (Ç (İ ô rfl (ł B.range (À (Ï (Ã 0) Å) Á)) (á (i:=3) nd rfl zQ) (Ç (þ (ĸ hr.units (Ã 3) (ï (À (Ã 1) (À (Ã 2) Á)))) (Ç (é none (i:=4) nd rfl zQ (ā C_side_without hr (À (Ã 0) (À (Ã 3) (À (Ã 1) Á)))))
  (Ð (þ (ĸ hr.units (Ã 2) (Ã 4)) (Ð (Ø (ï (À Ũ (À (Ã 3) (À (Ã 4) Á)))))) â))) â) (è [3,4] â)))
  (è [3,4] (Ð (Ø ň)))),aK h ?_⟩
 rintro ds P ⟨n,us,a,b,rfl,n1,n60,lu,ok,a0,a1,b0,b1,q⟩
 refine⟨[.im (aA n us),.im (.int a),.im (.int b),.any,.any],by show [aD (aA n us),.im (.int a),.im (.int b),.any,.any]=_; rw [ĩ],?_⟩
 generalize hG:ppF n.toNat us a b (ã n.toNat)=G at q
 refine⟨.int n,rfl,⟨by omega,by omega⟩,rfl,fun (i:Nat) ρ=>ρ=[.im (aA n us),.im (.int a),.im (.int b),.any,.any]/\ppF n.toNat us a b ((ã n.toNat).drop i)=G,⟨rfl,hG⟩,?_,?_⟩
 ·rintro i d ρ hd ⟨rfl,e⟩
  obtain⟨hi,rfl⟩:=cG hd
  have dr:(ã n.toNat).drop i=i::(ã n.toNat).drop (i+1):=by
   rw [Ż (by rw [Ę]; omega),List.getElem_range]
  rw [dr] at e
  unfold ppF at e
  have mb:b∈rsI (adj us [] [((i:Nat):Int)]) n.toNat a↔Rt (adj us [] [((i:Nat):Int)]) a b:=by
   rw [cT]
   exact⟨fun z=>z.2,fun z=>⟨⟨b0,by omega⟩,z⟩⟩
  refine⟨zK,rfl,rfl,?_⟩
  show if (!([È a,.int b].any fun e=>ò e (.int (0+((i:Nat):Int)))))=true then _ else _
  rw [nP,Int.zero_add]
  by_cases c:((i:Nat):Int)=a\/((i:Nat):Int)=b
  ·rw [if_pos (.inl c)] at e
   rw [decide_eq_true c]
   exact aL (A:=True) ⟨rfl,e⟩
  ·rw [decide_eq_false c]
   refine aG (B:=True) ⟨n,us,i,a,rfl,n1,n60,lu,ok,hi,a0,a1,fun z=>c (.inl z.symm),?_⟩
   refine⟨rfl,bF _,?_⟩
   show if (!(((rsI (adj us [] [((i:Nat):Int)]) n.toNat a).map È).any fun e=>ò e (.int b)))=true then _ else _
   rw [Ő]
   by_cases r:Rt (adj us [] [((i:Nat):Int)]) a b
   ·rw [if_pos (.inr r)] at e
    rw [decide_eq_true (mb.mpr r)]
    exact aL (A:=True) ⟨rfl,e⟩
   ·rw [if_neg (fun z=>z.elim c r)] at e
    rw [decide_eq_false fun z=>r (mb.mp z)]
    rw [← e] at q
    exact aG (B:=True) ⟨zK,rfl,q⟩
 ·rintro ρ ⟨rfl,e⟩
  rw [bH,List.drop_eq_nil_of_le (by rw [Ę]; omega)] at e
  have e:PyData.none=G:=e
  rw [← e] at q
  exact⟨rfl,q⟩
end
theorem enum_zip (us:List Tie):nC (us.map pD)=us.zipIdx.map fun p=>ŝ [.int ((p.2:Nat):Int),pD p.1]:=by
 refine List.ext_getElem? fun i=>?_
 rw [gD,ç,ç,List.getElem?_zipIdx]
 cases us[i]? with
 | none=>rfl
 | some t=>simp
def wo (us:List Tie) (F:List Int):List Tie:=(us.zipIdx.filter fun p=>decide (((p.2:Nat):Int)∉F)).map (·.1)
theorem Cy {us:List Tie}{F:List Int}{t:Tie}:t∈wo us F↔∃ k:Nat,us[k]?=some t/\((k:Nat):Int)∉F:=by
 unfold wo
 rw [Ĩ]
 constructor
 ·rintro ⟨⟨u,k⟩,h,rfl⟩
  rw [Ý] at h
  exact⟨k,õ.mp h.1,of_decide_eq_true h.2⟩
 ·rintro ⟨k,h,hF⟩
  exact⟨(t,k),Ý.mpr ⟨õ.mpr h,decide_eq_true hF⟩,rfl⟩
theorem Ig (us:List Tie) (F:List Int):(wo us F).length<=us.length:=by
 unfold wo
 rw [Ä]
 have:=ą (fun p:Tie×Nat=>decide (((p.2:Nat):Int)∉F)) us.zipIdx
 rw [List.length_zipIdx] at this
 exact this
theorem PJ {n:Int}{us:List Tie}{F:List Int} (h:OkN n us):OkN n (wo us F):=fun t ht=>by
 obtain⟨k,e,_⟩:=Cy.mp ht
 exact h t (É e)
theorem Ih {us:List Tie}{F:List Int}{x y:Int}:(x,y)∈adj (wo us F) [] []↔(x,y)∈adj us F []:=by
 rw [Gi,Cy,Cy,bG]
 constructor
 ·rintro (⟨k,e,h⟩ | ⟨k,e,h⟩)
  ·exact⟨k,.inl e,h,æ⟩
  ·exact⟨k,.inr e,h,æ⟩
 ·rintro ⟨k,e | e,h,_⟩
  ·exact .inl ⟨k,e,h⟩
  ·exact .inr ⟨k,e,h⟩
theorem Uk {us:List Tie}{F:List Int}{a b:Int}:Rt (adj (wo us F) [] []) a b↔Rt (adj us F []) a b:=⟨Rt.mono fun ⟨_,_⟩ h=>Ih.mp h,Rt.mono fun ⟨_,_⟩ h=>Ih.mpr h⟩
theorem Mq:((ã 200).all fun i=>decide (Builtin.bitXor ((i:Nat):Int) 1=prt ((i:Nat):Int)))=true:=by decide +kernel
theorem Mp {i:Int} (h0:0<=i) (h1:i<200):Builtin.bitXor i 1=prt i:=by
 have:=Ŀ.mp Mq i.toNat (ģ.mpr (by omega))
 rw [show ((i.toNat:Nat):Int)=i by omega] at this
 exact of_decide_eq_true this
def hlf (r:List Int×List Int):List Int×List Int:=(r.1,r.2.map fun i=>i / 2)
def rF (n:Nat) (us:List Tie) (a b:Int):Option ((List Int×List Int)×(List Int×List Int)):=match aug n (aC us) a b 2 [] with
 | none=>none
 | some U=>match bC n (alg (aC us) (gk U)) a b with
  | none=>none
  | some r1=>match bC n (alg (aC us) ((gk U).filter fun i=>!decide (i∈r1.2))) a b with
   | none=>none
   | some r2=>some (hlf r1,hlf r2)
def T3:Option ((List Int×List Int)×(List Int×List Int))->D
 | none=>.none
 | some r=>.list [cH (some r.1),cH (some r.2)]
def ptF (n:Nat) (us:List Tie) (a b:Int):List Int->D
 | []=>.none
 | k::r=>if RZ (adj us [k] []) a b=true then ptF n us a b r else .tuple [.str "tie",.int k,iD (rsI (adj us [k] []) n a)]
def byD (n:Nat) (us:List Tie) (a b:Int):D:=if RZ (adj us [] []) a b=true then (match rF n us a b with
  | some r=>.tuple [.str "ways",cH (some r.1),cH (some r.2)]
  | none=>match bC n (aJ us) a b with
   | some w=>ptF n us a b w.2
   | none=>.none)
 else .tuple [.str "apart",iD (rsI (adj us [] []) n a)]
theorem InL.nil (arcs:List Tie):InL arcs []:=⟨Ě _,(fun i hi=>nomatch hi)⟩
theorem jC {n:Int}{arcs:List Tie}{a b:Int} (n0:0<=n) (la:arcs.length<=200) (ok:OkA n arcs) (a0:0<=a) (a1:a<n):∀ (k:Nat) {c:Int}{U V:List Int},InL arcs U->Flow arcs a b c U->aug n.toNat arcs a b k U=some V->InL arcs V/\Flow arcs a b (c+k) V
 | 0,c,U,V,hU,h,e=>by
  cases e
  exact⟨hU,by rw [show c+((0:Nat):Int)=c by omega]; exact h⟩
 | k+1,c,U,V,hU,h,e=>by
  unfold aug at e
  by_cases r:Rt (edg (lft arcs U)) a b
  ·obtain⟨P,K,hp,W,_,_⟩:=aW (lB n0 la ok) a0 (by omega) r
   rw [hp] at e
   have:=jC n0 la ok a0 a1 k (PN la) (tY h W) e
   rwa [show c+1+((k:Nat):Int)=c+((k+1:Nat):Int) by omega] at this
  ·rw [GK (lB n0 la ok) a0 (by omega) r] at e
   cases e
theorem qY {arcs:List Tie}{U:List Int} (h:InL arcs U):InL arcs (gk U):=⟨Ą (ą _ _) h.1,fun i hi=>h.2 i (Ý.mp hi).1⟩
theorem yJ {n:Int}{us:List Tie}{a b:Int}{U:List Int} (n0:0<=n) (lu:us.length<=100) (ok:OkN n us) (a0:0<=a) (a1:a<n) (hU:InL (aC us) U) (h:Flow (aC us) a b 2 U):∃ r1 r2,bC n.toNat (alg (aC us) (gk U)) a b=some r1/\bC n.toNat (alg (aC us) ((gk U).filter fun i=>!decide (i∈r1.2))) a b=some r2/\Wy (alg (aC us) (gk U)) a r1.1 r1.2 b/\Wy (alg (aC us) ((gk U).filter fun i=>!decide (i∈r1.2))) a r2.1 r2.2 b/\r1.2.length<=n.toNat/\r2.2.length<=n.toNat:=by
 have f1:=Hq h
 have h1:=qY hU
 obtain⟨P1,K1,p1,W1,_,l1⟩:=aW (pI n0 (nJ ok) h1) a0 (by omega) (nu (by decide) f1)
 have f2:=vD h1 f1 W1
 obtain⟨P2,K2,p2,W2,_,l2⟩:=aW (pI n0 (nJ ok) (gO (K:=K1) h1)) a0 (by omega) (nu (by decide) f2)
 exact⟨(P1,K1),(P2,K2),p1,p2,W1,W2,l1,l2⟩
theorem HX {us:List Tie}{i:Int} (h0:0<=i) (h1:i<((aC us).length:Int)):∃ t,us[(i / 2).toNat]?=some t/\(aR (aC us) i=t\/aR (aC us) i=(t.2,t.1)):=by
 have l:=d7 us
 have hk:(i / 2).toNat<us.length:=by omega
 have ht:=Ó hk
 obtain⟨g1,g2⟩:=cV us _ ht
 refine⟨_,ht,?_⟩
 rcases Int.emod_two_eq i with e | e
 ·left
  have:=cC g1
  rwa [show ((2 * (i / 2).toNat:Nat):Int)=i by omega] at this
 ·right
  have:=cC g2
  rwa [show ((2 * (i / 2).toNat+1:Nat):Int)=i by omega] at this
theorem Ea {us:List Tie}{a:Int}{N P K:List Int}{x:Int} (hN:InL (aC us) N) (h:Wy (alg (aC us) N) a P K x):Wy (aJ us) a P (K.map fun i=>i / 2) x:=by
 induction h with
 | one=>exact .one
 | @step P K p y k h hx j ih =>
  rw [ê]
  refine .step ih hx (bV.mpr ?_)
  obtain⟨h1,h2⟩:=dO.mp j
  obtain⟨k0,k1⟩:=hN.2 k h1
  obtain⟨t,ht,e | e⟩:=HX k0 k1
  ·rw [h2] at e
   refine⟨(k / 2).toNat,by show k / 2=_; omega,.inl ?_⟩
   rw [ht,← e]
  ·rw [h2] at e
   refine⟨(k / 2).toNat,by show k / 2=_; omega,.inr ?_⟩
   have e1:p=t.2:=congrArg Prod.fst e
   have e2:y=t.1:=congrArg Prod.snd e
   rw [ht,e1,e2]
theorem fM {us:List Tie}{a:Int}{P K:List Int}{x:Int}{k:Int} (h:Wy (aJ us) a P K x):k∉K->Rt (adj us [k] []) a x:=by
 induction h with
 | one=>exact fun _=>.refl _
 | @step P K p y j h hx hj ih =>
  intro hk
  refine .step (ih fun z=>hk (í _ z)) (bG.mpr ?_)
  obtain⟨i,e,ht⟩:=bV.mp hj
  refine⟨i,ht,fun z=>hk (ß _ ?_),æ⟩
  rw [Í.mp z] at e
  rw [← e]
  exact Í.mpr rfl
theorem Ie {us:List Tie}{a:Int}{P K:List Int}{x:Int} (h:Wy (aJ us) a P K x):∀ k∈K,0<=k/\k<(us.length:Int):=fun k hk=>by
 obtain⟨p,y,h1,_⟩:=h.hop k hk
 obtain⟨j,rfl,e | e⟩:=bV.mp h1
 ·have:=(Æ.mp e).1
  omega
 ·have:=(Æ.mp e).1
  omega
theorem CT {arcs:List Tie}{U K1 K2:List Int} (hU:InL arcs U) (h1:∀ i∈K1,i∈gk U) (h2:∀ i∈K2,i∈(gk U).filter fun i=>!decide (i∈K1)):∀ k∈K1.map (fun i=>i / 2),k∉K2.map (fun i=>i / 2):=fun k hk hk2=>by
 obtain⟨i,hi,rfl⟩:=Ĩ.mp hk
 obtain⟨j,hj,e⟩:=Ĩ.mp hk2
 obtain⟨g1,g2⟩:=Ý.mp (h2 j hj)
 have g2:j∉K1:=by simpa using g2
 obtain⟨u1,n1⟩:=Ý.mp (h1 i hi)
 have n1:prt i∉U:=by simpa using n1
 have u2:=(Ý.mp g1).1
 have ne:i≠j:=fun z=>g2 (z ▸ hi)
 have r1:=hU.2 i u1
 have r2:=hU.2 j u2
 have:prt i=j:=by
  unfold prt
  by_cases c:i % 2=0
  ·rw [if_pos c]
   omega
  ·rw [if_neg c]
   omega
 rw [this] at n1
 exact n1 u2
theorem PB {arcs:List Tie}{N P K:List Int}{a x:Int} (h:Wy (alg arcs N) a P K x):∀ i∈K,i∈N:=fun i hi=>by
 obtain⟨p,y,h1,_⟩:=h.hop i hi
 exact (dO.mp h1).1
def Wn (n:Nat) (us:List Tie) (a b:Int) (d:D):Prop :=
 (¬ Rt (adj us [] []) a b/\d=.tuple [.str "apart",iD (rsI (adj us [] []) n a)]) ∨
 (Rt (adj us [] []) a b/\∃ k:Nat,k<us.length/\¬ Rt (adj us [((k:Nat):Int)] []) a b/\d=.tuple [.str "tie",.int ((k:Nat):Int),iD (rsI (adj us [((k:Nat):Int)] []) n a)]) ∨
 (Rt (adj us [] []) a b/\(∀ k:Nat,Rt (adj us [((k:Nat):Int)] []) a b)/\∃ w1 w2:List Int×List Int,Wy (aJ us) a w1.1 w1.2 b/\Wy (aJ us) a w2.1 w2.2 b/\(∀ k∈w1.2,k∉w2.2)/\d=.tuple [.str "ways",cH (some w1),cH (some w2)])
theorem BP {us:List Tie}{a b:Int} (r:Rt (adj us [] []) a b):Rt (edg (lft (aC us) [])) a b:=Rt.mono (fun ⟨x,y⟩ h=>by
 obtain⟨k,e,_⟩:=bG.mp h
 rw [fG]
 rcases e with e | e
 ·exact⟨_,cP.mpr ⟨2 * k,rfl,.inr ⟨æ,(cV us k e).1⟩⟩⟩
 ·exact⟨_,cP.mpr ⟨2 * k+1,rfl,.inr ⟨æ,(cV us k e).2⟩⟩⟩) r
theorem wF {n:Nat}{us:List Tie}{a b:Int}:∀ {K:List Int},(∀ k∈K,0<=k/\k<(us.length:Int))->(∃ k∈K,¬ Rt (adj us [k] []) a b)->∃ k:Nat,k<us.length/\¬ Rt (adj us [((k:Nat):Int)] []) a b/\ptF n us a b K=.tuple [.str "tie",.int ((k:Nat):Int),iD (rsI (adj us [((k:Nat):Int)] []) n a)]
 | [],_,⟨k,hk,_⟩=>nomatch hk
 | k::r,hr,h=>by
  unfold ptF
  by_cases e:Rt (adj us [k] []) a b
  ·rw [if_pos (aN.mpr e)]
   refine wF (fun j hj=>hr j (Ù _ hj)) ?_
   obtain⟨j,hj,nj⟩:=h
   rcases Þ.mp hj with rfl | hj
   ·exact absurd e nj
   ·exact⟨j,hj,nj⟩
  ·rw [if_neg fun z=>e (aN.mp z)]
   have:=hr k ä
   refine⟨k.toNat,by omega,?_,?_⟩
   ·rw [show ((k.toNat:Nat):Int)=k by omega]
    exact e
   ·rw [show ((k.toNat:Nat):Int)=k by omega]
theorem wD {n:Nat}{us:List Tie}{a b:Int}:∀ K:List Int,(norm .new (ptF n us a b K)).le .n0=true
 | []=>rfl
 | k::r=>by
  unfold ptF
  by_cases e:RZ (adj us [k] []) a b=true
  ·rw [if_pos e]
   exact wD r
  ·rw [if_neg e]
   rfl
theorem Wq {n:Int}{us:List Tie}{a b:Int} (n0:0<=n) (lu:us.length<=100) (ok:OkN n us) (a0:0<=a) (a1:a<n):Wn n.toNat us a b (byD n.toNat us a b):=by
 unfold byD
 have la:(aC us).length<=200:=by rw [d7]; omega
 have oka:=nJ ok
 by_cases r:Rt (adj us [] []) a b
 ·rw [if_pos (aN.mpr r)]
  refine .inr ?_
  obtain⟨PW,KW,hw,W,_,_⟩:=aW (fY n0 lu ok) a0 (by omega) (iZ.mpr r)
  cases hU:aug n.toNat (aC us) a b 2 [] with
  | none =>
   left
   have e:rF n.toNat us a b=none:=by unfold rF; rw [hU]
   rw [e,hw]
   refine⟨r,?_⟩
   obtain⟨P1,K1,p1,W1,_⟩:=aW (lB (U:=[]) n0 la oka) a0 (by omega) (BP r)
   have f1:=tY (gC (aC us) a b) W1
   have nr:¬ Rt (edg (lft (aC us) (sd (aC us).length [] K1))) a b:=fun r2=>by
    obtain⟨P2,K2,p2,_⟩:=aW (lB n0 la oka) a0 (by omega) r2
    unfold aug at hU
    rw [p1] at hU
    dsimp only at hU
    unfold aug at hU
    rw [p2] at hU
    cases hU
   obtain⟨k,hk,nk⟩:=Pj (by simpa using f1) nr
   refine wF (Ie W) ⟨_,?_,nk⟩
   exact Classical.byContradiction fun z=>nk (fM W z)
  | some U =>
   right
   obtain⟨iU,fU⟩:=jC n0 la oka a0 a1 2 (InL.nil _) (gC _ a b) hU
   obtain⟨r1,r2,p1,p2,W1,W2,_⟩:=yJ n0 lu ok a0 a1 iU (by simpa using fU)
   have e:rF n.toNat us a b=some (hlf r1,hlf r2):=by
    unfold rF
    rw [hU]
    dsimp only
    rw [p1]
    dsimp only
    rw [p2]
   rw [e]
   have w1:=Ea (qY iU) W1
   have w2:=Ea (gO (qY iU)) W2
   have ap:=CT iU (PB W1) (PB W2)
   refine⟨r,fun k=>?_,hlf r1,hlf r2,w1,w2,ap,rfl⟩
   by_cases h1:((k:Nat):Int)∈r1.2.map fun i=>i / 2
   ·exact fM w2 (ap _ h1)
   ·exact fM w1 h1
 ·rw [if_neg fun z=>r (aN.mp z)]
  exact .inl ⟨r,rfl⟩
def Qv (ds:List D) (P:D->Prop):Prop:=∃ n us,ds=[aA n us]/\us.length<=100/\P (.list ((aC us).map pD))
def fWo (ds:List D) (P:D->Prop):Prop:=∃ n us F,ds=[aA n us,iD F]/\us.length<=100/\P (aA n (wo us F))
def Vo (ds:List D) (P:D->Prop):Prop:=∃ n us a b,ds=[aA n us,.int a,.int b]/\0<=n/\n<=60/\us.length<=100/\OkN n us/\0<=a/\a<n/\P (T3 (rF n.toNat us a b))
def K6 (ds:List D) (P:D->Prop):Prop:=∃ n us a b w,ds=[aA n us,.int a,.int b]/\1<=n/\n<=60/\us.length<=100/\OkN n us/\0<=a/\a<n/\0<=b/\b<n/\bC n.toNat (aJ us) a b=some w/\P (ptF n.toNat us a b w.2)
def O8 (CN:Addr):FX:=fun ds P R=>∃ n us d e,ds=[aA n us,d,e]/\1<=n/\n<=30/\us.length<=50/\OkN n us/\((qe n d e/\R (.ref CN))\/(Two n d e/\∀ x:D,P x))
section
variable {P:Program}{w:World}{K:Ü}{mg:Str->Option Value}{base:Heap}{f:Addr}{fd:FuncData}{CN:Addr}
theorem iw:FnScope ["web","numbers"] ["web","numbers"] (ak (top 31)):=zC
theorem fC:(["number","tie","web","numbers"]:List Str).Nodup:=by decide +kernel
theorem ql (F:Fun K "without_ties" "without_ties" (top 31) f fd) (B:Ģ mg) (m_enumerate:mg "enumerate"=none):FnOk P w K mg base CX0 1 f fd ["web","numbers"] (spD fWo):=by
 refine F.ok iw Ē (fun cdv A outer s H vs Q E hr h=>?_)
 have nd:=iw.nd
 refine⟨_,ë (Ð (Ø (ï (À (Ï (Ã 0) Å) (À (Wr.lV B.tuple (À (Ř ["number","tie"] rfl (Wr.rA m_enumerate (À (Ï (Ã 0) Å) Á)) (fun c=>(Wr.eX (n:=2) rfl (ē (á (i:=0) fC rfl zQ) (ē (á (i:=1) fC rfl zQ) Ŷ)))) (fun c=>(Ŵ (ĸ hr.units (Ã 0) (Ã 3)))) (fun c=>(Ã 1))) Á)) Á))))),aK h ?_⟩
 rintro ds P ⟨n,us,F,rfl,lu,q⟩
 refine⟨[.im (aA n us),.sh (iD F)],by show [aD (aA n us),.sh (iD F)]=_; rw [ĩ],?_⟩
 refine⟨.int n,rfl,.tuple (us.map pD),rfl,?_⟩
 refine j7 us.zipIdx (fun p=>ŝ [.int ((p.2:Nat):Int),pD p.1]) (fun p=>decide (((p.2:Nat):Int)∉F)) (fun p=>pD p.1) .imm (enum_zip us) (by rw [List.length_zipIdx]; omega) ?_ ?_
 ·rintro ⟨t,k⟩ hk A B h1 h2
  refine⟨rfl,rfl,bF F,?_⟩
  show if (!((F.map È).any fun e=>ò e (.int ((k:Nat):Int))))=true then _ else _
  rw [Ő]
  by_cases hF:((k:Nat):Int)∈F
  ·rw [decide_eq_true hF]
   exact aL (A:=True) (h2 (decide_eq_false fun z=>z hF))
  ·rw [decide_eq_false hF]
   exact aG (B:=True) ⟨rfl,h1 (decide_eq_true hF)⟩
 ·have e:((us.zipIdx.filter fun p=>decide (((p.2:Nat):Int)∉F)).map fun p=>pD p.1)=(wo us F).map pD:=by
   unfold wo
   rw [ş]
   rfl
  show _/\_/\P (.tuple [.int n,.tuple ((us.zipIdx.filter fun p=>decide (((p.2:Nat):Int)∉F)).map fun p=>pD p.1)])
  rw [e]
  refine⟨zK,?_,q⟩
  show (norm _ (aA n (wo us F))).le .n0=true
  rw [aX (mX _ _)]
  rfl
theorem iG:FnScope ["web","arcs","tie"] ["web"] (ak (top 39)):=zC
theorem qx (F:Fun K "arcs_of_ties" "arcs_of_ties" (top 39) f fd) (B:Ģ mg):FnOk P w K mg base CX0 1 f fd ["web"] (spD Qv):=by
 refine F.ok iG Ē (fun cdv A outer s H vs Q E hr h=>?_)
 have nd:=iG.nd
 refine⟨_,ë (Ç (é (some 0) (i:=1) nd rfl zQ (ğ Á))
  (Ç (İ ô rfl (Ė (Ï (Ã 0) Å)) (á (i:=2) nd rfl zQ) (Ç (Ž (ķ 1) (À (ï (À (Ï (Ã 2) Å) (À (Ï (Ã 2) Å) Á))) Á))
  (Ç (Ž (ķ 1) (À (ï (À (Ï (Ã 2) Å) (À (Ï (Ã 2) Å) Á))) Á)) (è [2] â))))
  (è [2] (Ð (Ø (Ã 1)))))),aK h ?_⟩
 rintro ds P ⟨n,us,rfl,lu,q⟩
 refine⟨[.im (aA n us),.any,.any],by show [aD (aA n us),.any,.any]=_; rw [ĩ],?_⟩
 refine⟨zK,.tuple (us.map pD),rfl,rfl,fun (i:Nat) ρ=>ρ=[.im (aA n us),.dw 0 (.list ((aC (us.take i)).map pD)),.any],rfl,?_,?_⟩
 ·rintro i d ρ hd rfl
  obtain⟨t,ht,rfl⟩:=dR hd
  have hi:=(Æ.mp ht).1
  have tk:us.take (i+1)=us.take i++[t]:=by rw [ė,ht]; rfl
  have l:=d7 (us.take i)
  rw [Ĕ] at l
  have ea:(aC (us.take (i+1))).map pD=(aC (us.take i)).map pD++[pD t]++[pD (t.2,t.1)]:=by
   unfold aC
   rw [tk,List.flatMap_append,ê,Ķ]
   rfl
  refine⟨.int t.1,rfl,.int t.2,rfl,zK,rfl,by rw [Ä]; omega,.int t.2,rfl,.int t.1,rfl,zK,rfl,by rw [Ô,Ä]; show _+1<1000; omega,?_⟩
  show [_,Sl.dw 0 (.list ((aC (us.take i)).map pD++[pD t]++[pD (t.2,t.1)])),_]=[_,Sl.dw 0 (.list ((aC (us.take (i+1))).map pD)),_]
  rw [ea]
  rfl
 ·rintro ρ rfl
  rw [Ä,ħ]
  exact⟨rfl,q⟩
theorem iM:FnScope ["web","a","b","arcs","used","needed"] ["web","a","b"] (ak (top 40)):=zC
theorem oR:(["index","web","a","b","arcs","used","needed"]:List Str).Nodup:=by decide +kernel
theorem gn:(["places","indexes","web","a","b","arcs","used","needed"]:List Str).Nodup:=by decide +kernel
theorem oO:(["index","places","indexes","web","a","b","arcs","used","needed"]:List Str).Nodup:=by decide +kernel
theorem sU (F:Fun K "two_by_ties" "two_by_ties" (top 40) f fd) (B:Ģ mg) (C_arcs_of_ties:ì P w K mg base 1 "arcs_of_ties" ["web"] (spD Qv)) (C_arcs_of_two:ì P w K mg base 2 "arcs_of_two" ["count","arcs","start","goal"] (spD Td)) (C_two_along:ì P w K mg base 2 "two_along" ["count","arcs","used","start","goal"] (spD Tf)):FnOk P w K mg base CX0 3 f fd ["web","a","b"] (spD Vo):=by
 refine F.ok iM Ē (fun cdv A outer s H vs Q E hr h=>?_)
 have nd:=iM.nd
 refine⟨_,ë (Ç (é none (i:=3) nd rfl zQ (ā C_arcs_of_ties hr (À (Ã 0) Á)))
  (Ç (é none (i:=4) nd rfl zQ (ā C_arcs_of_two hr (À (Ï (Ã 0) Å) (À (Ã 3) (À (Ã 1) (À (Ã 2) Á))))))
  (Ç (þ (Wr.gP (Ã 4) ň) (Ð (Ø ň)) â)
  (Ç (Wr.nF none ["index"] (i:=5) rfl nd rfl zQ (Ė (Ã 4)) (fun c=>(á (i:=0) oR rfl zQ)) (fun c=>(Ŵ (ĸ hr.units (Wr.Nr (Ã 0) Å) (Ã 5)))) (fun c=>(Ã 0)))
  (Ð (Ø (Ř ["places","indexes"] rfl (Ė (ā C_two_along hr (À (Ï (Ã 0) Å) (À (Ã 3) (À (Ã 5) (À (Ã 1) (À (Ã 2) Á))))))) (fun c=>(Wr.eX (n:=2) rfl (ē (á (i:=0) gn rfl zQ) (ē (á (i:=1) gn rfl zQ) Ŷ)))) (fun c=>ŵ) (fun c=>(ï (À (Ã 0) (À (Ř ["index"] rfl (Ė (Ã 1)) (fun c=>(á (i:=0) oO rfl zQ)) (fun c=>ŵ) (fun c=>(Wr.qT (Ã 0) Å))) Á))))))))))),aK h ?_⟩
 rintro ds P ⟨n,us,a,b,rfl,n0,n60,lu,ok,a0,a1,q⟩
 refine⟨[.im (aA n us),.im (.int a),.im (.int b),.any,.any,.any],by show [aD (aA n us),.im (.int a),.im (.int b),.any,.any,.any]=_; rw [ĩ],?_⟩
 have la:(aC us).length<=200:=by rw [d7]; omega
 have oka:=nJ ok
 refine⟨n,us,rfl,lu,.int n,rfl,n,aC us,a,b,rfl,n0,by omega,la,oka,a0,a1,?_⟩
 cases hU:aug n.toNat (aC us) a b 2 [] with
 | none =>
  have e:rF n.toNat us a b=none:=by unfold rF; rw [hU]
  rw [e] at q
  exact aG (B:=True) ⟨rfl,q⟩
 | some U =>
  obtain⟨iU,fU⟩:=jC n0 la oka a0 a1 2 (InL.nil _) (gC _ a b) hU
  obtain⟨r1,r2,p1,p2,W1,W2,l1,l2⟩:=yJ n0 lu ok a0 a1 iU (by simpa using fU)
  have e:rF n.toNat us a b=some (hlf r1,hlf r2):=by
   unfold rF
   rw [hU]
   dsimp only
   rw [p1]
   dsimp only
   rw [p2]
  rw [e] at q
  refine aL (A:=True) ?_
  refine j7 U È (fun i=>!decide (prt i∈U)) È .imm rfl (by have:=iU.1; omega) (fun i hi A B hA hB=>?_) ?_
  ·refine⟨rfl,bF U,?_⟩
   show if (!((U.map È).any fun e=>ò e (.int (Builtin.bitXor i 1))))=true then _ else _
   have:=iU.2 i hi
   rw [Ő,Mp this.1 (by omega)]
   exact eV (fun c=>⟨rfl,hA c⟩) (fun c=>hB (Ċ.mpr c))
  refine⟨.int n,rfl,n,aC us,gk U,a,b,r1,r2,rfl,n0,by omega,la,oka,qY iU,a0,a1,p1,p2,?_⟩
  refine G6 [r1,r2] (fun r=>cH (some r)) (fun r=>cH (some (hlf r))) .snw rfl (by show 2<=1000; decide) (fun r hr A B h=>aG (B:=True) ?_) ?_
  ·have lr:r.2.length<=1000:=by
    simp only [Þ,æ,or_false] at hr
    rcases hr with rfl | rfl <;> omega
   refine⟨rfl,G6 r.2 È (fun i=>È (i / 2)) .imm rfl lr (fun i hi A B h=>aG (B:=True) ⟨?_,rfl,h⟩) ⟨zK,?_,?_⟩⟩
   ·exact⟨by decide,by decide⟩
   ·rfl
   ·have eh:(r.2.map fun i=>È (i / 2))=(r.2.map fun i=>i / 2).map È:=by
     rw [ş]
     rfl
    show A (.tuple [iD r.1,.list (r.2.map fun i=>È (i / 2))])
    rw [eh]
    exact h
  exact⟨rfl,q⟩
theorem iR:FnScope ["web","a","b","number","side"] ["web","a","b"] (ak (top 41)):=zC
theorem sW (F:Fun K "parting_tie" "parting_tie" (top 41) f fd) (B:Ģ mg) (C_way:ì P w K mg base 5 "way" ["web","a","b"] (spD Vn)) (C_part_of:ì P w K mg base 2 "part_of" ["web","place"] (spD pZ)) (C_without_ties:ì P w K mg base 1 "without_ties" ["web","numbers"] (spD fWo)):FnOk P w K mg base CX0 6 f fd ["web","a","b"] (spD K6):=by
 refine F.ok iR Ē (fun cdv A outer s H vs Q E hr h=>?_)
 have nd:=iR.nd
 refine⟨_,ë (Ç (İ ô rfl (Ė (Ï (ā C_way hr (À (Ã 0) (À (Ã 1) (À (Ã 2) Á)))) Å)) (á (i:=3) nd rfl zQ) (Ç (é none (i:=4) nd rfl zQ (ā C_part_of hr (À (ā C_without_ties hr (À (Ã 0) (À (ğ (À (Ã 3) Á)) Á))) (À (Ã 1) Á))))
  (Ç (þ (ĸ hr.units (Ã 2) (Ã 4)) (Ð (Ø (ï (À Ũ (À (Ã 3) (À (Ã 4) Á)))))) â) (è [3,4] â))))
  (è [3,4] (Ð (Ø ň)))),aK h ?_⟩
 rintro ds P ⟨n,us,a,b,w,rfl,n0,n60,lu,ok,a0,a1,b0,b1,hw,q⟩
 refine⟨[.im (aA n us),.im (.int a),.im (.int b),.any,.any],by show [aD (aA n us),.im (.int a),.im (.int b),.any,.any]=_; rw [ĩ],?_⟩
 generalize hG:ptF n.toNat us a b w.2=G at q
 refine⟨n,us,a,b,rfl,by omega,n60,lu,ok,a0,a1,b0,b1,?_⟩
 rw [hw]
 refine⟨iD w.2,rfl,rfl,fun (i:Nat) ρ=>ρ=[.im (aA n us),.im (.int a),.im (.int b),.any,.any]/\ptF n.toNat us a b (w.2.drop i)=G,⟨rfl,hG⟩,?_,?_⟩
 ·rintro i d ρ hd ⟨rfl,e⟩
  obtain⟨k,hk,rfl⟩:=dR hd
  have dr:w.2.drop i=k::w.2.drop (i+1):=by
   have hi:=(Æ.mp hk).1
   rw [Ż hi,(Æ.mp hk).2]
  rw [dr] at e
  unfold ptF at e
  have lw:=Ig us [k]
  have er:rsI (adj (wo us [k]) [] []) n.toNat a=rsI (adj us [k] []) n.toNat a:=MK fun x=>Uk
  refine⟨zK,n,us,[k],rfl,lu,n,wo us [k],a,rfl,by omega,n60,by omega,PJ ok,a0,a1,?_⟩
  rw [er]
  refine⟨rfl,bF _,?_⟩
  show if (!(((rsI (adj us [k] []) n.toNat a).map È).any fun e=>ò e (.int b)))=true then _ else _
  rw [Ő]
  have mb:b∈rsI (adj us [k] []) n.toNat a↔Rt (adj us [k] []) a b:=by
   rw [cT]
   exact⟨fun z=>z.2,fun z=>⟨⟨b0,by omega⟩,z⟩⟩
  by_cases r:Rt (adj us [k] []) a b
  ·rw [decide_eq_true (mb.mpr r)]
   rw [if_pos (aN.mpr r)] at e
   exact aL (A:=True) ⟨rfl,e⟩
  ·rw [decide_eq_false fun z=>r (mb.mp z)]
   rw [if_neg fun z=>r (aN.mp z)] at e
   rw [← e] at q
   exact aG (B:=True) ⟨zK,rfl,q⟩
 ·rintro ρ ⟨rfl,e⟩
  rw [Ä,List.drop_length] at e
  have e:PyData.none=G:=e
  rw [← e] at q
  exact⟨rfl,q⟩
theorem rR:FnScope ["web","a","b","side","found"] ["web","a","b"] (ak (top 42)):=zC
theorem Cr (F:Fun K "by_ties" "by_ties" (top 42) f fd) (B:Ģ mg) (C_check_two_places:Dl.Cal1 P w K mg base 5 "check_two_places" ["web","a","b"] (spX (Ah CN))) (C_part_of:ì P w K mg base 2 "part_of" ["web","place"] (spD pZ)) (C_two_by_ties:ì P w K mg base 3 "two_by_ties" ["web","a","b"] (spD Vo)) (C_parting_tie:ì P w K mg base 6 "parting_tie" ["web","a","b"] (spD K6)):FnOk P w K mg base (CX1 P w) 7 f fd ["web","a","b"] (spX (O8 CN)):=by
 refine F.ok1 rR gY (fun cdv A outer s H vs Q E hr h=>?_)
 have nd:=rR.nd
 letI:=grX H
 refine⟨_,ë (Ç (š (Wr.dcX (E:=E) C_check_two_places hr (jZ cB) (À (Ã 0) (À (Ã 1) (À (Ã 2) Á)))))
  (Ç (é none (i:=3) nd rfl zQ (ā C_part_of hr (À (Ã 0) (À (Ã 1) Á))))
  (Ç (þ (ĸ hr.units (Ã 2) (Ã 3)) (Ð (Ø (ï (À Ũ (À (Ã 3) Á))))) â)
  (Ç (é none (i:=4) nd rfl zQ (ā C_two_by_ties hr (À (Ã 0) (À (Ã 1) (À (Ã 2) Á)))))
  (Ç (þ (Wr.gP (Ã 4) ň) (Ð (Ø (ā C_parting_tie hr (À (Ã 0) (À (Ã 1) (À (Ã 2) Á)))))) â)
  (Ð (Ø (ï (À Ũ (À (Ï (Ã 4) Å) (À (Ï (Ã 4) Å) Á))))))))))),enterX h ?_ ?mono⟩
 case mono=>exact fun ds P R R' hR ⟨n,us,d,e,z,n0,n60,lu,ok,x⟩=>⟨n,us,d,e,z,n0,n60,lu,ok,x.imp (fun ⟨a,b⟩=>⟨a,hR _ b⟩) id⟩
 rintro ds P ⟨n,us,d,e,rfl,n0,n60,lu,ok,x⟩
 refine⟨[.im (aA n us),aD d,aD e,.any,.any],by show [aD (aA n us),aD d,aD e,.any,.any]=_; rw [ĩ],?_⟩
 rcases x with ⟨nt,r⟩ | ⟨⟨a,b,rfl,rfl,a0,a1,b0,b1,ne⟩,q⟩
 ·rcases aO d with z | z <;> rcases aO e with z2 | z2 <;> rw [z,z2] <;> exact⟨n,us,d,e,rfl,.inl ⟨nt,r⟩⟩
 ·have q:=q (byD n.toNat us a b)
  replace n60:n<=60:=by omega
  replace lu:us.length<=100:=by omega
  refine⟨n,us,.int a,.int b,rfl,.inr ⟨⟨a,b,rfl,rfl,a0,a1,b0,b1,ne⟩,n,us,a,rfl,by omega,n60,lu,ok,a0,a1,rfl,bF _,?_⟩⟩
  show if (!(((rsI (adj us [] []) n.toNat a).map È).any fun e=>ò e (.int b)))=true then _ else _
  rw [Ő]
  have mb:b∈rsI (adj us [] []) n.toNat a↔Rt (adj us [] []) a b:=by
   rw [cT]
   exact⟨fun z=>z.2,fun z=>⟨⟨b0,by omega⟩,z⟩⟩
  unfold byD at q
  by_cases r:Rt (adj us [] []) a b
  ·rw [decide_eq_true (mb.mpr r)]
   rw [if_pos (aN.mpr r)] at q
   obtain⟨PW,KW,hw,W,_,_⟩:=aW (fY (by omega) lu ok) a0 (by omega) (iZ.mpr r)
   refine aL (A:=True) ⟨n,us,a,b,rfl,by omega,n60,lu,ok,a0,a1,?_⟩
   cases hR:rF n.toNat us a b with
   | none =>
    rw [hR,hw] at q
    refine aG (B:=True) ⟨n,us,a,b,(PW,KW),rfl,n0,n60,lu,ok,a0,a1,b0,b1,hw,?_,q⟩
    show (norm .new (ptF n.toNat us a b KW)).le .n0=true
    exact wD KW
   | some R =>
    rw [hR] at q
    refine aL (A:=True) ⟨_,rfl,_,rfl,zK,rfl,q⟩
  ·rw [decide_eq_false fun z=>r (mb.mp z)]
   rw [if_neg fun z=>r (aN.mp z)] at q
   exact aG (B:=True) ⟨zK,rfl,q⟩
end
theorem uM {us:List Tie}{a:Int}{P K:List Int}{x:Int}{v:Int} (h:Wy (aJ us) a P K x):v∉P->Rt (adj us [] [v]) a x:=by
 induction h with
 | one=>exact fun _=>.refl _
 | @step P K p y j h hx hj ih =>
  intro hv
  refine .step (ih fun z=>hv (í _ z)) (bG.mpr ?_)
  obtain⟨i,e,ht⟩:=bV.mp hj
  refine⟨i,ht,æ,fun z=>hv (ß _ ?_)⟩
  rw [Í.mp z]
  exact Í.mpr rfl
def jn (n:Int) (T:Nat) (r:List Int×List Int):List Int×List Int:=(gA n r.1,gB T r.2)
def rG (n:Int) (us:List Tie) (a b:Int):Option ((List Int×List Int)×(List Int×List Int)):=match aug (2 * n).toNat (aH n a b us) a b 2 [] with
 | none=>none
 | some U=>match bC (2 * n).toNat (alg (aH n a b us) U) a b with
  | none=>none
  | some r1=>match bC (2 * n).toNat (alg (aH n a b us) (U.filter fun i=>!decide (i∈r1.2))) a b with
   | none=>none
   | some r2=>some (jn n us.length r1,jn n us.length r2)
open Classical in
def byP (n:Int) (us:List Tie) (a b:Int):D:=if RZ (adj us [] []) a b=true then (match rG n us a b with
  | some r=>.tuple [.str "ways",cH (some r.1),cH (some r.2)]
  | none=>if ppF n.toNat us a b (ã n.toNat)=.none then (match bC n.toNat (aJ us) a b with
    | some w=>ptF n.toNat us a b w.2
    | none=>.none)
   else ppF n.toNat us a b (ã n.toNat))
 else .tuple [.str "apart",iD (rsI (adj us [] []) n.toNat a)]
theorem uO {n:Int}{us:List Tie}{a b:Int}{U:List Int} (n0:0<=n) (ok:OkN n us) (a0:0<=a) (a1:a<n) (hU:InL (aH n a b us) U) (h:Flow (aH n a b us) a b 2 U):∃ r1 r2,bC (2 * n).toNat (alg (aH n a b us) U) a b=some r1/\bC (2 * n).toNat (alg (aH n a b us) (U.filter fun i=>!decide (i∈r1.2))) a b=some r2/\Wy (alg (aH n a b us) U) a r1.1 r1.2 b/\Wy (alg (aH n a b us) (U.filter fun i=>!decide (i∈r1.2))) a r2.1 r2.2 b/\(r1.1.length<=(2 * n).toNat/\r1.2.length<=(2 * n).toNat)/\r2.1.length<=(2 * n).toNat/\r2.2.length<=(2 * n).toNat:=by
 obtain⟨P1,K1,p1,W1,m1,l1⟩:=aW (pI (n:=2 * n) (by omega) (nM ok) hU) a0 (by omega) (nu (by decide) h)
 have f2:=vD hU h W1
 obtain⟨P2,K2,p2,W2,m2,l2⟩:=aW (pI (n:=2 * n) (by omega) (nM ok) (gO (K:=K1) hU)) a0 (by omega) (nu (by decide) f2)
 exact⟨(P1,K1),(P2,K2),p1,p2,W1,W2,⟨m1,l1⟩,m2,l2⟩
def VF (n:Int) (us:List Tie) (a b:Int) (d:D):Prop :=
 (¬ Rt (adj us [] []) a b/\d=.tuple [.str "apart",iD (rsI (adj us [] []) n.toNat a)]) ∨
 (Rt (adj us [] []) a b/\∃ v:Nat,((v:Nat):Int)∈inn n a b/\¬ Rt (adj us [] [((v:Nat):Int)]) a b/\d=.tuple [.str "place",.int ((v:Nat):Int),iD (rsI (adj us [] [((v:Nat):Int)]) n.toNat a)]) ∨
 (Rt (adj us [] []) a b/\(∀ v∈inn n a b,Rt (adj us [] [v]) a b)/\∃ k:Nat,k<us.length/\¬ Rt (adj us [((k:Nat):Int)] []) a b/\d=.tuple [.str "tie",.int ((k:Nat):Int),iD (rsI (adj us [((k:Nat):Int)] []) n.toNat a)]) ∨
 (Rt (adj us [] []) a b/\(∀ v∈inn n a b,Rt (adj us [] [v]) a b)/\(∀ k:Nat,Rt (adj us [((k:Nat):Int)] []) a b)/\∃ w1 w2:List Int×List Int,Wy (aJ us) a w1.1 w1.2 b/\Wy (aJ us) a w2.1 w2.2 b/\(∀ k∈w1.2,k∉w2.2)/\(∀ v∈w1.1,v∈w2.1->v=a\/v=b)/\d=.tuple [.str "ways",cH (some w1),cH (some w2)])
theorem wH {n:Nat}{us:List Tie}{a b:Int}:∀ l:List Nat,(ppF n us a b l=.none/\∀ v∈l,(((v:Nat):Int)=a\/((v:Nat):Int)=b)\/Rt (adj us [] [((v:Nat):Int)]) a b)\/∃ v∈l,¬ (((v:Nat):Int)=a\/((v:Nat):Int)=b)/\¬ Rt (adj us [] [((v:Nat):Int)]) a b/\ppF n us a b l=.tuple [.str "place",.int ((v:Nat):Int),iD (rsI (adj us [] [((v:Nat):Int)]) n a)]
 | []=>.inl ⟨rfl,(fun v hv=>nomatch hv)⟩
 | v::r=>by
  by_cases c:(((v:Nat):Int)=a\/((v:Nat):Int)=b)\/Rt (adj us [] [((v:Nat):Int)]) a b
  ·have e:ppF n us a b (v::r)=ppF n us a b r:=by
    conv=>lhs; unfold ppF
    exact if_pos c
   rw [e]
   rcases wH r with ⟨h1,h2⟩ | ⟨u,hu,h⟩
   ·refine .inl ⟨h1,fun u hu=>?_⟩
    rcases Þ.mp hu with rfl | hu
    ·exact c
    ·exact h2 u hu
   ·exact .inr ⟨u,Ù _ hu,h⟩
  ·refine .inr ⟨v,ä,fun z=>c (.inl z),fun z=>c (.inr z),?_⟩
   unfold ppF
   exact if_neg c
theorem Wh {n:Int}{us:List Tie}{a b:Int} (n0:0<=n) (n60:n<=50) (lu:us.length<=60) (ok:OkN n us) (a0:0<=a) (a1:a<n) (b1:b<n):VF n us a b (byP n us a b):=by
 unfold byP
 have il:=xP n a b
 have la:(aH n a b us).length<=200:=by rw [pG]; omega
 have oka:=nM (a:=a) (b:=b) ok
 by_cases r:Rt (adj us [] []) a b
 ·rw [if_pos (aN.mpr r)]
  obtain⟨PW,KW,hw,W,_,_⟩:=aW (fY n0 (by omega:us.length<=100) ok) a0 (by omega) (iZ.mpr r)
  cases hU:aug (2 * n).toNat (aH n a b us) a b 2 [] with
  | none =>
   have e:rG n us a b=none:=by unfold rG; rw [hU]
   rw [e,hw]
   obtain⟨P1,K1,p1,W1,_⟩:=aW (lB (n:=2 * n) (U:=[]) (by omega) la oka) a0 (by omega) (by have:=Jf (b:=b) ok r; rwa [U9] at this)
   have f1:=tY (gC (aH n a b us) a b) W1
   have nr:¬ Rt (edg (lft (aH n a b us) (sd (aH n a b us).length [] K1))) a b:=fun r2=>by
    obtain⟨P2,K2,p2,_⟩:=aW (lB (n:=2 * n) (by omega) la oka) a0 (by omega) r2
    unfold aug at hU
    rw [p1] at hU
    dsimp only at hU
    unfold aug at hU
    rw [p2] at hU
    cases hU
   have cp:=Lw ok (by simpa using f1) nr
   rcases wH (n:=n.toNat) (us:=us) (a:=a) (b:=b) (ã n.toNat) with ⟨h1,h2⟩ | ⟨v,hv,h1,h2,h3⟩
   ·have all:∀ v∈inn n a b,Rt (adj us [] [v]) a b:=fun v hv=>by
     obtain⟨⟨v0,v1⟩,va,vb⟩:=dg.mp hv
     have:=h2 v.toNat (ģ.mpr (by omega))
     rw [show ((v.toNat:Nat):Int)=v by omega] at this
     exact this.elim (fun z=>(z.elim va vb).elim) id
    refine .inr (.inr (.inl ⟨r,all,?_⟩))
    rw [if_pos h1]
    rcases cp with ⟨v,hv,nv⟩ | ⟨k,hk,nk⟩
    ·exact absurd (all v hv) nv
    ·refine wF (Ie W) ⟨_,?_,nk⟩
     exact Classical.byContradiction fun z=>nk (fM W z)
   ·refine .inr (.inl ⟨r,v,dg.mpr ⟨⟨by omega,by have:=ģ.mp hv; omega⟩,fun z=>h1 (.inl z),fun z=>h1 (.inr z)⟩,h2,?_⟩)
    rw [h3]
    exact if_neg (fun z=>nomatch z)
  | some U =>
   obtain⟨iU,fU⟩:=jC (n:=2 * n) (by omega) la oka a0 (by omega) 2 (InL.nil _) (gC _ a b) hU
   obtain⟨r1,r2,p1,p2,W1,W2,_⟩:=uO n0 ok a0 a1 iU (by simpa using fU)
   have e:rG n us a b=some (jn n us.length r1,jn n us.length r2):=by
    unfold rG
    rw [hU]
    dsimp only
    rw [p1]
    dsimp only
    rw [p2]
   rw [e]
   have pb:piN n b=b:=if_pos b1
   have w1:=qG ok ⟨a0,a1⟩ iU W1
   have w2:=qG ok ⟨a0,a1⟩ (gO iU) W2
   rw [pb] at w1 w2
   have pl:=rD ok iU W1 W2
   have ti:=Ii ok ⟨a0,a1⟩ iU W1 W2
   refine .inr (.inr (.inr ⟨r,fun v hv=>?_,fun k=>?_,jn n us.length r1,jn n us.length r2,w1,w2,ti,pl,rfl⟩))
   ·obtain⟨_,va,vb⟩:=dg.mp hv
    by_cases h1:v∈gA n r1.1
    ·exact uM w2 fun h2=>(pl v h1 h2).elim va vb
    ·exact uM w1 h1
   ·by_cases h1:((k:Nat):Int)∈gB us.length r1.2
    ·exact fM w2 (ti _ h1)
    ·exact fM w1 h1
 ·rw [if_neg fun z=>r (aN.mp z)]
  exact .inl ⟨r,rfl⟩
def Vt (ds:List D) (P:D->Prop):Prop:=∃ n us a b,ds=[aA n us,.int a,.int b]/\0<=n/\n<=50/\us.length<=60/\P (.list ((aH n a b us).map pD))
def fJA (ds:List D) (P:D->Prop):Prop:=∃ n us l k,ds=[aA n us,iD l,iD k]/\us.length<=60/\l.length<=200/\k.length<=200/\P (cH (some (jn n us.length (l,k))))
def Vp (ds:List D) (P:D->Prop):Prop:=∃ n us a b,ds=[aA n us,.int a,.int b]/\0<=n/\n<=50/\us.length<=60/\OkN n us/\0<=a/\a<n/\P (T3 (rG n us a b))
theorem Mf {i r:Nat}{te:DE}{P:DEnds}{ρ:List Sl}{ds:List D} (hs:ρ[i]?=some (.dw r (.list ds))) (h:te ρ fun k d=>(norm k d).le .new=true/\ds.length<1000/\P.nx ((forget r ρ).set i (.dw r (.list (ds++[d]))))):Dy i te P ρ:=by
 unfold Dy
 rw [hs]
 exact h
def SM:DE:=j9 (bD (QL (cJ (t2 (gIn false) (t2 gIx (tV 6) (tK (È 0))) (j9 (bD (tV 1) (bD (tV 2) gJ))))) (t2 gIx (tV 6) (tK (È 0))) (t2 pY (t2 gIx (tV 6) (tK (È 0))) (tV 3))) (bD (t2 gIx (tV 6) (tK (È 1))) gJ))
theorem Ky {n a b:Int}{us:List Tie} (L:List D) (t h:Tie) (R:DK) (q:R .imm (pD (oN n a b h.1,h.2))):SM [.im (aA n us),.im (.int a),.im (.int b),.im (.int n),.dw 0 (.list L),.im (pD t),.im (pD h)] R:=by
 refine⟨.int h.1,rfl,zK,rfl,rfl,?_⟩
 show if ([È a,.int b].any fun e=>ò e (.int h.1))=true then _ else _
 rw [nP]
 unfold oN at q
 by_cases c:h.1=a\/h.1=b
 ·rw [if_pos c] at q
  rw [decide_eq_true c]
  exact aG (B:=True) ⟨.int h.1,rfl,.int h.2,rfl,zK,q⟩
 ·rw [if_neg c] at q
  rw [decide_eq_false c]
  exact aL (A:=True) ⟨.int h.1,rfl,.int h.2,rfl,zK,q⟩
theorem Fw:∀ us:List Tie,fH (us.map pD)=true
 | []=>rfl
 | _::us=>Fw us
section
variable {P:Program}{w:World}{K:Ü}{mg:Str->Option Value}{base:Heap}{f:Addr}{fd:FuncData}{CN:Addr}
theorem fu:FnScope ["web","a","b","n","arcs","tie","hop"] ["web","a","b"] (ak (top 44)):=zC
theorem jX:(["v","web","a","b","n","arcs","tie","hop"]:List Str).Nodup:=by decide +kernel
theorem lZ (F:Fun K "arcs_of_places" "arcs_of_places" (top 44) f fd) (B:Ģ mg):FnOk P w K mg base CX0 1 f fd ["web","a","b"] (spD Vt):=by
 refine F.ok fu Ē (fun cdv A outer s H vs Q E hr h=>?_)
 have nd:=fu.nd
 refine⟨_,ë (Ç (é none (i:=3) nd rfl zQ (Ï (Ã 0) Å))
  (Ç (é (some 0) (i:=4) nd rfl zQ (ğ Á))
  (Ç (İ ô rfl (Ė (Ï (Ã 0) Å)) (á (i:=5) nd rfl zQ) (Ç (İ ô rfl (Ė (ï (À (Ã 5) (À (ï (À (Ï (Ã 5) Å) (À (Ï (Ã 5) Å) Á))) Á)))) (á (i:=6) nd rfl zQ) (Ç (Ž (ķ 4) (À (ï (À (Wr.lW (Wr.oh hr.units (Ï (Ã 6) Å) (ï (À (Ã 1) (À (Ã 2) Á)))) (Ï (Ã 6) Å) (Š (Ï (Ã 6) Å) (Ã 3))) (À (Ï (Ã 6) Å) Á))) Á)) (è [6] â))) (è [5,6] â)))
  (è [5,6] (Ð (Ø (Š (Ã 4) (Ř ["v"] rfl (ł B.range (À (Ã 3) Á)) (fun c=>(á (i:=0) jX rfl zQ)) (fun c=>(Ŵ (ĸ hr.units (Ã 0) (ï (À (Ã 2) (À (Ã 3) Á)))))) (fun c=>(ï (À (Ã 0) (À (Š (Ã 0) (Ã 4)) Á)))))))))))),aK h ?_⟩
 rintro ds P ⟨n,us,a,b,rfl,n0,n1,lu,q⟩
 refine⟨[.im (aA n us),.im (.int a),.im (.int b),.any,.any,.any,.any],by show [aD (aA n us),.im (.int a),.im (.int b),.any,.any,.any,.any]=_; rw [ĩ],?_⟩
 refine⟨.int n,rfl,zK,.tuple (us.map pD),rfl,rfl,fun (i:Nat) ρ=>ρ=[.im (aA n us),.im (.int a),.im (.int b),.im (.int n),.dw 0 (.list ((bO n a b (us.take i)).map pD)),.any,.any],rfl,?_,?_⟩
 ·rintro i d ρ hd rfl
  obtain⟨t,ht,rfl⟩:=dR hd
  have hi:=(Æ.mp ht).1
  have tk:us.take (i+1)=us.take i++[t]:=by rw [ė,ht]; rfl
  have l:=cW n a b (us.take i)
  rw [Ĕ] at l
  have ea:(bO n a b (us.take (i+1))).map pD=(bO n a b (us.take i)).map pD++[pD (oN n a b t.1,t.2)]++[pD (oN n a b t.2,t.1)]:=by
   unfold bO
   rw [tk,List.flatMap_append,ê,Ķ]
   rfl
  refine⟨.int t.2,rfl,.int t.1,rfl,zK,zK,rfl,fun (j:Nat) ρ=>ρ=[.im (aA n us),.im (.int a),.im (.int b),.im (.int n),.dw 0 (.list ((bO n a b (us.take i)).map pD++([(oN n a b t.1,t.2),(oN n a b t.2,t.1)].take j).map pD)),.im (pD t),.any],?_,?_,?_⟩
  ·show [_,_,_,_,Sl.dw 0 (.list ((bO n a b (us.take i)).map pD)),_,_]=[_,_,_,_,Sl.dw 0 (.list ((bO n a b (us.take i)).map pD++[])),_,_]
   rw [ÿ]
   rfl
  ·rintro j d ρ hd rfl
   have l2:((bO n a b (us.take i)).map pD).length=(bO n a b (us.take i)).length:=Ä ..
   match j,hd with
   | 0,hd =>
    have hd:pD t=d:=Õ hd
    subst hd
    show Dl.Dw (Dy 4 SM) (yp [6] Ar) _ [.im (aA n us),.im (.int a),.im (.int b),.im (.int n),.dw 0 (.list ((bO n a b (us.take i)).map pD++[])),.im (pD t),.im (pD t)]
    refine Mf rfl (Ky _ t t _ ?_)
    refine⟨rfl,?_,?_⟩
    ·show ((bO n a b (us.take i)).map pD++[]).length<1000
     rw [ÿ]
     omega
    ·show [_,_,_,_,Sl.dw 0 (.list ((bO n a b (us.take i)).map pD++[]++[pD (oN n a b t.1,t.2)])),_,_]=[_,_,_,_,Sl.dw 0 (.list ((bO n a b (us.take i)).map pD++[pD (oN n a b t.1,t.2)])),_,_]
     rw [ÿ]
     rfl
   | 1,hd =>
    have hd:pD (t.2,t.1)=d:=Õ hd
    subst hd
    show Dl.Dw (Dy 4 SM) (yp [6] Ar) _ [.im (aA n us),.im (.int a),.im (.int b),.im (.int n),.dw 0 (.list ((bO n a b (us.take i)).map pD++[pD (oN n a b t.1,t.2)])),.im (pD t),.im (pD (t.2,t.1))]
    refine Mf rfl (Ky _ t (t.2,t.1) _ ?_)
    refine⟨rfl,?_,?_⟩
    ·show ((bO n a b (us.take i)).map pD++[pD (oN n a b t.1,t.2)]).length<1000
     rw [Ô,Ğ]
     omega
    ·show [_,_,_,_,Sl.dw 0 (.list ((bO n a b (us.take i)).map pD++[pD (oN n a b t.1,t.2)]++[pD (oN n a b t.2,t.1)])),_,_]=[_,_,_,_,Sl.dw 0 (.list ((bO n a b (us.take i)).map pD++[pD (oN n a b t.1,t.2),pD (oN n a b t.2,t.1)])),_,_]
     rw [Ķ]
     rfl
   | j+2,hd=>cases hd
  ·rintro ρ rfl
   show [_,_,_,_,Sl.dw 0 (.list ((bO n a b (us.take i)).map pD++[pD (oN n a b t.1,t.2),pD (oN n a b t.2,t.1)])),_,_]=[_,_,_,_,Sl.dw 0 (.list ((bO n a b (us.take (i+1))).map pD)),_,_]
   rw [ea,Ķ]
   rfl
 ·rintro ρ rfl
  rw [Ä,ħ]
  have l:=cW n a b us
  have l2:((bO n a b us).map pD).length=(bO n a b us).length:=Ä ..
  refine⟨⟨by omega,by omega⟩,j7 (ã n.toNat) (fun v=>È (0+((v:Nat):Int))) (fun v=>!decide (0+((v:Nat):Int)=a\/0+((v:Nat):Int)=b)) (fun v=>pD (0+((v:Nat):Int),0+((v:Nat):Int)+n)) .imm rfl (by rw [Ę]; omega) (fun v hv A B hA hB=>?_) ?_⟩
  ·refine⟨zK,rfl,rfl,?_⟩
   show if (!([È a,.int b].any fun e=>ò e (.int (0+((v:Nat):Int)))))=true then _ else _
   rw [nP]
   exact eV (fun c=>⟨zK,rfl,hA c⟩) (fun c=>hB (Ċ.mpr c))
  have e:((ã n.toNat).filter fun v=>!decide (0+((v:Nat):Int)=a\/0+((v:Nat):Int)=b)).map (fun v=>pD (0+((v:Nat):Int),0+((v:Nat):Int)+n))=((inn n a b).map fun v=>(v,v+n)).map pD:=by
   unfold inn zI
   rw [List.filter_map,ş,ş]
   rfl
  rw [e]
  have il:=xP n a b
  refine⟨?_,?_⟩
  ·show ((bO n a b us).map pD).length+(((inn n a b).map fun v=>(v,v+n)).map pD).length<=1000
   have e5:(((inn n a b).map fun v=>(v,v+n)).map pD).length=(inn n a b).length:=by rw [Ä,Ä]
   omega
  ·rw [← ê]
   exact .inl ⟨Fw _,rfl,q⟩
theorem iC:FnScope ["web","nodes","indexes","places"] ["web","nodes","indexes"] (ak (top 45)):=zC
theorem mK:(["node","web","nodes","indexes","places"]:List Str).Nodup:=by decide +kernel
theorem mJ:(["index","web","nodes","indexes","places"]:List Str).Nodup:=by decide +kernel
theorem qw (F:Fun K "joined_again" "joined_again" (top 45) f fd) (B:Ģ mg):FnOk P w K mg base CX0 1 f fd ["web","nodes","indexes"] (spD fJA):=by
 refine F.ok iC Ē (fun cdv A outer s H vs Q E hr h=>?_)
 have nd:=iC.nd
 refine⟨_,ë (Ç (Wr.nF none ["node"] (i:=3) rfl nd rfl zQ (Ė (Ã 1)) (fun c=>(á (i:=0) mK rfl zQ)) (fun c=>(Ŵ (Wr.wL (Ã 0) (Ï (Ã 1) Å)))) (fun c=>(Ã 0)))
  (Ð (Ø (ï (À (Ã 3) (À (Ř ["index"] rfl (Ė (Ã 2)) (fun c=>(á (i:=0) mJ rfl zQ)) (fun c=>(Ŵ (Wr.wL (Ã 0) (Wr.gb Å (Wr.eO B.len (À (Ï (Ã 1) Å) Á)))))) (fun c=>(Wr.qT (Ã 0) Å))) Á)))))),aK h ?_⟩
 rintro ds P ⟨n,us,l,k,rfl,lu,ll,lk,q⟩
 refine⟨[.im (aA n us),.sh (iD l),.sh (iD k),.any],by show [aD (aA n us),.sh (iD l),.sh (iD k),.any]=_; rw [ĩ],?_⟩
 have lu2:(us.map pD).length=us.length:=Ä ..
 refine j7 l È (fun x=>decide (x<n)) È .imm rfl (by omega) (fun x hx A B hA hB=>⟨.int n,rfl,eV (fun c=>⟨rfl,hA c⟩) (fun c=>hB (Ċ.mpr c))⟩) ?_
 refine j7 k È (fun i=>decide (i<2 * ((us.length:Nat):Int))) (fun i=>È (i / 2)) .imm rfl (by omega) (fun i hi A B hA hB=>?_) ?_
 ·refine⟨.tuple (us.map pD),rfl,.inl ⟨by decide,by decide⟩,?_⟩
  show if decide (i<2 * (((us.map pD).length:Nat):Int))=true then _ else _
  rw [lu2]
  exact eV (fun c=>⟨⟨by decide,by decide⟩,rfl,hA c⟩) (fun c=>hB (Ċ.mpr c))
 have e:(k.filter fun i=>decide (i<2 * ((us.length:Nat):Int))).map (fun i=>È (i / 2))=(gB us.length k).map È:=by
  unfold gB
  rw [ş]
  rfl
 rw [e]
 exact⟨zK,rfl,q⟩
theorem fO:FnScope ["web","a","b","arcs","used"] ["web","a","b"] (ak (top 46)):=zC
theorem eU:(["nodes","indexes","web","a","b","arcs","used"]:List Str).Nodup:=by decide +kernel
theorem oF (F:Fun K "two_by_places" "two_by_places" (top 46) f fd) (B:Ģ mg) (C_arcs_of_places:ì P w K mg base 1 "arcs_of_places" ["web","a","b"] (spD Vt)) (C_arcs_of_two:ì P w K mg base 2 "arcs_of_two" ["count","arcs","start","goal"] (spD Td)) (C_two_along:ì P w K mg base 2 "two_along" ["count","arcs","used","start","goal"] (spD Tf)) (C_joined_again:ì P w K mg base 1 "joined_again" ["web","nodes","indexes"] (spD fJA)):FnOk P w K mg base CX0 3 f fd ["web","a","b"] (spD Vp):=by
 refine F.ok fO Ē (fun cdv A outer s H vs Q E hr h=>?_)
 have nd:=fO.nd
 refine⟨_,ë (Ç (é none (i:=3) nd rfl zQ (ā C_arcs_of_places hr (À (Ã 0) (À (Ã 1) (À (Ã 2) Á)))))
  (Ç (é none (i:=4) nd rfl zQ (ā C_arcs_of_two hr (À (Wr.gb Å (Ï (Ã 0) Å)) (À (Ã 3) (À (Ã 1) (À (Ã 2) Á))))))
  (Ç (þ (Wr.gP (Ã 4) ň) (Ð (Ø ň)) â)
  (Ð (Ø (Ř ["nodes","indexes"] rfl (Ė (ā C_two_along hr (À (Wr.gb Å (Ï (Ã 0) Å)) (À (Ã 3) (À (Ã 4) (À (Ã 1) (À (Ã 2) Á))))))) (fun c=>(Wr.eX (n:=2) rfl (ē (á (i:=0) eU rfl zQ) (ē (á (i:=1) eU rfl zQ) Ŷ)))) (fun c=>ŵ) (fun c=>(ā C_joined_again hr (À (Ã 2) (À (Ã 0) (À (Ã 1) Á))))))))))),aK h ?_⟩
 rintro ds P ⟨n,us,a,b,rfl,n0,n60,lu,ok,a0,a1,q⟩
 refine⟨[.im (aA n us),.im (.int a),.im (.int b),.any,.any],by show [aD (aA n us),.im (.int a),.im (.int b),.any,.any]=_; rw [ĩ],?_⟩
 have il:=xP n a b
 have la:(aH n a b us).length<=200:=by rw [pG]; omega
 have oka:=nM (a:=a) (b:=b) ok
 refine⟨n,us,a,b,rfl,n0,n60,lu,.int n,rfl,.inl ⟨by decide,by decide⟩,2 * n,aH n a b us,a,b,rfl,by omega,by omega,la,oka,a0,by omega,?_⟩
 cases hU:aug (2 * n).toNat (aH n a b us) a b 2 [] with
 | none =>
  have e:rG n us a b=none:=by unfold rG; rw [hU]
  rw [e] at q
  exact aG (B:=True) ⟨rfl,q⟩
 | some U =>
  obtain⟨iU,fU⟩:=jC (n:=2 * n) (by omega) la oka a0 (by omega) 2 (InL.nil _) (gC _ a b) hU
  obtain⟨r1,r2,p1,p2,W1,W2,⟨m1,l1⟩,m2,l2⟩:=uO n0 ok a0 a1 iU (by simpa using fU)
  have e:rG n us a b=some (jn n us.length r1,jn n us.length r2):=by
   unfold rG
   rw [hU]
   dsimp only
   rw [p1]
   dsimp only
   rw [p2]
  rw [e] at q
  refine aL (A:=True) ⟨.int n,rfl,.inl ⟨by decide,by decide⟩,2 * n,aH n a b us,U,a,b,r1,r2,rfl,by omega,by omega,la,oka,iU,a0,by omega,p1,p2,?_⟩
  refine G6 [r1,r2] (fun r=>cH (some r)) (fun r=>cH (some (jn n us.length r))) .new rfl (by show 2<=1000; decide) (fun r hr A B h=>aG (B:=True) ?_) ?_
  ·have lr:r.1.length<=200/\r.2.length<=200:=by
    simp only [Þ,æ,or_false] at hr
    rcases hr with rfl | rfl <;> omega
   exact⟨rfl,n,us,r.1,r.2,rfl,lu,lr.1,lr.2,rfl,h⟩
  exact⟨rfl,q⟩
theorem lK:FnScope ["web","a","b","side","found","shown"] ["web","a","b"] (ak (top 49)):=zC
theorem w6 (F:Fun K "by_places" "by_places" (top 49) f fd) (B:Ģ mg) (C_check_two_places:Dl.Cal1 P w K mg base 5 "check_two_places" ["web","a","b"] (spX (Ah CN))) (C_part_of:ì P w K mg base 2 "part_of" ["web","place"] (spD pZ)) (C_two_by_places:ì P w K mg base 3 "two_by_places" ["web","a","b"] (spD Vp)) (C_parting_place:ì P w K mg base 7 "parting_place" ["web","a","b"] (spD Te)) (C_parting_tie:ì P w K mg base 6 "parting_tie" ["web","a","b"] (spD K6)):FnOk P w K mg base (CX1 P w) 8 f fd ["web","a","b"] (spX (O8 CN)):=by
 refine F.ok1 lK gY (fun cdv A outer s H vs Q E hr h=>?_)
 have nd:=lK.nd
 letI:=grX H
 refine⟨_,ë (Ç (š (Wr.dcX (E:=E) C_check_two_places hr (jZ cB) (À (Ã 0) (À (Ã 1) (À (Ã 2) Á)))))
  (Ç (é none (i:=3) nd rfl zQ (ā C_part_of hr (À (Ã 0) (À (Ã 1) Á))))
  (Ç (þ (ĸ hr.units (Ã 2) (Ã 3)) (Ð (Ø (ï (À Ũ (À (Ã 3) Á))))) â)
  (Ç (é none (i:=4) nd rfl zQ (ā C_two_by_places hr (À (Ã 0) (À (Ã 1) (À (Ã 2) Á)))))
  (Ç (þ (Wr.eN (Ã 4) ň) (Ð (Ø (ï (À Ũ (À (Ï (Ã 4) Å) (À (Ï (Ã 4) Å) Á)))))) â)
  (Ç (é none (i:=5) nd rfl zQ (ā C_parting_place hr (À (Ã 0) (À (Ã 1) (À (Ã 2) Á)))))
  (Ð (Ø (Wr.lW (Wr.gP (Ã 5) ň) (ā C_parting_tie hr (À (Ã 0) (À (Ã 1) (À (Ã 2) Á)))) (Ã 5)))))))))),enterX h ?_ ?mono⟩
 case mono=>exact fun ds P R R' hR ⟨n,us,d,e,z,n0,n60,lu,ok,x⟩=>⟨n,us,d,e,z,n0,n60,lu,ok,x.imp (fun ⟨a,b⟩=>⟨a,hR _ b⟩) id⟩
 rintro ds P ⟨n,us,d,e,rfl,n0,n60,lu,ok,x⟩
 refine⟨[.im (aA n us),aD d,aD e,.any,.any,.any],by show [aD (aA n us),aD d,aD e,.any,.any,.any]=_; rw [ĩ],?_⟩
 rcases x with ⟨nt,r⟩ | ⟨⟨a,b,rfl,rfl,a0,a1,b0,b1,ne⟩,q⟩
 ·rcases aO d with z | z <;> rcases aO e with z2 | z2 <;> rw [z,z2] <;> exact⟨n,us,d,e,rfl,.inl ⟨nt,r⟩⟩
 ·have q:=q (byP n us a b)
  replace n60:n<=50:=by omega
  replace lu:us.length<=60:=by omega
  refine⟨n,us,.int a,.int b,rfl,.inr ⟨⟨a,b,rfl,rfl,a0,a1,b0,b1,ne⟩,n,us,a,rfl,by omega,by omega,by omega,ok,a0,a1,rfl,bF _,?_⟩⟩
  show if (!(((rsI (adj us [] []) n.toNat a).map È).any fun e=>ò e (.int b)))=true then _ else _
  rw [Ő]
  have mb:b∈rsI (adj us [] []) n.toNat a↔Rt (adj us [] []) a b:=by
   rw [cT]
   exact⟨fun z=>z.2,fun z=>⟨⟨b0,by omega⟩,z⟩⟩
  unfold byP at q
  by_cases r:Rt (adj us [] []) a b
  ·rw [decide_eq_true (mb.mpr r)]
   rw [if_pos (aN.mpr r)] at q
   obtain⟨PW,KW,hw,W,_,_⟩:=aW (fY (by omega) (by omega:us.length<=100) ok) a0 (by omega) (iZ.mpr r)
   refine aL (A:=True) ⟨n,us,a,b,rfl,by omega,n60,lu,ok,a0,a1,?_⟩
   cases hR:rG n us a b with
   | none =>
    rw [hR,hw] at q
    refine aL (A:=True) ⟨n,us,a,b,rfl,n0,by omega,by omega,ok,a0,a1,b0,b1,?_⟩
    rcases wH (n:=n.toNat) (us:=us) (a:=a) (b:=b) (ã n.toNat) with ⟨h1,_⟩ | ⟨v,_,_,_,h3⟩
    ·rw [h1] at q ⊢
     rw [if_pos rfl] at q
     exact aG (B:=True) ⟨n,us,a,b,(PW,KW),rfl,n0,by omega,by omega,ok,a0,a1,b0,b1,hw,wD KW,q⟩
    ·rw [h3] at q ⊢
     rw [if_neg (fun z=>nomatch z)] at q
     exact aL (A:=True) ⟨rfl,q⟩
   | some R =>
    rw [hR] at q
    exact aG (B:=True) ⟨_,rfl,_,rfl,zK,rfl,q⟩
  ·rw [decide_eq_false fun z=>r (mb.mp z)]
   rw [if_neg fun z=>r (aN.mp z)] at q
   exact aG (B:=True) ⟨zK,rfl,q⟩
end
def Bt (w:Str):D->Bool
 | .str x=>decide (x=w)
 | _=>false
def dJ (w:Str) (c:Int):D->Bool
 | .tuple (e::es)=>decide ((((e::es).length:Nat):Int)=c)&&Bt w e
 | _=>false
def Ag (ds:List D) (P:D->Prop):Prop:=∃ d w c,ds=[d,.str w,.int c]/\1<=c/\P (.bool (dJ w c d))
theorem at0 {x:D}{r:List D}:atI (x::r) 0=some x:=by
 have:atI (x::r) ((0:Nat):Int)=some x:=cj rfl
 exact this
def vV (n:Int) (d:D):Prop:=d=.none\/d=.int 7\/d=.tuple [.str "tie",.int 0,.list [.int 0]]\/∃ c:Int,0<=c/\c<n/\(d=.tuple [.str "apart",.list [.int c]]\/d=.tuple [.str "ways",.tuple [.list [.int c],.list []],.tuple [.list [.int c],.list []]])
def Vr (ds:List D) (_:D->Prop):Prop:=∃ d,ds=[d]/\False
def K7 (ds:List D) (_:D->Prop):Prop:=∃ d e,ds=[d,e]/\False
def Qq (ds:List D) (P:D->Prop):Prop:=∃ n us a b c,ds=[aA n us,.int a,.int b,.list [.int c]]/\0<=c/\c<n/\a≠b/\P (.bool false)
def Vs (ds:List D) (P:D->Prop):Prop:=∃ n us a b c,ds=[aA n us,.int a,.int b,.tuple [.list [.int c],.list []]]/\0<=c/\c<n/\a≠b/\P (.bool false)
def Qp (ds:List D) (P:D->Prop):Prop:=∃ n us a b c,ds=[aA n us,.int a,.int b,.tuple [.list [.int c],.list []]]/\0<=c/\c<n/\0<=a/\a<n/\0<=b/\b<n/\a≠b/\P (.bool false)
def FN (ds:List D) (P:D->Prop):Prop:=∃ c l,ds=[.list [.int c],iD l]/\∀ x:Bool,P (.bool x)
def f2W (ds:List D) (P:D->Prop):Prop:=∃ n us a b d,ds=[aA n us,.int a,.int b,d]/\0<=a/\a<n/\0<=b/\b<n/\a≠b/\vV n d/\P (.bool false)
def vG (ds:List D) (P:D->Prop):Prop:=∃ n us a b d,ds=[aA n us,.int a,.int b,d]/\1<=n/\n<=30/\us.length<=50/\OkN n us/\0<=a/\a<n/\0<=b/\b<n/\a≠b/\vV n d/\∀ x:Bool,P (.bool x)
def O7 (CN:Addr):FX:=fun ds P R=>∃ n us d e t,ds=[aA n us,d,e,t]/\1<=n/\n<=30/\us.length<=50/\OkN n us/\vV n t/\((qe n d e/\R (.ref CN))\/(Two n d e/\∀ x:D,P x))
theorem Dd (c:Int):dJ "ways" 3 (.tuple [.str "apart",.list [.int c]])=false:=by
 show (decide (((2:Nat):Int)=3)&&Bt "ways" (.str "apart"))=false
 rfl
theorem Ho (c:Int):dJ "ways" 3 (.tuple [.str "ways",.tuple [.list [.int c],.list []],.tuple [.list [.int c],.list []]])=true:=by
 show (decide (((3:Nat):Int)=3)&&decide (("ways":Str)="ways"))=true
 rw [decide_eq_true (rfl:("ways":Str)="ways")]
 rfl
section
variable {P:Program}{w:World}{K:Ü}{mg:Str->Option Value}{base:Heap}{f:Addr}{fd:FuncData}{CN:Addr}
theorem pR:FnScope ["thing","word","count"] ["thing","word","count"] (ak (top 51)):=zC
theorem zA (F:Fun K "has_form" "has_form" (top 51) f fd) (B:Ģ mg) (m_str:mg "str"=none):FnOk P w K mg base CX0 1 f fd ["thing","word","count"] (spD Ag):=by
 refine F.ok pR Ē (fun cdv A outer s H vs Q E hr h=>?_)
 have nd:=pR.nd
 refine⟨_,ë (Ç (þ (Wr.wpt (Wr.dD (Ĺ (Ħ (Wr.bU kit_tuple B.isinstance (Ã 0) (Wr.wty rfl B.tuple boot_tuple)))) (Wr.cY (Wr.jN hr.units (Wr.eO B.len (À (Ã 0) Á)) (Ã 2))))) (Ð (Ø Ō)) â)
  (Ð (Ø (ż (Wr.bU Oi B.isinstance (Ï (Ã 0) Å) (Wr.wty rfl m_str Dl.boot_str)) (Wr.cR (Wr.fL hr.units (Ï (Ã 0) Å) (Ã 1))))))),aK h ?_⟩
 rintro ds P ⟨d,w,c,rfl,c1,q⟩
 refine⟨[aD d,.im (.str w),.im (.int c)],rfl,?_⟩
 cases d with
 | tuple es =>
  rcases aO (.tuple es) with e | e
  all_goals
   rw [e]
   show if (!decide (((es.length:Nat):Int)=c))=true then _ else _
   by_cases h:((es.length:Nat):Int)=c
   ·rw [decide_eq_true h]
    refine aL ?_
    match es,h,q with
    | [],h,q=>exact absurd h (by show ¬ (0:Int)=c; omega)
    | x::r,h,q =>
     have a0:=at0 (x:=x) (r:=r)
     have q:P (.bool (decide ((((x::r).length:Nat):Int)=c)&&Bt w x)):=q
     rw [decide_eq_true h,Bool.true_and] at q
     refine⟨x,a0,?_⟩
     cases x with
     | str s=>exact aG (B:=True) ⟨.str s,a0,rfl,q⟩
     | _=>exact aL (A:=True) ⟨rfl,q⟩
   ·rw [decide_eq_false h]
    refine aG ⟨rfl,?_⟩
    match es,h,q with
    | [],h,q=>exact q
    | x::r,h,q =>
     have q:P (.bool (decide ((((x::r).length:Nat):Int)=c)&&Bt w x)):=q
     rw [decide_eq_false h,Bool.false_and] at q
     exact q
 | _=>exact aG (B:=True) ⟨rfl,q⟩
theorem dG:FnScope ["web","a","b","thing"] ["web","a","b","thing"] (ak (top 26)):=zC
theorem iJ:(["place","web","a","b","thing"]:List Str).Nodup:=by decide +kernel
theorem jU (F:Fun K "is_row_of_places" "is_row_of_places" (top 26) f fd) (B:Ģ mg) (m_set:mg "set"=none) (C_is_place:ì P w K mg base 3 "is_place" ["web","thing"] (spD FP)):FnOk P w K mg base CX0 4 f fd ["web","a","b","thing"] (spD Qq):=by
 refine F.ok dG Ē (fun cdv A outer s H vs Q E hr h=>?_)
 have nd:=dG.nd
 refine⟨_,ë (Ç (þ (Wr.wpt (Wr.dD (Ĺ (Ħ (Wr.bU tM B.isinstance (Ã 3) (Wr.wty rfl B.list boot_list)))) (Wr.cY (Ĺ (Wr.qP (Ã 3)))))) (Ð (Ø Ō)) â)
  (Ç (þ (Ĺ (Ħ (Wr.oE rfl B.all Dl.boot_all (À (Ř ["place"] rfl (Ė (Ã 3)) (fun c=>(á (i:=0) iJ rfl zQ)) (fun c=>ŵ) (fun c=>(ā C_is_place hr (À (Ã 1) (À (Ã 0) Á))))) Á)))) (Ð (Ø Ō)) â)
  (Ð (Ø (ż (Wr.fL hr.units (Ï (Ã 3) Å) (Ã 1)) (ż (Wr.fL hr.units (Ï (Ã 3) (Wr.jg Å)) (Ã 2)) (Wr.cR (Wr.fL hr.units (Wr.ou rfl m_set B.len (À (Ã 3) Á)) (Wr.eO B.len (À (Ã 3) Á)))))))))),aK h ?_⟩
 rintro ds P ⟨n,us,a,b,c,rfl,c0,c1,ne,q⟩
 refine⟨[.im (aA n us),.im (.int a),.im (.int b),.sh (.list [.int c])],by show [aD (aA n us),.im (.int a),.im (.int b),.sh (.list [.int c])]=_; rw [ĩ],?_⟩
 have hb:bW n (.int c)=true:=decide_eq_true ⟨c0,c1⟩
 refine aL (A:=True) (aL (A:=True) (G6 [.int c] (fun d=>d) (fun d=>.bool (bW n d)) .imm rfl zK (fun d hd A B hA=>?_) ?_))
 ·obtain rfl:=Í.mp hd
  exact aG (B:=True) ⟨n,us,.int c,rfl,rfl,hA⟩
 refine⟨[true],by show [PyData.bool (bW n (.int c))]=_; rw [hb]; rfl,aL (A:=True) ?_⟩
 refine⟨.int c,rfl,?_⟩
 show if decide (c=a)=true then _ else _
 by_cases h:c=a
 ·rw [decide_eq_true h]
  refine aG (B:=True) ⟨.int c,rfl,?_⟩
  show if decide (c=b)=true then _ else _
  rw [decide_eq_false fun z=>ne (h.symm.trans z)]
  exact aL (A:=True) ⟨rfl,q⟩
 ·rw [decide_eq_false h]
  exact aL (A:=True) ⟨rfl,q⟩
theorem d9:FnScope ["web","a","b","thing"] ["web","a","b","thing"] (ak (top 27)):=zC
theorem jj:(["number","web","a","b","thing"]:List Str).Nodup:=by decide +kernel
theorem kY (F:Fun K "has_form_of_way" "has_form_of_way" (top 27) f fd) (B:Ģ mg) (C_is_row_of_places:ì P w K mg base 4 "is_row_of_places" ["web","a","b","thing"] (spD Qq)) (C_is_tie_number:ì P w K mg base 3 "is_tie_number" ["web","thing"] (spD K8)):FnOk P w K mg base CX0 5 f fd ["web","a","b","thing"] (spD Vs):=by
 refine F.ok d9 Ē (fun cdv A outer s H vs Q E hr h=>?_)
 have nd:=d9.nd
 refine⟨_,ë (Ç (þ (Wr.wpt (Wr.dD (Ĺ (Ħ (Wr.bU kit_tuple B.isinstance (Ã 3) (Wr.wty rfl B.tuple boot_tuple)))) (Wr.cY (Wr.jN hr.units (Wr.eO B.len (À (Ã 3) Á)) Å)))) (Ð (Ø Ō)) â)
  (Ç (þ (Wr.wpt (Wr.dD (Ĺ (Ħ (ā C_is_row_of_places hr (À (Ã 0) (À (Ã 1) (À (Ã 2) (À (Ï (Ã 3) Å) Á))))))) (Wr.cY (Ĺ (Ħ (Wr.bU tM B.isinstance (Ï (Ã 3) Å) (Wr.wty rfl B.list boot_list))))))) (Ð (Ø Ō)) â)
  (Ð (Ø (ż (Wr.fL hr.units (Wr.eO B.len (À (Ï (Ã 3) Å) Á)) (Wr.gQ (Wr.eO B.len (À (Ï (Ã 3) Å) Á)) Å)) (Wr.cR (Wr.oE rfl B.all Dl.boot_all (À (Ř ["number"] rfl (Ė (Ï (Ã 3) Å)) (fun c=>(á (i:=0) jj rfl zQ)) (fun c=>ŵ) (fun c=>(ā C_is_tie_number hr (À (Ã 1) (À (Ã 0) Á))))) Á)))))))),aK h ?_⟩
 rintro ds P ⟨n,us,a,b,c,rfl,c0,c1,ne,q⟩
 refine⟨[.im (aA n us),.im (.int a),.im (.int b),.sh (.tuple [.list [.int c],.list []])],by show [aD (aA n us),.im (.int a),.im (.int b),.sh (.tuple [.list [.int c],.list []])]=_; rw [ĩ],?_⟩
 exact aL (A:=True) (aL (A:=True) ⟨.list [.int c],rfl,n,us,a,b,c,rfl,c0,c1,ne,aG (B:=True) ⟨rfl,q⟩⟩)
theorem Ep:FnScope ["places"] ["places"] (ak (top 28)):=zC
theorem NK (F:Fun K "hops" "hops" (top 28) f fd) (B:Ģ mg) (m_zip:mg "zip"=none):FnOk P w K mg base CX0 1 f fd ["places"] (spD Vr):=by
 refine F.ok Ep Ē (fun cdv A outer s H vs Q E hr h=>?_)
 have nd:=Ep.nd
 refine⟨_,ë (Ð (Ø (Wr.kJ rfl B.list m_zip (À (Wr.u5 (Ã 0) Wr.rm (Wr.fJ (Wr.jg Å))) (À (Wr.u5 (Ã 0) (Wr.fJ Å) Wr.rm) Á))))),aK h ?_⟩
 rintro ds P ⟨_,_,h⟩
 exact h.elim
theorem uV:FnScope ["web","a","b","thing"] ["web","a","b","thing"] (ak (top 29)):=zC
theorem pX:(["hop","number","web","a","b","thing"]:List Str).Nodup:=by decide +kernel
theorem GQ (F:Fun K "is_way" "is_way" (top 29) f fd) (B:Ģ mg) (m_zip:mg "zip"=none) (C_check_place:Dl.Cal1 P w K mg base 4 "check_place" ["web","thing"] (spX (La CN))) (C_has_form_of_way:ì P w K mg base 5 "has_form_of_way" ["web","a","b","thing"] (spD Vs)) (C_hops:ì P w K mg base 1 "hops" ["places"] (spD Vr)):FnOk P w K mg base CX0 6 f fd ["web","a","b","thing"] (spD Qp):=by
 refine F.ok uV Ē (fun cdv A outer s H vs Q E hr h=>?_)
 have nd:=uV.nd
 refine⟨_,ë (Ç (š (Wr.dcF C_check_place hr (À (Ã 0) (À (Ã 1) Á))))
  (Ç (š (Wr.dcF C_check_place hr (À (Ã 0) (À (Ã 2) Á))))
  (Ç (þ (Ĺ (Ħ (ā C_has_form_of_way hr (À (Ã 0) (À (Ã 1) (À (Ã 2) (À (Ã 3) Á))))))) (Ð (Ø Ō)) â)
  (Ð (Ø (Wr.oE rfl B.all Dl.boot_all (À (Ř ["hop","number"] rfl (Wr.Ds m_zip (À (ā C_hops hr (À (Ï (Ã 3) Å) Á)) (À (Ï (Ã 3) Å) Á))) (fun c=>(Wr.eX (n:=2) rfl (ē (á (i:=0) pX rfl zQ) (ē (á (i:=1) pX rfl zQ) Ŷ)))) (fun c=>ŵ) (fun c=>(Wr.fL hr.units (Ï (Ï (Ã 2) Å) (Ã 1)) (ï (À (Wr.wV rfl B.min (À (Ã 0) Á)) (À (Wr.wW rfl B.max (À (Ã 0) Á)) Á)))))) Á))))))),aK h ?_⟩
 rintro ds P ⟨n,us,a,b,c,rfl,c0,c1,a0,a1,b0,b1,ne,q⟩
 refine⟨[.im (aA n us),.im (.int a),.im (.int b),.sh (.tuple [.list [.int c],.list []])],by show [aD (aA n us),.im (.int a),.im (.int b),.sh (.tuple [.list [.int c],.list []])]=_; rw [ĩ],?_⟩
 exact⟨n,us,.int a,rfl,.inr ⟨decide_eq_true ⟨a0,a1⟩,n,us,.int b,rfl,.inr ⟨decide_eq_true ⟨b0,b1⟩,n,us,a,b,c,rfl,c0,c1,ne,aG (B:=True) ⟨rfl,q⟩⟩⟩⟩
theorem iV:FnScope ["thing","some"] ["thing","some"] (ak (top 52)):=zC
theorem oV:(["place","thing","some"]:List Str).Nodup:=by decide +kernel
theorem sY (F:Fun K "is_same_set" "is_same_set" (top 52) f fd) (B:Ģ mg) (C_is_whole:ì P w K mg base 1 "is_whole" ["thing"] (spD Dg)):FnOk P w K mg base CX0 2 f fd ["thing","some"] (spD FN):=by
 refine F.ok iV Ē (fun cdv A outer s H vs Q E hr h=>?_)
 have nd:=iV.nd
 refine⟨_,ë (Ð (Ø (ż (Wr.bU tM B.isinstance (Ã 0) (Wr.wty rfl B.list boot_list)) (ż (Wr.oE rfl B.all Dl.boot_all (À (Ř ["place"] rfl (Ė (Ã 0)) (fun c=>(á (i:=0) oV rfl zQ)) (fun c=>ŵ) (fun c=>(ā C_is_whole hr (À (Ã 0) Á)))) Á)) (Wr.cR (Wr.fL hr.units (Ã 0) (Ã 1))))))),aK h ?_⟩
 rintro ds P ⟨c,l,rfl,q⟩
 refine⟨[.sh (.list [.int c]),.sh (iD l)],rfl,?_⟩
 refine aG (B:=True) (G6 [.int c] (fun d=>d) (fun _=>.bool true) .imm rfl zK (fun d hd A B hA=>?_) ?_)
 ·obtain rfl:=Í.mp hd
  exact aG (B:=True) ⟨.int c,rfl,rfl,hA⟩
 exact⟨[true],rfl,aG (B:=True) ⟨rfl,U0 l,rfl,q _⟩⟩
theorem yQ:FnScope ["one","other"] ["one","other"] (ak (top 53)):=zC
theorem Cv:(["number","one","other"]:List Str).Nodup:=by decide +kernel
theorem J0 (F:Fun K "share" "share" (top 53) f fd) (B:Ģ mg) (m_any:mg "any"=none):FnOk P w K mg base CX0 1 f fd ["one","other"] (spD K7):=by
 refine F.ok yQ Ē (fun cdv A outer s H vs Q E hr h=>?_)
 have nd:=yQ.nd
 refine⟨_,ë (Ð (Ø (Wr.Ci rfl m_any (À (Ř ["number"] rfl (Ė (Ã 0)) (fun c=>(á (i:=0) Cv rfl zQ)) (fun c=>ŵ) (fun c=>(Wr.zf hr.units (Ã 0) (Ã 2)))) Á)))),aK h ?_⟩
 rintro ds P ⟨_,_,_,h⟩
 exact h.elim
theorem iT:FnScope ["web","a","b","thing"] ["web","a","b","thing"] (ak (top 54)):=zC
theorem sX (F:Fun K "is_two_ways" "is_two_ways" (top 54) f fd) (B:Ģ mg) (C_has_form:ì P w K mg base 1 "has_form" ["thing","word","count"] (spD Ag)) (C_is_way:ì P w K mg base 6 "is_way" ["web","a","b","thing"] (spD Qp)) (C_share:ì P w K mg base 1 "share" ["one","other"] (spD K7)):FnOk P w K mg base CX0 7 f fd ["web","a","b","thing"] (spD f2W):=by
 refine F.ok iT Ē (fun cdv A outer s H vs Q E hr h=>?_)
 have nd:=iT.nd
 refine⟨_,ë (Ç (þ (Ĺ (Ħ (ā C_has_form hr (À (Ã 3) (À Ũ (À Å Á)))))) (Ð (Ø Ō)) â)
  (Ç (þ (Wr.wpt (Wr.dD (Ĺ (Ħ (ā C_is_way hr (À (Ã 0) (À (Ã 1) (À (Ã 2) (À (Ï (Ã 3) Å) Á))))))) (Wr.cY (Ĺ (Ħ (ā C_is_way hr (À (Ã 0) (À (Ã 1) (À (Ã 2) (À (Ï (Ã 3) Å) Á)))))))))) (Ð (Ø Ō)) â)
  (Ð (Ø (Wr.sH (ā C_share hr (À (Ï (Ï (Ã 3) Å) Å) (À (Ï (Ï (Ã 3) Å) Å) Á)))))))),aK h ?_⟩
 rintro ds P ⟨n,us,a,b,d,rfl,a0,a1,b0,b1,ne,sh,q⟩
 refine⟨[.im (aA n us),.im (.int a),.im (.int b),aD d],by show [aD (aA n us),.im (.int a),.im (.int b),aD d]=_; rw [ĩ],?_⟩
 rcases sh with rfl | rfl | rfl | ⟨c,c0,c1,rfl | rfl⟩
 ·exact⟨_,"ways",3,rfl,by decide,aG (B:=True) ⟨rfl,q⟩⟩
 ·exact⟨_,"ways",3,rfl,by decide,aG (B:=True) ⟨rfl,q⟩⟩
 ·refine⟨_,"ways",3,rfl,by decide,?_⟩
  show if (!dJ "ways" 3 (.tuple [.str "tie",.int 0,.list [.int 0]]))=true then _ else _
  rw [show dJ "ways" 3 (.tuple [.str "tie",.int 0,.list [.int 0]])=false by decide +kernel]
  exact aG (B:=True) ⟨rfl,q⟩
 ·refine⟨_,"ways",3,rfl,by decide,?_⟩
  show if (!dJ "ways" 3 (.tuple [.str "apart",.list [.int c]]))=true then _ else _
  rw [Dd c]
  exact aG (B:=True) ⟨rfl,q⟩
 ·refine⟨_,"ways",3,rfl,by decide,?_⟩
  show if (!dJ "ways" 3 (.tuple [.str "ways",.tuple [.list [.int c],.list []],.tuple [.list [.int c],.list []]]))=true then _ else _
  rw [Ho c]
  exact aL (A:=True) ⟨.tuple [.list [.int c],.list []],rfl,n,us,a,b,c,rfl,c0,c1,a0,a1,b0,b1,ne,aG (B:=True) (aG (B:=True) ⟨rfl,q⟩)⟩
theorem iB:FnScope ["one","other"] ["one","other"] (ak (top 55)):=zC
theorem qu (F:Fun K "meet_nowhere" "meet_nowhere" (top 55) f fd) (B:Ģ mg) (C_share:ì P w K mg base 1 "share" ["one","other"] (spD K7)):FnOk P w K mg base CX0 2 f fd ["one","other"] (spD K7):=by
 refine F.ok iB Ē (fun cdv A outer s H vs Q E hr h=>?_)
 have nd:=iB.nd
 refine⟨_,ë (Ð (Ø (Wr.sH (ā C_share hr (À (Wr.u5 (Ï (Ã 0) Å) (Wr.fJ Å) (Wr.fJ (Wr.jg Å))) (À (Wr.u5 (Ï (Ã 1) Å) (Wr.fJ Å) (Wr.fJ (Wr.jg Å))) Á)))))),aK h ?_⟩
 rintro ds P ⟨_,_,_,h⟩
 exact h.elim
end
theorem Tc:dJ "tie" 3 (.tuple [.str "tie",.int 0,.list [.int 0]])=true:=by decide +kernel
theorem K3 (c:Int):dJ "tie" 3 (.tuple [.str "apart",.list [.int c]])=false:=by
 show (decide (((2:Nat):Int)=3)&&Bt "tie" (.str "apart"))=false
 rfl
theorem KZ (x y:D):dJ "tie" 3 (.tuple [.str "ways",x,y])=false:=by
 show (decide (((3:Nat):Int)=3)&&decide (("ways":Str)="tie"))=false
 rw [decide_eq_false (by decide +kernel:¬ ("ways":Str)="tie")]
 rfl
theorem O1:dJ "place" 3 (.tuple [.str "tie",.int 0,.list [.int 0]])=false:=by decide +kernel
theorem O2 (c:Int):dJ "place" 3 (.tuple [.str "apart",.list [.int c]])=false:=by
 show (decide (((2:Nat):Int)=3)&&Bt "place" (.str "apart"))=false
 rfl
theorem OJ (x y:D):dJ "place" 3 (.tuple [.str "ways",x,y])=false:=by
 show (decide (((3:Nat):Int)=3)&&decide (("ways":Str)="place"))=false
 rw [decide_eq_false (by decide +kernel:¬ ("ways":Str)="place")]
 rfl
theorem O5:dJ "apart" 2 (.tuple [.str "tie",.int 0,.list [.int 0]])=false:=by decide +kernel
theorem O6 (c:Int):dJ "apart" 2 (.tuple [.str "apart",.list [.int c]])=true:=by
 show (decide (((2:Nat):Int)=2)&&decide (("apart":Str)="apart"))=true
 rw [decide_eq_true (rfl:("apart":Str)="apart")]
 rfl
theorem O4 (x y:D):dJ "apart" 2 (.tuple [.str "ways",x,y])=false:=by
 show (decide (((3:Nat):Int)=2)&&Bt "apart" (.str "ways"))=false
 rfl
section
variable {P:Program}{w:World}{K:Ü}{mg:Str->Option Value}{base:Heap}{f:Addr}{fd:FuncData}{CN:Addr}
theorem pQ:FnScope ["web","a","b","thing","side"] ["web","a","b","thing"] (ak (top 56)):=zC
theorem zy (F:Fun K "is_apart" "is_apart" (top 56) f fd) (B:Ģ mg) (C_part_of:ì P w K mg base 2 "part_of" ["web","place"] (spD pZ)) (C_is_same_set:ì P w K mg base 2 "is_same_set" ["thing","some"] (spD FN)) (C_has_form:ì P w K mg base 1 "has_form" ["thing","word","count"] (spD Ag)):FnOk P w K mg base CX0 3 f fd ["web","a","b","thing"] (spD vG):=by
 refine F.ok pQ Ē (fun cdv A outer s H vs Q E hr h=>?_)
 have nd:=pQ.nd
 refine⟨_,ë (Ç (é none (i:=4) nd rfl zQ (ā C_part_of hr (À (Ã 0) (À (Ã 1) Á))))
  (Ð (Ø (ż (ā C_has_form hr (À (Ã 3) (À Ũ (À Å Á)))) (ż (Wr.jf hr.units (Ã 2) (Ã 4)) (Wr.cR (ā C_is_same_set hr (À (Ï (Ã 3) Å) (À (Ã 4) Á))))))))),aK h ?_⟩
 rintro ds P ⟨n,us,a,b,d,rfl,n1,n30,lu,ok,a0,a1,b0,b1,ne,sh,q⟩
 refine⟨[.im (aA n us),.im (.int a),.im (.int b),aD d,.any],by show [aD (aA n us),.im (.int a),.im (.int b),aD d,.any]=_; rw [ĩ],?_⟩
 rcases sh with rfl | rfl | rfl | ⟨c,c0,c1,rfl | rfl⟩
 ·exact⟨n,us,a,rfl,by omega,by omega,by omega,ok,a0,a1,_,"apart",2,rfl,by decide,aL (A:=True) ⟨rfl,q _⟩⟩
 ·exact⟨n,us,a,rfl,by omega,by omega,by omega,ok,a0,a1,_,"apart",2,rfl,by decide,aL (A:=True) ⟨rfl,q _⟩⟩
 ·refine⟨n,us,a,rfl,by omega,by omega,by omega,ok,a0,a1,_,"apart",2,rfl,by decide,?_⟩
  rw [O5]
  exact aL (A:=True) ⟨rfl,q _⟩
 ·refine⟨n,us,a,rfl,by omega,by omega,by omega,ok,a0,a1,_,"apart",2,rfl,by decide,?_⟩
  rw [O6]
  refine aG (B:=True) ⟨rfl,bF _,?_⟩
  show if (!(((rsI (adj us [] []) n.toNat a).map È).any fun e=>ò e (.int b)))=true then _ else _
  exact eV (fun _=>⟨.list [.int c],rfl,c,_,rfl,fun x=>⟨rfl,q x⟩⟩) (fun _=>⟨rfl,q _⟩)
 ·refine⟨n,us,a,rfl,by omega,by omega,by omega,ok,a0,a1,_,"apart",2,rfl,by decide,?_⟩
  rw [O4]
  exact aL (A:=True) ⟨rfl,q _⟩
theorem fj:FnScope ["web","a","b","thing","side"] ["web","a","b","thing"] (ak (top 57)):=zC
theorem lY (F:Fun K "is_parting_tie" "is_parting_tie" (top 57) f fd) (B:Ģ mg) (C_part_of:ì P w K mg base 2 "part_of" ["web","place"] (spD pZ)) (C_is_tie_number:ì P w K mg base 3 "is_tie_number" ["web","thing"] (spD K8)) (C_has_form:ì P w K mg base 1 "has_form" ["thing","word","count"] (spD Ag)) (C_without_ties:ì P w K mg base 1 "without_ties" ["web","numbers"] (spD fWo)) (C_is_same_set:ì P w K mg base 2 "is_same_set" ["thing","some"] (spD FN)):FnOk P w K mg base CX0 4 f fd ["web","a","b","thing"] (spD vG):=by
 refine F.ok fj Ē (fun cdv A outer s H vs Q E hr h=>?_)
 have nd:=fj.nd
 refine⟨_,ë (Ç (þ (Wr.wpt (Wr.dD (Ĺ (Ħ (ā C_has_form hr (À (Ã 3) (À Ũ (À Å Á)))))) (Wr.dD (Ĺ (Ħ (ā C_is_tie_number hr (À (Ã 0) (À (Ï (Ã 3) Å) Á))))) (Wr.cY (ĸ hr.units (Ã 2) (ā C_part_of hr (À (Ã 0) (À (Ã 1) Á)))))))) (Ð (Ø Ō)) â)
  (Ç (é none (i:=4) nd rfl zQ (ā C_part_of hr (À (ā C_without_ties hr (À (Ã 0) (À (ğ (À (Ï (Ã 3) Å) Á)) Á))) (À (Ã 1) Á))))
  (Ð (Ø (ż (Wr.jf hr.units (Ã 2) (Ã 4)) (Wr.cR (ā C_is_same_set hr (À (Ï (Ã 3) Å) (À (Ã 4) Á))))))))),aK h ?_⟩
 rintro ds P ⟨n,us,a,b,d,rfl,n1,n30,lu,ok,a0,a1,b0,b1,ne,sh,q⟩
 refine⟨[.im (aA n us),.im (.int a),.im (.int b),aD d,.any],by show [aD (aA n us),.im (.int a),.im (.int b),aD d,.any]=_; rw [ĩ],?_⟩
 rcases sh with rfl | rfl | rfl | ⟨c,c0,c1,rfl | rfl⟩
 ·exact⟨_,"tie",3,rfl,by decide,aG (B:=True) (aG (B:=True) ⟨rfl,q _⟩)⟩
 ·exact⟨_,"tie",3,rfl,by decide,aG (B:=True) (aG (B:=True) ⟨rfl,q _⟩)⟩
 ·refine⟨_,"tie",3,rfl,by decide,?_⟩
  rw [Tc]
  refine aL (A:=True) ⟨.int 0,rfl,n,us,.int 0,rfl,?_⟩
  show if (!bW ((us.length:Nat):Int) (.int 0))=true then _ else _
  refine eV (fun _=>aG (B:=True) ⟨rfl,q _⟩) (fun _=>?_)
  refine⟨n,us,a,rfl,by omega,by omega,by omega,ok,a0,a1,rfl,bF _,?_⟩
  show if (!(((rsI (adj us [] []) n.toNat a).map È).any fun e=>ò e (.int b)))=true then _ else _
  refine eV (fun _=>⟨rfl,q _⟩) (fun _=>?_)
  have lw:=Ig us [0]
  refine⟨.int 0,rfl,zK,n,us,[0],rfl,by omega,n,wo us [0],a,rfl,by omega,by omega,by omega,PJ ok,a0,a1,rfl,bF _,?_⟩
  show if (!(((rsI (adj (wo us [0]) [] []) n.toNat a).map È).any fun e=>ò e (.int b)))=true then _ else _
  exact eV (fun _=>⟨.list [.int 0],rfl,0,_,rfl,fun x=>⟨rfl,q x⟩⟩) (fun _=>⟨rfl,q _⟩)
 ·refine⟨_,"tie",3,rfl,by decide,?_⟩
  rw [K3]
  exact aG (B:=True) (aG (B:=True) ⟨rfl,q _⟩)
 ·refine⟨_,"tie",3,rfl,by decide,?_⟩
  rw [KZ]
  exact aG (B:=True) (aG (B:=True) ⟨rfl,q _⟩)
theorem dH:FnScope ["web","a","b","thing","side"] ["web","a","b","thing"] (ak (top 58)):=zC
theorem jV (F:Fun K "is_parting_place" "is_parting_place" (top 58) f fd) (B:Ģ mg) (C_part_of:ì P w K mg base 2 "part_of" ["web","place"] (spD pZ)) (C_is_place:ì P w K mg base 3 "is_place" ["web","thing"] (spD FP)) (C_has_form:ì P w K mg base 1 "has_form" ["thing","word","count"] (spD Ag)) (C_side_without:ì P w K mg base 6 "side_without" ["web","v","a"] (spD fSW)) (C_is_same_set:ì P w K mg base 2 "is_same_set" ["thing","some"] (spD FN)):FnOk P w K mg base CX0 7 f fd ["web","a","b","thing"] (spD f2W):=by
 refine F.ok dH Ē (fun cdv A outer s H vs Q E hr h=>?_)
 have nd:=dH.nd
 refine⟨_,ë (Ç (þ (Wr.wpt (Wr.dD (Ĺ (Ħ (ā C_has_form hr (À (Ã 3) (À Ũ (À Å Á)))))) (Wr.dD (Ĺ (Ħ (ā C_is_place hr (À (Ã 0) (À (Ï (Ã 3) Å) Á))))) (Wr.cY (ĸ hr.units (Ã 2) (ā C_part_of hr (À (Ã 0) (À (Ã 1) Á)))))))) (Ð (Ø Ō)) â)
  (Ç (þ (Wr.oh hr.units (Ï (Ã 3) Å) (ï (À (Ã 1) (À (Ã 2) Á)))) (Ð (Ø Ō)) â)
  (Ç (é none (i:=4) nd rfl zQ (ā C_side_without hr (À (Ã 0) (À (Ï (Ã 3) Å) (À (Ã 1) Á)))))
  (Ð (Ø (ż (Wr.jf hr.units (Ã 2) (Ã 4)) (Wr.cR (ā C_is_same_set hr (À (Ï (Ã 3) Å) (À (Ã 4) Á)))))))))),aK h ?_⟩
 rintro ds P ⟨n,us,a,b,d,rfl,a0,a1,b0,b1,ne,sh,q⟩
 refine⟨[.im (aA n us),.im (.int a),.im (.int b),aD d,.any],by show [aD (aA n us),.im (.int a),.im (.int b),aD d,.any]=_; rw [ĩ],?_⟩
 rcases sh with rfl | rfl | rfl | ⟨c,c0,c1,rfl | rfl⟩
 ·exact⟨_,"place",3,rfl,by decide,aG (B:=True) (aG (B:=True) ⟨rfl,q⟩)⟩
 ·exact⟨_,"place",3,rfl,by decide,aG (B:=True) (aG (B:=True) ⟨rfl,q⟩)⟩
 ·refine⟨_,"place",3,rfl,by decide,?_⟩
  rw [O1]
  exact aG (B:=True) (aG (B:=True) ⟨rfl,q⟩)
 ·refine⟨_,"place",3,rfl,by decide,?_⟩
  rw [O2]
  exact aG (B:=True) (aG (B:=True) ⟨rfl,q⟩)
 ·refine⟨_,"place",3,rfl,by decide,?_⟩
  rw [OJ]
  exact aG (B:=True) (aG (B:=True) ⟨rfl,q⟩)
theorem fP:FnScope ["web","a","b","thing"] ["web","a","b","thing"] (ak (top 59)):=zC
theorem oG (F:Fun K "shows_by_ties" "shows_by_ties" (top 59) f fd) (B:Ģ mg) (C_check_two_places:Dl.Cal1 P w K mg base 5 "check_two_places" ["web","a","b"] (spX (Ah CN))) (C_is_two_ways:ì P w K mg base 7 "is_two_ways" ["web","a","b","thing"] (spD f2W)) (C_is_apart:ì P w K mg base 3 "is_apart" ["web","a","b","thing"] (spD vG)) (C_is_parting_tie:ì P w K mg base 4 "is_parting_tie" ["web","a","b","thing"] (spD vG)):FnOk P w K mg base (CX1 P w) 8 f fd ["web","a","b","thing"] (spX (O7 CN)):=by
 refine F.ok1 fP gY (fun cdv A outer s H vs Q E hr h=>?_)
 have nd:=fP.nd
 letI:=grX H
 refine⟨_,ë (Ç (š (Wr.dcX (E:=E) C_check_two_places hr (jZ cB) (À (Ã 0) (À (Ã 1) (À (Ã 2) Á)))))
  (Ç (þ (Ħ (ā C_is_two_ways hr (À (Ã 0) (À (Ã 1) (À (Ã 2) (À (Ã 3) Á)))))) (Ð (Ø Ō)) â)
  (Ð (Ø (Wr.JL (ā C_is_parting_tie hr (À (Ã 0) (À (Ã 1) (À (Ã 2) (À (Ã 3) Á))))) (Wr.cR (ā C_is_apart hr (À (Ã 0) (À (Ã 1) (À (Ã 2) (À (Ã 3) Á))))))))))),enterX h ?_ ?mono⟩
 case mono=>exact fun ds P R R' hR ⟨n,us,d,e,t,z,n1,n30,lu,ok,sh,x⟩=>⟨n,us,d,e,t,z,n1,n30,lu,ok,sh,x.imp (fun ⟨a,b⟩=>⟨a,hR _ b⟩) id⟩
 rintro ds P ⟨n,us,d,e,t,rfl,n1,n30,lu,ok,sh,x⟩
 refine⟨[.im (aA n us),aD d,aD e,aD t],by show [aD (aA n us),aD d,aD e,aD t]=_; rw [ĩ],?_⟩
 rcases x with ⟨nt,r⟩ | ⟨⟨a,b,rfl,rfl,a0,a1,b0,b1,ne⟩,q⟩
 ·rcases aO d with z | z <;> rcases aO e with z2 | z2 <;> rw [z,z2] <;> exact⟨n,us,d,e,rfl,.inl ⟨nt,r⟩⟩
 ·refine⟨n,us,.int a,.int b,rfl,.inr ⟨⟨a,b,rfl,rfl,a0,a1,b0,b1,ne⟩,?_⟩⟩
  rcases aO t with z | z
  all_goals
   rw [z]
   refine⟨n,us,a,b,t,rfl,a0,a1,b0,b1,ne,sh,aL (A:=True) ?_⟩
   refine⟨n,us,a,b,t,rfl,n1,n30,lu,ok,a0,a1,b0,b1,ne,sh,fun x=>?_⟩
   cases x with
   | true=>exact aG (B:=True) ⟨rfl,q _⟩
   | false=>exact aL (A:=True) ⟨n,us,a,b,t,rfl,n1,n30,lu,ok,a0,a1,b0,b1,ne,sh,fun y=>⟨rfl,q _⟩⟩
theorem d8:FnScope ["web","a","b","thing"] ["web","a","b","thing"] (ak (top 60)):=zC
theorem kW (F:Fun K "shows_by_places" "shows_by_places" (top 60) f fd) (B:Ģ mg) (C_check_two_places:Dl.Cal1 P w K mg base 5 "check_two_places" ["web","a","b"] (spX (Ah CN))) (C_is_two_ways:ì P w K mg base 7 "is_two_ways" ["web","a","b","thing"] (spD f2W)) (C_meet_nowhere:ì P w K mg base 2 "meet_nowhere" ["one","other"] (spD K7)) (C_is_apart:ì P w K mg base 3 "is_apart" ["web","a","b","thing"] (spD vG)) (C_is_parting_place:ì P w K mg base 7 "is_parting_place" ["web","a","b","thing"] (spD f2W)) (C_parting_place:ì P w K mg base 7 "parting_place" ["web","a","b"] (spD Te)) (C_is_parting_tie:ì P w K mg base 4 "is_parting_tie" ["web","a","b","thing"] (spD vG)):FnOk P w K mg base (CX1 P w) 8 f fd ["web","a","b","thing"] (spX (O7 CN)):=by
 refine F.ok1 d8 gY (fun cdv A outer s H vs Q E hr h=>?_)
 have nd:=d8.nd
 letI:=grX H
 refine⟨_,ë (Ç (š (Wr.dcX (E:=E) C_check_two_places hr (jZ cB) (À (Ã 0) (À (Ã 1) (À (Ã 2) Á)))))
  (Ç (þ (Ħ (ā C_is_two_ways hr (À (Ã 0) (À (Ã 1) (À (Ã 2) (À (Ã 3) Á)))))) (Ð (Ø (ā C_meet_nowhere hr (À (Ï (Ã 3) Å) (À (Ï (Ã 3) Å) Á))))) â)
  (Ç (þ (Wr.wpt (Wr.dD (Ħ (ā C_is_parting_place hr (À (Ã 0) (À (Ã 1) (À (Ã 2) (À (Ã 3) Á)))))) (Wr.cY (Ħ (ā C_is_apart hr (À (Ã 0) (À (Ã 1) (À (Ã 2) (À (Ã 3) Á))))))))) (Ð (Ø Ō)) â)
  (Ð (Ø (ż (ā C_is_parting_tie hr (À (Ã 0) (À (Ã 1) (À (Ã 2) (À (Ã 3) Á))))) (Wr.cR (Wr.Cg (ā C_parting_place hr (À (Ã 0) (À (Ã 1) (À (Ã 2) Á)))) ň)))))))),enterX h ?_ ?mono⟩
 case mono=>exact fun ds P R R' hR ⟨n,us,d,e,t,z,n1,n30,lu,ok,sh,x⟩=>⟨n,us,d,e,t,z,n1,n30,lu,ok,sh,x.imp (fun ⟨a,b⟩=>⟨a,hR _ b⟩) id⟩
 rintro ds P ⟨n,us,d,e,t,rfl,n1,n30,lu,ok,sh,x⟩
 refine⟨[.im (aA n us),aD d,aD e,aD t],by show [aD (aA n us),aD d,aD e,aD t]=_; rw [ĩ],?_⟩
 rcases x with ⟨nt,r⟩ | ⟨⟨a,b,rfl,rfl,a0,a1,b0,b1,ne⟩,q⟩
 ·rcases aO d with z | z <;> rcases aO e with z2 | z2 <;> rw [z,z2] <;> exact⟨n,us,d,e,rfl,.inl ⟨nt,r⟩⟩
 ·refine⟨n,us,.int a,.int b,rfl,.inr ⟨⟨a,b,rfl,rfl,a0,a1,b0,b1,ne⟩,?_⟩⟩
  rcases aO t with z | z
  all_goals
   rw [z]
   refine⟨n,us,a,b,t,rfl,a0,a1,b0,b1,ne,sh,aL (A:=True) ?_⟩
   refine⟨n,us,a,b,t,rfl,a0,a1,b0,b1,ne,sh,aL (A:=True) ?_⟩
   refine⟨n,us,a,b,t,rfl,n1,n30,lu,ok,a0,a1,b0,b1,ne,sh,fun x=>?_⟩
   cases x with
   | true=>exact aG (B:=True) ⟨rfl,q _⟩
   | false =>
    refine aL (A:=True) ⟨n,us,a,b,t,rfl,n1,n30,lu,ok,a0,a1,b0,b1,ne,sh,fun y=>?_⟩
    cases y with
    | false=>exact aL (A:=True) ⟨rfl,q _⟩
    | true =>
     refine aG (B:=True) ⟨n,us,a,b,rfl,n1,by omega,by omega,ok,a0,a1,b0,b1,?_⟩
     exact⟨rfl,q _⟩
end
structure RefN (K:Ü) (mg:Str->Option Value) (CN CF c1 c2 c3 c4 c5 c6 c7 c8 c9:Addr):Prop where
 mF:mg "FallError"=some (.ref CF)
 mN:mg "NoPlace"=some (.ref CN)
 m1:mg "NoBack"=some (.ref c1)
 m2:mg "NoOffers"=some (.ref c2)
 m3:mg "NoOrder"=some (.ref c3)
 m4:mg "NoRow"=some (.ref c4)
 m5:mg "NoSet"=some (.ref c5)
 m6:mg "NoText"=some (.ref c6)
 m7:mg "NoTie"=some (.ref c7)
 m8:mg "NoWeb"=some (.ref c8)
 m9:mg "TooMany"=some (.ref c9)
 mV:mg "ValueError"=none
 exm:W.exmOne K (.ref CN) (.ref CF)=some true
 kx:ExcK K CN
 any:W.kitAny K (.ref CN) [.ref c1,.ref c2,.ref c3,.ref c4,.ref c5,.ref c6,.ref c7,.ref c8,.ref c9]=some false
 one:W.kitOne K (.ref CN) (.ref CN)=some true
 val:W.kitOne K (.ref CN) (.type "ValueError")=some true
theorem qD:bootBuiltins "ValueError"=some (.type "ValueError"):=by decide +kernel
def Lb (CN:Addr):FX:=fun ds P R=>∃ k n us d e t,ds=[.int k,aA n us,d,e,t]/\1<=n/\n<=30/\us.length<=50/\OkN n us/\vV n t/\((qe n d e/\R (.ref CN))\/(Two n d e/\∀ x:D,P x))
def K9 (ds:List D) (P:D->Prop):Prop:=∃ k n us d e t,ds=[.int k,aA n us,d,e,t]/\1<=n/\n<=30/\us.length<=50/\OkN n us/\vV n t/\((qe n d e/\P (.bool true))\/(Two n d e/\P .none))
theorem yU {H:Hp}{a:Addr} (h:H a=none) (o:HO):Same H (upd H a o):=fun b u q=>by rw [aj (ao q h)]; exact q
theorem Io {n:Int}{d e:D} (h:Two n d e) (g:qe n d e):False:=by
 obtain⟨i,j,rfl,rfl,i0,i1,j0,j1,ne⟩:=h
 rcases g with g | g | ⟨k,h1,h2⟩
 ·exact absurd (decide_eq_true (⟨i0,i1⟩:0<=i/\i<n)) (by have g:decide (0<=i/\i<n)=false:=g; rw [g]; decide)
 ·exact absurd (decide_eq_true (⟨j0,j1⟩:0<=j/\j<n)) (by have g:decide (0<=j/\j<n)=false:=g; rw [g]; decide)
 ·cases h1; cases h2; exact ne rfl
theorem R4 (x:D):(norm .new x).le .n0=true:=by
 by_cases hi:bx x=true
 ·rw [aX hi]; rfl
 ·rw [aY hi]; rfl
section
variable {P:Program}{w:World}{K:Ü}{mg:Str->Option Value}{base:Heap}{f:Addr}{fd:FuncData}{CN:Addr}
theorem lJ:FnScope ["_law_sort","_law_web_here","_law_a","_law_b","_law_thing"] ["_law_sort","_law_web_here","_law_a","_law_b","_law_thing"] (ak (top 67)):=zC
theorem w5 (F:Fun K "_law_asked" "_law_asked" (top 67) f fd) (B:Ģ mg) (C_by_ties:Dl.Cal1 P w K mg base 7 "by_ties" ["web","a","b"] (spX (O8 CN))) (C_by_places:Dl.Cal1 P w K mg base 8 "by_places" ["web","a","b"] (spX (O8 CN))) (C_shows_by_ties:Dl.Cal1 P w K mg base 8 "shows_by_ties" ["web","a","b","thing"] (spX (O7 CN))) (C_shows_by_places:Dl.Cal1 P w K mg base 8 "shows_by_places" ["web","a","b","thing"] (spX (O7 CN))):FnOk P w K mg base (CX1 P w) 9 f fd ["_law_sort","_law_web_here","_law_a","_law_b","_law_thing"] (spX (Lb CN)):=by
 refine F.ok1 lJ gY (fun cdv A outer s H vs Q E hr h=>?_)
 have nd:=lJ.nd
 letI:=grX H
 refine⟨_,ë (Ç (þ (Wr.fB hr.units (Ã 0) Å) (Ð (Ø (Wr.dcX (E:=E) C_by_ties hr (jZ cB) (À (Ã 1) (À (Ã 2) (À (Ã 3) Á)))))) â)
  (Ç (þ (Wr.fB hr.units (Ã 0) Å) (Ð (Ø (Wr.dcX (E:=E) C_by_places hr (jZ cB) (À (Ã 1) (À (Ã 2) (À (Ã 3) Á)))))) â)
  (Ç (þ (Wr.fB hr.units (Ã 0) Å) (Ð (Ø (Wr.dcX (E:=E) C_shows_by_ties hr (jZ cB) (À (Ã 1) (À (Ã 2) (À (Ã 3) (À (Ã 4) Á))))))) â)
  (Ð (Ø (Wr.dcX (E:=E) C_shows_by_places hr (jZ cB) (À (Ã 1) (À (Ã 2) (À (Ã 3) (À (Ã 4) Á)))))))))),enterX h ?_ ?mono⟩
 case mono=>exact fun ds P R R' hR ⟨k,n,us,d,e,t,z,n1,n30,lu,ok,sh,x⟩=>⟨k,n,us,d,e,t,z,n1,n30,lu,ok,sh,x.imp (fun ⟨a,b⟩=>⟨a,hR _ b⟩) id⟩
 rintro ds P ⟨k,n,us,d,e,t,rfl,n1,n30,lu,ok,sh,x⟩
 refine⟨[.im (.int k),.im (aA n us),aD d,aD e,aD t],by show [aD (.int k),aD (aA n us),aD d,aD e,aD t]=_; rw [ĩ]; rfl,?_⟩
 have y:=x.imp id fun ⟨tw,q⟩=>(⟨tw,fun x=>⟨R4 x,q x⟩⟩:Two n d e/\∀ x:D,(norm .new x).le .n0=true/\P x)
 rcases aO d with z | z <;> rcases aO e with z2 | z2 <;> rcases aO t with z3 | z3 <;> rw [z,z2,z3]
 all_goals
  refine eV (fun _=>⟨n,us,d,e,rfl,n1,n30,lu,ok,y⟩) fun _=>?_
  refine eV (fun _=>⟨n,us,d,e,rfl,n1,n30,lu,ok,y⟩) fun _=>?_
  refine eV (fun _=>⟨n,us,d,e,t,rfl,n1,n30,lu,ok,sh,y⟩) fun _=>?_
  exact⟨n,us,d,e,t,rfl,n1,n30,lu,ok,sh,y⟩
theorem yS:FnScope ["_law_sort","_law_web_here","_law_a","_law_b","_law_thing","_law_caught","e"] ["_law_sort","_law_web_here","_law_a","_law_b","_law_thing"] (ak (top 68)):=zC
theorem J2 {CF c1 c2 c3 c4 c5 c6 c7 c8 c9:Addr} (F:Fun K "_law_heard" "_law_heard" (top 68) f fd) (B:Ģ mg) (R:RefN K mg CN CF c1 c2 c3 c4 c5 c6 c7 c8 c9) (OB:Dl.Cal1 P w K mg base 9 "_law_asked" ["_law_sort","_law_web_here","_law_a","_law_b","_law_thing"] (spX (Lb CN))):FnOk P w K mg base CX0 10 f fd ["_law_sort","_law_web_here","_law_a","_law_b","_law_thing"] (spD K9):=by
 refine F.ok yS (Ē fun ds P ⟨k,n,us,d,e,t,z,_⟩=>by rw [z]; rfl) (fun cdv A outer s H vs Q E hr h=>?_)
 obtain⟨ds,P',rs,⟨k,n,us,d,e,t,rfl,n1,n30,lu,ok,sh,x⟩,q⟩:=h
 obtain⟨v0,v1,v2,v3,v4,rfl⟩:∃ v0 v1 v2 v3 v4,vs=[v0,v1,v2,v3,v4]:=by
  have:=rs.length
  match vs,this with
  | [a,b,c,d,e],_=>exact⟨a,b,c,d,e,rfl⟩
 have nd:=yS.nd
 obtain⟨f2,fd2,F2,b2,kp2,m2⟩:=OB.ex
 refine⟨_,ŕ (eF (i:=5) nd rfl (Or.inl rfl) wI)
  (ŕ (Rf (E:=fun cls _ H'=>qe n d e/\cls=.ref CN/\Same H H') (j:=6) rfl rfl F2 (hr.mono (by decide)) rfl m2 kp2 b2 (Ĭ (pv 0) (Ĭ (pv 1) (Ĭ (pv 2) (Ĭ (pv 3) (Ĭ (pv 4) cu))))) rfl R.mF (fun cls H' z=>by rw [z.2.1]; exact R.exm) nd rfl rfl (fun ev=>dM (eF (i:=5) nd rfl (Or.inl rfl) (pv 6))))
  (ŕ (uY (jL Cj (pv 5) wI (cA _)) (dM (kE wI)) jM)
  (ŕ (uY (Jp (bQ LC rfl B.isinstance boot_isinstance (Ĭ (pv 5) (Ĭ (Jz (Ĭ (cX (v:=.ref c1) rfl R.m1 rfl) (Ĭ (cX (v:=.ref c2) rfl R.m2 rfl) (Ĭ (cX (v:=.ref c3) rfl R.m3 rfl) (Ĭ (cX (v:=.ref c4) rfl R.m4 rfl) (Ĭ (cX (v:=.ref c5) rfl R.m5 rfl) (Ĭ (cX (v:=.ref c6) rfl R.m6 rfl) (Ĭ (cX (v:=.ref c7) rfl R.m7 rfl) (Ĭ (cX (v:=.ref c8) rfl R.m8 rfl) (Ĭ (cX (v:=.ref c9) rfl R.m9 rfl) cu)))))))))) cu)))) (dM (kE Qd)) jM)
  (dM (kE (JK (bQ vN rfl B.isinstance boot_isinstance (Ĭ (pv 5) (Ĭ (cX (v:=.ref CN) rfl R.mN rfl) cu))) (JC (bQ vN rfl B.isinstance boot_isinstance (Ĭ (pv 5) (Ĭ (qM (v:=.ty "ValueError") rfl R.mV qD rfl) cu)))))))))),?_⟩
 refine⟨_,rfl,_,rfl,_,rfl,_,rfl,_,rfl,⟨_,fun _=>Two n d e,fun c=>qe n d e/\c=.ref CN,rs,⟨k,n,us,d,e,t,rfl,n1,n30,lu,ok,sh,x.imp (fun z=>⟨z.1,z.1,rfl⟩) fun z=>⟨z.1,fun _=>z.1⟩⟩,?_,fun c H' hc sm=>⟨hc.1,hc.2,sm⟩⟩,?_⟩
 ·rintro d' v H' tw sm rp
  have hP:P' .none:=x.elim (fun z=>(Io tw z.1).elim) fun z=>z.2
  refine⟨_,rfl,rfl,true,rfl,aG ?_⟩
  exact q .none .non _ hP sm .non
 ·rintro cls H2 a ⟨nt,rfl,s2⟩ ha
  have hP:P' (.bool true):=x.elim (fun z=>z.2) fun z=>(Io z.1 nt).elim
  have b1:=yU ha (Aj a (.ref CN))
  refine⟨_,rfl,?_⟩
  refine⟨_,rfl,rfl,false,rfl,aL ?_⟩
  have hea:upd H2 a (Aj a (.ref CN)) a=some (Aj a (.ref CN)):=aq
  refine⟨_,rfl,(by show 9<=sizeLine; decide),fun tp htp=>?_⟩
  have b2':=yU htp (.tup [V.ref c1,V.ref c2,V.ref c3,V.ref c4,V.ref c5,V.ref c6,V.ref c7,V.ref c8,V.ref c9])
  have hea:=b2' _ _ hea
  refine⟨a,CN,tp,[c1,c2,c3,c4,c5,c6,c7,c8,c9],false,rfl,hea,R.kx,SqT.of aq,R.any,false,rfl,aL ?_⟩
  refine⟨_,rfl,a,CN,.ref CN,.ref CN,true,rfl,hea,R.kx,R.one,fun u z=>z,true,rfl,aG ?_⟩
  exact⟨_,rfl,a,CN,.ty "ValueError",.type "ValueError",true,rfl,hea,R.kx,R.val,fun u z=>z,q _ _ _ hP (s2.trans (b1.trans b2')) (.bl true)⟩
end
def Qs (ds:List D) (P:D->Prop):Prop:=∃ n:Int,ds=[.int n]/\2<=n/\n<=16/\∀ x y:Int,0<=x->x<n->0<=y->y<n->x≠y->P (.tuple [.int x,.int y])
def mq (n r:Int):List D:=[.int (-1),.int n,.int (n+r),.int ((10:Int) ^ Int.toNat 29),.int (1 - (10:Int) ^ Int.toNat 29),.bool true,.bool false,.none,.str "0",.str "",.list [.int 0],.tuple [.int 0],.dict [],.tuple [],.list [.list []]]
def Vq (ds:List D) (P:D->Prop):Prop:=∃ n:Int,ds=[.int n]/\1<=n/\n<=16/\∀ r:Int,∀ d∈mq n r,bW n d=false->P d
theorem RX {n r:Int} (n1:1<=n) (n16:n<=16) (r0:0<=r) {d:D} (h:d∈mq n r):bW n d=false:=by
 unfold mq at h
 simp only [Þ,æ,or_false] at h
 have no:∀ i:Int,(i<0\/n<=i)->bW n (.int i)=false:=fun i hi=>decide_eq_false fun z=>by omega
 rcases h with rfl | rfl | rfl | rfl | rfl | rfl | rfl | rfl | rfl | rfl | rfl | rfl | rfl | rfl | rfl
 ·exact no _ (.inl (by decide))
 ·exact no _ (.inr (Ļ _))
 ·exact no _ (.inr (by omega))
 ·exact no _ (.inr (Int.le_trans n16 (by decide)))
 ·exact no _ (.inl (by decide))
 all_goals rfl
theorem IW {n a x:Int} (a0:0<=a) (a1:a<n) (x0:0<=x) (x1:x<5):∃ t,atI [.none,.tuple [.str "apart",.list [.int a]],.tuple [.str "ways",.tuple [.list [.int a],.list []],.tuple [.list [.int a],.list []]],.int 7,.tuple [.str "tie",.int 0,.list [.int 0]]] x=some t/\vV n t:=by
 obtain⟨k,rfl⟩:∃ k:Nat,x=(k:Int):=⟨x.toNat,by omega⟩
 match k,(by omega:k<5) with
 | 0,_=>exact⟨_,cj rfl,.inl rfl⟩
 | 1,_=>exact⟨_,cj rfl,.inr (.inr (.inr ⟨a,a0,a1,.inl rfl⟩))⟩
 | 2,_=>exact⟨_,cj rfl,.inr (.inr (.inr ⟨a,a0,a1,.inr rfl⟩))⟩
 | 3,_=>exact⟨_,cj rfl,.inr (.inl rfl)⟩
 | 4,_=>exact⟨_,cj rfl,.inr (.inr (.inl rfl))⟩
theorem xR {k:Kd}{d1 d2:D}{ρ:List Sl}{Q:List Sl->Prop}{i j:Nat} (h:∀ s5 s6,s5=rK (norm (norm k d1) d1) d1->s6=rK (norm (norm k d2) d2) d2->Q ((ρ.set i s5).set j s6)):xT (gNm i) (xT (gNm j) KH) k [d1,d2] ρ Q:=h _ _ rfl rfl
theorem dB {k:Kd}{d:D} (h:bx d=true):rK (norm (norm k d) d) d=.im d:=by
 rw [aX (k:=norm k d) h]
 rfl
theorem NT (n r:Int):¬ bx (.list (mq n r))=true:=by
 show ¬ false=true
 decide
theorem MF {ρ:List Sl}{i:Nat}{k:Kd}{d d':D}{G:Sl->Prop} (hi:¬ bx d'=true) (hk:k=.new) (hd:d=d') (h:G (.sn d')):(match Dl.stK none ρ i (norm k d) d with
  | some s=>G s
  | none=>False):=by
 subst hk hd
 rw [aY hi]
 exact h
theorem QS (x:D):(norm .snw x).le .n0=true:=by
 by_cases hi:bx x=true
 ·rw [aX hi]; rfl
 ·rw [aY hi]; rfl
theorem it1 {a:Int}{d:D} (hi:¬ bx d=true):¬ bx (.tuple [.int a,d])=true:=by
 show ¬ (true&&(bx d&&true))=true
 rw [Bool.true_and,Bool.and_true]
 exact hi
theorem it2 {a:Int}{d:D} (hi:¬ bx d=true):¬ bx (.tuple [d,.int a])=true:=by
 show ¬ (bx d&&(true&&true))=true
 rw [Bool.and_true,Bool.and_true]
 exact hi
theorem it3 {d:D} (hi:¬ bx d=true):¬ bx (.tuple [d,d])=true:=by
 show ¬ (bx d&&(bx d&&true))=true
 rw [Bool.and_true,Bool.and_self]
 exact hi
theorem kd4 {a:Int}{d:D} (hi:¬ bx d=true):(joins [(norm (joins [(Kd.imm,È a),(Kd.imm,È a)]) (.tuple [.int a,.int a]),ŝ [.int a,.int a]),(norm (joins [(Kd.imm,.int a),(Kd.snw,d)]) (.tuple [.int a,d]),.tuple [.int a,d]),(norm (joins [(Kd.snw,d),(Kd.imm,.int a)]) (.tuple [d,.int a]),.tuple [d,.int a]),(norm (joins [(Kd.snw,d),(Kd.snw,d)]) (.tuple [d,d]),.tuple [d,d])]).join Kd.new=.snw:=by
 rw [aY (it1 hi),aY (it2 hi),aY (it3 hi)]
 rfl
theorem lG {k:Kd}{d dm:D} (hk:k=.snw) (hdm:¬ bx dm=true) (hi:¬ bx d=true):rK (norm (norm (norm (elK k) dm) d) d) d=.sn d:=by
 subst hk
 show rK (norm (norm (norm .snw dm) d) d) d=_
 rw [aY hdm,aY hi,aY hi]
 rfl
abbrev R0 (K:Ü):List Sl:=[.any,.pen (CP K),.any,.any,.any,.any,.any,.any,.any,.any]
section
variable {P:Program}{w:World}{K:Ü}{mg:Str->Option Value}{base:Heap}{f:Addr}{fd:FuncData}{CN:Addr}
theorem pL:FnScope ["_law_pen","_law_n","_law_a"] ["_law_pen","_law_n"] (ak (top 65)):=zC
theorem zq (F:Fun K "_law_pair" "_law_pair" (top 65) f fd) (B:Ģ mg) (C__law_take:ì P w K mg base 1 "_law_take" ["_law_pen","_law_many"] (spP (CP K) j8)):FnOk P w K mg base CX0 2 f fd ["_law_pen","_law_n"] (spP (CP K) Qs):=by
 refine F.ok pL mQ (fun cdv A outer s H vs Q E hr h=>?_)
 have nd:=pL.nd
 refine⟨_,ë (Ç (é none (i:=2) nd rfl zQ (Ŗ C__law_take hr (ķ 0) (À (Ã 1) Á)))
  (Ð (Ø (ï (À (Ã 2) (À (Wr.sI (Š (Š (Ã 2) Å) (Ŗ C__law_take hr (ķ 0) (À (Wr.gQ (Ã 1) Å) Á))) (Ã 1)) Á)))))),enterQ h ?_⟩
 rintro ds P ⟨n,rfl,n2,n16,q⟩
 refine⟨[.im (.int n),.any],rfl,?_⟩
 refine⟨rfl,n,rfl,by omega,by omega,fun a a0 a1=>⟨rfl,n - 1,rfl,by omega,by omega,fun b b0 b1=>⟨(show (0:Int)<n by omega),zK,rfl,?_⟩⟩⟩
 have h1:=ť (a+1+b) (b:=n) (by omega)
 have h2:=Œ (a+1+b) (b:=n) (by omega)
 refine q a _ a0 a1 h1 h2 ?_
 by_cases h:a+1+b<n
 ·rw [Int.emod_eq_of_lt (by omega) h]
  omega
 ·rw [← Int.sub_emod_right,Int.emod_eq_of_lt (by omega) (by omega)]
  omega
theorem rQ:FnScope ["_law_pen","_law_n","_law_some"] ["_law_pen","_law_n"] (ak (top 66)):=zC
theorem Cq (F:Fun K "_law_odd" "_law_odd" (top 66) f fd) (B:Ģ mg) (C__law_take:ì P w K mg base 1 "_law_take" ["_law_pen","_law_many"] (spP (CP K) j8)):FnOk P w K mg base CX0 2 f fd ["_law_pen","_law_n"] (spP (CP K) Vq):=by
 refine F.ok rQ mQ (fun cdv A outer s H vs Q E hr h=>?_)
 have nd:=rQ.nd
 refine⟨_,ë (Ç (é none (i:=2) nd rfl zQ (ğ (À (Wr.jg Å) (À (Ã 1) (À (Š (Ã 1) (Ŗ C__law_take hr (ķ 0) (À Å Á))) (À (Wr.wQ Å Å) (À (Wr.gQ Å (Wr.wQ Å Å)) (Wr.wN 10 ["_law_pen","_law_n","_law_some"] (ak (top 66)) (.cons (.bl true) (.cons (.bl false) (.cons .non (.cons (.str "0") (.cons (.str "") (.cons (.lst (.cons (.int 0) .nil)) (.cons (.tup (.cons (.int 0) .nil)) (.cons .dct (.cons (.tup .nil) (.cons (.lst (.cons (.lst .nil) .nil)) .nil)))))))))) Á (by decide +kernel)))))))))
  (Ð (Ø (Ï (Ã 2) (Ŗ C__law_take hr (ķ 0) (À Å Á)))))),enterQ h ?_⟩
 rintro ds P ⟨n,rfl,n1,n16,q⟩
 refine⟨[.im (.int n),.any],rfl,?_⟩
 refine⟨rfl,90,rfl,by decide,by decide,fun r r0 r1=>?_⟩
 refine⟨⟨by decide,by decide,by decide⟩,⟨by decide,by decide,by decide⟩,_,rfl,zK,?_⟩
 refine MF (ρ:=[.pen (CP K),.im (.int n),.any]) (i:=2) (G:=fun s=>Aq (t2 gIx (tV 2) (Bs (CP K) j8 0 (bD (tK (È 15)) gJ))) { nx:=fun _=>P PyData.none,rt:=P } [Sl.pen (CP K),Sl.im (È n),s]) (NT n r) rfl rfl ?_
 refine⟨rfl,15,rfl,by decide,by decide,fun z z0 z1=>?_⟩
 have hk:z.toNat<(mq n r).length:=by show z.toNat<15; omega
 have hz:atI (mq n r) z=some (mq n r)[z.toNat]:=by
  have:atI (mq n r) ((z.toNat:Nat):Int)=some (mq n r)[z.toNat]:=cj (Ó hk)
  rw [show ((z.toNat:Nat):Int)=z by omega] at this
  exact this
 have hm:=ŏ hk
 exact⟨_,hz,QS _,q r _ hm (RX n1 n16 r0 hm)⟩
theorem Jb:FnScope ["_law_script","_law_pen","_law_turn","_law_web_here","_law_a","_law_odd_here","_law_thing","_law_sort","_law_one","_law_other"] ["_law_script"] (ak (top 69)):=zC
theorem RN (F:Fun K "law" "law" (top 69) f fd) (B:Ģ mg) (C__law_web:ì P w K mg base 3 "_law_web" ["_law_pen","_law_few","_law_great"] (spP (CP K) Vm)) (C__law_take:ì P w K mg base 1 "_law_take" ["_law_pen","_law_many"] (spP (CP K) j8)) (C__law_odd:ì P w K mg base 2 "_law_odd" ["_law_pen","_law_n"] (spP (CP K) Vq)) (C__law_heard:ì P w K mg base 10 "_law_heard" ["_law_sort","_law_web_here","_law_a","_law_b","_law_thing"] (spD K9)) (C__law_pair:ì P w K mg base 2 "_law_pair" ["_law_pen","_law_n"] (spP (CP K) Qs)):FnOk P w K mg base CX0 11 f fd ["_law_script"] (El K):=by
 refine F.ok Jb (fun vs H Q E h=>by obtain⟨a,ns,rfl,_⟩:=h; rfl) (fun cdv A outer s H vs Q E hr h=>?_)
 obtain⟨sc,ns,rfl,hS,q⟩:=h
 have nd:=Jb.nd
 refine⟨_,(ŕ (eF (i:=1) nd rfl zQ (BZ (Ĭ (pv 0) (Ĭ ŀ (Ĭ ŀ cu))))) (ë (Ç (İ ô rfl (ł B.range (À Å Á)) (á (i:=2) nd rfl zQ) (Ç (é none (i:=3) nd rfl zQ (Ŗ C__law_web hr (ķ 1) (À Å (À Å Á))))
  (Ç (é none (i:=4) nd rfl zQ (Ŗ C__law_take hr (ķ 1) (À (Ï (Ã 3) Å) Á)))
  (Ç (é none (i:=5) nd rfl zQ (Ŗ C__law_odd hr (ķ 1) (À (Ï (Ã 3) Å) Á)))
  (Ç (é none (i:=6) nd rfl zQ (Ï (Wr.wY ["_law_script","_law_pen","_law_turn","_law_web_here","_law_a","_law_odd_here","_law_thing","_law_sort","_law_one","_law_other"] (ak (top 69)) (.lst (.cons .non (.cons (.tup (.cons (.str "apart") (.cons (.lst (.cons (.var 4) .nil)) .nil))) (.cons (.tup (.cons (.str "ways") (.cons (.tup (.cons (.lst (.cons (.var 4) .nil)) (.cons (.lst .nil) .nil))) (.cons (.tup (.cons (.lst (.cons (.var 4) .nil)) (.cons (.lst .nil) .nil))) .nil)))) (.cons (.int 7) (.cons (.tup (.cons (.str "tie") (.cons (.int 0) (.cons (.lst (.cons (.int 0) .nil)) .nil)))) .nil)))))) (by decide +kernel)) (Ŗ C__law_take hr (ķ 1) (À Å Á))))
  (Ç (İ ô rfl (ł B.range (À Å Á)) (á (i:=7) nd rfl zQ) (Ç (İ ô rfl (Ė (Wr.wY ["_law_script","_law_pen","_law_turn","_law_web_here","_law_a","_law_odd_here","_law_thing","_law_sort","_law_one","_law_other"] (ak (top 69)) (.lst (.cons (.tup (.cons (.var 4) (.cons (.var 4) .nil))) (.cons (.tup (.cons (.var 4) (.cons (.var 5) .nil))) (.cons (.tup (.cons (.var 5) (.cons (.var 4) .nil))) (.cons (.tup (.cons (.var 5) (.cons (.var 5) .nil))) .nil))))) (by decide +kernel))) (Wr.eX (n:=2) rfl (ē (á (i:=8) nd rfl zQ) (ē (á (i:=9) nd rfl zQ) Ŷ))) (Ç (þ (Wr.kI (ā C__law_heard hr (À (Ã 7) (À (Ã 3) (À (Ã 8) (À (Ã 9) (À (Ã 6) Á)))))) Ō) (Ð (Ø Ō)) â) (è [8,9] â)))
  (è [8,9] (Ç (þ (Wr.wM (Ï (Ã 3) Å) Å) (Ç (Wr.Dr (Ŗ C__law_pair hr (ķ 1) (À (Ï (Ã 3) Å) Á)) (Wr.eX (n:=2) rfl (ē (á (i:=8) nd rfl zQ) (ē (á (i:=9) nd rfl zQ) Ŷ))))
  (Ð (þ (Wr.eN (ā C__law_heard hr (À (Ã 7) (À (Ã 3) (À (Ã 8) (À (Ã 9) (À (Ã 6) Á)))))) ň) (Ð (Ø Ō)) â))) â) (è [7,8,9] â))))) (è [2,3,4,5,6,7,8,9] â)))))))
  (è [2,3,4,5,6,7,8,9] (Ð (Ø Ō)))))),Tn hS q (by decide) ?_⟩
 refine⟨⟨by decide,by decide⟩,rfl,fun i ρ=>ρ=R0 K,rfl,?_,?_⟩
 rotate_left
 ·rintro ρ rfl
  exact⟨rfl,rfl⟩
 rintro i d ρ hd rfl
 obtain⟨hi,rfl⟩:=cG hd
 refine⟨rfl,9,16,rfl,by decide,by decide,by decide,by decide,fun n us n1 hn lu okw=>?_⟩
 have n16:n<=16:=by omega
 have ok:=okw.okN
 refine jP (s:=.im (aA n us)) (by
  show Dl.stK none _ 3 (norm _ (aA n us)) (aA n us)=some (.im (aA n us))
  rw [aX (mX n us)]; rfl) ?_
 refine⟨rfl,.int n,rfl,n,rfl,by omega,by omega,fun a a0 a1=>?_⟩
 refine⟨rfl,.int n,rfl,n,rfl,n1,n16,fun r d hm hb=>?_⟩
 rcases (show bx d=true\/¬ bx d=true from Classical.em _) with hi | hi
 all_goals
  first | refine jP (s:=.im d) (by show Dl.stK none _ 5 (norm _ d) d=_; rw [aX hi]; rfl) ?_ | refine jP (s:=.sn d) (by show Dl.stK none _ 5 (norm _ d) d=_; rw [aY hi,aY hi]; rfl) ?_
  refine⟨_,_,rfl,rfl,5,rfl,by decide,by decide,fun x x0 x1=>?_⟩
  obtain⟨t,ht,sh⟩:=IW a0 a1 x0 x1
  refine⟨t,ht,?_⟩
  rcases (show bx t=true\/¬ bx t=true from Classical.em _) with hti | hti
 all_goals
  first | refine jP (s:=.im t) (by show Dl.stK none _ 6 (norm _ t) t=_; rw [aX hti]; rfl) ?_ | refine jP (s:=.sn t) (by show Dl.stK none _ 6 (norm _ t) t=_; rw [aY hti,aY hti]; rfl) ?_
  refine⟨⟨by decide,by decide⟩,rfl,fun (j:Nat) ρ=>ρ=[.any,.pen (CP K),.im (.int (0+((i:Nat):Int))),.im (aA n us),.im (.int a),_,_,.any,.any,.any],rfl,?_,?_⟩
  rotate_left
  ·rintro ρ rfl
   rfl
  rintro j dj ρ hj rfl
  obtain⟨hj2,rfl⟩:=cG hj
  refine⟨_,_,rfl,(by first | rfl | exact (congrArg (fun k=>Kd.le k .shr) (kd4 (a:=a) hi)).trans rfl),fun (m:Nat) ρ=>ρ=[.any,.pen (CP K),.im (.int (0+((i:Nat):Int))),.im (aA n us),.im (.int a),_,_,.im (.int (0+((j:Nat):Int))),.any,.any],rfl,?_,?_⟩
  rotate_left
  ·rintro ρ rfl
   refine⟨.int n,rfl,?_⟩
   show if decide ((1:Int)<n)=true then _ else _
   refine eV (fun c=>?_) (fun c=>rfl)
   have c:1<n:=of_decide_eq_true c
   refine⟨rfl,.int n,rfl,n,rfl,by omega,n16,fun x y x0 x1 y0 y1 ne=>?_⟩
   exact⟨rfl,_,n,us,.int x,.int y,t,rfl,n1,by omega,by omega,ok,sh,.inr ⟨⟨x,y,rfl,rfl,x0,x1,y0,y1,ne⟩,aL (A:=True) rfl⟩⟩
  rintro m dm ρ hm2 rfl
  rcases m with _ | _ | _ | _ | m
  ·cases hm2
   refine⟨rfl,xR fun s8 s9 e8 e9=>?_⟩
   rw [dB rfl] at e8
   rw [dB rfl] at e9
   subst e8
   subst e9
   exact⟨_,n,us,.int a,.int a,t,rfl,n1,by omega,by omega,ok,sh,.inl ⟨.inr (.inr ⟨a,rfl,rfl⟩),aL (A:=True) rfl⟩⟩
  ·cases hm2
   refine⟨rfl,xR fun s8 s9 e8 e9=>?_⟩
   rw [dB rfl] at e8
   first | rw [dB hi] at e9 | replace e9:=e9.trans (lG (kd4 (a:=a) hi) (it1 hi) hi)
   subst e8
   subst e9
   exact⟨_,n,us,.int a,d,t,rfl,n1,by omega,by omega,ok,sh,.inl ⟨.inr (.inl hb),aL (A:=True) rfl⟩⟩
  ·cases hm2
   refine⟨rfl,xR fun s8 s9 e8 e9=>?_⟩
   first | rw [dB hi] at e8 | replace e8:=e8.trans (lG (kd4 (a:=a) hi) (it2 hi) hi)
   rw [dB rfl] at e9
   subst e8
   subst e9
   exact⟨_,n,us,d,.int a,t,rfl,n1,by omega,by omega,ok,sh,.inl ⟨.inl hb,aL (A:=True) rfl⟩⟩
  ·cases hm2
   refine⟨rfl,xR fun s8 s9 e8 e9=>?_⟩
   first | rw [dB hi] at e8 | replace e8:=e8.trans (lG (kd4 (a:=a) hi) (it3 hi) hi)
   first | rw [dB hi] at e9 | replace e9:=e9.trans (lG (kd4 (a:=a) hi) (it3 hi) hi)
   subst e8
   subst e9
   exact⟨_,n,us,d,d,t,rfl,n1,by omega,by omega,ok,sh,.inl ⟨.inl hb,aL (A:=True) rfl⟩⟩
  ·cases hm2
end
theorem len1 {α:Type}:∀ us:List α,us.length=1->∃ a,us=[a]
 | [a],_=>⟨a,rfl⟩
theorem len2 {α:Type}:∀ us:List α,us.length=2->∃ a b,us=[a,b]
 | [a,b],_=>⟨a,b,rfl⟩
theorem V8 {α:Type}:∀ us:List α,us.length=3->∃ a b c,us=[a,b,c]
 | [a,b,c],_=>⟨a,b,c,rfl⟩
theorem uI {α:Type}:∀ us:List α,us.length=4->∃ a b c d,us=[a,b,c,d]
 | [a,b,c,d],_=>⟨a,b,c,d,rfl⟩
theorem R8 {α:Type}:∀ us:List α,us.length=5->∃ a b c d e,us=[a,b,c,d,e]
 | [a,b,c,d,e],_=>⟨a,b,c,d,e,rfl⟩
theorem au {K:Ü}{f:Addr}{oc:Value}{od:Option Addr}{fd:FuncData}{sl:Array (Option Value)} (l:K.lookup f=some ⟨oc,od,.func fd,sl⟩):W.keepIn K (.ref f)=true:=by
 unfold W.keepIn
 simp only [l]
theorem aF {P:Program}{w:World}{K:Ü}{mg:Str->Option Value}{base:Heap}{k:Nat}{x:Str}{st:Stmt}{f:Addr}{fd:FuncData}{ps:List Str}{sp:Sp} (F:Fun K x x st f fd) (b:Binds K fd ps []) (m:mg x=some (.ref f)) (h:FnOk P w K mg base CX0 k f fd ps sp) :
  ì P w K mg base k x ps sp:=⟨f,fd,h,b,F.kp,m⟩
theorem g8 {P:Program}{w:World}{K:Ü}{mg:Str->Option Value}{base:Heap}{k:Nat}{x:Str}{st:Stmt}{f:Addr}{fd:FuncData}{ps:List Str}{sp:Sp} (F:Fun K x x st f fd) (b:Binds K fd ps []) (m:mg x=some (.ref f)) (h:FnOk P w K mg base (CX1 P w) k f fd ps sp) :
  Dl.Cal1 P w K mg base k x ps sp:=⟨f,fd,h,b,F.kp,m⟩
abbrev zl (K:Ü) (f:Addr) (x:Str) (st:Stmt) (oc:Value) (od:Option Addr) (kV dc pm:Value) (an:Option Addr) (cd ct:Value) (sl:Array (Option Value)):Prop:=K.lookup f=some ⟨oc,od,.func (W.fnOf x x (jQ st) (fK st) (ak st) .none kV dc pm an cd ct),sl⟩
abbrev za (K:Ü) (x:Str) (f:Addr):Prop:=W.nsIn K mainGlobals x=some (some (.ref f))
abbrev zc (K:Ü) (x:Str) (cd:Value):Prop:=W.codeIn K cd x=true
abbrev zn (K:Ü) (x:Str):Prop:=W.nsIn K mainGlobals x=some none
theorem all_mk {l:W.OpenLaw}{w:World}{K:Ü}{h:Heap}{mg:Str->Option Value}{fa f0 f1 f2 f3 f4 f5 f6 f7 f8 f9 f10 f11 f12 f13 f14 f15 f16 f17 f18 f19 f20 f21 f22 f23 f24 f25 f26 f27 f28 f29 f30 f31 f32 f33 f34 f35 f36 f37 f38 f39 f40 f41 f42 f43 f44 f45 f46 f47 f48 f49:Addr} (X:K.In h) (G:h.Ns mainGlobals mg) (hfa:mg "law"=some (.ref fa))
  {od0 an0 od1 an1 od2 an2 od3 an3 od4 an4 od5 an5 od6 an6 od7 an7 od8 an8 od9 an9 od10 an10 od11 an11 od12 an12 od13 an13 od14 an14 od15 an15 od16 an16 od17 an17 od18 an18 od19 an19 od20 an20 od21 an21 od22 an22 od23 an23 od24 an24 od25 an25 od26 an26 od27 an27 od28 an28 od29 an29 od30 an30 od31 an31 od32 an32 od33 an33 od34 an34 od35 an35 od36 an36 od37 an37 od38 an38 od39 an39 od40 an40 od41 an41 od42 an42 od43 an43 od44 an44 od45 an45 od46 an46 od47 an47 od48 an48 od49 an49:Option Addr}{sl0 sl1 sl2 sl3 sl4 sl5 sl6 sl7 sl8 sl9 sl10 sl11 sl12 sl13 sl14 sl15 sl16 sl17 sl18 sl19 sl20 sl21 sl22 sl23 sl24 sl25 sl26 sl27 sl28 sl29 sl30 sl31 sl32 sl33 sl34 sl35 sl36 sl37 sl38 sl39 sl40 sl41 sl42 sl43 sl44 sl45 sl46 sl47 sl48 sl49:Array (Option Value)}{oc0 kV0 dc0 pm0 cd0 ct0 oc1 kV1 dc1 pm1 cd1 ct1 oc2 kV2 dc2 pm2 cd2 ct2 oc3 kV3 dc3 pm3 cd3 ct3 oc4 kV4 dc4 pm4 cd4 ct4 oc5 kV5 dc5 pm5 cd5 ct5 oc6 kV6 dc6 pm6 cd6 ct6 oc7 kV7 dc7 pm7 cd7 ct7 oc8 kV8 dc8 pm8 cd8 ct8 oc9 kV9 dc9 pm9 cd9 ct9 oc10 kV10 dc10 pm10 cd10 ct10 oc11 kV11 dc11 pm11 cd11 ct11 oc12 kV12 dc12 pm12 cd12 ct12 oc13 kV13 dc13 pm13 cd13 ct13 oc14 kV14 dc14 pm14 cd14 ct14 oc15 kV15 dc15 pm15 cd15 ct15 oc16 kV16 dc16 pm16 cd16 ct16 oc17 kV17 dc17 pm17 cd17 ct17 oc18 kV18 dc18 pm18 cd18 ct18 oc19 kV19 dc19 pm19 cd19 ct19 oc20 kV20 dc20 pm20 cd20 ct20 oc21 kV21 dc21 pm21 cd21 ct21 oc22 kV22 dc22 pm22 cd22 ct22 oc23 kV23 dc23 pm23 cd23 ct23 oc24 kV24 dc24 pm24 cd24 ct24 oc25 kV25 dc25 pm25 cd25 ct25 oc26 kV26 dc26 pm26 cd26 ct26 oc27 kV27 dc27 pm27 cd27 ct27 oc28 kV28 dc28 pm28 cd28 ct28 oc29 kV29 dc29 pm29 cd29 ct29 oc30 kV30 dc30 pm30 cd30 ct30 oc31 kV31 dc31 pm31 cd31 ct31 oc32 kV32 dc32 pm32 cd32 ct32 oc33 kV33 dc33 pm33 cd33 ct33 oc34 kV34 dc34 pm34 cd34 ct34 oc35 kV35 dc35 pm35 cd35 ct35 oc36 kV36 dc36 pm36 cd36 ct36 oc37 kV37 dc37 pm37 cd37 ct37 oc38 kV38 dc38 pm38 cd38 ct38 oc39 kV39 dc39 pm39 cd39 ct39 oc40 kV40 dc40 pm40 cd40 ct40 oc41 kV41 dc41 pm41 cd41 ct41 oc42 kV42 dc42 pm42 cd42 ct42 oc43 kV43 dc43 pm43 cd43 ct43 oc44 kV44 dc44 pm44 cd44 ct44 oc45 kV45 dc45 pm45 cd45 ct45 oc46 kV46 dc46 pm46 cd46 ct46 oc47 kV47 dc47 pm47 cd47 ct47 oc48 kV48 dc48 pm48 cd48 ct48 oc49 kV49 dc49 pm49 cd49 ct49:Value}{CF CN ec1 ec2 ec3 ec4 ec5 ec6 ec7 ec8 ec9 NN:Addr}{nmN qN:Str}{bsN subN:List Value}{hdN abN:Bool}{snN:List Str}{colN:Option Bool}{ddN ddF:Option Addr}{q0 q1 q2 q3 q5:Option Value}{cdF:ClassData}{slF:Array (Option Value)}{cNN cNF:Value}{dNN dNF:Option Addr}{esN esF:Array DictEntry}{epN epF:Nat}{sNN sNF:Array (Option Value)}{ed1 ed2 ed3 ed4 ed5 ed6 ed7 ed8 ed9:Option Addr}{ek1 ek2 ek3 ek4 ek5 ek6 ek7 ek8 ek9:ClassData}{es1 es2 es3 es4 es5 es6 es7 es8 es9:Array (Option Value)}
  (a0:za K "is_whole" f0) (l0:zl K f0 "is_whole" (top 13) oc0 od0 kV0 dc0 pm0 an0 cd0 ct0 sl0) (c0:zc K "is_whole" cd0)
  (a1:za K "is_below" f1) (l1:zl K f1 "is_below" (top 14) oc1 od1 kV1 dc1 pm1 an1 cd1 ct1 sl1) (c1:zc K "is_below" cd1)
  (a2:za K "is_place" f2) (l2:zl K f2 "is_place" (top 15) oc2 od2 kV2 dc2 pm2 an2 cd2 ct2 sl2) (c2:zc K "is_place" cd2)
  (a3:za K "is_tie_number" f3) (l3:zl K f3 "is_tie_number" (top 16) oc3 od3 kV3 dc3 pm3 an3 cd3 ct3 sl3) (c3:zc K "is_tie_number" cd3)
  (a4:za K "check_place" f4) (l4:zl K f4 "check_place" (top 17) oc4 od4 kV4 dc4 pm4 an4 cd4 ct4 sl4) (c4:zc K "check_place" cd4)
  (a5:za K "check_two_places" f5) (l5:zl K f5 "check_two_places" (top 18) oc5 od5 kV5 dc5 pm5 an5 cd5 ct5 sl5) (c5:zc K "check_two_places" cd5)
  (a6:za K "steps_of_web" f6) (l6:zl K f6 "steps_of_web" (top 20) oc6 od6 kV6 dc6 pm6 an6 cd6 ct6 sl6) (c6:zc K "steps_of_web" cd6)
  (a7:za K "search" f7) (l7:zl K f7 "search" (top 21) oc7 od7 kV7 dc7 pm7 an7 cd7 ct7 sl7) (c7:zc K "search" cd7)
  (a8:za K "trace" f8) (l8:zl K f8 "trace" (top 22) oc8 od8 kV8 dc8 pm8 an8 cd8 ct8 sl8) (c8:zc K "trace" cd8)
  (a9:za K "part_of" f9) (l9:zl K f9 "part_of" (top 23) oc9 od9 kV9 dc9 pm9 an9 cd9 ct9 sl9) (c9:zc K "part_of" cd9)
  (a10:za K "parts" f10) (l10:zl K f10 "parts" (top 24) oc10 od10 kV10 dc10 pm10 an10 cd10 ct10 sl10) (c10:zc K "parts" cd10)
  (a11:za K "way" f11) (l11:zl K f11 "way" (top 25) oc11 od11 kV11 dc11 pm11 an11 cd11 ct11 sl11) (c11:zc K "way" cd11)
  (a12:za K "is_row_of_places" f12) (l12:zl K f12 "is_row_of_places" (top 26) oc12 od12 kV12 dc12 pm12 an12 cd12 ct12 sl12) (c12:zc K "is_row_of_places" cd12)
  (a13:za K "has_form_of_way" f13) (l13:zl K f13 "has_form_of_way" (top 27) oc13 od13 kV13 dc13 pm13 an13 cd13 ct13 sl13) (c13:zc K "has_form_of_way" cd13)
  (a14:za K "hops" f14) (l14:zl K f14 "hops" (top 28) oc14 od14 kV14 dc14 pm14 an14 cd14 ct14 sl14) (c14:zc K "hops" cd14)
  (a15:za K "is_way" f15) (l15:zl K f15 "is_way" (top 29) oc15 od15 kV15 dc15 pm15 an15 cd15 ct15 sl15) (c15:zc K "is_way" cd15)
  (a16:za K "without_ties" f16) (l16:zl K f16 "without_ties" (top 31) oc16 od16 kV16 dc16 pm16 an16 cd16 ct16 sl16) (c16:zc K "without_ties" cd16)
  (a17:za K "parts_without" f17) (l17:zl K f17 "parts_without" (top 32) oc17 od17 kV17 dc17 pm17 an17 cd17 ct17 sl17) (c17:zc K "parts_without" cd17)
  (a18:za K "steps_along" f18) (l18:zl K f18 "steps_along" (top 34) oc18 od18 kV18 dc18 pm18 an18 cd18 ct18 sl18) (c18:zc K "steps_along" cd18)
  (a19:za K "steps_left" f19) (l19:zl K f19 "steps_left" (top 35) oc19 od19 kV19 dc19 pm19 an19 cd19 ct19 sl19) (c19:zc K "steps_left" cd19)
  (a20:za K "arcs_of_two" f20) (l20:zl K f20 "arcs_of_two" (top 36) oc20 od20 kV20 dc20 pm20 an20 cd20 ct20 sl20) (c20:zc K "arcs_of_two" cd20)
  (a21:za K "two_along" f21) (l21:zl K f21 "two_along" (top 37) oc21 od21 kV21 dc21 pm21 an21 cd21 ct21 sl21) (c21:zc K "two_along" cd21)
  (a22:za K "arcs_of_ties" f22) (l22:zl K f22 "arcs_of_ties" (top 39) oc22 od22 kV22 dc22 pm22 an22 cd22 ct22 sl22) (c22:zc K "arcs_of_ties" cd22)
  (a23:za K "two_by_ties" f23) (l23:zl K f23 "two_by_ties" (top 40) oc23 od23 kV23 dc23 pm23 an23 cd23 ct23 sl23) (c23:zc K "two_by_ties" cd23)
  (a24:za K "parting_tie" f24) (l24:zl K f24 "parting_tie" (top 41) oc24 od24 kV24 dc24 pm24 an24 cd24 ct24 sl24) (c24:zc K "parting_tie" cd24)
  (a25:za K "by_ties" f25) (l25:zl K f25 "by_ties" (top 42) oc25 od25 kV25 dc25 pm25 an25 cd25 ct25 sl25) (c25:zc K "by_ties" cd25)
  (a26:za K "arcs_of_places" f26) (l26:zl K f26 "arcs_of_places" (top 44) oc26 od26 kV26 dc26 pm26 an26 cd26 ct26 sl26) (c26:zc K "arcs_of_places" cd26)
  (a27:za K "joined_again" f27) (l27:zl K f27 "joined_again" (top 45) oc27 od27 kV27 dc27 pm27 an27 cd27 ct27 sl27) (c27:zc K "joined_again" cd27)
  (a28:za K "two_by_places" f28) (l28:zl K f28 "two_by_places" (top 46) oc28 od28 kV28 dc28 pm28 an28 cd28 ct28 sl28) (c28:zc K "two_by_places" cd28)
  (a29:za K "side_without" f29) (l29:zl K f29 "side_without" (top 47) oc29 od29 kV29 dc29 pm29 an29 cd29 ct29 sl29) (c29:zc K "side_without" cd29)
  (a30:za K "parting_place" f30) (l30:zl K f30 "parting_place" (top 48) oc30 od30 kV30 dc30 pm30 an30 cd30 ct30 sl30) (c30:zc K "parting_place" cd30)
  (a31:za K "by_places" f31) (l31:zl K f31 "by_places" (top 49) oc31 od31 kV31 dc31 pm31 an31 cd31 ct31 sl31) (c31:zc K "by_places" cd31)
  (a32:za K "has_form" f32) (l32:zl K f32 "has_form" (top 51) oc32 od32 kV32 dc32 pm32 an32 cd32 ct32 sl32) (c32:zc K "has_form" cd32)
  (a33:za K "is_same_set" f33) (l33:zl K f33 "is_same_set" (top 52) oc33 od33 kV33 dc33 pm33 an33 cd33 ct33 sl33) (c33:zc K "is_same_set" cd33)
  (a34:za K "share" f34) (l34:zl K f34 "share" (top 53) oc34 od34 kV34 dc34 pm34 an34 cd34 ct34 sl34) (c34:zc K "share" cd34)
  (a35:za K "is_two_ways" f35) (l35:zl K f35 "is_two_ways" (top 54) oc35 od35 kV35 dc35 pm35 an35 cd35 ct35 sl35) (c35:zc K "is_two_ways" cd35)
  (a36:za K "meet_nowhere" f36) (l36:zl K f36 "meet_nowhere" (top 55) oc36 od36 kV36 dc36 pm36 an36 cd36 ct36 sl36) (c36:zc K "meet_nowhere" cd36)
  (a37:za K "is_apart" f37) (l37:zl K f37 "is_apart" (top 56) oc37 od37 kV37 dc37 pm37 an37 cd37 ct37 sl37) (c37:zc K "is_apart" cd37)
  (a38:za K "is_parting_tie" f38) (l38:zl K f38 "is_parting_tie" (top 57) oc38 od38 kV38 dc38 pm38 an38 cd38 ct38 sl38) (c38:zc K "is_parting_tie" cd38)
  (a39:za K "is_parting_place" f39) (l39:zl K f39 "is_parting_place" (top 58) oc39 od39 kV39 dc39 pm39 an39 cd39 ct39 sl39) (c39:zc K "is_parting_place" cd39)
  (a40:za K "shows_by_ties" f40) (l40:zl K f40 "shows_by_ties" (top 59) oc40 od40 kV40 dc40 pm40 an40 cd40 ct40 sl40) (c40:zc K "shows_by_ties" cd40)
  (a41:za K "shows_by_places" f41) (l41:zl K f41 "shows_by_places" (top 60) oc41 od41 kV41 dc41 pm41 an41 cd41 ct41 sl41) (c41:zc K "shows_by_places" cd41)
  (a42:za K "_law_take" f42) (l42:zl K f42 "_law_take" (top 62) oc42 od42 kV42 dc42 pm42 an42 cd42 ct42 sl42) (c42:zc K "_law_take" cd42)
  (a43:za K "_law_more" f43) (l43:zl K f43 "_law_more" (top 63) oc43 od43 kV43 dc43 pm43 an43 cd43 ct43 sl43) (c43:zc K "_law_more" cd43)
  (a44:za K "_law_web" f44) (l44:zl K f44 "_law_web" (top 64) oc44 od44 kV44 dc44 pm44 an44 cd44 ct44 sl44) (c44:zc K "_law_web" cd44)
  (a45:za K "_law_pair" f45) (l45:zl K f45 "_law_pair" (top 65) oc45 od45 kV45 dc45 pm45 an45 cd45 ct45 sl45) (c45:zc K "_law_pair" cd45)
  (a46:za K "_law_odd" f46) (l46:zl K f46 "_law_odd" (top 66) oc46 od46 kV46 dc46 pm46 an46 cd46 ct46 sl46) (c46:zc K "_law_odd" cd46)
  (a47:za K "_law_asked" f47) (l47:zl K f47 "_law_asked" (top 67) oc47 od47 kV47 dc47 pm47 an47 cd47 ct47 sl47) (c47:zc K "_law_asked" cd47)
  (a48:za K "_law_heard" f48) (l48:zl K f48 "_law_heard" (top 68) oc48 od48 kV48 dc48 pm48 an48 cd48 ct48 sl48) (c48:zc K "_law_heard" cd48)
  (a49:za K "law" f49) (l49:zl K f49 "law" (top 69) oc49 od49 kV49 dc49 pm49 an49 cd49 ct49 sl49) (c49:zc K "law" cd49)
  (xF:za K "FallError" CF)
  (xN:za K "NoPlace" CN)
  (x1:za K "NoBack" ec1)
  (x2:za K "NoOffers" ec2)
  (x3:za K "NoOrder" ec3)
  (x4:za K "NoRow" ec4)
  (x5:za K "NoSet" ec5)
  (x6:za K "NoText" ec6)
  (x7:za K "NoTie" ec7)
  (x8:za K "NoWeb" ec8)
  (x9:za K "TooMany" ec9)
  (lkN:K.lookup CN=some (excClassObj nmN qN CN NN bsN (.ref CF::[.type "ValueError",.type "Exception",.type "BaseException",.type "object"]) hdN snN subN abN colN ddN q0 q1 q2 q3 q5 "ValueError.__new__"))
  (lkF:K.lookup CF=some ⟨.type "type",ddF,.cls cdF,slF⟩)
  (lkNN:K.lookup NN=some ⟨cNN,dNN,.dict esN epN,sNN⟩)
  (niN:W.nsIn K NN "__init__"=some none)
  (lkNF:K.lookup cdF.ns=some ⟨cNF,dNF,.dict esF epF,sNF⟩)
  (ff1:W.nsIn K cdF.ns "__init__"=some none)
  (ff2:W.nsIn K cdF.ns "__getattribute__"=some none)
  (ff3:W.nsIn K cdF.ns "__getattr__"=some none)
  (ff4:W.nsIn K cdF.ns "args"=some none)
  (ga:W.findIn K (.ref CN) "__getattribute__"=some (some (.builtin "BaseException.__getattribute__")))
  (hook:W.findIn K (.ref CN) "__getattr__"=some none)
  (clsN:W.findIn K (.ref CN) "__class__"=some (some (.builtin "object.__class__")))
  (mroN:W.mroIn K CN (.type "object")=some true)
  (mNN:W.mroIn K CN (.ref CN)=some true)
  (mNF:W.mroIn K CN (.ref CF)=some true)
  (mFB:W.mroIn K CF (.type "BaseException")=some true)
  (mNV:W.mroIn K CN (.type "ValueError")=some true)
  (lkc1:K.lookup ec1=some ⟨.type "type",ed1,.cls ek1,es1⟩)
  (mc1:W.mroIn K CN (.ref ec1)=some false)
  (lkc2:K.lookup ec2=some ⟨.type "type",ed2,.cls ek2,es2⟩)
  (mc2:W.mroIn K CN (.ref ec2)=some false)
  (lkc3:K.lookup ec3=some ⟨.type "type",ed3,.cls ek3,es3⟩)
  (mc3:W.mroIn K CN (.ref ec3)=some false)
  (lkc4:K.lookup ec4=some ⟨.type "type",ed4,.cls ek4,es4⟩)
  (mc4:W.mroIn K CN (.ref ec4)=some false)
  (lkc5:K.lookup ec5=some ⟨.type "type",ed5,.cls ek5,es5⟩)
  (mc5:W.mroIn K CN (.ref ec5)=some false)
  (lkc6:K.lookup ec6=some ⟨.type "type",ed6,.cls ek6,es6⟩)
  (mc6:W.mroIn K CN (.ref ec6)=some false)
  (lkc7:K.lookup ec7=some ⟨.type "type",ed7,.cls ek7,es7⟩)
  (mc7:W.mroIn K CN (.ref ec7)=some false)
  (lkc8:K.lookup ec8=some ⟨.type "type",ed8,.cls ek8,es8⟩)
  (mc8:W.mroIn K CN (.ref ec8)=some false)
  (lkc9:K.lookup ec9=some ⟨.type "type",ed9,.cls ek9,es9⟩)
  (mc9:W.mroIn K CN (.ref ec9)=some false)
  (okN:(esN.toList.all (fun e=>match e.key with | .str _ _=>true | _=>false))=true)
  (okF:(esF.toList.all (fun e=>match e.key with | .str _ _=>true | _=>false))=true)
  (z0:zn K "isinstance")
  (z1:zn K "int")
  (z2:zn K "bool")
  (z3:zn K "tuple")
  (z4:zn K "list")
  (z5:zn K "len")
  (z6:zn K "all")
  (z7:zn K "min")
  (z8:zn K "max")
  (z9:zn K "sorted")
  (z10:zn K "range")
  (z11:zn K "abs")
  (z12:zn K "enumerate")
  (z13:zn K "reversed")
  (z14:zn K "set")
  (z15:zn K "zip")
  (z16:zn K "str")
  (z17:zn K "any")
  (z18:zn K "ValueError")
  :
  ∃ fd:FuncData,(∀ (s:Shared) (v:Value),BindsTo s fd ⟨[v],[]⟩ [("_law_script",v)])/\∀ base:Heap,K.In base->base.Ns mainGlobals mg->FnOk l.prog w K mg base CX0 11 fa fd ["_law_script"] (El K):=by
 have e:=hfa.symm.trans (î X G a49)
 cases e
 have F0:=č (st:=top 13) l0 c0 (au l0)
 have b0:=F0.binds (ps:=["thing"])
 have m0:=î X G a0
 have F1:=č (st:=top 14) l1 c1 (au l1)
 have b1:=F1.binds (ps:=["limit","thing"])
 have m1:=î X G a1
 have F2:=č (st:=top 15) l2 c2 (au l2)
 have b2:=F2.binds (ps:=["web","thing"])
 have m2:=î X G a2
 have F3:=č (st:=top 16) l3 c3 (au l3)
 have b3:=F3.binds (ps:=["web","thing"])
 have m3:=î X G a3
 have F4:=č (st:=top 17) l4 c4 (au l4)
 have b4:=F4.binds (ps:=["web","thing"])
 have m4:=î X G a4
 have F5:=č (st:=top 18) l5 c5 (au l5)
 have b5:=F5.binds (ps:=["web","a","b"])
 have m5:=î X G a5
 have F6:=č (st:=top 20) l6 c6 (au l6)
 have b6:=F6.binds (ps:=["web"])
 have m6:=î X G a6
 have F7:=č (st:=top 21) l7 c7 (au l7)
 have b7:=F7.binds (ps:=["steps","start"])
 have m7:=î X G a7
 have F8:=č (st:=top 22) l8 c8 (au l8)
 have b8:=F8.binds (ps:=["came","goal"])
 have m8:=î X G a8
 have F9:=č (st:=top 23) l9 c9 (au l9)
 have b9:=F9.binds (ps:=["web","place"])
 have m9:=î X G a9
 have F10:=č (st:=top 24) l10 c10 (au l10)
 have b10:=F10.binds (ps:=["web"])
 have m10:=î X G a10
 have F11:=č (st:=top 25) l11 c11 (au l11)
 have b11:=F11.binds (ps:=["web","a","b"])
 have m11:=î X G a11
 have F12:=č (st:=top 26) l12 c12 (au l12)
 have b12:=F12.binds (ps:=["web","a","b","thing"]) fun _ _ _ _ _ _ us hl=>by obtain⟨_,_,_,_,rfl⟩:=uI us hl; rfl
 have m12:=î X G a12
 have F13:=č (st:=top 27) l13 c13 (au l13)
 have b13:=F13.binds (ps:=["web","a","b","thing"]) fun _ _ _ _ _ _ us hl=>by obtain⟨_,_,_,_,rfl⟩:=uI us hl; rfl
 have m13:=î X G a13
 have F14:=č (st:=top 28) l14 c14 (au l14)
 have b14:=F14.binds (ps:=["places"])
 have m14:=î X G a14
 have F15:=č (st:=top 29) l15 c15 (au l15)
 have b15:=F15.binds (ps:=["web","a","b","thing"]) fun _ _ _ _ _ _ us hl=>by obtain⟨_,_,_,_,rfl⟩:=uI us hl; rfl
 have m15:=î X G a15
 have F16:=č (st:=top 31) l16 c16 (au l16)
 have b16:=F16.binds (ps:=["web","numbers"])
 have m16:=î X G a16
 have F17:=č (st:=top 32) l17 c17 (au l17)
 have b17:=F17.binds (ps:=["web","v"])
 have m17:=î X G a17
 have F18:=č (st:=top 34) l18 c18 (au l18)
 have b18:=F18.binds (ps:=["count","arcs","used"])
 have m18:=î X G a18
 have F19:=č (st:=top 35) l19 c19 (au l19)
 have b19:=F19.binds (ps:=["count","arcs","used"])
 have m19:=î X G a19
 have F20:=č (st:=top 36) l20 c20 (au l20)
 have b20:=F20.binds (ps:=["count","arcs","start","goal"]) fun _ _ _ _ _ _ us hl=>by obtain⟨_,_,_,_,rfl⟩:=uI us hl; rfl
 have m20:=î X G a20
 have F21:=č (st:=top 37) l21 c21 (au l21)
 have b21:=F21.binds (ps:=["count","arcs","used","start","goal"]) fun _ _ _ _ _ _ us hl=>by obtain⟨_,_,_,_,_,rfl⟩:=R8 us hl; rfl
 have m21:=î X G a21
 have F22:=č (st:=top 39) l22 c22 (au l22)
 have b22:=F22.binds (ps:=["web"])
 have m22:=î X G a22
 have F23:=č (st:=top 40) l23 c23 (au l23)
 have b23:=F23.binds (ps:=["web","a","b"])
 have m23:=î X G a23
 have F24:=č (st:=top 41) l24 c24 (au l24)
 have b24:=F24.binds (ps:=["web","a","b"])
 have m24:=î X G a24
 have F25:=č (st:=top 42) l25 c25 (au l25)
 have b25:=F25.binds (ps:=["web","a","b"])
 have m25:=î X G a25
 have F26:=č (st:=top 44) l26 c26 (au l26)
 have b26:=F26.binds (ps:=["web","a","b"])
 have m26:=î X G a26
 have F27:=č (st:=top 45) l27 c27 (au l27)
 have b27:=F27.binds (ps:=["web","nodes","indexes"])
 have m27:=î X G a27
 have F28:=č (st:=top 46) l28 c28 (au l28)
 have b28:=F28.binds (ps:=["web","a","b"])
 have m28:=î X G a28
 have F29:=č (st:=top 47) l29 c29 (au l29)
 have b29:=F29.binds (ps:=["web","v","a"])
 have m29:=î X G a29
 have F30:=č (st:=top 48) l30 c30 (au l30)
 have b30:=F30.binds (ps:=["web","a","b"])
 have m30:=î X G a30
 have F31:=č (st:=top 49) l31 c31 (au l31)
 have b31:=F31.binds (ps:=["web","a","b"])
 have m31:=î X G a31
 have F32:=č (st:=top 51) l32 c32 (au l32)
 have b32:=F32.binds (ps:=["thing","word","count"])
 have m32:=î X G a32
 have F33:=č (st:=top 52) l33 c33 (au l33)
 have b33:=F33.binds (ps:=["thing","some"])
 have m33:=î X G a33
 have F34:=č (st:=top 53) l34 c34 (au l34)
 have b34:=F34.binds (ps:=["one","other"])
 have m34:=î X G a34
 have F35:=č (st:=top 54) l35 c35 (au l35)
 have b35:=F35.binds (ps:=["web","a","b","thing"]) fun _ _ _ _ _ _ us hl=>by obtain⟨_,_,_,_,rfl⟩:=uI us hl; rfl
 have m35:=î X G a35
 have F36:=č (st:=top 55) l36 c36 (au l36)
 have b36:=F36.binds (ps:=["one","other"])
 have m36:=î X G a36
 have F37:=č (st:=top 56) l37 c37 (au l37)
 have b37:=F37.binds (ps:=["web","a","b","thing"]) fun _ _ _ _ _ _ us hl=>by obtain⟨_,_,_,_,rfl⟩:=uI us hl; rfl
 have m37:=î X G a37
 have F38:=č (st:=top 57) l38 c38 (au l38)
 have b38:=F38.binds (ps:=["web","a","b","thing"]) fun _ _ _ _ _ _ us hl=>by obtain⟨_,_,_,_,rfl⟩:=uI us hl; rfl
 have m38:=î X G a38
 have F39:=č (st:=top 58) l39 c39 (au l39)
 have b39:=F39.binds (ps:=["web","a","b","thing"]) fun _ _ _ _ _ _ us hl=>by obtain⟨_,_,_,_,rfl⟩:=uI us hl; rfl
 have m39:=î X G a39
 have F40:=č (st:=top 59) l40 c40 (au l40)
 have b40:=F40.binds (ps:=["web","a","b","thing"]) fun _ _ _ _ _ _ us hl=>by obtain⟨_,_,_,_,rfl⟩:=uI us hl; rfl
 have m40:=î X G a40
 have F41:=č (st:=top 60) l41 c41 (au l41)
 have b41:=F41.binds (ps:=["web","a","b","thing"]) fun _ _ _ _ _ _ us hl=>by obtain⟨_,_,_,_,rfl⟩:=uI us hl; rfl
 have m41:=î X G a41
 have F42:=č (st:=top 62) l42 c42 (au l42)
 have b42:=F42.binds (ps:=["_law_pen","_law_many"])
 have m42:=î X G a42
 have F43:=č (st:=top 63) l43 c43 (au l43)
 have b43:=F43.binds (ps:=["_law_pen","_law_n","_law_ties"])
 have m43:=î X G a43
 have F44:=č (st:=top 64) l44 c44 (au l44)
 have b44:=F44.binds (ps:=["_law_pen","_law_few","_law_great"])
 have m44:=î X G a44
 have F45:=č (st:=top 65) l45 c45 (au l45)
 have b45:=F45.binds (ps:=["_law_pen","_law_n"])
 have m45:=î X G a45
 have F46:=č (st:=top 66) l46 c46 (au l46)
 have b46:=F46.binds (ps:=["_law_pen","_law_n"])
 have m46:=î X G a46
 have F47:=č (st:=top 67) l47 c47 (au l47)
 have b47:=F47.binds (ps:=["_law_sort","_law_web_here","_law_a","_law_b","_law_thing"]) fun _ _ _ _ _ _ us hl=>by obtain⟨_,_,_,_,_,rfl⟩:=R8 us hl; rfl
 have m47:=î X G a47
 have F48:=č (st:=top 68) l48 c48 (au l48)
 have b48:=F48.binds (ps:=["_law_sort","_law_web_here","_law_a","_law_b","_law_thing"]) fun _ _ _ _ _ _ us hl=>by obtain⟨_,_,_,_,_,rfl⟩:=R8 us hl; rfl
 have m48:=î X G a48
 have F49:=č (st:=top 69) l49 c49 (au l49)
 have B:Ģ mg:=⟨Đ X G z0,Đ X G z1,Đ X G z2,Đ X G z3,Đ X G z4,Đ X G z5,Đ X G z6,Đ X G z7,Đ X G z8,Đ X G z9,Đ X G z10,Đ X G z11⟩
 have N12:=Đ X G z12
 have N13:=Đ X G z13
 have N14:=Đ X G z14
 have N15:=Đ X G z15
 have N16:=Đ X G z16
 have N17:=Đ X G z17
 have N18:=Đ X G z18
 refine⟨W.fnOf "law" "law" (jQ (top 69)) (fK (top 69)) (ak (top 69)) .none kV49 dc49 pm49 an49 cd49 ct49,fun s v=>.of_eq rfl,fun base _ _=>?_⟩
 have nsN:=Fe lkNN okN
 have nsF:=Fe lkNF okF
 have tlN:W.tailIn K [.type "ValueError",.type "Exception",.type "BaseException",.type "object"] (.ref CF::[.type "ValueError",.type "Exception",.type "BaseException",.type "object"])=true:=Iu lkF nsF ff1 Gn
 have XC:ExcCls K CN "ValueError.__new__" [.type "ValueError",.type "Exception",.type "BaseException",.type "object"]:=⟨⟨nmN,qN,NN,bsN,_,hdN,snN,subN,abN,colN,ddN,q0,q1,q2,q3,q5,lkN,tlN,nsN,niN,rfl⟩⟩
 have XKN:ExcK K CN:=⟨⟨nmN,qN,NN,CF,bsN,[.type "ValueError",.type "Exception",.type "BaseException",.type "object"],hdN,snN,subN,abN,colN,ddN,ddF,q0,q1,q2,q3,q5,"ValueError.__new__","ValueError",.type "type",cdF,slF,lkN,lkF,nsF,fun n hn=>by
  simp only [quietNames,Þ,æ,or_false] at hn
  rcases hn with rfl | rfl | rfl | rfl
  ·exact ff1
  ·exact ff2
  ·exact ff3
  ·exact ff4,PySem.F.attrBase_ValueError⟩,ga,hook,clsN,mroN⟩
 have R:RefN K mg CN CF ec1 ec2 ec3 ec4 ec5 ec6 ec7 ec8 ec9:=⟨î X G xF,î X G xN,î X G x1,î X G x2,î X G x3,î X G x4,î X G x5,î X G x6,î X G x7,î X G x8,î X G x9,N18,Hr lkF mFB mNF,XKN,vh (fun c hc=>by
  simp only [Þ,æ,or_false] at hc
  rcases hc with rfl | rfl | rfl | rfl | rfl | rfl | rfl | rfl | rfl
  ·exact cg lkc1 mc1 mNN
  ·exact cg lkc2 mc2 mNN
  ·exact cg lkc3 mc3 mNN
  ·exact cg lkc4 mc4 mNN
  ·exact cg lkc5 mc5 mNN
  ·exact cg lkc6 mc6 mNN
  ·exact cg lkc7 mc7 mNN
  ·exact cg lkc8 mc8 mNN
  ·exact cg lkc9 mc9 mNN
  ),zX,zV (by decide +kernel) mNV⟩
 have C0:=aF F0 b0 m0 (JX (P:=l.prog) (w:=w) (base:=base) F0 B)
 have C1:=aF F1 b1 m1 (J3 (P:=l.prog) (w:=w) (base:=base) F1 C0)
 have C2:=aF F2 b2 m2 (zx (P:=l.prog) (w:=w) (base:=base) F2 B C1)
 have C3:=aF F3 b3 m3 (oM (P:=l.prog) (w:=w) (base:=base) F3 B C1)
 have C4:=g8 F4 b4 m4 (sZ (P:=l.prog) (w:=w) (base:=base) F4 B R.mN XC PySem.F.excBase_ValueError C2)
 have C5:=g8 F5 b5 m5 (jW (P:=l.prog) (w:=w) (base:=base) F5 B R.mN XC PySem.F.excBase_ValueError C4)
 have C6:=aF F6 b6 m6 (qp (P:=l.prog) (w:=w) (base:=base) F6 B N12)
 have C7:=aF F7 b7 m7 (GP (P:=l.prog) (w:=w) (base:=base) F7 B)
 have C8:=aF F8 b8 m8 (JZ (P:=l.prog) (w:=w) (base:=base) F8 B N13)
 have C9:=aF F9 b9 m9 (Ck (P:=l.prog) (w:=w) (base:=base) F9 B C7 C6)
 have C10:=aF F10 b10 m10 (J1 (P:=l.prog) (w:=w) (base:=base) F10 B C9)
 have C11:=aF F11 b11 m11 (RM (P:=l.prog) (w:=w) (base:=base) F11 B C4 C8 C7 C6)
 have C12:=aF F12 b12 m12 (jU (P:=l.prog) (w:=w) (base:=base) F12 B N14 C2)
 have C13:=aF F13 b13 m13 (kY (P:=l.prog) (w:=w) (base:=base) F13 B C12 C3)
 have C14:=aF F14 b14 m14 (NK (P:=l.prog) (w:=w) (base:=base) F14 B N15)
 have C15:=aF F15 b15 m15 (GQ (P:=l.prog) (w:=w) (base:=base) F15 B N15 C4 C13 C14)
 have C16:=aF F16 b16 m16 (ql (P:=l.prog) (w:=w) (base:=base) F16 B N12)
 have C17:=aF F17 b17 m17 (oJ (P:=l.prog) (w:=w) (base:=base) F17 B C4 C10)
 have C18:=aF F18 b18 m18 (sV (P:=l.prog) (w:=w) (base:=base) F18 B)
 have C19:=aF F19 b19 m19 (uH (P:=l.prog) (w:=w) (base:=base) F19 B N12)
 have C20:=aF F20 b20 m20 (tu (P:=l.prog) (w:=w) (base:=base) F20 B C8 C7 C19)
 have C21:=aF F21 b21 m21 (wZ (P:=l.prog) (w:=w) (base:=base) F21 B C8 C7 C18)
 have C22:=aF F22 b22 m22 (qx (P:=l.prog) (w:=w) (base:=base) F22 B)
 have C23:=aF F23 b23 m23 (sU (P:=l.prog) (w:=w) (base:=base) F23 B C22 C20 C21)
 have C24:=aF F24 b24 m24 (sW (P:=l.prog) (w:=w) (base:=base) F24 B C11 C9 C16)
 have C25:=g8 F25 b25 m25 (Cr (P:=l.prog) (w:=w) (base:=base) F25 B C5 C9 C23 C24)
 have C26:=aF F26 b26 m26 (lZ (P:=l.prog) (w:=w) (base:=base) F26 B)
 have C27:=aF F27 b27 m27 (qw (P:=l.prog) (w:=w) (base:=base) F27 B)
 have C28:=aF F28 b28 m28 (oF (P:=l.prog) (w:=w) (base:=base) F28 B C26 C20 C21 C27)
 have C29:=aF F29 b29 m29 (qt (P:=l.prog) (w:=w) (base:=base) F29 B C17)
 have C30:=aF F30 b30 m30 (oK (P:=l.prog) (w:=w) (base:=base) F30 B C29)
 have C31:=g8 F31 b31 m31 (w6 (P:=l.prog) (w:=w) (base:=base) F31 B C5 C9 C28 C30 C24)
 have C32:=aF F32 b32 m32 (zA (P:=l.prog) (w:=w) (base:=base) F32 B N16)
 have C33:=aF F33 b33 m33 (sY (P:=l.prog) (w:=w) (base:=base) F33 B C0)
 have C34:=aF F34 b34 m34 (J0 (P:=l.prog) (w:=w) (base:=base) F34 B N17)
 have C35:=aF F35 b35 m35 (sX (P:=l.prog) (w:=w) (base:=base) F35 B C32 C15 C34)
 have C36:=aF F36 b36 m36 (qu (P:=l.prog) (w:=w) (base:=base) F36 B C34)
 have C37:=aF F37 b37 m37 (zy (P:=l.prog) (w:=w) (base:=base) F37 B C9 C33 C32)
 have C38:=aF F38 b38 m38 (lY (P:=l.prog) (w:=w) (base:=base) F38 B C9 C3 C32 C16 C33)
 have C39:=aF F39 b39 m39 (jV (P:=l.prog) (w:=w) (base:=base) F39 B C9 C2 C32 C29 C33)
 have C40:=g8 F40 b40 m40 (oG (P:=l.prog) (w:=w) (base:=base) F40 B C5 C35 C37 C38)
 have C41:=g8 F41 b41 m41 (kW (P:=l.prog) (w:=w) (base:=base) F41 B C5 C35 C36 C37 C39 C30 C38)
 have C42:=aF F42 b42 m42 (Nz (P:=l.prog) (w:=w) (base:=base) F42 B)
 have C43:=aF F43 b43 m43 (zu (P:=l.prog) (w:=w) (base:=base) F43 B C42)
 have C44:=aF F44 b44 m44 (Cp (P:=l.prog) (w:=w) (base:=base) F44 B C42 C43)
 have C45:=aF F45 b45 m45 (zq (P:=l.prog) (w:=w) (base:=base) F45 B C42)
 have C46:=aF F46 b46 m46 (Cq (P:=l.prog) (w:=w) (base:=base) F46 B C42)
 have C47:=g8 F47 b47 m47 (w5 (P:=l.prog) (w:=w) (base:=base) F47 B C25 C31 C40 C41)
 have C48:=aF F48 b48 m48 (J2 (P:=l.prog) (w:=w) (base:=base) F48 B R C47)
 exact RN F49 B C44 C42 C46 C48 C45
theorem walk {l:W.OpenLaw}{q:Program}{loose:List Str}{XP:(Str->Option Value)->Heap->Prop}{YP:World->Heap->Prop}{d:DefRec}{K:Params->Ü} (hn:l.most=some 63) (hdf:d.params.defaults=[])
  (hY:∀ (w:World) (h:Heap),YP w h->(K w.params).In h)
  (F:∀ (w:World) (mg:Str->Option Value) (fa:Addr) (h:Heap),(K w.params).In h->h.Ns mainGlobals mg->mg d.name=some (.ref fa) ->
   ∃ fd:FuncData,(∀ (s:Shared) (u:Value),BindsTo s fd ⟨[u],[]⟩ [("_law_script",u)])/\∀ base:Heap,(K w.params).In base->base.Ns mainGlobals mg->FnOk l.prog w (K w.params) mg base CX0 11 fa fd ["_law_script"] (El (K w.params))) :
  W.WalkO q loose XP YP l.row.toRowW d [] (fun f vs=>PySem.call f vs) :=
 L2.Mr (n:=63) (k:=11) (x:="_law_script") (CX:=fun _=>CX0) (sp:=fun w=>El (K w.params)) hn (by decide) hdf ⟨rfl,by decide,by decide,rfl⟩ hY F (fun _ _ a ns hl hO hS=>⟨a,ns,rfl,hS,fun _=>rfl⟩) fun _ _ _ _ _ z=>z
end Nf
namespace Nf
open PySem PySem.W PyProof.Rows
def vo:List Nat:=[1,2,3,4,5,6,7,8,9,10,11,13,14,15,16,17,18,20,21,22,23,24,25,26,27,28,29,31,32,34,35,36,37,39,40,41,42,44,45,46,47,48,49,51,52,53,54,55,56,57,58,59,60,62,63,64,65,66,67,68,69]
def zO (p:Program) (w:World) (os:OsState):=(Gx p 7974 w os).map (fun s=>I9 p (view p vo) (fun s=>xlAt (view p vo) [] s&&recOk [] s) w s.abs)
def goodW (p:Program):=some (true,openGood (view p vo) [])
def frF (fr:Frag) (k:Nat):=some ((fr.map fun p=>some p.2).take k)
def frB (fr:Frag) (k:Nat):=some ((fr.map fun p=>some p.2).drop k)
def tW (p:Program) (w:World) (os:OsState) (as:List Addr) (k:Nat):=(Gx p 7974 w os).map (fun s=>(as.map s.abs.heap.get?).take k)
def Bd (p:Program) (w:World) (os:OsState) (as:List Addr) (k:Nat):=(Gx p 7974 w os).map (fun s=>(as.map s.abs.heap.get?).drop k)
theorem CJ:zO=zO:=rfl
theorem CV:goodW=goodW:=rfl
theorem Ad:tW=tW:=rfl
theorem DW:Bd=Bd:=rfl
end Nf
lay_quick Nf.zO Nf.goodW Nf.tW Nf.Bd
name_quick lookQ for Nf.zO by Nf.CJ
name_quick goodQ for Nf.goodW by Nf.CV
name_quick frontQ for Nf.tW by Nf.Ad
name_quick backQ for Nf.Bd by Nf.DW
set_option maxHeartbeats 0 in
theorem Nf.Oa (w:PySem.World) (os:PySem.OsState):Nf.zO ö w os=Nf.goodW ö:=by
 rw [PySem.W.Fast.lookQ_eq,PySem.W.Fast.goodQ_eq]
 kernel_rfl
theorem Nf.well:PySem.Challenge.rw_nofall_k11_no_two_places.wellSaid=true:=by kernel_rfl
open PySem PySem.W PyProof.Rows
local macro_rules
 | `(tactic| k_qdec)=>`(tactic| fail)
local macro_rules
 | `(tactic| o_head (kHook $k $a $e))=>`(tactic| (
  refine holds_open (q:=view ö Nf.vo) (loose:=[]) (Xt:=fun s=>xlAt (view ö Nf.vo) [] s&&recOk [] s) (XP:=XL (view ö Nf.vo) []) (Yf:=Hook.obs (kHook $k $a $e)) (Ya:=Hook.val (kHook $k $a $e)) (YP:=Hook.says (kHook $k $a $e)) (N:=7974) ?hl (Hook.of (kHook $k $a $e)) (Hook.keeps (kHook $k $a $e)) (fun s e=>xl_of s (Bool.and_eq_true_iff.mp e).1) XL.keeps (by rfl) (by rfl) (by rfl) (fun s e=>recFacts_of (Bool.and_eq_true_iff.mp e).2) (by rfl) (by first | assumption | decide +kernel) (by decide +kernel) ⟨rfl,rfl,rfl,rfl,rfl,by decide +kernel⟩ ?hw ?hc))
set_option maxRecDepth 100000 in
set_option maxHeartbeats 0 in
theorem PySem.Challenge.cw_nofall_k11_no_two_places_holds : PySem.Challenge.rw_nofall_k11_no_two_places.Holds := by
 w_on; refine PySem.W.holds_law Nf.well fun said=>?_; k_head
 ·refine Nf.Og 90 (boot_open (by kernel_rfl) rfl (fun s=>by kernel_rfl)) Nf.Oa (fun w os=>?_) (fun w os=>?_)
  ·show Nf.tW ö w os _ 90=Nf.frF _ 90
   rw [PySem.W.Fast.frontQ_eq]
   kernel_rfl
  ·show Nf.Bd ö w os _ 90=Nf.frB _ 90
   rw [PySem.W.Fast.backQ_eq]
   kernel_rfl
 ·w_witness2
 k_fill
 refine Nf.walk (l:=PySem.Challenge.rw_nofall_k11_no_two_places) rfl rfl (fun w h Y=>PySem.W.kIn_of Y) ?F
 case F =>
  intro w mg fa h KX G hmg
  refine' Nf.all_mk KX G hmg ?a0 ?l0 ?c0 ?a1 ?l1 ?c1 ?a2 ?l2 ?c2 ?a3 ?l3 ?c3 ?a4 ?l4 ?c4 ?a5 ?l5 ?c5 ?a6 ?l6 ?c6 ?a7 ?l7 ?c7 ?a8 ?l8 ?c8 ?a9 ?l9 ?c9 ?a10 ?l10 ?c10 ?a11 ?l11 ?c11 ?a12 ?l12 ?c12 ?a13 ?l13 ?c13 ?a14 ?l14 ?c14 ?a15 ?l15 ?c15 ?a16 ?l16 ?c16 ?a17 ?l17 ?c17 ?a18 ?l18 ?c18 ?a19 ?l19 ?c19 ?a20 ?l20 ?c20 ?a21 ?l21 ?c21 ?a22 ?l22 ?c22 ?a23 ?l23 ?c23 ?a24 ?l24 ?c24 ?a25 ?l25 ?c25 ?a26 ?l26 ?c26 ?a27 ?l27 ?c27 ?a28 ?l28 ?c28 ?a29 ?l29 ?c29 ?a30 ?l30 ?c30 ?a31 ?l31 ?c31 ?a32 ?l32 ?c32 ?a33 ?l33 ?c33 ?a34 ?l34 ?c34 ?a35 ?l35 ?c35 ?a36 ?l36 ?c36 ?a37 ?l37 ?c37 ?a38 ?l38 ?c38 ?a39 ?l39 ?c39 ?a40 ?l40 ?c40 ?a41 ?l41 ?c41 ?a42 ?l42 ?c42 ?a43 ?l43 ?c43 ?a44 ?l44 ?c44 ?a45 ?l45 ?c45 ?a46 ?l46 ?c46 ?a47 ?l47 ?c47 ?a48 ?l48 ?c48 ?a49 ?l49 ?c49 ?xF ?xN ?x1 ?x2 ?x3 ?x4 ?x5 ?x6 ?x7 ?x8 ?x9 ?lkN ?lkF ?lkNN ?niN ?lkNF ?ff1 ?ff2 ?ff3 ?ff4 ?ga ?hook ?clsN ?mroN ?mNN ?mNF ?mFB ?mNV ?lkc1 ?mc1 ?lkc2 ?mc2 ?lkc3 ?mc3 ?lkc4 ?mc4 ?lkc5 ?mc5 ?lkc6 ?mc6 ?lkc7 ?mc7 ?lkc8 ?mc8 ?lkc9 ?mc9 ?okN ?okF ?z0 ?z1 ?z2 ?z3 ?z4 ?z5 ?z6 ?z7 ?z8 ?z9 ?z10 ?z11 ?z12 ?z13 ?z14 ?z15 ?z16 ?z17 ?z18
  any_goals (show _=_; k_is)
  any_goals rfl
end
