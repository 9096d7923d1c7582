import PyProof.Rows.All
import Wide.All
import OpenK.AllK
import Wide.FinOn
import Lean
import PyProof.EqAt
import PyProof.EqKinds
import PyProof.TupleCall
import PySem.Challenge.RW_nofall_k04_ways_told
set_option genSizeOf false
set_option genSizeOfSpec false
set_option Elab.async false
set_option linter.all false
set_option maxRecDepth 100000
open PySem renaming wpAny_bind → Á,wpAny_pure → Ä,sizeLine_eq → ö,wpAny_holding → ú,wpAny_call_entry → Ĉ,wpAny_callSpecial?_slot → č,wpAny_newObj_type → Ė,wpAny_truthy_bool → Ĩ,wpAny_mono → ĭ,wpAny_ite_split → ĺ,codeAny_builtin → Ļ,mem_of_lookup → ŋ,wpAny_Call_Name_kw → Ř,builtinLookup_eq_fast → ś,wpAny_setField → Ũ,wpAny_seqItems → ũ,wpAny_field → Ű,wpAny_pyIter_tuple → ų,wpAny_updateSeq → Ż,wpAny_specialOf → ż,wpAny_passesOwn → Ž,plainId_quiet → ž
open List renaming length_map → Â,length_append → È,getElem?_eq_some_iff → É,getElem?_eq_getElem → Í,size_toArray → Î,replicate → Ð,mem_of_getElem? → Ñ,mem_cons_of_mem → Ó,mem_singleton → Õ,mem_cons_self → Ö,getElem?_map → Ø,mem_cons → Ù,length_singleton → Ú,map_append → Þ,mem_append_right → ã,mem_append → ä,not_mem_nil → ê,getElem?_append_left → ë,length_cons → í,getElem?_append_right → î,length_range → ð,range → ý,mem_append_left → þ,getElem?_set_self → ă,map_cons → Ą,mem_zipIdx_iff_getElem? → đ,map_map → Ē,getElem?_of_mem → ē,mem_map → Ğ,length_take → Ī,getElem?_set_ne → ī,all_eq_true → Ĭ,mem_filter → ĳ,append_nil → Ĵ,lookup_cons → ļ,eq_nil_of_length_eq_zero → ņ,find?_cons → ň,replicate_succ → Ŏ,getD_eq_getElem?_getD → œ,getElem?_eq_none → Ŕ,nodup_cons → ř,length_nil → Ś,take_add_one → Ŝ,append_assoc → ŝ,take_length → Ť,getElem_mem → ť,getElem?_replicate → Ŧ,take_of_length_le → ŧ,length_zip → ů,length_replicate → Ų,reverse_cons → ŷ,flatten_cons → Ÿ
open PySem.Heap renaming get?_push_of_some → Å,lt_size → Ë,get?_push_size → Ò,get?_update_other → õ,get?_update_self → ù,size_push → ħ,SameBut → ŏ,size_update → Ő,get?_push_ne → ŵ
open PySem.PyData renaming int → Æ,eqv → ô,tuple → Ĝ,list → Ġ,canLayAll0 → ŗ
open Nat renaming le_refl → Ï,ne_of_lt → Ü,lt_of_lt_of_le → â,zero_le → ÿ,lt_irrefl → ą,lt_succ_of_lt → Ć,le_trans → Ĕ,le_succ → Ķ,ne_of_gt → ń,lt_succ_self → Œ
open Bool renaming false_ne_true → Ô,and_eq_true → à,false_eq_true → ì,eq_iff_iff → ĵ
open Option.some renaming inj → Û
open PySem.W renaming Frag → Ý,mg_of → ě,mg_none_of → ğ,boot_heap → ţ
open PySem.Obj renaming mapSeq → æ,data_mapFields → Ħ,isFreed_of_fields → Ŵ
open Array renaming length_toList → è,getElem?_eq_getElem → Ă,getElem?_toList → ĸ
open PySem.Value renaming type → ï,ref → ü,none → Ě,int → ĩ
open PySem.NameKind renaming free → ñ,cell → ĉ
open Sum renaming inl → ò
open PySem.Challenge renaming pw_nofall_k04_ways_told → ø
open PyProof.Rows renaming callWith_type1 → ā,step_dedup → ķ,slot_tupleiter_next → ő
open Ne renaming symm → ċ
open PySem.Builtin.List renaming listExtendWith → Ď,listSameRef → Ĳ,listLengthHint → Ņ,listTooLong → ź
open PySem.Builtin.SmallTypes renaming nextOf → ė,ownedTupleIsFree → Ĺ
open PySem.SetTable renaming below → ę,grown → ű
open PySem.PassesOwn renaming never → ĝ
open PySem.Str renaming ofString → Ģ
open Int renaming toNat_natCast → ģ,emod_lt_of_pos → Ū
open ForInStep renaming yield → ĥ
open True renaming intro → Į
open PySem.F renaming plain_extend_loop → Ľ,plainAttrs_list → š
open PySem.Heap.SameBut renaming update → ŀ
open PySem.Around renaming under_plainId → Ł
open False renaming elim → ş
open PySem.Builtin.Slice renaming slicePlaces → Ů
open PySem.Builtin.Tuple renaming tupleExact → Ŷ
noncomputable section
namespace L2
open PySem PySem.Spec PyProof.Rows
theorem zK {n:Nat} (h:Nat.ble n 1000=true:=by rfl):n<=1000:=Nat.le_of_ble_eq_true h
abbrev Key:=Sum Int Str
def oN:Key->Value->Bool
 | .inl k,v=>Value.isInt k v
 | .inr x,v=>Value.isStrOf x v
def QD (w:World):Key->Int
 | .inl k=>hashInt k
 | .inr x=>hashStr w x
theorem aP:∀ {k:Key}{v:Value},oN k v=true->(∃ i t,k=ò i/\v=ĩ i t)\/(∃ x t,k=Sum.inr x/\v=Value.str x t)
 | .inl i,v,h=>by
  obtain⟨t,e⟩:=Value.isInt_shape (k:=i) (v:=v) h
  exact .inl ⟨i,t,rfl,e⟩
 | .inr x,v,h=>by
  obtain⟨t,e⟩:=Value.isStrOf_shape (x:=x) (v:=v) h
  exact .inr ⟨x,t,rfl,e⟩
theorem Bp (i:Int) (t:Tok):oN (.inl i) (.int i t)=true:=by simp [oN,Value.isInt]
theorem Bo (x:Str) (t:Tok):oN (.inr x) (.str x t)=true:=by simp [oN,Value.isStrOf]
theorem MP (a b:Int):decide ((ò a:Key)=ò b)=(a == b):=by
 by_cases e:a=b
 ·subst e; simp
 ·have h:¬ (ò a:Key)=ò b:=fun q=>e (Sum.inl.inj q)
  rw [decide_eq_false h]
  exact (beq_eq_false_iff_ne.mpr e).symm
theorem MJ (a b:Str):decide ((Sum.inr a:Key)=Sum.inr b)=decide (a=b):=by
 by_cases e:a=b
 ·subst e; simp
 ·have h:¬ (Sum.inr a:Key)=Sum.inr b:=fun q=>e (Sum.inr.inj q)
  rw [decide_eq_false h,decide_eq_false e]
theorem MN (a:Int) (b:Str):decide ((ò a:Key)=Sum.inr b)=false:=decide_eq_false (fun q=>nomatch q)
theorem MK (a:Str) (b:Int):decide ((Sum.inr a:Key)=ò b)=false:=decide_eq_false (fun q=>nomatch q)
def aZ (prog:Program) (w:World):PySem.KeyKind prog w Key where
 is:=oN
 hash:=QD w
 inj:=fun v a b ha hb=>by
  rcases aP ha with ⟨i,t,rfl,rfl⟩ | ⟨x,t,rfl,rfl⟩
  ·rcases aP hb with ⟨j,u,rfl,e⟩ | ⟨y,u,rfl,e⟩
   ·injection e with e1 _; rw [e1]
   ·exact nomatch e
  ·rcases aP hb with ⟨j,u,rfl,e⟩ | ⟨y,u,rfl,e⟩
   ·exact nomatch e
   ·injection e with e1 _; rw [e1]
 byValue:=fun k v h=>by
  rcases aP h with ⟨i,t,rfl,rfl⟩ | ⟨x,t,rfl,rfl⟩ <;> rfl
 pyHash:=fun hv h=>by
  rcases aP hv with ⟨i,t,rfl,rfl⟩ | ⟨x,t,rfl,rfl⟩
  ·exact wpAny_pyHash_int h
  ·exact wpAny_pyHash_str h
 eqBool:=fun hu hv h=>by
  rcases aP hu with ⟨i,t,rfl,rfl⟩ | ⟨x,t,rfl,rfl⟩
  ·rcases aP hv with ⟨j,u,rfl,rfl⟩ | ⟨y,u,rfl,rfl⟩
   ·rw [MP] at h; exact wpAny_eqBool_int h
   ·rw [MN] at h; exact SeqAt.EqAt.int_str i t y u _ _ _ _ h
  ·rcases aP hv with ⟨j,u,rfl,rfl⟩ | ⟨y,u,rfl,rfl⟩
   ·rw [MK] at h; exact SeqAt.EqAt.str_int x t j u _ _ _ _ h
   ·rw [MJ] at h; exact wpAny_eqBool_str h
 «strs»:=fun k x t v h=>by
  rcases aP h with ⟨i,u,rfl,e⟩ | ⟨y,u,rfl,e⟩
  ·exact nomatch e
  ·injection e with e1 _
   subst e1
   cases v <;> rfl
theorem u6 (prog:Program) (w:World) (i:Int) (t:Tok):(aZ prog w).is (.inl i) (.int i t)=true:=Bp i t
theorem u5 (prog:Program) (w:World) (x:Str) (t:Tok):(aZ prog w).is (.inr x) (.str x t)=true:=Bo x t
inductive V where
 | non | bl (b:Bool) | int (i:Int) | str (x:Str) | byt (b:Array UInt8) | flt (b:UInt64) | ref (a:Addr) | ty (n:String)
 deriving DecidableEq
def RelV:V->Value->Prop
 | .non,u=>u=Ě
 | .bl b,u=>u=Value.bool b
 | .int i,u=>∃ t,u=ĩ i t
 | .str x,u=>∃ t,u=Value.str x t
 | .byt b,u=>∃ t,u=Value.bytes b t
 | .flt b,u=>∃ t,u=Value.float b t
 | .ref a,u=>u=ü a
 | .ty n,u=>u=ï n
abbrev Vals:List V->List Value->Prop:=Paired RelV
theorem Vals.length {xs:List V}{us:List Value} (r:Vals xs us):xs.length=us.length:=Paired.length r
theorem Vals.get:∀ {xs:List V}{us:List Value}{i:Nat}{x:V},Vals xs us->xs[i]?=some x->∃ u,us[i]?=some u/\RelV x u
 | _,_,_,_,.nil,e=>by simp at e
 | _,_,0,_,.cons r _,e=>by simp at e; subst e; exact⟨_,rfl,r⟩
 | _,_,i+1,x,.cons _ t,e=>by
  obtain⟨u,h1,h2⟩:=Vals.get (i:=i) (x:=x) t (by simpa using e)
  exact⟨u,by simpa using h1,h2⟩
theorem Vals.set {x:V}{u:Value} (r:RelV x u):∀ {xs:List V}{us:List Value} (i:Nat),Vals xs us->Vals (xs.set i x) (us.set i u)
 | _,_,_,.nil=>.nil
 | _,_,0,.cons _ t=>.cons r t
 | _,_,i+1,.cons q t=>.cons q (Vals.set r i t)
theorem Vals.append:∀ {xs ys:List V}{us ws:List Value},Vals xs us->Vals ys ws->Vals (xs++ys) (us++ws)
 | _,_,_,_,.nil,s=>s
 | _,_,_,_,.cons r t,s=>.cons r (Vals.append t s)
theorem Vals.take:∀ {xs:List V}{us:List Value} (n:Nat),Vals xs us->Vals (xs.take n) (us.take n)
 | _,_,0,_=>.nil
 | _,_,_+1,.nil=>.nil
 | _,_,n+1,.cons r t=>.cons r (Vals.take n t)
theorem Vals.drop:∀ {xs:List V}{us:List Value} (n:Nat),Vals xs us->Vals (xs.drop n) (us.drop n)
 | _,_,0,r=>r
 | _,_,_+1,.nil=>.nil
 | _,_,n+1,.cons _ t=>Vals.drop n t
def pK:Option V->Option Value->Prop
 | some v,some u=>RelV v u
 | none,none=>True
 | _,_=>False
def KV {κ:Type}:List (κ×V)->List (κ×Value)->Prop:=Paired fun (p:κ×V) (q:κ×Value)=>p.1=q.1/\RelV p.2 q.2
def kV:Key->V
 | .inl i=>.int i
 | .inr x=>.str x
inductive HO where
 | lst (xs:List V)
 | tup (xs:List V)
 | dK (kvs:List (Key×V)) | dT (kvs:List (List Key×V))
 | set (S:Int->Bool) (n:Nat)
 | ins (C dx:Addr) (fs:List (Str×V))
 | own (x:Addr)
 | xd (fs:List (Str×V))
 | met (f x:Addr)
 | rng (lo hi:Int)
 | frz (o:Obj) (u:HO)
 | tbl (ps:Array Value)
 | ext (φ:Heap->Prop)
abbrev Hp:=Addr->Option HO
def upd (H:Hp) (a:Addr) (o:HO):Hp:=fun b=>if b=a then some o else H b
theorem ao {H:Hp}{a:Addr}{o:HO}:upd H a o a=some o:=by unfold upd; rw [if_pos rfl]
theorem aj {H:Hp}{a b:Addr}{o:HO} (h:b≠a):upd H a o b=H b:=by unfold upd; rw [if_neg h]
theorem Pg {H:Hp}{a b:Addr}{o u:HO} (h:H a=some o) (h':H b=some u) (d:o≠u):a≠b:=by
 intro e; subst e; rw [h] at h'; exact d (Û h')
theorem aq {H:Hp}{a b:Addr}{o:HO} (h:H a=some o) (h':H b=none):a≠b:=by
 intro e; subst e; rw [h] at h'; cases h'
section
variable (P:Program) (w:World)
def aM (H:Hp) (h:Heap) (a:Addr):HO->Prop
 | .lst xs=>xs.length<=sizeLine/\∃ (its:List Value) (n:Nat),Vals xs its/\h.get? a=some { cls:=.type "list",data:=.seq its.toArray n }
 | .tup xs=>xs.length<=sizeLine/\∃ its:List Value,Vals xs its/\IsTup h a its.toArray
 | .dK kvs=>kvs.length<=sizeLine/\(a == sysModules)=false/\∃ vs,KV kvs vs/\h.DictOf (aZ P w) a vs
 | .dT kvs=>kvs.length<=sizeLine/\(a == sysModules)=false/\∃ xs:List (List Key×Addr×Value),
   Paired (fun (p:List Key×V) (q:List Key×Addr×Value)=>p.1=q.1/\H q.2.1=some (.tup (p.1.map kV))/\RelV p.2 q.2.2) kvs xs /\
   ∃ o es ep,h.get? a=some o/\o.ExactDict/\o.data=.dict es ep/\es.toList=xs.map (entryOfKey (tupleKind (aZ P w)))/\(xs.map (·.1)).Nodup
 | .set S n=>h.SetOf (intKind P w) a S n
 | .ins C dx fs=>H dx=some (.own a)/\fs.length<=1000/\dx≠a/\h.get? a=some (W.instObj C dx) /\
   ∃ mA,h.Ns1 dx mA/\(∀ f,pK (fs.lookup f) (mA f))/\PySem.Within mA (fs.map (·.1))
 | .own _=>∃ o,h.get? a=some o
 | .xd fs=>∃ mA,h.Ns1 a mA/\∀ f,pK (fs.lookup f) (mA f)
 | .rng lo hi=>∃ t u v,h.get? a=some { cls:=.type "range",data:=.fields #[.int lo t,.int hi u,.int 1 v] }
 | .frz o u=>h.get? a=some o/\aM H h a u
 | .tbl ps=>h.get? a=some { cls:=.none,data:=.fields ps }
 | .met f x=>h.get? a=some (W.methodObj (.ref f) (.ref x))
 | .ext φ=>φ h/\(∃ o,h.get? a=some o)/\∀ h1 h2:Heap,φ h1->(∀ o,h1.get? a=some o->h2.get? a=some o)->φ h2
def HOk (H:Hp) (h:Heap):Prop:=∀ a o,H a=some o->aM P w H h a o
end
section
variable {P:Program}{w:World}{H H':Hp}{h h':Heap}{a:Addr}{o:HO}
theorem aM.lt (x:aM P w H h a o):a<h.objs.size:=by
 cases o with
 | lst xs=>obtain⟨_,_,_,_,e⟩:=x; exact Ë e
 | tup xs=>obtain⟨_,_,_,p⟩:=x; exact p.lt
 | dK kvs=>obtain⟨_,_,_,_,o,_,_,e,_⟩:=x; exact Ë e
 | dT kvs=>obtain⟨_,_,_,_,o,_,_,e,_⟩:=x; exact Ë e
 | set S n=>obtain⟨o,_,_,_,e,_⟩:=x; exact Ë e
 | ins C dx fs=>obtain⟨_,_,_,e,_⟩:=x; exact Ë e
 | own y=>obtain⟨_,e⟩:=x; exact Ë e
 | xd fs=>obtain⟨_,⟨_,_,_,e,_⟩,_⟩:=x; exact Ë e
 | rng lo hi=>obtain⟨_,_,_,e⟩:=x; exact Ë e
 | frz ob u=>obtain⟨e,_⟩:=x; exact Ë e
 | tbl ps=>exact Ë (show h.get? a=some _ from x)
 | met f y=>exact Ë (show h.get? a=some _ from x)
 | ext φ=>obtain⟨_,⟨_,e⟩,_⟩:=x; exact Ë e
theorem Paired.Bk {α β:Type}{F G:α->β->Prop}:∀ {l₁:List α}{l₂:List β},Paired F l₁ l₂->(∀ a b,F a b->G a b)->Paired G l₁ l₂
 | _,_,.nil,_=>.nil
 | _,_,.cons r t,f=>.cons (f _ _ r) (Paired.Bk t f)
theorem aM.stay (x:aM P w H h a o) (k:∀ b u,(b=a\/H b=some (.own a))->h.get? b=some u->h'.get? b=some u)
  (ho:∀ b,H b=some (.own a)->H' b=some (.own a)) (ht:∀ b xs,H b=some (.tup xs)->H' b=some (.tup xs)):aM P w H' h' a o:=by
 induction o with
 | lst xs=>obtain⟨z,its,n,r,e⟩:=x; exact⟨z,its,n,r,k _ _ (.inl rfl) e⟩
 | tup xs=>obtain⟨z,its,r,ob,e,c⟩:=x; exact⟨z,its,r,ob,k _ _ (.inl rfl) e,c⟩
 | dK kvs=>obtain⟨z,y,vs,r,ob,es,ep,e,c⟩:=x; exact⟨z,y,vs,r,ob,es,ep,k _ _ (.inl rfl) e,c⟩
 | dT kvs =>
  obtain⟨z,y,xs,r,ob,es,ep,e,c⟩:=x
  exact⟨z,y,xs,Paired.Bk r fun p q z=>⟨z.1,ht _ _ z.2.1,z.2.2⟩,ob,es,ep,k _ _ (.inl rfl) e,c⟩
 | set S n=>obtain⟨ob,es,ep,t,e,c⟩:=x; exact⟨ob,es,ep,t,k _ _ (.inl rfl) e,c⟩
 | ins C dx fs =>
  obtain⟨d,z,ne,e,mA,⟨od,es,ep,e2,c⟩,r⟩:=x
  exact⟨ho _ d,z,ne,k _ _ (.inl rfl) e,mA,⟨od,es,ep,k _ _ (.inr d) e2,c⟩,r⟩
 | own y=>obtain⟨ob,e⟩:=x; exact⟨ob,k _ _ (.inl rfl) e⟩
 | xd fs=>obtain⟨mA,⟨od,es,ep,e,c⟩,r⟩:=x; exact⟨mA,⟨od,es,ep,k _ _ (.inl rfl) e,c⟩,r⟩
 | rng lo hi=>obtain⟨t,u,v,e⟩:=x; exact⟨t,u,v,k _ _ (.inl rfl) e⟩
 | frz ob u ih=>obtain⟨e,q⟩:=x; exact⟨k _ _ (.inl rfl) e,ih q⟩
 | tbl ps =>
  have e:h.get? a=some { cls:=.none,data:=.fields ps }:=x
  show h'.get? a=some { cls:=.none,data:=.fields ps }
  exact k a _ (.inl rfl) e
 | met f y =>
  have e:h.get? a=some (W.methodObj (.ref f) (.ref y)):=x
  show h'.get? a=some (W.methodObj (.ref f) (.ref y))
  exact k a _ (.inl rfl) e
 | ext φ=>obtain⟨p,⟨o,e⟩,st⟩:=x; exact⟨st _ _ p fun o q=>k _ _ (.inl rfl) q,⟨o,k _ _ (.inl rfl) e⟩,st⟩
theorem HOk.lt (x:HOk P w H h) (e:H a=some o):a<h.objs.size:=(x a o e).lt
theorem HOk.fresh (x:HOk P w H h) (e:h.objs.size<=a):H a=none:=by
 cases q:H a with
 | none=>rfl
 | some u=>exact absurd (â (x.lt q) e) (ą _)
theorem HOk.kept (x:HOk P w H h) (k:∀ b u,h.get? b=some u->h'.get? b=some u):HOk P w H h':=fun a o e =>
 (x a o e).stay (fun b u _ q=>k b u q) (fun _ q=>q) fun _ _ q=>q
theorem HOk.laid (x:HOk P w H h) (k:∀ b u,h.get? b=some u->h'.get? b=some u) (hp:h.objs.size<=a) (new:aM P w (upd H a o) h' a o):HOk P w (upd H a o) h':=fun b u e=>by
 have hn:=x.fresh hp
 by_cases hb:b=a
 ·subst hb; rw [ao] at e; cases e; exact new
 ·rw [aj hb] at e
  exact (x b u e).stay (fun c v _ q=>k c v q) (fun c q=>by rw [aj (aq q hn)]; exact q) fun c xs q=>by rw [aj (aq q hn)]; exact q
end
def Rd (H:Hp) (a:Addr) (u:HO):Prop:=H a=some u\/∃ o,H a=some (.frz o u)
theorem Rd.ok {P:Program}{w:World}{H:Hp}{h:Heap}{a:Addr}{u:HO} (r:Rd H a u) (x:HOk P w H h):aM P w H h a u:=by
 rcases r with r | ⟨o,r⟩
 ·exact x a u r
 ·obtain⟨_,q⟩:=x a _ r
  exact q
def Mut:Option HO->Prop
 | some (.lst _)=>True
 | some (.dK _)=>True
 | some (.dT _)=>True
 | some (.set _ _)=>True
 | some (.ins _ _ _)=>True
 | some (.ext _)=>True
 | _=>False
section
variable {P:Program}{w:World}{H:Hp}{h h':Heap}{x e:Addr}{o':HO}
theorem HOk.write (ok:HOk P w H h) (mu:Mut (H x)) (he:e=x\/H e=some (.own x)) (k:∀ b u,b≠e->h.get? b=some u->h'.get? b=some u) (heo:∃ u,h'.get? e=some u)
  (new:aM P w (upd H x o') h' x o'):HOk P w (upd H x o') h':=fun b u q=>by
 have nown:∀ c y,H c=some (.own y)->c≠x:=fun c y r z=>by subst z; rw [r] at mu; exact mu
 have ntup:∀ c xs,H c=some (.tup xs)->c≠x:=fun c xs r z=>by subst z; rw [r] at mu; exact mu
 by_cases hb:b=x
 ·subst hb; rw [ao] at q; cases q; exact new
 ·rw [aj hb] at q
  by_cases hbe:b=e
  ·have q':H b=some (.own x):=by
    rcases he with z | z
    ·exact absurd (hbe.trans z) hb
    ·rw [hbe]; exact z
   rw [q] at q'; cases q'
   obtain⟨v,hv⟩:=heo
   exact⟨v,by rw [hbe]; exact hv⟩
  ·refine (ok b u q).stay (fun c v hc r=>k c v ?_ r) (fun c r=>by rw [aj (nown c b r)]; exact r) fun c xs r=>by rw [aj (ntup c xs r)]; exact r
   rcases hc with rfl | hc
   ·exact hbe
   ·rintro rfl
    rcases he with z | z
    ·exact nown c b hc z
    ·rw [hc] at z; cases z; exact hb rfl
end
structure Un (fs ex:List Addr) (H H':Hp) (h h':Heap):Prop where
 keep:∀ b o,h.get? b=some o->H b=none->b∉fs->b∉ex->h'.get? b=some o
 slot:∀ b o,h.get? b=some o->H b=none->b∈fs->b∉ex->∃ sl,h'.get? b=some { o with slots:=sl }
 free:∀ b o,h.get? b=some o->H b=none->b∉ex->H' b=none
 there:∀ b o,h.get? b=some o->b∉ex->∃ o',h'.get? b=some o'
 tups:∀ b xs,H b=some (.tup xs)->H' b=some (.tup xs)
 frzs:∀ b o u,H b=some (.frz o u)->H' b=some (.frz o u)
 tbls:∀ b ps,H b=some (.tbl ps)->∃ more,H' b=some (.tbl (ps++more))
section
variable {fs fs' ex ex':List Addr}{H H1 H2:Hp}{h h1 h2 h':Heap}{a x e:Addr}{o:HO}
theorem Un.any (u:Un fs ex H H1 h h1) {b:Addr}{ob:Obj} (q:h.get? b=some ob) (n:H b=none) (hx:b∉ex):∃ sl,h1.get? b=some { ob with slots:=sl }:=by
 by_cases hb:b∈fs
 ·exact u.slot b ob q n hb hx
 ·exact⟨ob.slots,u.keep b ob q n hb hx⟩
theorem Un.kept (k:∀ b u,h.get? b=some u->h'.get? b=some u):Un fs ex H H h h' :=
 ⟨fun b ob q _ _ _=>k b ob q,fun b ob q _ _ _=>⟨ob.slots,k b ob q⟩,fun _ _ _ n _=>n,fun b ob q _=>⟨ob,k b ob q⟩,fun _ _ q=>q,fun _ _ _ q=>q,fun _ ps q=>⟨#[],by rw [q]; simp⟩⟩
theorem Un.refl:Un fs ex H H h h:=Un.kept fun _ _ q=>q
theorem Un.laid (k:∀ b u,h.get? b=some u->h'.get? b=some u) (hp:h.objs.size<=a) (hn:H a=none):Un fs ex H (upd H a o) h h' where
 keep:=fun b u q _ _ _=>k b u q
 slot:=fun b u q _ _ _=>⟨u.slots,k b u q⟩
 free:=fun b u q n _=>by rw [aj (Ü (â (Ë q) hp))]; exact n
 there:=fun b u q _=>⟨u,k b u q⟩
 tups:=fun b xs q=>by rw [aj (aq q hn)]; exact q
 frzs:=fun b u xs q=>by rw [aj (aq q hn)]; exact q
 tbls:=fun b ps q=>⟨#[],by rw [aj (aq q hn),q]; simp⟩
theorem Un.write (mu:Mut (H x)) (he:e=x\/H e=some (.own x)) (k:∀ b u,b≠e->h.get? b=some u->h'.get? b=some u) (heo:∃ u,h'.get? e=some u):Un fs ex H (upd H x o) h h':=by
 have hx:∀ b,H b=none->b≠x:=fun b n z=>by subst z; rw [n] at mu; exact mu
 have hb:∀ b,H b=none->b≠e:=fun b n z=>by
  subst z
  rcases he with r | r
  ·exact hx b n r
  ·rw [n] at r; cases r
 have hm:∀ b u,H b=some u->¬ Mut (some u)->b≠x:=fun b u q nm z=>by subst z; rw [q] at mu; exact nm mu
 refine⟨fun b u q n _ _=>k b u (hb b n) q,fun b u q n _ _=>⟨u.slots,k b u (hb b n) q⟩,fun b u q n _=>by rw [aj (hx b n)]; exact n,fun b u q _=>?_,
  fun b xs q=>by rw [aj (hm b _ q fun z=>z)]; exact q,fun b u xs q=>by rw [aj (hm b _ q fun z=>z)]; exact q,fun b ps q=>⟨#[],by rw [aj (hm b _ q fun z=>z),q]; simp⟩⟩
 by_cases hbe:b=e
 ·subst hbe; exact heo
 ·exact⟨u,k b u hbe q⟩
end
def trk (h:Heap) (H:Hp):List Addr:=(ý h.objs.size).filter fun a=>(H a).isSome
def sS (h:Heap) (H:Hp):Heap:=W.hideAll h (trk h H)
theorem Bu (h:Heap) (H:Hp):(sS h H).objs.size=h.objs.size:=W.hideAll_size _ _
theorem Gj {h:Heap}{H:Hp}{b:Addr}{o:Obj} (e:h.get? b=some o) (n:H b=none):(sS h H).get? b=some o :=
 W.hideAll_get _ e fun hm=>by
  have q:(H b).isSome=true:=(ĳ.mp hm).2
  rw [n] at q; simp at q
theorem Jh {h:Heap}{H:Hp}{b:Addr}{o:Obj} (e:(sS h H).get? b=some o):h.get? b=some o/\H b=none:=by
 have e':h.get? b=some o:=W.of_hideAll (trk h H) e
 refine⟨e',?_⟩
 cases q:H b with
 | none=>rfl
 | some x =>
  have hm:b∈trk h H:=ĳ.mpr ⟨List.mem_range.mpr (Ë e'),by simp [q]⟩
  have z:(sS h H).get? b=none:=W.hideAll_none (trk h H) hm
  rw [z] at e; cases e
def tY (g h:Heap) (L:Addr):List (Addr×Obj):=(ý h.objs.size).filterMap fun a=>if a=L\/(g.get? a).isSome=true then none else (h.get? a).map fun o=>(a,o)
theorem nZ {g h:Heap}{L:Addr}{p:Addr×Obj} (hp:p∈tY g h L):p.1≠L/\g.get? p.1=none/\h.get? p.1=some p.2:=by
 obtain⟨b,_,e⟩:=List.mem_filterMap.mp hp
 split at e
 ·cases e
 ·rename_i hn
  cases q:h.get? b with
  | none=>rw [q] at e; simp at e
  | some u =>
   rw [q] at e
   simp only [Option.map_some,Option.some.injEq] at e
   subst e
   refine⟨fun z=>hn (.inl z),?_,q⟩
   show g.get? b=none
   cases r:g.get? b with
   | none=>rfl
   | some v=>exact (hn (.inr (by simp [r]))).elim
def rest (g h:Heap) (L d:Addr):List (Addr×Obj):=(tY g h L).filter fun p=>decide (p.1≠d)
theorem FJ {g h:Heap}{L:Addr}:News g L h (tY g h L):=fun p hp=>let ⟨a,b,c⟩:=nZ hp; ⟨c,a,b⟩
structure Mod (K:Ý) (mg:Str->Option Value) (base:Heap):Prop where
 kin:K.In base
 glob:base.Ns mainGlobals mg
 blt:∃ mb,base.Ns builtinsNs mb/\∀ x:Str,x≠"__name__"->mb x=bootBuiltins x
 nolimit:base.NoLimit
structure Cx where
 prog:Program
 w:World
 K:Ý
 mg:Str->Option Value
 base:Heap
 A:Around
 N:List Str
 s₀:Shared
 H₀:Hp
 env:Env
 outer:List Env
 stack:List Env
 ex:List Addr
 fn:Str->Bool
 calm:Bool
 pn:List (Addr×Obj)
 xe:Value->Shared->Prop
 sf:List (Addr×Obj×HO):=[]
def frs (l:List Env):List Addr:=l.filterMap (·.frame)
abbrev Cx.fs (X:Cx):List Addr:=frs X.outer
def Vis (sc:Scope) (x:Str):Prop:=sc.names.lookup x=some .local\/sc.names.lookup x=some .cell\/sc.names.lookup x=some .free
def Loc (sc:Scope) (x:Str):Prop:=sc.names.lookup x=some .local\/sc.names.lookup x=some .cell
def Look (env:Env) (h:Heap) (m:Str->Option Value) (x:Str) (u:Value):Prop :=
 (env.kindOf x=some .local/\m x=some u)\/((env.kindOf x=some .cell\/env.kindOf x=some .free)/\∃ c,env.cells.lookup x=some c/\h.IsCell c (some u))
abbrev zS (X:Cx) (e:Expr) (es:List Expr):Prop:=starEach (e::es) X.env=(false,eval e X.env)::starEach es X.env
abbrev zP (X:Cx) (p:Pos) (es:List Expr):Prop:=(backTo p (starEach es X.env)).any (·.1)=false
abbrev zB (x:Str):Prop:=(x == ("__debug__":Str))=false
abbrev zF (X:Cx) (e:Expr):Prop:=∀ x,foldedSetIterable e X.env x=pure x
abbrev zL (X:Cx) (x:Str):Prop:=X.fn x=true\/X.env.scope.names.lookup x=some .local
abbrev zW (X:Cx) (p:Pos) (es:List Expr):Prop:=((backTo p (starEach es X.env)).all (fun x=>!x.1)&&(backToKw p (keywordEach [] X.env)).all (fun x=>x.1.isSome)&&decide (es.length+([]:List Keyword).length+(if ([]:List Keyword).isEmpty then 0 else 1)<30))=true
theorem zQ {sc:Scope}{x:Str} (h:(sc.names.lookup x == some .local||sc.names.lookup x == some .cell)=true:=by rfl):Loc sc x:=(Bool.or_eq_true_iff.mp h).imp (fun z=>eq_of_beq z) fun z=>eq_of_beq z
structure Cx.Ok (X:Cx):Prop where
 mod:Mod X.K X.mg X.base
 kind:X.env.scope.kind=.function
 glob:X.env.globals=mainGlobals
 blt:X.env.builtins=builtinsNs
 above:X.s₀.heap.objs.size<=X.env.locals
 inj:∀ x y c,X.env.cells.lookup x=some c->X.env.cells.lookup y=some c->x=y
 has:∀ x,(X.env.kindOf x=some .cell\/X.env.kindOf x=some .free)->∃ c,X.env.cells.lookup x=some c
 cab:∀ x c,X.fn x=true->X.env.cells.lookup x=some c->X.s₀.heap.objs.size<=c
 hd:X.calm=true->X.A.handled=none
 frames:X.A.frames=some X.stack
 stk:X.stack=X.outer\/(X.stack=X.env::X.outer/\X.env.frame=some X.env.locals)
 exf:∀ b∈X.ex,b≠X.env.locals/\∀ x c,X.env.cells.lookup x=some c->c≠b
 bs:∀ b o,X.base.get? b=some o->X.s₀.heap.get? b=some o/\X.H₀ b=none
 bsz:X.base.objs.size<=X.s₀.heap.objs.size
 noex:∀ b o,X.base.get? b=some o->b∉X.ex
 exfs:∀ b∈X.ex,b∉X.fs
 oU:X.s₀.heap.FunFrames X.base X.outer
 frf:∀ b∈X.fs,X.H₀ b=none
 sof:∀ q∈X.sf,X.A.handled=some (.ref q.1)/\X.H₀ q.1=some (.frz q.2.1 q.2.2)/\∃ ws,q.2.1.data=.fields ws/\ws[2]?=some .none
structure Inv (X:Cx) (pins:List (Addr×Obj)) (σ:List (Option V)) (H:Hp) (s:Shared):Prop where
 ok:X.Ok
 os:s.os=X.s₀.os
 bare:AllBare s.gens
 base:Un X.fs X.ex X.H₀ H X.s₀.heap s.heap
 loc:∃ m,s.heap.Ns X.env.locals m/\∀ (i:Nat) (x:Str) (v:V),X.N[i]?=some x->σ[i]?=some (some v)->Vis X.env.scope x->∃ u,RelV v u/\Look X.env s.heap m x u
 cell:∀ x c,X.env.cells.lookup x=some c->∃ v,s.heap.IsCell c v
 free:H X.env.locals=none
 freeC:∀ x c,X.env.cells.lookup x=some c->H c=none
 pin:∀ p∈X.pn++pins,s.heap.get? p.1=some p.2/\H p.1=none/\p.1≠X.env.locals/\p.1∉X.fs/\∀ v,p.2.data≠.cell v
 hok:HOk X.prog X.w H s.heap
 len:σ.length=X.N.length
section
variable {X:Cx}{pins:List (Addr×Obj)}{σ:List (Option V)}{H H':Hp}{s:Shared}{h':Heap}
theorem Cx.Ok.Qy (ok:X.Ok) {b:Addr}{o:Obj} (e:X.base.get? b=some o):b∉X.fs:=fun hb=>by
 have:=(ok.oU.mem hb).1
 rw [e] at this; cases this
theorem Inv.bs (I:Inv X pins σ H s):∀ b o,X.base.get? b=some o->s.heap.get? b=some o/\H b=none:=fun b o e =>
 ⟨I.base.keep b o (I.ok.bs b o e).1 (I.ok.bs b o e).2 (I.ok.Qy e) (I.ok.noex b o e),I.base.free b o (I.ok.bs b o e).1 (I.ok.bs b o e).2 (I.ok.noex b o e)⟩
theorem Inv.bk (I:Inv X pins σ H s):∀ b o,X.base.get? b=some o->s.heap.get? b=some o:=fun b o e=>(I.bs b o e).1
theorem Inv.mod (I:Inv X pins σ H s):Mod X.K X.mg X.base:=I.ok.mod
theorem Inv.kIn (I:Inv X pins σ H s):X.K.In s.heap:=I.ok.mod.kin.keeps I.bk
theorem Inv.fr (I:Inv X pins σ H s):∃ m,Fr X.base X.env.locals s.heap m :=
 let ⟨m,hn,_⟩:=I.loc
 ⟨m,hn,I.bk,Ĕ I.ok.bsz I.ok.above⟩
theorem Inv.lt (I:Inv X pins σ H s):X.env.locals<s.heap.objs.size:=let ⟨_,hn,_⟩:=I.loc; hn.lt
theorem Inv.sz (I:Inv X pins σ H s):X.s₀.heap.objs.size<=s.heap.objs.size:=Ĕ I.ok.above (Nat.le_of_lt I.lt)
theorem Inv.Qx (I:Inv X pins σ H s) {a:Addr} (h:s.heap.objs.size<=a):a∉X.fs:=fun hb=>by
 obtain⟨_,o,ho,_⟩:=I.ok.oU.mem hb
 exact absurd (â (Ë ho) (Ĕ I.sz h)) (ą _)
theorem Inv.cne (I:Inv X pins σ H s):∀ x c,X.env.cells.lookup x=some c->c≠X.env.locals:=fun x c e z=>by
 obtain⟨v,o,ho,hd⟩:=I.cell x c e
 obtain⟨m,⟨o',es,ep,ho',hd',_⟩,_⟩:=I.loc
 rw [z,ho'] at ho; cases ho; rw [hd'] at hd; cases hd
theorem Inv.oU (I:Inv X pins σ H s):s.heap.FunFrames X.base X.outer:=by
 have all:∀ (l:List Env),(∀ b∈frs l,b∈X.fs)->X.s₀.heap.FunFrames X.base l->s.heap.FunFrames X.base l:=by
  intro l
  induction l with
  | nil=>intro _ _; trivial
  | cons env r ih =>
   intro hs hl
   obtain⟨hk,⟨L,o,hf,hn,ho,hd⟩,hr⟩:=hl
   have hL:L∈X.fs:=hs L (by unfold frs; rw [List.filterMap_cons,hf]; exact Ö)
   obtain⟨sl,e⟩:=I.base.slot L o ho (I.ok.frf L hL) hL fun z=>I.ok.exfs L z hL
   exact⟨hk,⟨L,_,hf,hn,e,hd⟩,ih (fun b hb=>hs b (by unfold frs; rw [List.filterMap_cons,hf]; exact Ó _ hb)) hr⟩
 exact all X.outer (fun _ hb=>hb) I.ok.oU
theorem Inv.stack (I:Inv X pins σ H s):s.heap.FunFrames X.base X.stack:=by
 rcases I.ok.stk with e | ⟨e,hf⟩
 ·rw [e]; exact I.oU
 ·rw [e]
  obtain⟨m,hn,_⟩:=I.loc
  refine .cons (by rw [I.ok.kind]; decide) hf hn ?_ I.oU
  exact Heap.get?_none_of_le (Ĕ I.ok.bsz I.ok.above)
theorem Inv.vX (I:Inv X pins σ H s):∀ b∈frs X.stack,b∈X.env.locals::X.fs:=fun b hb=>by
 rcases I.ok.stk with e | ⟨e,hf⟩
 ·rw [e] at hb; exact Ó _ hb
 ·rw [e] at hb
  unfold frs at hb
  rw [List.filterMap_cons,hf] at hb
  exact hb
theorem Inv.yt (I:Inv X pins σ H s):∀ b∈frs X.stack,H b=none:=fun b hb=>by
 rcases Ù.mp (I.vX b hb) with e | hb
 ·rw [e]; exact I.free
 ·obtain⟨_,o,ho,_⟩:=I.ok.oU.mem hb
  exact I.base.free b o ho (I.ok.frf b hb) fun z=>I.ok.exfs b z hb
theorem Inv.step {g':Array GenState}{t':Nat}{d':Drawn}{ch:List Addr} (I:Inv X pins σ H s)
  (hch:∀ b∈ch,(b∈X.ex\/X.s₀.heap.objs.size<=b)/\b≠X.env.locals/\(∀ x c,X.env.cells.lookup x=some c->c≠b)/\∀ p∈X.pn++pins,p.1≠b)
  (keep:∀ b o,b≠X.env.locals->b∉X.fs->b∉ch->s.heap.get? b=some o->H b=none->h'.get? b=some o)
  (slot:∀ b o,b≠X.env.locals->b∈X.fs->b∉ch->s.heap.get? b=some o->H b=none->∃ sl,h'.get? b=some { o with slots:=sl }) (free:∀ b o,b∉ch->s.heap.get? b=some o->H b=none->H' b=none)
  (there:∀ b o,b∉ch->s.heap.get? b=some o->∃ o',h'.get? b=some o')
  (tups:∀ b xs,H b=some (.tup xs)->H' b=some (.tup xs)) (frzs:∀ b o u,H b=some (.frz o u)->H' b=some (.frz o u)) (tbls:∀ b ps,H b=some (.tbl ps)->∃ more,H' b=some (.tbl (ps++more)))
  (ns:∀ m,s.heap.Ns X.env.locals m->h'.Ns X.env.locals m) (hok:HOk X.prog X.w H' h') (hg:AllBare g') :
  Inv X pins σ H' { s with heap:=h',gens:=g',drawn:=d',toks:=t' }:=by
 have neL:∀ b o,X.s₀.heap.get? b=some o->b≠X.env.locals:=fun b o e=>Ü (â (Ë e) I.ok.above)
 have neC:∀ b o,X.s₀.heap.get? b=some o->b∉X.ex->b∉ch:=fun b o e hx hb=>by
  rcases (hch b hb).1 with z | z
  ·exact hx z
  ·exact absurd (â (Ë e) z) (ą _)
 have cellK:∀ x c,X.env.cells.lookup x=some c->∀ v,s.heap.IsCell c v->h'.IsCell c v:=fun x c e v ⟨o,ho,hd⟩=>by
  have nch:c∉ch:=fun z=>(hch c z).2.2.1 x c e rfl
  by_cases hc:c∈X.fs
  ·obtain⟨sl,q⟩:=slot c o (I.cne x c e) hc nch ho (I.freeC x c e)
   exact⟨_,q,hd⟩
  ·exact⟨o,keep c o (I.cne x c e) hc nch ho (I.freeC x c e),hd⟩
 refine⟨I.ok,I.os,hg,⟨fun b o e n hb hx=>?_,fun b o e n hb hx=>?_,fun b o e n hx=>?_,fun b o e hx=>?_,fun b xs e=>tups b xs (I.base.tups b xs e),fun b o xs e=>frzs b o xs (I.base.frzs b o xs e),fun b ps e=>?_⟩,?_,fun x c e=>?_,?_,fun x c e=>?_,fun p hp=>?_,hok,I.len⟩
 ·exact keep b o (neL b o e) hb (neC b o e hx) (I.base.keep b o e n hb hx) (I.base.free b o e n hx)
 ·obtain⟨sl,e1⟩:=I.base.slot b o e n hb hx
  obtain⟨sl',e2⟩:=slot b _ (neL b o e) hb (neC b o e hx) e1 (I.base.free b o e n hx)
  exact⟨sl',e2⟩
 ·obtain⟨o',e1⟩:=I.base.there b o e hx
  exact free b o' (neC b o e hx) e1 (I.base.free b o e n hx)
 ·obtain⟨o',e1⟩:=I.base.there b o e hx
  exact there b o' (neC b o e hx) e1
 ·obtain⟨m1,e1⟩:=I.base.tbls b ps e
  obtain⟨m2,e2⟩:=tbls b _ e1
  exact⟨m1++m2,by rw [e2,Array.append_assoc]⟩
 ·obtain⟨m,hn,hl⟩:=I.loc
  refine⟨m,ns m hn,fun i x v e1 e2 e3=>?_⟩
  obtain⟨u,r,l⟩:=hl i x v e1 e2 e3
  refine⟨u,r,?_⟩
  rcases l with l | ⟨k,c,e,z⟩
  ·exact .inl l
  ·exact .inr ⟨k,c,e,cellK x c e _ z⟩
 ·obtain⟨v,z⟩:=I.cell x c e
  exact⟨v,cellK x c e v z⟩
 ·obtain⟨m,⟨o,_,_,ho,_⟩,_⟩:=I.loc
  exact free _ o (fun z=>(hch _ z).2.1 rfl) ho I.free
 ·obtain⟨v,o,ho,hd⟩:=I.cell x c e
  exact free c o (fun z=>(hch c z).2.2.1 x c e rfl) ho (I.freeC x c e)
 ·obtain⟨e,n,ne,nf,d⟩:=I.pin p hp
  have nch:p.1∉ch:=fun z=>(hch p.1 z).2.2.2 p hp rfl
  exact⟨keep p.1 p.2 ne nf nch e n,free p.1 p.2 nch e n,ne,nf,d⟩
theorem Inv.un {t':Nat} (I:Inv X pins σ H s) (u:Un X.fs [] H H' s.heap h') (hok:HOk X.prog X.w H' h'):Inv X pins σ H' { s with heap:=h',toks:=t' }:=by
 obtain⟨m,⟨o,es,ep,ho,r⟩,_⟩:=id I.loc
 obtain⟨sl,hL⟩:=u.any ho I.free (by simp)
 exact I.step (g':=s.gens) (d':=s.drawn) (ch:=[]) (fun _ z=>nomatch z) (fun b o _ hb _ e n=>u.keep b o e n hb (by simp)) (fun b o _ hb _ e n=>u.slot b o e n hb (by simp)) (fun b o _ e n=>u.free b o e n (by simp)) (fun b o _ e=>u.there b o e (by simp)) u.tups u.frzs u.tbls (fun m' hm=>by
  obtain⟨o',es',ep',ho',r'⟩:=hm
  rw [ho] at ho'; cases ho'
  exact⟨_,es',ep',hL,r'⟩) hok I.bare
theorem Inv.call {g':Array GenState}{t':Nat}{d':Drawn}{ch:List Addr} (I:Inv X pins σ H s) (u:Un (frs X.stack) ch H H' s.heap h') (hok:HOk X.prog X.w H' h') (hg:AllBare g')
  (hch:∀ b∈ch,(b∈X.ex\/X.s₀.heap.objs.size<=b)/\b≠X.env.locals/\(∀ x c,X.env.cells.lookup x=some c->c≠b)/\∀ p∈X.pn++pins,p.1≠b) :
  Inv X pins σ H' { s with heap:=h',gens:=g',drawn:=d',toks:=t' }:=by
 obtain⟨m,⟨o,es,ep,ho,r⟩,_⟩:=id I.loc
 obtain⟨sl,hL⟩:=u.any ho I.free fun z=>(hch _ z).2.1 rfl
 exact I.step (ch:=ch) hch (fun b o hL hb hc e n=>u.keep b o e n (fun z=>(Ù.mp (I.vX b z)).elim hL hb) hc) (fun b o _ _ hc e n=>u.any e n hc) (fun b o hc e n=>u.free b o e n hc) (fun b o hc e=>u.there b o e hc) u.tups u.frzs u.tbls (fun m' hm=>by
  obtain⟨o',es',ep',ho',r'⟩:=hm
  rw [ho] at ho'; cases ho'
  exact⟨_,es',ep',hL,r'⟩) hok hg
theorem Inv.turned {t':Nat}{it:Addr} (I:Inv X pins σ H s) (k:∀ b o,b≠it->s.heap.get? b=some o->h'.get? b=some o) (hn:H it=none) (hL:it≠X.env.locals)
  (h1:it∈X.ex\/X.s₀.heap.objs.size<=it) (h2:∀ x c,X.env.cells.lookup x=some c->c≠it) (h3:∀ p∈X.pn++pins,p.1≠it):Inv X pins σ H { s with heap:=h',toks:=t' }:=by
 have nit:∀ b u,H b=some u->b≠it:=fun b u e z=>by rw [z,hn] at e; cases e
 refine I.step (g':=s.gens) (d':=s.drawn) (ch:=[it]) (fun b hb=>?_) (fun b o _ _ hc e _=>k b o (fun z=>hc (by simp [z])) e) (fun b o _ _ hc e _=>⟨o.slots,k b o (fun z=>hc (by simp [z])) e⟩) (fun _ _ _ _ n=>n)
  (fun b o hc e=>⟨o,k b o (fun z=>hc (by simp [z])) e⟩) (fun _ _ e=>e) (fun _ _ _ e=>e) (fun b ps e=>⟨#[],by rw [e]; simp⟩) (fun m hm=>?_) (fun b u e=>?_) I.bare
 ·have e:b=it:=by simpa using hb
  subst e
  exact⟨h1,hL,h2,h3⟩
 ·obtain⟨o,es,ep,ho,r⟩:=hm
  exact⟨o,es,ep,k _ o (ċ hL) ho,r⟩
 ·refine (I.hok b u e).stay (fun c v hc q=>k c v ?_ q) (fun _ q=>q) fun _ _ q=>q
  rcases hc with z | z
  ·rw [z]; exact nit b u e
  ·exact nit c _ z
theorem Inv.tok (I:Inv X pins σ H s) (t:Nat):Inv X pins σ H { s with toks:=t }:=I.un (h':=s.heap) (t':=t) Un.refl I.hok
theorem Inv.kept {t':Nat} (I:Inv X pins σ H s) (k:∀ b u,s.heap.get? b=some u->h'.get? b=some u):Inv X pins σ H { s with heap:=h',toks:=t' }:=I.un (Un.kept k) (I.hok.kept k)
theorem Inv.laid {a:Addr}{o:HO}{t':Nat} (I:Inv X pins σ H s) (k:∀ b u,s.heap.get? b=some u->h'.get? b=some u) (hp:s.heap.objs.size<=a) (new:aM X.prog X.w (upd H a o) h' a o) :
  Inv X pins σ (upd H a o) { s with heap:=h',toks:=t' }:=I.un (Un.laid k hp (I.hok.fresh hp)) (I.hok.laid k hp new)
theorem Inv.write {x e:Addr}{o:HO}{t':Nat} (I:Inv X pins σ H s) (mu:Mut (H x)) (he:e=x\/H e=some (.own x)) (k:∀ b u,b≠e->s.heap.get? b=some u->h'.get? b=some u) (heo:∃ u,h'.get? e=some u)
  (new:aM X.prog X.w (upd H x o) h' x o):Inv X pins σ (upd H x o) { s with heap:=h',toks:=t' }:=I.un (Un.write mu he k heo) (I.hok.write mu he k heo new)
theorem Inv.mL {pins':List (Addr×Obj)} (I:Inv X pins σ H s) (h:∀ p∈pins',s.heap.get? p.1=some p.2/\H p.1=none/\p.1≠X.env.locals/\p.1∉X.fs/\∀ v,p.2.data≠.cell v):Inv X pins' σ H s :=
 ⟨I.ok,I.os,I.bare,I.base,I.loc,I.cell,I.free,I.freeC,fun p hp=>(ä.mp hp).elim (fun z=>I.pin p (þ _ z)) (h p),I.hok,I.len⟩
theorem uY {N:List Str} (hN:N.Nodup) {i j:Nat}{x:Str} (a:N[i]?=some x) (b:N[j]?=some x):i=j:=by
 obtain⟨h1,e1⟩:=É.mp a
 obtain⟨h2,e2⟩:=É.mp b
 exact (List.getElem_inj hN).mp (e1.trans e2.symm)
theorem p8 {M:Model}{A:Around}{E:Value->Shared->Prop}{i:Nat}{x:Str}{v:V}{u:Value}{Q:Unit->Shared->Prop} (I:Inv X pins σ H s) (hU:∀ j,X.N[j]?=some x->j=i) (hi:X.N[i]?=some x) (hx:Loc X.env.scope x) (r:RelV v u)
  (h:∀ s',Inv X pins (σ.set i (some v)) H s'->(∃ a,ŏ a s.heap s'.heap/\(a=X.env.locals\/X.env.cells.lookup x=some a))->Q () s') (hf:X.fn x=true\/X.env.scope.names.lookup x=some .local:=by first | exact .inl rfl | exact .inr rfl | assumption):wpAny M A (storeName X.env x u) Q E s:=by
 obtain⟨m,hn,hl⟩:=id I.loc
 have hcls:(X.env.scope.kind == .class || (X.env.scope.kind == .module&&X.env.locals != X.env.globals))=false:=by rw [I.ok.kind]; rfl
 have hiσ:i<σ.length:=by rw [I.len]; exact (É.mp hi).1
 have cne:=I.cne
 have tracked:∀ {a:Addr}{h':Heap},(∃ o,s.heap.get? a=some o/\H a=none)->ŏ a s.heap h'->HOk X.prog X.w H h':=fun {a h'} ha hs b ob e=>by
  obtain⟨_,_,hfree⟩:=ha
  refine (I.hok b ob e).stay (fun c w' hc q=>(hs.2 c ?_).trans q) (fun _ q=>q) fun _ _ q=>q
  rintro rfl
  rcases hc with rfl | hc
  ·rw [hfree] at e; cases e
  ·rw [hfree] at hc; cases hc
 rcases hx with hk | hk
 ·refine wpAny_storeName_local hk hn (fun h' hn' hs=>?_) hcls
  obtain⟨oL,_,_,hoL,_⟩:=id hn
  refine h _ ⟨I.ok,I.os,I.bare,⟨fun b o e n hb hx=>?_,fun b o e n hb hx=>?_,I.base.free,fun b o e hx=>?_,I.base.tups,I.base.frzs,I.base.tbls⟩,⟨_,hn',fun j y v' e1 e2 e3=>?_⟩,fun y c e=>?_,I.free,I.freeC,fun p hp=>?_,tracked ⟨oL,hoL,I.free⟩ hs,by simpa using I.len⟩ ⟨_,hs,.inl rfl⟩
  ·exact (hs.2 b (Ü (â (Ë e) I.ok.above))).trans (I.base.keep b o e n hb hx)
  ·obtain⟨sl,e1⟩:=I.base.slot b o e n hb hx
   exact⟨sl,(hs.2 b (Ü (â (Ë e) I.ok.above))).trans e1⟩
  ·obtain⟨o',e1⟩:=I.base.there b o e hx
   exact⟨o',(hs.2 b (Ü (â (Ë e) I.ok.above))).trans e1⟩
  ·by_cases hj:j=i
   ·subst hj
    rw [hi] at e1; cases e1
    rw [ă hiσ] at e2
    cases e2
    exact⟨u,r,.inl ⟨hk,by simp⟩⟩
   ·rw [ī (ċ hj)] at e2
    obtain⟨u',r',q⟩:=hl j y v' e1 e2 e3
    refine⟨u',r',?_⟩
    rcases q with ⟨k,e⟩ | ⟨k,c,e,z⟩
    ·refine .inl ⟨k,?_⟩
     have:y≠x:=fun e=>hj (hU _ (e ▸ e1))
     simp [this,e]
    ·exact .inr ⟨k,c,e,z.sameBut hs (cne y c e)⟩
  ·obtain⟨w',z⟩:=I.cell y c e
   exact⟨w',z.sameBut hs (cne y c e)⟩
  ·obtain⟨e,n,ne,nf,d⟩:=I.pin p hp
   exact⟨(hs.2 p.1 ne).trans e,n,ne,nf,d⟩
 ·have hfn:X.fn x=true:=by
   rcases hf with z | z
   ·exact z
   ·rw [z] at hk; cases hk
  obtain⟨c,hc⟩:=I.ok.has x (.inl hk)
  obtain⟨w',z⟩:=I.cell x c hc
  refine wpAny_storeName_cell I.ok.kind hk hc z (fun h' hc' hs=>?_)
  obtain⟨oc,hoc,hocd⟩:=id z
  refine h { s with heap:=h' } ⟨I.ok,I.os,I.bare,⟨fun b o e n hb hx=>?_,fun b o e n hb hx=>?_,I.base.free,fun b o e hx=>?_,I.base.tups,I.base.frzs,I.base.tbls⟩,⟨m,hn.sameBut hs (ċ (cne x c hc)),fun j y v' e1 e2 e3=>?_⟩,fun y c' e=>?_,I.free,I.freeC,fun p hp=>?_,tracked ⟨oc,hoc,I.freeC x c hc⟩ hs,by simpa using I.len⟩ ⟨c,hs,.inr hc⟩
  ·exact (hs.2 b (Ü (â (Ë e) (I.ok.cab x c hfn hc)))).trans (I.base.keep b o e n hb hx)
  ·obtain⟨sl,e1⟩:=I.base.slot b o e n hb hx
   exact⟨sl,(hs.2 b (Ü (â (Ë e) (I.ok.cab x c hfn hc)))).trans e1⟩
  ·obtain⟨o',e1⟩:=I.base.there b o e hx
   exact⟨o',(hs.2 b (Ü (â (Ë e) (I.ok.cab x c hfn hc)))).trans e1⟩
  ·by_cases hj:j=i
   ·subst hj
    rw [hi] at e1; cases e1
    rw [ă hiσ] at e2
    cases e2
    exact⟨u,r,.inr ⟨.inl hk,c,hc,hc'⟩⟩
   ·rw [ī (ċ hj)] at e2
    obtain⟨u',r',q⟩:=hl j y v' e1 e2 e3
    refine⟨u',r',?_⟩
    rcases q with q | ⟨k,c',e,z'⟩
    ·exact .inl q
    ·refine .inr ⟨k,c',e,z'.sameBut hs ?_⟩
     rintro rfl
     exact hj (hU _ (I.ok.inj _ _ _ e hc ▸ e1))
  ·by_cases hcc:c'=c
   ·subst hcc; exact⟨_,hc'⟩
   ·obtain⟨w2,z2⟩:=I.cell y c' e
    exact⟨w2,z2.sameBut hs hcc⟩
  ·obtain⟨e,n,ne,nf,d⟩:=I.pin p hp
   refine⟨(hs.2 p.1 ?_).trans e,n,ne,nf,d⟩
   intro q
   rw [q,hoc] at e
   have q':oc=p.2:=Û e
   exact d w' (by rw [← q']; exact hocd)
theorem uy {M:Model}{A:Around}{E:Value->Shared->Prop}{i:Nat}{x:Str}{v:V}{u:Value}{Q:Unit->Shared->Prop} (I:Inv X pins σ H s) (hN:X.N.Nodup) (hi:X.N[i]?=some x) (hx:Loc X.env.scope x) (r:RelV v u)
  (h:∀ s',Inv X pins (σ.set i (some v)) H s'->Q () s') (hf:X.fn x=true\/X.env.scope.names.lookup x=some .local:=by first | exact .inl rfl | exact .inr rfl | assumption):wpAny M A (storeName X.env x u) Q E s :=
 p8 I (fun j h=>uY hN h hi) hi hx r (fun s' I' _=>h s' I') hf
theorem Inv.call' {s':Shared}{ch:List Addr} (I:Inv X pins σ H s) (ho:s'.os=s.os) (u:Un (frs X.stack) ch H H' s.heap s'.heap) (hok:HOk X.prog X.w H' s'.heap) (hg:AllBare s'.gens)
  (hch:∀ b∈ch,(b∈X.ex\/X.s₀.heap.objs.size<=b)/\b≠X.env.locals/\(∀ x c,X.env.cells.lookup x=some c->c≠b)/\∀ p∈X.pn++pins,p.1≠b):Inv X pins σ H' s':=by
 obtain⟨h',g',d',t',o'⟩:=s'
 have e:o'=s.os:=ho
 subst e
 exact I.call (g':=g') (t':=t') (d':=d') u hok hg hch
end
abbrev XK:=Value->Option Addr->Hp->Prop
abbrev St:=List (Option V)
abbrev VK:=V->Hp->Prop
abbrev TE:=St->Hp->VK->Prop
abbrev TT:=St->Hp->(Bool->Hp->Prop)->Prop
abbrev TA:=St->Hp->(List V->Hp->Prop)->Prop
structure Ends where
 nx:St->Hp->Prop
 rt:VK
 bk:St->Hp->Prop:=fun _ _=>False
 ct:St->Hp->Prop:=fun _ _=>False
abbrev TS:=Ends->St->Hp->Prop
def EP (X:Cx) (pins:List (Addr×Obj)) (σ:St) (Q:VK) (u:Value) (s':Shared):Prop:=∃ v H',Inv X pins σ H' s'/\RelV v u/\Q v H'
def TP (X:Cx) (pins:List (Addr×Obj)) (σ:St) (Q:Bool->Hp->Prop) (b:Bool) (s':Shared):Prop:=∃ H',Inv X pins σ H' s'/\Q b H'
def AP (X:Cx) (pins:List (Addr×Obj)) (σ:St) (Q:List V->Hp->Prop) (us:List Value) (s':Shared):Prop:=∃ vs H',Inv X pins σ H' s'/\Vals vs us/\Q vs H'
def SP (X:Cx) (pins:List (Addr×Obj)) (D:Ends) (f:Flow) (s':Shared):Prop :=
 match f with
 | .next=>∃ σ' H',Inv X pins σ' H' s'/\D.nx σ' H'
 | .brk=>∃ σ' H',Inv X pins σ' H' s'/\D.bk σ' H'
 | .cont=>∃ σ' H',Inv X pins σ' H' s'/\D.ct σ' H'
 | .ret u=>∃ v σ' H',Inv X pins σ' H' s'/\RelV v u/\D.rt v H'
def PE (X:Cx) (e:Expr) (t:TE):Prop :=
 ∀ (pins:List (Addr×Obj)) (s:Shared) (σ:St) (H:Hp) (Q:VK),Inv X pins σ H s->t σ H Q->wpAny (model X.prog X.w) X.A (eval e X.env) (EP X pins σ Q) X.xe s
def PT (X:Cx) (e:Expr) (t:TT):Prop :=
 ∀ (pins:List (Addr×Obj)) (s:Shared) (σ:St) (H:Hp) (Q:Bool->Hp->Prop),Inv X pins σ H s->t σ H Q->wpAny (model X.prog X.w) X.A (isTrue e X.env (eval e X.env)) (TP X pins σ Q) X.xe s
def PW (X:Cx) (e:Expr) (t:TT):Prop :=
 ∀ (whole:Sem Value) (pins:List (Addr×Obj)) (s:Shared) (σ:St) (H:Hp) (Q:Bool->Hp->Prop),Inv X pins σ H s->t σ H Q->wpAny (model X.prog X.w) X.A (isTrue e X.env whole) (TP X pins σ Q) X.xe s
theorem PW.pt {X:Cx}{e:Expr}{t:TT} (h:PW X e t):PT X e t:=h _
def PA (X:Cx) (es:List Expr) (t:TA):Prop :=
 ∀ (pos:Pos) (pins:List (Addr×Obj)) (s:Shared) (σ:St) (H:Hp) (Q:List V->Hp->Prop),Inv X pins σ H s->t σ H Q->wpAny (model X.prog X.w) X.A (spliced (backTo pos (starEach es X.env))) (AP X pins σ Q) X.xe s
def PS (X:Cx) (st:Stmt) (t:TS):Prop :=
 ∀ (pins:List (Addr×Obj)) (s:Shared) (σ:St) (H:Hp) (D:Ends),Inv X pins σ H s->t D σ H->wpAny (model X.prog X.w) X.A (exec st X.env) (SP X pins D) X.xe s
def PSs (X:Cx) (st:List Stmt) (t:TS):Prop :=
 ∀ (pins:List (Addr×Obj)) (s:Shared) (σ:St) (H:Hp) (D:Ends),Inv X pins σ H s->t D σ H->wpAny (model X.prog X.w) X.A (execs st X.env) (SP X pins D) X.xe s
theorem thn {α:Type}{t:Sem α}{Q Q':α->Shared->Prop}{M:Model}{A:Around}{E:Value->Shared->Prop}{s:Shared} (h:wpAny M A t Q E s) (hQ:∀ a s,Q a s->Q' a s):wpAny M A t Q' E s:=ĭ h hQ fun _ _ x=>x
section
variable {X:Cx}
theorem bin {a b:Expr}{ta tb:TE} (ha:PE X a ta) (hb:PE X b tb) {pins:List (Addr×Obj)}{s:Shared}{σ:St}{H:Hp}{R:V->V->Hp->Prop} (I:Inv X pins σ H s) (h:ta σ H fun x H1=>tb σ H1 fun y H2=>R x y H2)
  {α:Type}{Q:α->Shared->Prop}{f:Value->Value->Sem α}
  (hf:∀ v u s2 x y H2,Inv X pins σ H2 s2->RelV x v->RelV y u->R x y H2->wpAny (model X.prog X.w) X.A (f v u) Q X.xe s2) :
  wpAny (model X.prog X.w) X.A (eval a X.env) (fun v s₁=>wpAny (model X.prog X.w) X.A (eval b X.env) (fun u s₂=>wpAny (model X.prog X.w) X.A (f v u) Q X.xe s₂) X.xe s₁) X.xe s:=by
 refine thn (ha pins s σ H _ I h) fun v s1 ⟨x,H1,I1,r1,q1⟩=>?_
 refine thn (hb pins s1 σ H1 _ I1 q1) fun u s2 ⟨y,H2,I2,r2,q2⟩=>?_
 exact hf v u s2 x y H2 I2 r1 r2 q2
def lW (i:Nat):TE:=fun σ H Q=>∃ v,σ[i]?=some (some v)/\Q v H
def tC (v:V):TE:=fun _ H Q=>Q v H
theorem Lr {i:Nat}{x:Str}{pos:Pos} (hN:X.N[i]?=some x) (hv:Vis X.env.scope x) (hd:(x == ("__debug__":Str))=false:=by decide) (hcd:(x == ("__classdict__":Str))=false:=by decide):PE X (.Name x pos) (lW i):=by
 intro pins s σ H Q I h
 obtain⟨v,e,h⟩:=h
 obtain⟨m,hn,hl⟩:=I.loc
 obtain⟨u,r,l⟩:=hl i x v hN e hv
 have fin:EP X pins σ Q u s:=⟨v,H,I,r,h⟩
 rcases l with ⟨hk,hm⟩ | ⟨hk,c,hc,hcell⟩
 ·exact wpAny_Name (wpAny_loadName_local I.ok.kind hk hn hm fin) hd
 ·rcases hk with hk | hk
  ·exact wpAny_Name (wpAny_loadName_cell I.ok.kind hk hc hcell fin) hd
  ·exact wpAny_Name (wpAny_loadName_free I.ok.kind hk hc hcell fin hcd) hd
theorem rA {i j pos}:PE X (.Constant (.int i) j pos) (tC (.int i)):=fun _ _ _ H _ I h=>wpAny_Constant_int ⟨.int i,H,I.tok _,⟨_,rfl⟩,h⟩
theorem O2 {b j pos}:PE X (.Constant (.bool b) j pos) (tC (.bl b)):=fun _ _ _ H _ I h=>Constant_bool ⟨.bl b,H,I,rfl,h⟩
theorem Lx {j pos}:PE X (.Constant .none j pos) (tC .non):=fun _ _ _ H _ I h=>Constant_none ⟨.non,H,I,rfl,h⟩
def Gl (X:Cx) (x:Str):Prop:=X.env.kindOf x=some .globalImplicit
theorem zx {E:Value->Shared->Prop}{pins:List (Addr×Obj)}{s:Shared}{σ:St}{H:Hp}{x:Str}{u:Value}{pos:Pos}{Q:Value->Shared->Prop} (I:Inv X pins σ H s) (hg:Gl X x) (hm:X.mg x=some u) (h:Q u s)
  (hd:(x == ("__debug__":Str))=false:=by decide):wpAny (model X.prog X.w) X.A (eval (.Name x pos) X.env) Q E s :=
 Calls.Name_function_global I.ok.kind hg (Calls.loadGlobal_global (by rw [I.ok.glob]; exact I.mod.glob.keeps I.bk) hm h) hd
theorem dh {E:Value->Shared->Prop}{pins:List (Addr×Obj)}{s:Shared}{σ:St}{H:Hp}{x:Str}{u:Value}{pos:Pos}{Q:Value->Shared->Prop} (I:Inv X pins σ H s) (hg:Gl X x) (hm:X.mg x=none) (hv:bootBuiltins x=some u) (h:Q u s)
  (hn:x≠"__name__":=by decide) (hd:(x == ("__debug__":Str))=false:=by decide):wpAny (model X.prog X.w) X.A (eval (.Name x pos) X.env) Q E s:=by
 obtain⟨mb,h1,h2⟩:=I.mod.blt
 exact Calls.Name_function_global I.ok.kind hg (Calls.loadGlobal_builtin (by rw [I.ok.glob]; exact I.mod.glob.keeps I.bk) hm (by rw [I.ok.blt]; exact h1.keeps I.bk) ((h2 x hn).trans hv) h) hd
theorem Iw {x:Str}{v:V}{u:Value}{pos:Pos} (hg:Gl X x) (hm:X.mg x=some u) (r:RelV v u) (hd:(x == ("__debug__":Str))=false:=by decide):PE X (.Name x pos) (tC v) :=
 fun _ _ _ H _ I h=>zx I hg hm ⟨v,H,I,r,h⟩ hd
theorem rB {x:Str}{v:V}{u:Value}{pos:Pos} (hg:Gl X x) (hm:X.mg x=none) (hv:bootBuiltins x=some u) (r:RelV v u) (hn:x≠"__name__":=by decide) (hd:(x == ("__debug__":Str))=false:=by decide):PE X (.Name x pos) (tC v) :=
 fun _ _ _ H _ I h=>dh I hg hm hv ⟨v,H,I,r,h⟩ hn hd
variable {a b:Expr}{ta tb:TE}{pos:Pos}
def PC (X:Cx) (op:CmpOp) (a b:Expr) (t:TE):Prop :=
 ∀ (pins:List (Addr×Obj)) (s:Shared) (σ:St) (H:Hp) (Q:VK),Inv X pins σ H s->t σ H Q ->
  wpAny (model X.prog X.w) X.A (eval a X.env) (fun v s₁=>wpAny (model X.prog X.w) X.A (eval b X.env) (fun u s₂=>wpAny (model X.prog X.w) X.A (compareOp op v u) (EP X pins σ Q) X.xe s₂) X.xe s₁) X.xe s
def tB (t:TE):TT:=fun σ H Q=>t σ H fun x H1=>∃ c,x=.bl c/\Q c H1
theorem Lf {op:CmpOp}{t:TE} (h:PC X op a b t) (h1:behindInMarks op b=false:=by first | exact nobehind _ (by decide) (by decide) | rfl):PT X (.Compare a [op] [b] pos) (tB t):=by
 intro pins s σ H Q I hw
 refine wpAny_isTrue_Compare1 (thn (h pins s σ H _ I hw) fun v s1 h1=>thn h1 fun u s2 h2=>thn h2 fun c s3 ⟨x,H1,I1,r1,q1⟩=>?_) h1
 obtain⟨d,rfl,q⟩:=q1
 cases r1
 exact Ĩ ⟨H1,I1,q⟩
theorem Ld {e:Expr}{t:TE} (h:PE X e t) (he:∀ whole,isTrue e X.env whole=(do let v ← whole; standAt e.pos; holding [v] (truthy v)):=by intro _; rfl):PT X e (tB t):=by
 intro pins s σ H Q I hw
 refine isTrue_plain (thn (h pins s σ H _ I hw) fun v s1 ⟨x,H1,I1,r1,q1⟩=>?_) (he _)
 obtain⟨d,rfl,q⟩:=q1
 cases r1
 exact Ĩ ⟨H1,I1,q⟩
variable {tA tB':TT}{rest:List Expr}
def Ol (t u:TT):TT:=fun σ H Q=>t σ H fun c H1=>if c=true then u σ H1 Q else Q false H1
def tOr (t u:TT):TT:=fun σ H Q=>t σ H fun c H1=>if c=true then Q true H1 else u σ H1 Q
def Qn (t:TT):TT:=fun σ H Q=>t σ H fun c H1=>Q (!c) H1
theorem Ii (ha:PT X a tA):PW X (.BoolOp .And [a] pos) tA:=by
 intro wh pins s σ H Q I h
 refine isTrue_and (thn (ha pins s σ H Q I h) fun c s1 e=>?_)
 cases c with
 | true=>exact isTrue_and_nil e
 | false=>exact e
theorem DY (ha:PT X a tA):PW X (.BoolOp .Or [a] pos) tA:=by
 intro wh pins s σ H Q I h
 refine isTrue_or (thn (ha pins s σ H Q I h) fun c s1 e=>?_)
 cases c with
 | false=>exact isTrue_or_nil e
 | true=>exact e
theorem Lb (ha:PT X a tA) (hb:PW X (.BoolOp .And (b::rest) pos) tB'):PW X (.BoolOp .And (a::b::rest) pos) (Ol tA tB'):=by
 intro wh pins s σ H Q I h
 refine isTrue_and (thn (ha pins s σ H _ I h) fun c s1 ⟨H1,I1,q1⟩=>?_)
 cases c with
 | true=>exact hb wh pins s1 σ H1 Q I1 q1
 | false=>exact⟨H1,I1,q1⟩
theorem JX (ha:PT X a tA) (hb:PW X (.BoolOp .Or (b::rest) pos) tB'):PW X (.BoolOp .Or (a::b::rest) pos) (tOr tA tB'):=by
 intro wh pins s σ H Q I h
 refine isTrue_or (thn (ha pins s σ H _ I h) fun c s1 ⟨H1,I1,q1⟩=>?_)
 cases c with
 | true=>exact⟨H1,I1,q1⟩
 | false=>exact hb wh pins s1 σ H1 Q I1 q1
theorem Le (ha:PT X a tA):PT X (.UnaryOp .Not a pos) (Qn tA):=by
 intro pins s σ H Q I h
 exact isTrue_not (ha pins s σ H (fun c H1=>Q (!c) H1) I h)
def Oj (ta tb:TE):TE:=fun σ H Q=>ta σ H fun x H1=>∃ c,x=.bl c/\if c=true then tb σ H1 Q else Q (.bl false) H1
def N5 (ta:TE):TE:=fun σ H Q=>ta σ H fun x H1=>∃ c,x=.bl c/\Q (.bl (!c)) H1
theorem Ls {op}{t:TE} (h:PE X a t):PE X (.BoolOp op [a] pos) t:=fun pins s σ H Q I hw=>BoolOp_one (h pins s σ H Q I hw)
theorem LC (ha:PE X a ta) (hb:PE X (.BoolOp .And (b::rest) pos) tb):PE X (.BoolOp .And (a::b::rest) pos) (Oj ta tb):=by
 intro pins s σ H Q I h
 refine BoolOp_and (thn (ha pins s σ H _ I h) fun v s1 ⟨x,H1,I1,r1,q1⟩=>?_)
 obtain⟨c,rfl,q1⟩:=q1
 cases r1
 refine Ĩ ?_
 cases c with
 | true=>exact hb pins s1 σ H1 Q I1 q1
 | false=>exact⟨.bl false,H1,I1,rfl,q1⟩
theorem Lw (ha:PE X a ta):PE X (.UnaryOp .Not a pos) (N5 ta):=by
 intro pins s σ H Q I h
 refine UnaryOp_ (thn (ha pins s σ H _ I h) fun v s1 ⟨x,H1,I1,r1,q1⟩=>?_)
 obtain⟨c,rfl,q1⟩:=q1
 cases r1
 exact not_of (Ĩ ⟨.bl (!c),H1,I1,rfl,q1⟩)
def tIf (t:TT) (ta tb:TE):TE:=fun σ H Q=>t σ H fun c H1=>if c=true then ta σ H1 Q else tb σ H1 Q
theorem El {c:Expr} (hc:PT X c tA) (ha:PE X a ta) (hb:PE X b tb):PE X (.IfExp c a b pos) (tIf tA ta tb):=by
 intro pins s σ H Q I h
 refine wpAny_IfExp (thn (hc pins s σ H _ I h) fun d s1 ⟨H1,I1,q1⟩=>?_)
 cases d with
 | true=>exact ha pins s1 σ H1 Q I1 q1
 | false=>exact hb pins s1 σ H1 Q I1 q1
end
def SqL (K:Ý) (H:Hp) (a:Addr) (xs:List V):Prop :=
 Rd H a (.lst xs) ∨
  ∃ (o:Obj) (its:Array Value) (n:Nat),K.lookup a=some o/\o.cls=.type "list"/\o.dict=none/\o.data=.seq its n/\its.size<=sizeLine/\Vals xs its.toList
def SqT (K:Ý) (H:Hp) (a:Addr) (xs:List V):Prop :=
 Rd H a (.tup xs) ∨
  ∃ (o:Obj) (its:Array Value) (n:Nat),K.lookup a=some o/\o.cls=.type "tuple"/\o.data=.seq its n/\its.size<=sizeLine/\Vals xs its.toList
def QL:Value->Option V
 | .none=>some .non
 | .bool b=>some (.bl b)
 | .int i _=>some (.int i)
 | .str x _=>some (.str x)
 | .bytes b _=>some (.byt b)
 | .float b _=>some (.flt b)
 | .ref a=>some (.ref a)
 | .type n=>some (.ty n)
 | _=>none
theorem RelV.abs {x:V}{u:Value} (r:RelV x u):QL u=some x:=by
 cases x with
 | non=>cases r; rfl
 | bl _=>cases r; rfl
 | int _=>obtain⟨t,rfl⟩:=r; rfl
 | str _=>obtain⟨t,rfl⟩:=r; rfl
 | byt _=>obtain⟨t,rfl⟩:=r; rfl
 | flt _=>obtain⟨t,rfl⟩:=r; rfl
 | ref _=>cases r; rfl
 | ty _=>cases r; rfl
theorem RelV.inj {x y:V}{u:Value} (r:RelV x u) (q:RelV y u):x=y:=Û (r.abs.symm.trans q.abs)
theorem Vals.inj:∀ {xs ys:List V}{us:List Value},Vals xs us->Vals ys us->xs=ys
 | _,_,_,.nil,.nil=>rfl
 | _,_,_,.cons r t,.cons r' t'=>by rw [r.inj r',Vals.inj t t']
section
variable {X:Cx}{pins:List (Addr×Obj)}{σ:St}{H:Hp}{s:Shared}{a:Addr}{xs ys:List V}
theorem SqL.of {K:Ý} (h:H a=some (.lst xs)):SqL K H a xs:=.inl (.inl h)
theorem SqT.of {K:Ý} (h:H a=some (.tup xs)):SqT K H a xs:=.inl (.inl h)
theorem Inv.list (I:Inv X pins σ H s) (h:SqL X.K H a xs):∃ its:List Value,Vals xs its/\PlainL s.heap a its.toArray/\xs.length<=sizeLine:=by
 rcases h with h | ⟨o,its,n,hk,hc,hd,hs,hz,r⟩
 ·obtain⟨z,its,n,r,e⟩:=h.ok I.hok
  exact⟨its,r,⟨_,n,e,rfl,rfl,rfl⟩,z⟩
 ·refine⟨its.toList,r,⟨o,n,I.kIn a o hk,hc,hd,by simpa using hs⟩,?_⟩
  have e:=r.length
  simp only [è] at e
  omega
theorem Inv.tuple (I:Inv X pins σ H s) (h:SqT X.K H a xs):∃ its:List Value,Vals xs its/\IsTup s.heap a its.toArray/\xs.length<=sizeLine:=by
 rcases h with h | ⟨o,its,n,hk,hc,hs,hz,r⟩
 ·obtain⟨z,its,r,p⟩:=h.ok I.hok
  exact⟨its,r,p,z⟩
 ·refine⟨its.toList,r,⟨o,I.kIn a o hk,hc,n,by simpa using hs⟩,?_⟩
  have e:=r.length
  simp only [è] at e
  omega
theorem Inv.oE (I:Inv X pins σ H s) (h:SqL X.K H a xs) (h':SqL X.K H a ys):xs=ys:=by
 obtain⟨its,r,⟨o,n,e,_,_,d⟩,_⟩:=I.list h
 obtain⟨its',r',⟨o',n',e',_,_,d'⟩,_⟩:=I.list h'
 rw [e] at e'; cases e'
 rw [d] at d'
 injection d' with d1 _
 have:its=its':=by simpa using congrArg Array.toList d1
 subst this
 exact r.inj r'
theorem Inv.pZ (I:Inv X pins σ H s) (h:SqT X.K H a xs) (h':SqT X.K H a ys):xs=ys:=by
 obtain⟨its,r,⟨o,e,_,n,d⟩,_⟩:=I.tuple h
 obtain⟨its',r',⟨o',e',_,n',d'⟩,_⟩:=I.tuple h'
 rw [e] at e'; cases e'
 rw [d] at d'
 injection d' with d1 _
 have:its=its':=by simpa using congrArg Array.toList d1
 subst this
 exact r.inj r'
end
abbrev Cx.wish (X:Cx) (E:Value->Shared->Prop):Cx:={ X with xe:=E }
abbrev Cx.nox (X:Cx):Cx:=X.wish fun _ _=>False
theorem Cx.Ok.wish {X:Cx} (ok:X.Ok) (E:Value->Shared->Prop):(X.wish E).Ok :=
 ⟨ok.mod,ok.kind,ok.glob,ok.blt,ok.above,ok.inj,ok.has,ok.cab,ok.hd,ok.frames,ok.stk,ok.exf,ok.bs,ok.bsz,ok.noex,ok.exfs,ok.oU,ok.frf,ok.sof⟩
theorem Cx.Ok.fO {X:Cx}{E:Value->Shared->Prop} (ok:(X.wish E).Ok):X.Ok :=
 ⟨ok.mod,ok.kind,ok.glob,ok.blt,ok.above,ok.inj,ok.has,ok.cab,ok.hd,ok.frames,ok.stk,ok.exf,ok.bs,ok.bsz,ok.noex,ok.exfs,ok.oU,ok.frf,ok.sof⟩
section
variable {X:Cx}{pins:List (Addr×Obj)}{σ:St}{H:Hp}{s:Shared}{E:Value->Shared->Prop}
theorem Inv.wish (I:Inv X pins σ H s) (E:Value->Shared->Prop):Inv (X.wish E) pins σ H s:=⟨I.ok.wish E,I.os,I.bare,I.base,I.loc,I.cell,I.free,I.freeC,I.pin,I.hok,I.len⟩
theorem Inv.fO (I:Inv (X.wish E) pins σ H s):Inv X pins σ H s:=⟨I.ok.fO,I.os,I.bare,I.base,I.loc,I.cell,I.free,I.freeC,I.pin,I.hok,I.len⟩
theorem SP.fO {D:Ends}{f:Flow}{s':Shared} (h:SP (X.wish E) pins D f s'):SP X pins D f s':=by
 cases f with
 | next=>obtain⟨σ',H',I,q⟩:=h; exact⟨σ',H',I.fO,q⟩
 | brk=>obtain⟨σ',H',I,q⟩:=h; exact⟨σ',H',I.fO,q⟩
 | cont=>obtain⟨σ',H',I,q⟩:=h; exact⟨σ',H',I.fO,q⟩
 | ret u=>obtain⟨v,σ',H',I,r,q⟩:=h; exact⟨v,σ',H',I.fO,r,q⟩
theorem PSs.nox {st:List Stmt}{t:TS} (h:PSs X.nox st t):PSs X st t:=fun pins s σ H D I hw =>
 ĭ (h pins s σ H D (I.wish _) hw) (fun _ _ q=>q.fO) fun _ _ z=>ş z
end
section
variable {X:Cx}{st:Stmt}{rest:List Stmt}{t u:TS}{e:Expr}{te:TE}{pos:Pos}
def N7:TS:=fun D σ H=>D.nx σ H
def NT (t u:TS):TS:=fun D σ H=>t { D with nx:=u D } σ H
theorem mK:PSs X [] N7:=fun _ _ σ H _ I h=>wpAny_execs_nil ⟨σ,H,I,h⟩
theorem aY (h1:PS X st t) (h2:PSs X rest u):PSs X (st::rest) (NT t u):=by
 intro pins s σ H D I h
 refine wpAny_execs_cons (thn (h1 pins s σ H { D with nx:=u D } I h) fun f s1 q=>?_)
 cases f with
 | next =>
  obtain⟨σ',H',I',q⟩:=q
  exact h2 pins s1 σ' H' D I' q
 | ret v=>exact q
 | brk=>exact q
 | cont=>exact q
theorem eG (h1:PS X st t):PSs X [st] t:=by
 intro pins s σ H D I h
 refine wpAny_execs_cons (thn (h1 pins s σ H D I h) fun f s1 q=>?_)
 cases f with
 | next=>exact wpAny_execs_nil q
 | ret v=>exact q
 | brk=>exact q
 | cont=>exact q
theorem Inv.quiet {pins:List (Addr×Obj)}{σ:St}{H:Hp}{s:Shared} (I:Inv X pins σ H s):interactive X.env=false:=by simp [interactive,I.ok.kind]
def uw (te:TE):TS:=fun D σ H=>te σ H fun _ H1=>D.nx σ H1
theorem jw (he:PE X e te) (hs:swapsWith e none pos.line X.env=pure false:=by rfl):PS X (.Expr e pos) (uw te):=by
 intro pins s σ H D I h
 exact wpAny_Expr_any (thn (he pins s σ H _ I h) fun v s1 ⟨x,H1,I1,r1,q1⟩=>⟨σ,H1,I1,q1⟩) I.quiet hs
def Qm (te:TE):TS:=fun D σ H=>te σ H D.rt
theorem nH (he:PE X e te):PS X (.Return (some e) pos) (Qm te):=by
 intro pins s σ H D I h
 exact wpAny_Return_some (thn (he pins s σ H _ I h) fun v s1 ⟨x,H1,I1,r1,q1⟩=>⟨x,σ,H1,I1,r1,q1⟩)
def Qp (c:TT) (t u:TS):TS:=fun D σ H=>c σ H fun b H1=>if b=true then t D σ H1 else u D σ H1
theorem yP {c:Expr}{a b:List Stmt}{tc:TT} (hc:PT X c tc) (ha:PSs X a t) (hb:PSs X b u):PS X (.If c a b pos) (Qp tc t u):=by
 intro pins s σ H D I h
 refine wpAny_If (thn (hc pins s σ H _ I h) fun d s1 ⟨H1,I1,q1⟩=>?_)
 cases d with
 | true=>exact ha pins s1 σ H1 D I1 q1
 | false=>exact hb pins s1 σ H1 D I1 q1
def KH:TS:=fun _ _ _=>False
theorem Ed:PS X st KH:=fun _ _ _ _ _ _ h=>h.elim
end
abbrev TG:=V->St->Hp->(St->Hp->Prop)->Prop
abbrev TGs:=List V->St->Hp->(St->Hp->Prop)->Prop
def PG (X:Cx) (target:Expr) (t:TG):Prop :=
 ∀ (pins:List (Addr×Obj)) (s:Shared) (σ:St) (H:Hp) (v:V) (u:Value) (Q:St->Hp->Prop),Inv X pins σ H s->RelV v u->t v σ H Q ->
  wpAny (model X.prog X.w) X.A (assign target X.env u) (fun _ s'=>∃ σ' H',Inv X pins σ' H' s'/\Q σ' H') X.xe s
def PGs (X:Cx) (ts:List Expr) (t:TGs):Prop :=
 ∀ (pins:List (Addr×Obj)) (s:Shared) (σ:St) (H:Hp) (vs:List V) (us:List Value) (Q:St->Hp->Prop),Inv X pins σ H s->Vals vs us->t vs σ H Q ->
  wpAny (model X.prog X.w) X.A (assignInOrder ((assignEach ts X.env).map (·.2)) us) (fun _ s'=>∃ σ' H',Inv X pins σ' H' s'/\Q σ' H') X.xe s
abbrev Nx:=V->V->V->Hp->(Hp->Prop)->Prop
def Qf (X:Cx) (t:Nx):Prop :=
 ∀ (pins:List (Addr×Obj)) (s:Shared) (σ:St) (H:Hp) (o i v:V) (ov iv u:Value) (Q:Hp->Prop),Inv X pins σ H s->RelV o ov->RelV i iv->RelV v u->t o i v H Q ->
  wpAny (model X.prog X.w) X.A (setItem ov iv u) (fun _ s'=>∃ H',Inv X pins σ H' s'/\Q H') X.xe s
section
variable {X:Cx}{pos:Pos}
def gF (i:Nat):TG:=fun v σ H Q=>Q (σ.set i (some v)) H
theorem jy {i:Nat}{x:Str} (hN:X.N.Nodup) (hi:X.N[i]?=some x) (hx:Loc X.env.scope x) (hf:X.fn x=true\/X.env.scope.names.lookup x=some .local:=by first | exact .inl rfl | exact .inr rfl | assumption):PG X (.Name x pos) (gF i):=by
 intro pins s σ H v u Q I r h
 exact wpAny_assign_Name (uy I hN hi hx r (fun s' I'=>⟨_,H,I',h⟩) hf)
def QK:TGs:=fun vs σ H Q=>vs=[]/\Q σ H
def PJ (t:TG) (u:TGs):TGs:=fun vs σ H Q=>∃ v r,vs=v::r/\t v σ H fun σ' H'=>u r σ' H' Q
theorem yR:PGs X [] QK:=by
 intro pins s σ H vs us Q I r h
 obtain⟨e,h⟩:=h
 subst e
 cases r
 exact assignInOrder_nil ⟨σ,H,I,h⟩
theorem jx {e:Expr}{es:List Expr}{t:TG}{u:TGs} (h1:PG X e t) (h2:PGs X es u)
  (hs:(assignEach (e::es) X.env).map (·.2)=assign e X.env::(assignEach es X.env).map (·.2):=by rfl):PGs X (e::es) (PJ t u):=by
 intro pins s σ H vs us Q I r h
 obtain⟨v,vr,e1,h⟩:=h
 subst e1
 cases r with
 | cons r rr =>
  rw [hs]
  refine assignInOrder_cons (thn (h1 pins s σ H _ _ _ I r h) fun _ s1 ⟨σ1,H1,I1,q1⟩=>?_)
  exact h2 pins s1 σ1 H1 _ _ Q I1 rr q1
def QG (K:Ý) (n:Nat) (t:TGs):TG:=fun v σ H Q=>∃ a xs,v=.ref a/\SqT K H a xs/\xs.length=n/\t xs σ H Q
theorem Ln {es:List Expr}{k:Nat}{t:TGs}{n:Nat} (hc:X.calm=true) (h:PGs X es t)
  (hn:(assignEach es X.env).length=n:=by rfl) (hst:(assignEach es X.env).findIdx? (·.1)=none:=by rfl):PG X (.Tuple es k pos) (QG X.K n t):=by
 intro pins s σ H v u Q I r hw
 obtain⟨a,xs,e1,hq,hl,hw⟩:=hw
 subst e1
 cases r
 obtain⟨its,rv,ht,hz⟩:=I.tuple hq
 refine assign_Tuple_tuple (I.ok.hd hc) ht (by simp [hn,← hl,rv.length]) hst fun h' hx=>?_
 have I1:Inv X pins σ H { s with heap:=h' }:=I.kept (t':=s.toks) fun b o e=>hx b o (Ü (Ë e)) e
 exact h pins _ σ H xs _ Q I1 (by simpa using rv) hw
def QJ (to ti:TE) (t:Nx):TG:=fun v σ H Q=>to σ H fun o H1=>ti σ H1 fun i H2=>t o i v H2 fun H3=>Q σ H3
theorem Ej {o i:Expr}{to ti:TE}{t:Nx} (ho:PE X o to) (hi:PE X i ti) (hs:Qf X t)
  (ha:∀ v,assign (.Subscript o i pos) X.env v=(do
   let ov ← holding [v] (eval o X.env)
   let iv ← holding [v,ov] (eval i X.env)
   standAt pos
   holding [v,ov,iv] (setItem ov iv v)
   release [v,ov,iv] []):=by intro _; rfl):PG X (.Subscript o i pos) (QJ to ti t):=by
 intro pins s σ H v u Q I r h
 rw [ha]
 refine Á (ú (thn (ho pins s σ H _ I h) fun ov s1 ⟨x,H1,I1,r1,q1⟩=>?_))
 refine Á (ú (thn (hi pins s1 σ H1 _ I1 q1) fun iv s2 ⟨y,H2,I2,r2,q2⟩=>?_))
 refine Á (wpAny_standAt (Á (ú (thn (hs pins s2 σ H2 x y v ov iv u _ I2 r1 r2 r q2) fun _ s3 ⟨H3,I3,q3⟩=>?_))))
 exact wpAny_release ⟨σ,H3,I3,q3⟩
def pL (te:TE) (g:TG):TS:=fun D σ H=>te σ H fun x H1=>g x σ H1 D.nx
theorem rm {tg e:Expr}{te:TE}{g:TG} (he:PE X e te) (hg:PG X tg g) (hs:swapsWithSole [tg] e pos.line X.env=pure false:=by rfl) (hw:swappedStores [tg] e X.env=pure none:=by rfl)
  (h1:(assignEach [tg] X.env).map (·.2)=[assign tg X.env]:=by rfl):PS X (.Assign [tg] e pos) (pL te g):=by
 intro pins s σ H D I h
 refine wpAny_Assign_stores (thn (he pins s σ H _ I h) fun v s1 ⟨x,H1,I1,r1,q1⟩=>?_) hs hw
 rw [h1]
 exact thn (hg pins s1 σ H1 x v _ I1 r1 q1) fun _ s2 q=>q
theorem fU {i:Nat}{x:Str}{e:Expr}{te:TE}{pos':Pos} (hN:X.N.Nodup) (hi:X.N[i]?=some x) (hx:Loc X.env.scope x) (he:PE X e te) (hs:swapsWith e (some (.Name x pos')) pos.line X.env=pure false:=by rfl) (hf:X.fn x=true\/X.env.scope.names.lookup x=some .local:=by first | exact .inl rfl | exact .inr rfl | assumption) :
  PS X (.Assign [.Name x pos'] e pos) (pL te (gF i)):=by
 intro pins s σ H D I h
 refine wpAny_Assign_Name (thn (he pins s σ H _ I h) fun v s1 ⟨y,H1,I1,r1,q1⟩=>?_) hs
 exact uy I1 hN hi hx r1 (fun s2 I2=>⟨_,H1,I2,q1⟩) hf
end
section
variable {X:Cx}{pos:Pos}
def Kz (c:TT) (tb:TS):TS:=fun D σ H=>∃ W:Nat->St->Hp->Prop,(∃ m,W m σ H)/\∀ m σ H,W m σ H ->
 c σ H fun b H1=>if b=true then ∃ N:St->Hp->Prop,(∀ σ' H',N σ' H'->∃ m',m'<m/\W m' σ' H')/\tb { D with nx:=N,ct:=N,bk:=D.nx } σ H1 else D.nx σ H1
theorem Ec {c:Expr}{body:List Stmt}{tc:TT}{tb:TS} (hp:PassesOwn (model X.prog X.w) X.A X.env X.xe) (hc:PT X c tc) (hb:PSs X body tb):PS X (.While c body [] pos) (Kz tc tb):=by
 intro pins s σ H D I h
 obtain⟨W,⟨m0,w0⟩,turn⟩:=h
 refine wpAny_While (codeAny_whileLoop (fun n s'=>∃ σ' H',Inv X pins σ' H' s'/\W n σ' H') ?_ m0 ⟨σ,H,I,w0⟩)
 rintro n s1 ⟨σ1,H1,I1,w1⟩
 refine Ž hp (thn (hc pins s1 σ1 H1 _ I1 (turn n σ1 H1 w1)) fun b s2 ⟨H2,I2,q2⟩=>?_)
 cases b with
 | true =>
  obtain⟨N,hN,q2⟩:=q2
  rw [if_pos rfl]
  refine Ž hp (thn (hb pins s2 σ1 H2 _ I2 q2) fun f s3 q3=>?_)
  cases f with
  | next =>
   obtain⟨σ3,H3,I3,n3⟩:=q3
   obtain⟨m',hm,w3⟩:=hN σ3 H3 n3
   exact⟨m',hm,σ3,H3,I3,w3⟩
  | cont =>
   obtain⟨σ3,H3,I3,n3⟩:=q3
   obtain⟨m',hm,w3⟩:=hN σ3 H3 n3
   exact⟨m',hm,σ3,H3,I3,w3⟩
  | brk=>exact q3
  | ret v=>exact q3
 | false =>
  rw [if_neg Ô]
  exact wpAny_execs_nil ⟨σ1,H2,I2,q2⟩
end
structure It where
 go:Nat->Hp->Prop
 yld:Nat->Hp->V->Hp->Prop
 stop:Nat->Hp->Prop
def j8 (X:Cx) (pins:List (Addr×Obj)) (H:Hp) (b:Addr):Prop :=
 H b=none/\b≠X.env.locals/\b∉X.fs/\(b∈X.ex\/X.s₀.heap.objs.size<=b)/\(∀ x c,X.env.cells.lookup x=some c->c≠b)/\∀ p∈X.pn++pins,p.1≠b
theorem Inv.Bw {X:Cx}{pins:List (Addr×Obj)}{σ:St}{H H':Hp}{s:Shared}{b:Addr} (I:Inv X pins σ H s) (hb:s.heap.objs.size<=b) (hn:H' b=none):j8 X pins H' b:=by
 refine⟨hn,ń (â I.lt hb),I.Qx hb,.inr (Ĕ I.sz hb),fun x c e z=>?_,fun p hp z=>?_⟩
 ·obtain⟨v,q⟩:=I.cell x c e
  exact absurd (â q.lt (by rw [z]; exact hb)) (ą _)
 ·exact absurd (â (Ë (I.pin p hp).1) (by rw [z]; exact hb)) (ą _)
structure TurnG (Cm:Cx->Prop) (P:Program) (w:World) (K:Ý) (tg:Expr) (J:It) (fp:List Addr) (it:Addr) (tn:Nat->Heap->Prop):Prop where
 mem:it∈fp
 obj:∀ i h,tn i h->∀ b∈fp,∃ o,h.get? b=some o/\∀ v,o.data≠.cell v
 keep:∀ i h h',tn i h->(∀ b∈fp,∀ o,h.get? b=some o->h'.get? b=some o)->tn i h'
 item:∀ (X:Cx),X.prog=P->X.w=w->X.K=K->Cm X->∀ (i:Nat) (pins:List (Addr×Obj)) (s:Shared) (σ:St) (H:Hp) (E:Value->Shared->Prop),Inv X pins σ H s->(∀ b∈fp,j8 X pins H b)->tn i s.heap->J.go i H ->
  wpAny (model P w) X.A (pyNext (.ref it)) (fun r s1=>∃ u,r=some u /\
   wpAny (model P w) X.A (letOwnedTupleGo tg (.ref it) u) (fun _ s2=>∃ x H',Inv X pins σ H' s2/\RelV x u/\J.yld i H x H'/\tn (i+1) s2.heap/\∀ b∈fp,H' b=none) E s1) E s
 done:∀ (X:Cx),X.prog=P->X.w=w->X.K=K->Cm X->∀ (i:Nat) (pins:List (Addr×Obj)) (s:Shared) (σ:St) (H:Hp) (E:Value->Shared->Prop),Inv X pins σ H s->(∀ b∈fp,j8 X pins H b)->tn i s.heap->J.stop i H ->
  wpAny (model P w) X.A (pyNext (.ref it)) (fun r s1=>r=none/\Inv X pins σ H s1) E s
 self:∀ (A:Around) (i:Nat) (s:Shared) (Q:Value->Shared->Prop) (E:Value->Shared->Prop),tn i s.heap->Q (.ref it) s->wpAny (model P w) A (pyIter (.ref it)) Q E s
abbrev Turn (P:Program) (w:World) (K:Ý) (tg:Expr) (J:It) (fp:List Addr) (it:Addr) (tn:Nat->Heap->Prop):Prop:=TurnG (fun X=>X.calm=true) P w K tg J fp it tn
abbrev TI:=St->Hp->(It->Hp->Prop)->Prop
def Qg (Cm:Cx->Prop) (X:Cx) (pins:List (Addr×Obj)) (σ:St) (tg:Expr) (R:It->Hp->Prop) (itv:Value) (s2:Shared):Prop :=
 ∃ (it:Addr) (fp:List Addr) (tn:Nat->Heap->Prop) (J:It) (H':Hp),itv=.ref it/\Inv X pins σ H' s2/\TurnG Cm X.prog X.w X.K tg J fp it tn/\tn 0 s2.heap/\(∀ b∈fp,j8 X pins H' b)/\R J H'
def PIG (Cm:Cx->Prop) (X:Cx) (tg iter:Expr) (wi:TI):Prop :=
 ∀ (pins:List (Addr×Obj)) (s:Shared) (σ:St) (H:Hp) (R:It->Hp->Prop),Inv X pins σ H s->wi σ H R ->
  wpAny (model X.prog X.w) X.A (eval iter X.env) (fun v s1=>wpAny (model X.prog X.w) X.A (pyIter v) (Qg Cm X pins σ tg R) X.xe s1) X.xe s
abbrev PIE (X:Cx):=Qg (fun X=>X.calm=true) X
abbrev PI (X:Cx):=PIG (fun X=>X.calm=true) X
theorem Gm {M:Model}{A:Around}{E:Value->Shared->Prop}{s:Shared}{tg:Expr}{it:Addr}{u:Value}{o:Obj}{n:String}{vs:Array Value}{Q:Unit->Shared->Prop} (ho:s.heap.get? it=some o) (hc:o.cls=.type n) (hd:o.data=.fields vs)
  (hn:["enumerate","zip","dict_itemiterator","dict_reverseitemiterator","odict_iterator","itertools.zip_longest","itertools.pairwise"].contains n=false) (hQ:Q () s):wpAny M A (letOwnedTupleGo tg (.ref it) u) Q E s:=by
 unfold letOwnedTupleGo
 cases tg <;> first
  | exact Ä hQ
  | (cases u <;> first
    | exact Ä hQ
    | (refine Á (wpAny_load ho ?_)
       rw [hc,hd]
       show wpAny M A (if (["enumerate","zip","dict_itemiterator","dict_reverseitemiterator","odict_iterator","itertools.zip_longest","itertools.pairwise"].contains n&&vs[0]? == some (rawInt _))=true then _ else _) Q E s
       rw [if_neg (by intro h; rw [hn,Bool.false_and] at h; cases h)]
       exact Ä hQ))
def Itl (K:Ý) (a:Addr):It :=
 ⟨fun i H=>∃ xs x,SqL K H a xs/\xs[i]?=some x,fun i H x H'=>H'=H/\∀ xs,SqL K H a xs->xs[i]?=some x,fun i H=>∃ xs,SqL K H a xs/\xs.length<=i⟩
def Itt (K:Ý) (a:Addr):It :=
 ⟨fun i H=>∃ xs x,SqT K H a xs/\xs[i]?=some x,fun i H x H'=>H'=H/\∀ xs,SqT K H a xs->xs[i]?=some x,fun i H=>∃ xs,SqT K H a xs/\xs.length<=i⟩
def Itr (lo:Int) (n:Nat):It:=⟨fun i _=>i<n,fun i H x H'=>H'=H/\x=.int (lo+i),fun i _=>n<=i⟩
theorem Af {P:Program}{w:World}{K:Ý}{tg:Expr} (a it:Addr):Turn P w K tg (Itl K a) [it] it (fun i h=>h.IsListIter it a i) where
 mem:=by simp
 obj:=fun i h st b hb=>by
  have e:b=it:=by simpa using hb
  subst e
  obtain⟨o,e,c,d⟩:=st
  exact⟨o,e,fun v z=>by rw [d] at z; cases z⟩
 keep:=fun i h h' st k=>st.at fun o e=>k it (by simp) o e
 item:=by
  intro X hP hw hK hc i pins s σ H E I hf st hg
  subst hP hw hK
  obtain⟨xs,x,hq,hx⟩:=hg
  obtain⟨its,rv,p,hz⟩:=I.list hq
  obtain⟨u,hu,ru⟩:=rv.get hx
  obtain⟨f0,f1,f2,f3,f4,f5⟩:=hf it (by simp)
  refine wpAny_pyNext_list_item st p.isList (x:=u) (by simpa using hu) fun h' st' sb=>?_
  have I1:Inv X pins σ H { s with heap:=h' }:=I.turned (t':=s.toks) (fun b o hb e=>(sb.2 b hb).trans e) f0 f1 f3 f4 f5
  obtain⟨o,e,c,d⟩:=id st'
  exact⟨u,rfl,Gm (s:={ s with heap:=h' }) e c d (by decide) ⟨x,H,I1,ru,⟨rfl,fun ys hy=>by rw [I.oE hy hq]; exact hx⟩,st',fun b hb=>(hf b hb).1⟩⟩
 done:=by
  intro X hP hw hK hc i pins s σ H E I hf st hg
  subst hP hw hK
  obtain⟨xs,hq,hx⟩:=hg
  obtain⟨its,rv,p,hz⟩:=I.list hq
  obtain⟨f0,f1,f2,f3,f4,f5⟩:=hf it (by simp)
  have hl:=rv.length
  exact wpAny_pyNext_list_end (I.ok.hd hc) st p.isList (by simp; omega) fun h' eb=>⟨rfl,I.turned (t':=s.toks) (fun b o hb e=>eb b o hb e) f0 f1 f3 f4 f5⟩
 self:=fun _ _ _ _ _ st h=>wpAny_pyIter_listiter st h
theorem vR {P:Program}{w:World}{K:Ý}{tg:Expr} (a it:Addr):Turn P w K tg (Itt K a) [it] it (fun i h=>h.IsTupleIter it a i) where
 mem:=by simp
 obj:=fun i h st b hb=>by
  have e:b=it:=by simpa using hb
  subst e
  obtain⟨o,e,c,d⟩:=st
  exact⟨o,e,fun v z=>by rw [d] at z; cases z⟩
 keep:=fun i h h' st k=>st.at fun o e=>k it (by simp) o e
 item:=by
  intro X hP hw hK hc i pins s σ H E I hf st hg
  subst hP hw hK
  obtain⟨xs,x,hq,hx⟩:=hg
  obtain⟨its,rv,p,hz⟩:=I.tuple hq
  obtain⟨u,hu,ru⟩:=rv.get hx
  obtain⟨f0,f1,f2,f3,f4,f5⟩:=hf it (by simp)
  refine wpAny_pyNext_tuple_item st (show s.heap.IsTuple a its.toArray from p) (x:=u) (by simpa using hu) fun h' st' sb=>?_
  have I1:Inv X pins σ H { s with heap:=h' }:=I.turned (t':=s.toks) (fun b o hb e=>(sb.2 b hb).trans e) f0 f1 f3 f4 f5
  obtain⟨o,e,c,d⟩:=id st'
  exact⟨u,rfl,Gm (s:={ s with heap:=h' }) e c d (by decide) ⟨x,H,I1,ru,⟨rfl,fun ys hy=>by rw [I.pZ hy hq]; exact hx⟩,st',fun b hb=>(hf b hb).1⟩⟩
 done:=by
  intro X hP hw hK hc i pins s σ H E I hf st hg
  subst hP hw hK
  obtain⟨xs,hq,hx⟩:=hg
  obtain⟨its,rv,p,hz⟩:=I.tuple hq
  obtain⟨f0,f1,f2,f3,f4,f5⟩:=hf it (by simp)
  have hl:=rv.length
  exact wpAny_pyNext_tuple_end (I.ok.hd hc) st (show s.heap.IsTuple a its.toArray from p) (by simp; omega) fun h' eb=>⟨rfl,I.turned (t':=s.toks) (fun b o hb e=>eb b o hb e) f0 f1 f3 f4 f5⟩
 self:=fun _ _ _ _ _ st h=>wpAny_pyIter_tupleiter st h
theorem vU {P:Program}{w:World}{K:Ý}{tg:Expr} (it:Addr) (lo:Int) (n:Nat):Turn P w K tg (Itr lo n) [it] it (fun i h=>IsRangeIter h it (lo+(i:Nat) * 1) ((n:Int) - (i:Nat)) 1) where
 mem:=by simp
 obj:=fun i h st b hb=>by
  have e:b=it:=by simpa using hb
  subst e
  exact⟨_,st,fun v z=>by
   have z':Data.fields _=Data.cell v:=z
   cases z'⟩
 keep:=fun i h h' st k=>k it (by simp) _ st
 item:=by
  intro X hP hw hK hc i pins s σ H E I hf st hg
  subst hP hw hK
  obtain⟨f0,f1,f2,f3,f4,f5⟩:=hf it (by simp)
  have W:=Walks.range (prog:=X.prog) (w:=X.w) (I.ok.hd hc) it lo 1 n
  refine W.item i s _ _ hg st fun v h' tk hv st' kk=>?_
  obtain⟨t,rfl⟩:=hv
  have I1:Inv X pins σ H { s with heap:=h',toks:=tk }:=I.turned (fun b o hb e=>kk b o (by simpa using hb) e) f0 f1 f3 f4 f5
  refine⟨_,rfl,Gm (s:={ s with heap:=h',toks:=tk }) (n:="range_iterator") st' rfl rfl (by decide) ⟨.int (lo+i),H,I1,⟨t,?_⟩,⟨rfl,rfl⟩,st',fun b hb=>(hf b hb).1⟩⟩
  rw [Int.mul_one]
 done:=by
  intro X hP hw hK hc i pins s σ H E I hf st hg
  subst hP hw hK
  obtain⟨f0,f1,f2,f3,f4,f5⟩:=hf it (by simp)
  exact wpAny_pyNext_range_end (I.ok.hd hc) st (by have:n<=i:=hg; omega) fun h' eb=>⟨rfl,I.turned (t':=s.toks) (fun b o hb e=>eb b o hb e) f0 f1 f3 f4 f5⟩
 self:=fun _ _ _ _ _ st h=>wpAny_pyIter_rangeiter st h
section
variable {X:Cx}{tg:Expr}
theorem uK {pins:List (Addr×Obj)}{σ:St}{H:Hp}{s:Shared}{R:It->Hp->Prop}{E:Value->Shared->Prop}{lo hi:Int}{t u v:Tok}{tk:Nat} (I:Inv X pins σ H s) (h1:-(2 ^ 62)<=lo) (h2:lo<2 ^ 62) (h3:-(2 ^ 62)<=hi) (h4:hi<2 ^ 62)
  (q:R (Itr lo (hi - lo).toNat) H):wpAny (model X.prog X.w) X.A (pyIter (.ref s.heap.objs.size)) (PIE X pins σ tg R) E { s with heap:=s.heap.push { cls:=.type "range",data:=.fields #[.int lo t,.int hi u,.int 1 v] },toks:=tk }:=by
 refine wpAny_pyIter_range (IsRange.new ..) (small_one h1 h2 h3 h4) ?_
 have I1:Inv X pins σ H { s with heap:=s.heap.push { cls:=.type "range",data:=.fields #[.int lo t,.int hi u,.int 1 v] },toks:=tk }:=I.kept fun b o e=>Å _ e
 refine⟨(s.heap.push { cls:=.type "range",data:=.fields #[.int lo t,.int hi u,.int 1 v] }).objs.size,[(s.heap.push { cls:=.type "range",data:=.fields #[.int lo t,.int hi u,.int 1 v] }).objs.size],_,_,H,rfl,
  I1.kept (t':=tk) fun b o e=>Å _ e,vU _ lo (hi - lo).toNat,?_,fun b hb=>?_,q⟩
 ·have e1:lo+((0:Nat):Int) * 1=lo:=by simp
  have e2:(((hi - lo).toNat:Nat):Int) - ((0:Nat):Int)=Builtin.Range.rangeSize lo hi 1:=by rw [rangeSize_one]; split <;> omega
  show IsRangeIter _ _ (lo+((0:Nat):Int) * 1) ((((hi - lo).toNat:Nat):Int) - ((0:Nat):Int)) 1
  rw [e1,e2]
  exact Ò _ rfl
 ·have e:b=(s.heap.push { cls:=.type "range",data:=.fields #[.int lo t,.int hi u,.int 1 v] }).objs.size:=by simpa using hb
  subst e
  exact I1.Bw (Ï _) (I1.hok.fresh (Ï _))
def Px (ta:TA):TI:=fun σ H R=>ta σ H fun vs H1=>∃ j:Int,vs=[.int j]/\-(2 ^ 62)<=j/\j<2 ^ 62/\R (Itr 0 j.toNat) H1
def Pu (ta:TA):TI:=fun σ H R=>ta σ H fun vs H1=>∃ i j:Int,vs=[.int i,.int j]/\(-(2 ^ 62)<=i/\i<2 ^ 62/\-(2 ^ 62)<=j/\j<2 ^ 62)/\R (Itr i (j - i).toNat) H1
theorem qp {a:Expr}{ta:TA}{p pos:Pos} (hg:Gl X "range") (hm:X.mg "range"=none) (ha:PA X [a] ta) (hs:starEach [a] X.env=[(false,eval a X.env)]:=by rfl):PI X tg (.Call (.Name "range" p) [a] [] pos) (Px ta):=by
 intro pins s σ H R I h
 refine Call_ (dh I hg hm boot_range (ā (thn (ha pos pins s σ H _ I h) fun us s1 ⟨vs,H1,I1,r1,q1⟩=>?_) hs rfl))
 obtain⟨j,e,q1,q2,q⟩:=q1
 subst e
 cases r1 with
 | cons r rr =>
  cases rr
  obtain⟨t,rfl⟩:=r
  exact call_range_1 (uK I1 (by omega) (by omega) q1 q2 (by simpa using q))
theorem Az {a b:Expr}{ta:TA}{p pos:Pos} (hg:Gl X "range") (hm:X.mg "range"=none) (ha:PA X [a,b] ta) (hs:starEach [a,b] X.env=[(false,eval a X.env),(false,eval b X.env)]:=by rfl) (hs2:starEach [b] X.env=[(false,eval b X.env)]:=by rfl) :
  PI X tg (.Call (.Name "range" p) [a,b] [] pos) (Pu ta):=by
 intro pins s σ H R I h
 refine Call_ (dh I hg hm boot_range (ā (thn (ha pos pins s σ H _ I h) fun us s1 ⟨vs,H1,I1,r1,q1⟩=>?_) (by rw [hs,hs2]) (by rw [hs2]; rfl)))
 obtain⟨i,j,e,⟨q1,q2,q3,q4⟩,q⟩:=q1
 subst e
 cases r1 with
 | cons r rr =>
  cases rr with
  | cons r' rr =>
   cases rr
   obtain⟨t,rfl⟩:=r
   obtain⟨t',rfl⟩:=r'
   exact call_range_2 (uK I1 q1 q2 q3 q4 q)
def Qq (wi:TI) (g:TG) (tb:TS):TS:=fun D σ H=>wi σ H fun J H1=>∃ W:Nat->Nat->St->Hp->Prop,(∃ m,W 0 m σ H1)/\∀ i m σ H,W i m σ H ->
 (J.stop i H/\D.nx σ H)\/(J.go i H/\∃ N:St->Hp->Prop,(∀ σ' H',N σ' H'->∃ m',m'<m/\W (i+1) m' σ' H')/\∀ x H',J.yld i H x H'->g x σ H' fun σ2 H2=>tb { D with nx:=N,ct:=N,bk:=D.nx } σ2 H2)
def fV (fp:List Addr) (h:Heap):List (Addr×Obj):=fp.filterMap fun b=>(h.get? b).map fun o=>(b,o)
theorem fj {fp:List Addr}{h:Heap}{b:Addr}{o:Obj} (hb:b∈fp) (e:h.get? b=some o):(b,o)∈fV fp h:=List.mem_filterMap.mpr ⟨b,hb,by rw [e]; rfl⟩
theorem qt {fp:List Addr}{h:Heap}{p:Addr×Obj} (hp:p∈fV fp h):p.1∈fp/\h.get? p.1=some p.2:=by
 obtain⟨b,hb,e⟩:=List.mem_filterMap.mp hp
 cases q:h.get? b with
 | none=>rw [q] at e; cases e
 | some o =>
  rw [q] at e
  have e':(b,o)=p:=Û e
  subst e'
  exact⟨hb,q⟩
theorem Inv.pinned {pins:List (Addr×Obj)}{σ:St}{H:Hp}{s:Shared}{fp:List Addr} (I:Inv X pins σ H s) (hf:∀ b∈fp,j8 X pins H b) (ho:∀ b∈fp,∃ o,s.heap.get? b=some o/\∀ v,o.data≠.cell v):Inv X (pins++fV fp s.heap) σ H s :=
 I.mL fun p hp=>(ä.mp hp).elim (fun z=>I.pin p (ã _ z)) fun z=>by
  obtain⟨hb,e⟩:=qt z
  obtain⟨f0,f1,f2,_⟩:=hf p.1 hb
  obtain⟨o,e',d⟩:=ho p.1 hb
  rw [e] at e'; cases e'
  exact⟨e,f0,f1,f2,d⟩
theorem Inv.jh {pins pl:List (Addr×Obj)}{σ:St}{H:Hp}{s:Shared} (I:Inv X (pins++pl) σ H s):Inv X pins σ H s:=I.mL fun p hp=>I.pin p (ã _ (þ _ hp))
theorem Li {iter:Expr}{body:List Stmt}{wi:TI}{g:TG}{tb:TS}{pos:Pos} (hp:PassesOwn (model X.prog X.w) X.A X.env X.xe) (hc:X.calm=true) (hi:PI X tg iter wi) (hg:PG X tg g) (hb:PSs X body tb)
  (hs:∀ x,foldedSetIterable iter X.env x=pure x:=by intro _; rfl):PS X (.For tg iter body [] pos) (Qq wi g tb):=by
 intro pins s σ H D I h
 refine wpAny_For (thn (hi pins s σ H _ I h) fun v s1 h1=>thn h1 fun itv s2 h2=>?_) hs
 obtain⟨it,fp,tn,J,H2,e,I2,T,st2,f2,W,⟨m0,w0⟩,turn⟩:=h2
 subst e
 -- what stays true of the iterator's objects through the loop
 have stat:∀ {H':Hp},(∀ b∈fp,H' b=none)->∀ b∈fp,j8 X pins H' b:=fun hn b hb=>⟨hn b hb,(f2 b hb).2⟩
 refine codeAny_forLoop_any (fun n s'=>∃ i σ' H',Inv X pins σ' H' s'/\tn i s'.heap/\(∀ b∈fp,H' b=none)/\W i n σ' H') ?_ m0 ⟨0,σ,H2,I2,st2,fun b hb=>(f2 b hb).1,w0⟩
 rintro n s3 ⟨i,σ3,H3,I3,st3,fr3,w3⟩
 rcases turn i n σ3 H3 w3 with ⟨stop,qn⟩ | ⟨go,N,hN,step⟩
 ·refine Ž hp (thn (T.done X rfl rfl rfl hc i pins s3 σ3 H3 X.xe I3 (stat fr3) st3 stop) fun r s4 ⟨hr,I4⟩=>?_)
  subst hr
  exact wpAny_execs_nil ⟨σ3,H3,I4,qn⟩
 ·refine Ž hp (thn (T.item X rfl rfl rfl hc i pins s3 σ3 H3 X.xe I3 (stat fr3) st3 go) fun r s4 ⟨u,hr,h4⟩=>?_)
  subst hr
  refine Ž hp (thn h4 fun _ s5 ⟨x,H5,I5,r5,y5,st5,fr5⟩=>?_)
  have I5':=I5.pinned (stat fr5) (T.obj _ _ st5)
  refine Ž hp (thn (hg _ s5 σ3 H5 x u _ I5' r5 (step x H5 y5)) fun _ s6 ⟨σ6,H6,I6,q6⟩=>?_)
  refine Ž hp (thn (hb _ s6 σ6 H6 _ I6 q6) fun f s7 q7=>?_)
  have again:∀ {σ7:St}{H7:Hp},Inv X (pins++fV fp s5.heap) σ7 H7 s7->N σ7 H7->∃ m,m<n/\∃ i σ' H',Inv X pins σ' H' s7/\tn i s7.heap/\(∀ b∈fp,H' b=none)/\W i m σ' H':=fun {σ7 H7} I7 n7=>by
   obtain⟨m',hm,w7⟩:=hN σ7 H7 n7
   refine⟨m',hm,i+1,σ7,H7,I7.jh,T.keep _ _ _ st5 fun b hb o e=>(I7.pin (b,o) (ã _ (ã _ (fj hb e)))).1,fun b hb=>?_,w7⟩
   obtain⟨o,e,d⟩:=T.obj _ _ st5 b hb
   exact (I7.pin (b,o) (ã _ (ã _ (fj hb e)))).2.1
  cases f with
  | next=>obtain⟨σ7,H7,I7,n7⟩:=q7; exact again I7 n7
  | cont=>obtain⟨σ7,H7,I7,n7⟩:=q7; exact again I7 n7
  | brk=>obtain⟨σ7,H7,I7,q7⟩:=q7; exact⟨σ7,H7,I7.jh,q7⟩
  | ret v=>obtain⟨x7,σ7,H7,I7,r7,q7⟩:=q7; exact⟨x7,σ7,H7,I7.jh,r7,q7⟩
end
abbrev R2:=V->V->Hp->VK->Prop
def OpR (X:Cx) (f:Value->Value->Sem Value) (r:R2):Prop :=
 ∀ (pins:List (Addr×Obj)) (s:Shared) (σ:St) (H:Hp) (x y:V) (v u:Value) (Q:VK),Inv X pins σ H s->RelV x v->RelV y u->r x y H Q ->
  wpAny (model X.prog X.w) X.A (f v u) (EP X pins σ Q) X.xe s
def UnR (X:Cx) (f:Value->Sem Value) (r:V->Hp->VK->Prop):Prop :=
 ∀ (pins:List (Addr×Obj)) (s:Shared) (σ:St) (H:Hp) (x:V) (v:Value) (Q:VK),Inv X pins σ H s->RelV x v->r x H Q ->
  wpAny (model X.prog X.w) X.A (f v) (EP X pins σ Q) X.xe s
def aU (X:Cx) (f:Value) (r:List V->Hp->VK->Prop):Prop :=
 ∀ (pins:List (Addr×Obj)) (s:Shared) (σ:St) (H:Hp) (xs:List V) (us:List Value) (Q:VK),Inv X pins σ H s->Vals xs us->r xs H Q ->
  wpAny (model X.prog X.w) X.A (call f us) (EP X pins σ Q) X.xe s
def QM (X:Cx) (r:V->Hp->(Bool->Hp->Prop)->Prop):Prop :=
 ∀ (pins:List (Addr×Obj)) (s:Shared) (σ:St) (H:Hp) (x:V) (v:Value) (Q:Bool->Hp->Prop),Inv X pins σ H s->RelV x v->r x H Q ->
  wpAny (model X.prog X.w) X.A (truthy v) (TP X pins σ Q) X.xe s
def tOp (r:R2) (ta tb:TE):TE:=fun σ H Q=>ta σ H fun x H1=>tb σ H1 fun y H2=>r x y H2 Q
def tUn (r:V->Hp->VK->Prop) (ta:TE):TE:=fun σ H Q=>ta σ H fun x H1=>r x H1 Q
def rI (C:Int->Int->Prop) (g:Int->Int->V):R2:=fun x y H Q=>∃ i j,x=.int i/\y=.int j/\C i j/\Q (g i j) H
def rI0 (g:Int->Int->V):R2:=fun x y H Q=>∃ i j,x=.int i/\y=.int j/\Q (g i j) H
def rU (g:Int->V):V->Hp->VK->Prop:=fun x H Q=>∃ i,x=.int i/\Q (g i) H
section
variable {X:Cx}{a b c:Expr}{ta tb tc:TE}{pos:Pos}
theorem Nv (ha:PE X a ta) (hb:PE X b tb) {pins:List (Addr×Obj)}{s:Shared}{σ:St}{H:Hp}{R:V->V->Hp->Prop} (I:Inv X pins σ H s)
  (h:ta σ H fun x H1=>tb σ H1 fun y H2=>R x y H2) {Q:Value->Shared->Prop}{f:Value->Value->Sem Value}
  (hf:∀ v u s2 x y H2,Inv X pins σ H2 s2->RelV x v->RelV y u->R x y H2->wpAny (model X.prog X.w) X.A (f v u) Q X.xe s2) :
  wpAny (model X.prog X.w) X.A (eval a X.env) (fun v s₁=>wpAny (model X.prog X.w) X.A (eval b X.env) (fun u s₂=>wpAny (model X.prog X.w) X.A (f v u) Q X.xe s₂) X.xe s₁) X.xe s:=by
 refine thn (ha pins s σ H _ I h) fun v s1 ⟨x,H1,I1,r1,q1⟩=>?_
 refine thn (hb pins s1 σ H1 _ I1 q1) fun u s2 ⟨y,H2,I2,r2,q2⟩=>?_
 exact hf v u s2 x y H2 I2 r1 r2 q2
theorem bJ {op:Operator}{r:R2} (ho:OpR X (binaryOp op) r) (ha:PE X a ta) (hb:PE X b tb):PE X (.BinOp a op b pos) (tOp r ta tb):=by
 intro pins s σ H Q I h
 exact wpAny_BinOp (Nv ha hb I h fun v u s2 x y H2 I2 rx ry q=>ho pins s2 σ H2 x y v u Q I2 rx ry q)
theorem O1 {op:UnaryOp}{r:V->Hp->VK->Prop} (ho:UnR X (unaryOp op) r) (ha:PE X a ta):PE X (.UnaryOp op a pos) (tUn r ta):=by
 intro pins s σ H Q I h
 exact UnaryOp_ (thn (ha pins s σ H _ I h) fun v s1 ⟨x,H1,I1,r1,q1⟩=>ho pins s1 σ H1 x v Q I1 r1 q1)
theorem opI {f:Value->Value->Sem Value}{C:Int->Int->Prop}{g:Int->Int->Int}
  (rule:∀ (i j:Int) (t u:Tok) (s:Shared) (Q:Value->Shared->Prop) (E:Value->Shared->Prop),C i j->Q (.int (g i j) s.toks) { s with toks:=s.toks+1 }->wpAny (model X.prog X.w) X.A (f (.int i t) (.int j u)) Q E s) :
  OpR X f (rI C fun i j=>.int (g i j)):=by
 intro pins s σ H x y v u Q I rx ry h
 obtain⟨i,j,rfl,rfl,hc,q⟩:=h
 obtain⟨t,rfl⟩:=rx
 obtain⟨t',rfl⟩:=ry
 exact rule i j t t' s _ _ hc ⟨.int (g i j),H,I.tok _,⟨_,rfl⟩,q⟩
theorem O5 {f:Value->Value->Sem Value}{g:Int->Int->Int}
  (rule:∀ (i j:Int) (t u:Tok) (s:Shared) (Q:Value->Shared->Prop) (E:Value->Shared->Prop),Q (.int (g i j) s.toks) { s with toks:=s.toks+1 }->wpAny (model X.prog X.w) X.A (f (.int i t) (.int j u)) Q E s) :
  OpR X f (rI0 fun i j=>.int (g i j)):=by
 intro pins s σ H x y v u Q I rx ry h
 obtain⟨i,j,rfl,rfl,q⟩:=h
 obtain⟨t,rfl⟩:=rx
 obtain⟨t',rfl⟩:=ry
 exact rule i j t t' s _ _ ⟨.int (g i j),H,I.tok _,⟨_,rfl⟩,q⟩
theorem Je {f:Value->Value->Sem Value}{g:Int->Int->Bool}
  (rule:∀ (i j:Int) (t u:Tok) (s:Shared) (Q:Value->Shared->Prop) (E:Value->Shared->Prop),Q (.bool (g i j)) s->wpAny (model X.prog X.w) X.A (f (.int i t) (.int j u)) Q E s) :
  OpR X f (rI0 fun i j=>.bl (g i j)):=by
 intro pins s σ H x y v u Q I rx ry h
 obtain⟨i,j,rfl,rfl,q⟩:=h
 obtain⟨t,rfl⟩:=rx
 obtain⟨t',rfl⟩:=ry
 exact rule i j t t' s _ _ ⟨.bl (g i j),H,I,rfl,q⟩
def QW (i j:Int):Prop:=0<j/\j<1073741824
def QV (i j:Int):Prop:=0<=j/\j<=1000000/\i.natAbs<2 ^ 64
def JN (i j:Int):Prop:=(-(2 ^ 64)<i/\i<2 ^ 64)\/(-(2 ^ 64)<j/\j<2 ^ 64)
theorem JN.ok {i j:Int} (h:JN i j):IntMulOk i j:=by
 rcases h with ⟨h1,h2⟩ | ⟨h1,h2⟩
 ·exact .of_left (intBits_le_64 h1 h2)
 ·exact .of_right (intBits_le_64 h1 h2)
theorem fW:OpR X (binaryOp .Add) (rI0 fun i j=>.int (i+j)):=O5 fun _ _ _ _ _ _ _ q=>add_int q
theorem LR:OpR X (binaryOp .Sub) (rI0 fun i j=>.int (i - j)):=O5 fun _ _ _ _ _ _ _ q=>sub_int q
theorem kZ:OpR X (binaryOp .Mult) (rI JN fun i j=>.int (i * j)):=opI fun _ _ _ _ _ _ _ hc q=>mul_int q hc.ok
theorem yX:OpR X (binaryOp .FloorDiv) (rI QW fun i j=>.int (i / j)):=opI fun i j _ _ _ _ _ hc q=>by
 have h1:(0:Int)<j:=hc.1
 have h2:j<1073741824:=hc.2
 exact floordiv_int (by omega) (by rw [Int.fdiv_eq_ediv_of_nonneg i (by omega)]; exact q) (.inl (PyProof.noPylong_small (by omega)))
theorem eY:OpR X (binaryOp .Mod) (rI (fun _ j=>0<j) fun i j=>.int (i % j)):=opI fun i j _ _ _ _ _ hc q=>by
 have h1:(0:Int)<j:=hc
 exact mod_int' (by omega) (by rw [Int.fmod_eq_emod_of_nonneg i (by omega)]; exact q)
theorem Mf:OpR X (binaryOp .Pow) (rI QV fun i j=>.int (i ^ j.toNat)):=opI fun _ _ _ _ _ _ _ hc q=>pow_int_small hc.1 hc.2.1 hc.2.2 q
theorem unI {f:Value->Sem Value}{g:Int->Int}
  (rule:∀ (i:Int) (t:Tok) (s:Shared) (Q:Value->Shared->Prop) (E:Value->Shared->Prop),Q (.int (g i) s.toks) { s with toks:=s.toks+1 }->wpAny (model X.prog X.w) X.A (f (.int i t)) Q E s) :
  UnR X f (rU fun i=>.int (g i)):=by
 intro pins s σ H x v Q I rx h
 obtain⟨i,rfl,q⟩:=h
 obtain⟨t,rfl⟩:=rx
 exact rule i t s _ _ ⟨.int (g i),H,I.tok _,⟨_,rfl⟩,q⟩
theorem Kv:UnR X (unaryOp .USub) (rU fun i=>.int (-i)):=unI fun _ _ _ _ _ q=>neg_int q
end
def Oq:V->V->Bool
 | .non,.non=>true | .non,.int _=>true | .int _,.non=>true | .non,.bl _=>true | .bl _,.non=>true | .non,.str _=>true | .str _,.non=>true
 | .int _,.int _=>true | .bl _,.bl _=>true | .str _,.str _=>true | .byt _,.byt _=>true
 | .int _,.str _=>true | .str _,.int _=>true | .bl _,.str _=>true | .str _,.bl _=>true
 | _,_=>false
def rEq:R2:=fun x y H Q=>Oq x y=true/\Q (.bl (decide (x=y))) H
def rNe:R2:=fun x y H Q=>Oq x y=true/\Q (.bl (!decide (x=y))) H
theorem zY {i j:Int}:decide (V.int i=V.int j)=(i == j):=by
 rw [ĵ]
 simp
theorem Hf {i j:Bool}:decide (V.bl i=V.bl j)=(i == j):=by
 rw [ĵ]
 simp
theorem zX {i j:Str}:decide (V.str i=V.str j)=(i == j):=by
 rw [ĵ]
 simp
theorem zZ {i j:Array UInt8}:decide (V.byt i=V.byt j)=(i.toList == j.toList):=by
 rw [ĵ]
 cases i
 cases j
 simp
section
variable {X:Cx}{a b c:Expr}{ta tb tc:TE}{pos:Pos}
theorem aJ {pins:List (Addr×Obj)}{σ:St}{H:Hp}{s:Shared}{Q:VK}{k k':Bool} (I:Inv X pins σ H s) (q:Q (.bl k) H) (e:k=k'):EP X pins σ Q (.bool k') s:=by
 subst e
 exact⟨.bl k,H,I,rfl,q⟩
theorem Fe:OpR X (compareOp .Eq) rEq:=by
 intro pins s σ H x y v u Q I rx ry h
 obtain⟨hs,q⟩:=h
 cases x with
 | non =>
  cases rx
  cases y with
  | non=>cases ry; exact PySem.EqNone.eq_none_none (aJ I q (by simp))
  | bl j=>cases ry; exact PySem.EqNone.eq_none_bool (aJ I q (by simp))
  | int j=>obtain⟨t',rfl⟩:=ry; exact PySem.EqNone.eq_none_int (aJ I q (by simp))
  | str j=>obtain⟨t',rfl⟩:=ry; exact PySem.EqNone.eq_none_str (aJ I q (by simp))
  | _=>exact absurd (show false=true from hs) Ô
 | bl i =>
  cases rx
  cases y with
  | non=>cases ry; exact PySem.EqNone.eq_bool_none (aJ I q (by simp))
  | bl j=>cases ry; exact eq_bool (aJ I q Hf)
  | str j=>obtain⟨t',rfl⟩:=ry; exact PySem.EqMixed.eq_bool_str (aJ I q (by simp))
  | _=>exact absurd (show false=true from hs) Ô
 | int i =>
  obtain⟨t,rfl⟩:=rx
  cases y with
  | non=>cases ry; exact PySem.EqNone.eq_int_none (aJ I q (by simp))
  | int j=>obtain⟨t',rfl⟩:=ry; exact eq_int (aJ I q zY)
  | str j=>obtain⟨t',rfl⟩:=ry; exact PySem.EqMixed.eq_int_str (aJ I q (by simp))
  | _=>exact absurd (show false=true from hs) Ô
 | str i =>
  obtain⟨t,rfl⟩:=rx
  cases y with
  | non=>cases ry; exact PySem.EqNone.eq_str_none (aJ I q (by simp))
  | bl j=>cases ry; exact PySem.EqMixed.eq_str_bool (aJ I q (by simp))
  | int j=>obtain⟨t',rfl⟩:=ry; exact PySem.EqMixed.eq_str_int (aJ I q (by simp))
  | str j=>obtain⟨t',rfl⟩:=ry; exact eq_str (aJ I q zX)
  | _=>exact absurd (show false=true from hs) Ô
 | byt i =>
  obtain⟨t,rfl⟩:=rx
  cases y with
  | byt j=>obtain⟨t',rfl⟩:=ry; exact W.eq_bytes (aJ I q zZ)
  | _=>exact absurd (show false=true from hs) Ô
 | _=>cases y <;> exact absurd (show false=true from hs) Ô
theorem J1:OpR X (compareOp .NotEq) rNe:=by
 intro pins s σ H x y v u Q I rx ry h
 obtain⟨hs,q⟩:=h
 cases x with
 | non =>
  cases rx
  cases y with
  | non=>cases ry; exact PySem.EqNone.ne_none_none (aJ I q (by simp))
  | bl j=>cases ry; exact PySem.EqNone.ne_none_bool (aJ I q (by simp))
  | int j=>obtain⟨t',rfl⟩:=ry; exact PySem.EqNone.ne_none_int (aJ I q (by simp))
  | str j=>obtain⟨t',rfl⟩:=ry; exact PySem.EqNone.ne_none_str (aJ I q (by simp))
  | _=>exact absurd (show false=true from hs) Ô
 | bl i =>
  cases rx
  cases y with
  | non=>cases ry; exact PySem.EqNone.ne_bool_none (aJ I q (by simp))
  | bl j=>cases ry; exact ne_bool (aJ I q (congrArg not Hf))
  | str j=>obtain⟨t',rfl⟩:=ry; exact PySem.EqMixed.ne_bool_str (aJ I q (by simp))
  | _=>exact absurd (show false=true from hs) Ô
 | int i =>
  obtain⟨t,rfl⟩:=rx
  cases y with
  | non=>cases ry; exact PySem.EqNone.ne_int_none (aJ I q (by simp))
  | int j=>obtain⟨t',rfl⟩:=ry; exact ne_int (aJ I q (congrArg not zY))
  | str j=>obtain⟨t',rfl⟩:=ry; exact PySem.EqMixed.ne_int_str (aJ I q (by simp))
  | _=>exact absurd (show false=true from hs) Ô
 | str i =>
  obtain⟨t,rfl⟩:=rx
  cases y with
  | non=>cases ry; exact PySem.EqNone.ne_str_none (aJ I q (by simp))
  | bl j=>cases ry; exact PySem.EqMixed.ne_str_bool (aJ I q (by simp))
  | int j=>obtain⟨t',rfl⟩:=ry; exact PySem.EqMixed.ne_str_int (aJ I q (by simp))
  | str j=>obtain⟨t',rfl⟩:=ry; exact ne_str (aJ I q (congrArg not zX))
  | _=>exact absurd (show false=true from hs) Ô
 | byt i =>
  obtain⟨t,rfl⟩:=rx
  cases y with
  | byt j=>obtain⟨t',rfl⟩:=ry; exact W.ne_bytes (aJ I q (congrArg not zZ))
  | _=>exact absurd (show false=true from hs) Ô
 | _=>cases y <;> exact absurd (show false=true from hs) Ô
theorem Ey:OpR X (compareOp .Lt) (rI0 fun i j=>.bl (decide (i<j))):=Je fun _ _ _ _ _ _ _ q=>lt_int q
theorem Ez:OpR X (compareOp .LtE) (rI0 fun i j=>.bl (decide (i<=j))):=Je fun _ _ _ _ _ _ _ q=>le_int q
theorem EY:OpR X (compareOp .Gt) (rI0 fun i j=>.bl (decide (j<i))):=Je fun _ _ _ _ _ _ _ q=>gt_int q
theorem J2:OpR X (compareOp .GtE) (rI0 fun i j=>.bl (decide (j<=i))):=Je fun _ _ _ _ _ _ _ q=>ge_int q
theorem Mg:OpR X (compareOp .Is) (fun x y H Q=>y=.non/\Q (.bl (decide (x=.non))) H):=by
 intro pins s σ H x y v u Q I rx ry h
 obtain⟨rfl,q⟩:=h
 cases ry
 refine is_none_gen (aJ I q ?_)
 cases x <;> first
  | (cases rx; rfl)
  | (obtain⟨t,rfl⟩:=rx; rfl)
theorem Jb:OpR X (compareOp .IsNot) (fun x y H Q=>y=.non/\Q (.bl (!decide (x=.non))) H):=by
 intro pins s σ H x y v u Q I rx ry h
 obtain⟨rfl,q⟩:=h
 cases ry
 refine isnot_none_gen (aJ I q ?_)
 cases x <;> first
  | (cases rx; rfl)
  | (obtain⟨t,rfl⟩:=rx; rfl)
theorem bW (b:Expr) {op:CmpOp} (h:op≠.In:=by decide) (h2:op≠.NotIn:=by decide):behindInMarks op b=false:=by
 have e1:(op == CmpOp.In)=false:=by cases op <;> first | rfl | exact absurd rfl h
 have e2:(op == CmpOp.NotIn)=false:=by cases op <;> first | rfl | exact absurd rfl h2
 cases b <;> simp [behindInMarks,e1,e2]
theorem IV {op:CmpOp}{r:R2} (ho:OpR X (compareOp op) r) (ha:PE X a ta) (hb:PE X b tb) (hm:behindInMarks op b=false):PE X (.Compare a [op] [b] pos) (tOp r ta tb):=by
 intro pins s σ H Q I h
 exact wpAny_Compare1 (Nv ha hb I h fun v u s2 x y H2 I2 rx ry q=>ho pins s2 σ H2 x y v u Q I2 rx ry q) hm
def CW (t:TE):TT:=fun σ H Q=>t σ H fun x H'=>∃ k,x=.bl k/\Q k H'
theorem ju {op:CmpOp}{r:R2} (ho:OpR X (compareOp op) r) (ha:PE X a ta) (hb:PE X b tb) (hm:behindInMarks op b=false):PT X (.Compare a [op] [b] pos) (CW (tOp r ta tb)):=by
 intro pins s σ H Q I h
 refine wpAny_isTrue_Compare1 (thn (ha pins s σ H _ I h) fun v s1 ⟨x,H1,I1,r1,q1⟩=>thn (hb pins s1 σ H1 _ I1 q1) fun u s2 ⟨y,H2,I2,r2,q2⟩ =>
  thn (ho pins s2 σ H2 x y v u _ I2 r1 r2 q2) fun c s3 ⟨z,H3,I3,r3,k,e,q3⟩=>?_) hm
 subst e
 cases r3
 exact Ĩ ⟨H3,I3,q3⟩
def nu (r r':R2) (ta tb tc:TE):TE:=fun σ H Q=>ta σ H fun x H1=>tb σ H1 fun y H2=>r x y H2 fun z H3=>∃ k,z=.bl k /\
 (if k=true then tc σ H3 fun w' H4=>r' y w' H4 Q else Q (.bl false) H3)
theorem Em {op op':CmpOp}{r r':R2} (ho:OpR X (compareOp op) r) (ho':OpR X (compareOp op') r') (ha:PE X a ta) (hb:PE X b tb) (hc:PE X c tc)
  (hm:lastMarks [op,op'] [b,c]=false:=by with_unfolding_all rfl):PE X (.Compare a [op,op'] [b,c] pos) (nu r r' ta tb tc):=by
 intro pins s σ H Q I h
 refine Compare_chain (thn (ha pins s σ H _ I h) fun v s1 ⟨x,H1,I1,r1,q1⟩=>chain_link (thn (hb pins s1 σ H1 _ I1 q1) fun u s2 ⟨y,H2,I2,r2,q2⟩ =>
  thn (ho pins s2 σ H2 x y v u _ I2 r1 r2 q2) fun d s3 ⟨z,H3,I3,r3,k,e,q3⟩=>?_)) hm
 subst e
 cases r3
 refine Ĩ ?_
 cases k with
 | false=>exact ite_ff ⟨.bl false,H3,I3,rfl,q3⟩
 | true=>exact ite_tt (chain_last (thn (hc pins s3 σ H3 _ I3 q3) fun w' s4 ⟨z',H4,I4,r4,q4⟩=>ho' pins s4 σ H4 y z' u w' Q I4 r2 r4 q4))
theorem Eb {op op':CmpOp}{r r':R2} (ho:OpR X (compareOp op) r) (ho':OpR X (compareOp op') r') (ha:PE X a ta) (hb:PE X b tb) (hc:PE X c tc)
  (hm:lastMarks [op,op'] [b,c]=false:=by with_unfolding_all rfl):PT X (.Compare a [op,op'] [b,c] pos) (CW (nu r r' ta tb tc)):=by
 intro pins s σ H Q I h
 refine isTrue_chain (thn (ha pins s σ H _ I h) fun v s1 ⟨x,H1,I1,r1,q1⟩=>test_link (thn (hb pins s1 σ H1 _ I1 q1) fun u s2 ⟨y,H2,I2,r2,q2⟩ =>
  thn (ho pins s2 σ H2 x y v u _ I2 r1 r2 q2) fun d s3 ⟨z,H3,I3,r3,k,e,q3⟩=>?_)) hm
 subst e
 cases r3
 refine Ĩ ?_
 cases k with
 | false =>
  obtain⟨k',e',q'⟩:=q3
  cases e'
  exact ite_ff ⟨H3,I3,q'⟩
 | true =>
  refine ite_tt (test_last (thn (hc pins s3 σ H3 _ I3 q3) fun w' s4 ⟨z',H4,I4,r4,q4⟩=>thn (ho' pins s4 σ H4 y z' u w' _ I4 r2 r4 q4) fun d' s5 ⟨z2,H5,I5,r5,k2,e2,q5⟩=>?_))
  subst e2
  cases r5
  exact Ĩ ⟨H5,I5,q5⟩
def Qe (K:Ý) (x:V) (H:Hp) (k:Bool):Prop :=
 match x with
 | .non=>k=false
 | .bl b=>k=b
 | .int i=>k=(i != 0)
 | .str y=>y.length<=sizeLine/\k=((y.length:Int) != 0)
 | .byt y=>y.size<=sizeLine/\k=((y.size:Int) != 0)
 | .ref p=>(∃ xs,SqL K H p xs/\k=!xs.isEmpty)\/(∃ xs,SqT K H p xs/\k=!xs.isEmpty)\/∃ kvs,H p=some (.dK kvs)/\k=!kvs.isEmpty
 | _=>False
theorem wY {κ:Type}{kvs:List (κ×V)}{vs:List (κ×Value)} (r:KV kvs vs):(!vs.isEmpty)=!kvs.isEmpty:=by
 cases r <;> rfl
theorem oO {xs:List V}{its:List Value} (r:Vals xs its):(!its.toArray.isEmpty)=!xs.isEmpty:=by
 cases r <;> simp
theorem oF:(sizeLine:Nat)<2 ^ 63:=by rw [ö]; decide
theorem Kw:QM X (fun x H Q=>∃ k,Qe X.K x H k/\Q k H):=by
 intro pins s σ H x v Q I rx h
 obtain⟨k,e,q⟩:=h
 have hl:=oF
 have hs:sizeLine=16777216:=ö
 cases x with
 | non =>
  cases rx
  have e':k=false:=e
  subst e'
  exact truthy_none ⟨H,I,q⟩
 | bl b =>
  cases rx
  have e':k=b:=e
  subst e'
  exact Ĩ ⟨H,I,q⟩
 | int i =>
  obtain⟨t,rfl⟩:=rx
  have e':k=(i != 0):=e
  subst e'
  exact PySem.P.truthy_int ⟨H,I,q⟩
 | str y =>
  obtain⟨t,rfl⟩:=rx
  obtain⟨hy,e'⟩:y.length<=sizeLine/\k=((y.length:Int) != 0):=e
  subst e'
  exact PySem.P.truthy_str (by omega) ⟨H,I.tok _,q⟩
 | byt y =>
  obtain⟨t,rfl⟩:=rx
  obtain⟨hy,e'⟩:y.size<=sizeLine/\k=((y.size:Int) != 0):=e
  subst e'
  exact W.truthy_bytes (by omega) ⟨H,I.tok _,q⟩
 | ref p =>
  cases rx
  have e':(∃ xs,SqL X.K H p xs/\k=!xs.isEmpty)\/(∃ xs,SqT X.K H p xs/\k=!xs.isEmpty)\/∃ kvs,H p=some (.dK kvs)/\k=!kvs.isEmpty:=e
  rcases e' with ⟨xs,hx,e'⟩ | ⟨xs,hx,e'⟩ | ⟨kvs,hx,e'⟩
  ·subst e'
   obtain⟨its,r,pl,hz⟩:=I.list hx
   have hlen:=r.length
   exact wpAny_truthy_list pl.isList (by simp only [Î]; omega) ⟨H,I.tok _,by rw [oO r]; exact q⟩
  ·subst e'
   obtain⟨its,r,pl,hz⟩:=I.tuple hx
   have hlen:=r.length
   exact truthy_tuple pl (by simp only [Î]; omega) ⟨H,I.tok _,by rw [oO r]; exact q⟩
  ·subst e'
   obtain⟨hz,hS,vs,r,m⟩:kvs.length<=sizeLine/\(p == sysModules)=false/\∃ vs,KV kvs vs/\s.heap.DictOf (aZ X.prog X.w) p vs:=I.hok p _ hx
   have hlen:kvs.length=vs.length:=Paired.length r
   exact wpAny_truthy_dict hS m (by omega) ⟨H,I.tok _,by rw [wY r]; exact q⟩
 | _=>exact (show False from e).elim
theorem Ea (ha:PE X a ta) (he:∀ whole,isTrue a X.env whole=(do let v ← whole; standAt a.pos; holding [v] (truthy v))) :
  PT X a (fun σ H Q=>ta σ H fun x H'=>∃ k,Qe X.K x H' k/\Q k H'):=by
 intro pins s σ H Q I h
 exact isTrue_plain (thn (ha pins s σ H _ I h) fun v s1 ⟨x,H1,I1,r1,q1⟩=>Kw pins s1 σ H1 x v Q I1 r1 q1) (he _)
theorem vals1 {x:V}{us:List Value} (r:Vals [x] us):∃ u,us=[u]/\RelV x u:=by
 cases r with
 | cons r1 r2=>cases r2; exact⟨_,rfl,r1⟩
theorem vals2 {x y:V}{us:List Value} (r:Vals [x,y] us):∃ u w',us=[u,w']/\RelV x u/\RelV y w':=by
 cases r with
 | cons r1 r2 =>
  cases r2 with
  | cons r3 r4=>cases r4; exact⟨_,_,rfl,r1,r3⟩
theorem Ht:aU X (.builtin "abs") (fun xs H Q=>∃ i,xs=[.int i]/\Q (.int (if i<0 then -i else i)) H):=by
 intro pins s σ H xs us Q I r h
 obtain⟨i,rfl,q⟩:=h
 obtain⟨u,rfl,t,rfl⟩:=vals1 r
 exact call_abs_int fun u tk=>⟨.int (if i<0 then -i else i),H,I.tok _,⟨_,rfl⟩,q⟩
theorem Ce (hc:X.calm=true):aU X (.builtin "min") (fun xs H Q=>∃ i j,xs=[.int i,.int j]/\Q (.int (if j<i then j else i)) H):=by
 intro pins s σ H xs us Q I r h
 obtain⟨i,j,rfl,q⟩:=h
 obtain⟨u,w',rfl,⟨t,rfl⟩,⟨t',rfl⟩⟩:=vals2 r
 refine min_two_ints (I.ok.hd hc) fun h' tk k=>⟨_,H,I.kept k,?_,q⟩
 by_cases hj:j<i
 ·rw [if_pos hj,if_pos hj]; exact⟨_,rfl⟩
 ·rw [if_neg hj,if_neg hj]; exact⟨_,rfl⟩
theorem Cj:aU X (.type "int") (fun xs H Q=>(∃ i,xs=[.int i]/\Q (.int i) H)\/∃ k,xs=[.bl k]/\Q (.int (if k then 1 else 0)) H):=by
 intro pins s σ H xs us Q I r h
 rcases h with ⟨i,rfl,q⟩ | ⟨k,rfl,q⟩
 ·obtain⟨u,rfl,t,rfl⟩:=vals1 r
  exact call_int_int ⟨.int i,H,I,⟨_,rfl⟩,q⟩
 ·obtain⟨u,rfl,r1⟩:=vals1 r
  cases r1
  exact call_int_bool ⟨.int (if k then 1 else 0),H,I.tok _,⟨_,rfl⟩,q⟩
end
structure ObjM (h:Heap) (x dx C:Addr) (mA:Str->Option Value):Prop where
 obj:h.get? x=some (W.instObj C dx)
 ns:h.Ns1 dx mA
 ne:dx≠x
theorem Bl {h:Heap}{dx:Addr}{mA:Str->Option Value} (n:h.Ns1 dx mA):∃ od,h.get? dx=some od/\∀ name,W.lookIn name od=some (mA name):=by
 obtain⟨o,es,ep,ho,hd,hk,_,hm⟩:=n
 refine⟨o,ho,fun name=>?_⟩
 have e:=hm name
 unfold nsFind findBy at e
 rw [← Array.find?_toList] at e
 unfold W.lookIn
 rw [hd]
 dsimp only
 split
 ·rename_i y q
  rw [q] at e
  exact congrArg some e
 ·rename_i q
  rw [q] at e
  have a:es.toList.any (·.refKey)=false:=by
   rw [List.any_eq_false]
   intro y hy
   obtain⟨z,t,hkey⟩:=hk y (Array.mem_toList_iff.mp hy)
   simp [DictEntry.refKey,hkey]
  have a':¬ es.toList.any (·.refKey)=true:=by rw [a]; exact Ô
  rw [if_neg a']
  exact congrArg some e
theorem ObjM.look {h:Heap}{x dx C:Addr}{mA:Str->Option Value} (I:ObjM h x dx C mA):∃ od,W.InstAt h x (W.instObj C dx) C (some od)/\∀ name,W.lookIn name od=some (mA name) :=
 let ⟨od,ho,hl⟩:=Bl I.ns
 ⟨od,⟨I.obj,rfl,rfl,ho⟩,hl⟩
section
variable {prog:Program}{w:World}{A:Around}{E:Value->Shared->Prop}{s:Shared}{K:Ý}{x dx C f:Addr}{mA:Str->Option Value}{name:Str}{v:Value}
end
theorem pK.some_of {v:V}{o:Option Value} (r:pK (some v) o):∃ u,o=some u/\RelV v u:=by
 cases o with
 | none=>exact (show False from r).elim
 | some u=>exact⟨u,rfl,r⟩
section
variable {P:Program}{w:World}{H H':Hp}{h h':Heap}{a C dx:Addr}{fs fs':List (Str×V)}
theorem zG (hok:HOk P w H h) (e:H a=some (.ins C dx fs)):∃ mA,ObjM h a dx C mA/\(∀ f,pK (fs.lookup f) (mA f))/\PySem.Within mA (fs.map (·.1))/\fs.length<=1000/\H dx=some (.own a):=by
 obtain⟨d,z,ne,ob,mA,n,r,q⟩:=(show aM P w H h a (.ins C dx fs) from hok a _ e)
 exact⟨mA,⟨ob,n,ne⟩,r,q,z,d⟩
end
structure Cls (K:Ý) (C:Addr):Prop where
 pg:W.plainGet K C Str.empty=true
 hd:W.hasDictIn K C=true
 po:W.plainOver K C=true
 sa:W.findIn K (.ref C) "__setattr__"=some (some (.builtin "object.__setattr__"))
theorem Cls.get {K:Ý}{C:Addr} (c:Cls K C) (f:Str):W.plainGet K C f=true:=c.pg
structure Con (K:Ý) (C:Addr) (f:Str) (v:V) (u:Value):Prop where
 at_:W.findIn K (.ref C) f=some (some u)
 rel:RelV v u
 get:W.specialIn K u "__get__"=some none
 cp:W.copiedNames.contains f=false
structure Meth (K:Ý) (C:Addr) (m:Str) (f:Addr):Prop where
 at_:W.findIn K (.ref C) m=some (some (.ref f))
 fn:W.isFn K (.ref f)=true
 kp:W.keepIn K (.ref f)=true
section
variable {X:Cx}{pins:List (Addr×Obj)}{σ:St}{H:Hp}{s:Shared}{a C dx:Addr}{fs:List (Str×V)}{f:Str}{v:V}{A:Around}{E:Value->Shared->Prop}
end
section
variable {X:Cx}{o e value:Expr}{f:Str}{pos pos' tpos:Pos}{ta tv:TE}
end
section
variable {X:Cx}{pins:List (Addr×Obj)}{σ:St}{H:Hp}{s:Shared}{A:Around}{E:Value->Shared->Prop}{Q:Value->Shared->Prop}{c:Value}{b:Bool}
inductive TyOf (K:Ý) (H:Hp):V->Value->Prop where
 | non:TyOf K H .non (.type "NoneType")
 | bl (x:Bool):TyOf K H (.bl x) (.type "bool")
 | int (i:Int):TyOf K H (.int i) (.type "int")
 | str (x:Str):TyOf K H (.str x) (.type "str")
 | flt (x:UInt64):TyOf K H (.flt x) (.type "float")
 | lst {a:Addr}{xs:List V} (e:H a=some (.lst xs)):TyOf K H (.ref a) (.type "list")
 | frz {a:Addr}{o:Obj}{xs:List V} (e:H a=some (.frz o (.lst xs))):TyOf K H (.ref a) (.type "list")
 | tup {a:Addr}{xs:List V} (e:H a=some (.tup xs)):TyOf K H (.ref a) (.type "tuple")
 | dK {a:Addr}{kvs:List (Key×V)} (e:H a=some (.dK kvs)):TyOf K H (.ref a) (.type "dict")
 | dT {a:Addr}{kvs:List (List Key×V)} (e:H a=some (.dT kvs)):TyOf K H (.ref a) (.type "dict")
 | ins {a C dx:Addr}{fs:List (Str×V)} (e:H a=some (.ins C dx fs)) (cl:Cls K C) (ha:W.findIn K (.ref C) "__class__"=some (some (.builtin "object.__class__")))
   (hn:W.specialIn K (.builtin "object.__class__") "__get__"=some (some (.builtin "getset_descriptor.__get__"))) (htk:W.takesIn K (.builtin "object.__class__")=some true)
   (hm:W.mroIn K C (.type "object")=some true):TyOf K H (.ref a) (.ref C)
theorem Br {x:V}{u t:Value} (I:Inv X pins σ H s) (rx:RelV x u) (ty:TyOf X.K H x t) (e:W.kitOne X.K t c=some b) (h:∀ tk,Q (.bool b) { s with toks:=tk }) :
  wpAny (model X.prog X.w) A (call (.builtin "isinstance") [u,c]) Q E s:=by
 cases ty with
 | non=>cases (show u=Ě from rx); exact W.kia_one W.kitx_none I.kIn Į e (fun z=>nomatch z) h
 | bl y=>cases (show u=Value.bool y from rx); exact W.kia_one W.kitx_bool I.kIn Į e (fun z=>nomatch z) h
 | int i=>obtain⟨t,q⟩:=(show ∃ t,u=ĩ i t from rx); cases q; exact W.kia_one W.kitx_int I.kIn Į e (fun z=>nomatch z) h
 | str y=>obtain⟨t,q⟩:=(show ∃ t,u=Value.str y t from rx); cases q; exact W.kia_one W.kitx_str I.kIn Į e (fun z=>nomatch z) h
 | flt y=>obtain⟨t,q⟩:=(show ∃ t,u=Value.float y t from rx); cases q; exact W.kia_one W.kitx_float I.kIn Į e (fun z=>nomatch z) h
 | @lst a xs ea =>
  cases (show u=ü a from rx)
  obtain⟨_,_,n,_,h1⟩:=(show aM X.prog X.w H s.heap a (.lst xs) from I.hok a _ ea)
  exact W.kia_one W.kitx_list I.kIn ⟨_,h1,rfl⟩ e (fun z=>nomatch z) h
 | @frz a ob xs ea =>
  cases (show u=ü a from rx)
  obtain⟨_,_,_,n,_,h1⟩:=(show aM X.prog X.w H s.heap a (.frz ob (.lst xs)) from I.hok a _ ea)
  exact W.kia_one W.kitx_list I.kIn ⟨_,h1,rfl⟩ e (fun z=>nomatch z) h
 | @tup a xs ea =>
  cases (show u=ü a from rx)
  obtain⟨_,_,_,p⟩:=(show aM X.prog X.w H s.heap a (.tup xs) from I.hok a _ ea)
  obtain⟨o,h1,h2,_⟩:=p
  exact W.kia_one W.kitx_tuple I.kIn ⟨o,h1,h2⟩ e (fun z=>nomatch z) h
 | @dK a kvs ea =>
  cases (show u=ü a from rx)
  obtain⟨_,_,vs,_,p⟩:=(show aM X.prog X.w H s.heap a (.dK kvs) from I.hok a _ ea)
  obtain⟨o,es,ep,h1,h2,_⟩:=p
  exact W.kia_one W.kitx_dict I.kIn ⟨o,h1,h2.1⟩ e (fun z=>nomatch z) h
 | @dT a kvs ea =>
  cases (show u=ü a from rx)
  obtain⟨_,_,xs,_,o,es,ep,h1,h2,_⟩:=(show aM X.prog X.w H s.heap a (.dT kvs) from I.hok a _ ea)
  exact W.kia_one W.kitx_dict I.kIn ⟨o,h1,h2.1⟩ e (fun z=>nomatch z) h
 | @ins a C dx fs ea cl ha hn htk hm =>
  cases (show u=ü a from rx)
  obtain⟨mA,O,_⟩:=zG I.hok ea
  obtain⟨od,J,_⟩:=O.look
  exact W.kia_one (W.kitx_own (cl.get _) cl.hd ha hn htk hm) I.kIn J e (fun z=>nomatch z) h
end
structure Room (k:Nat) (A:Around):Prop where
 hd:A.handled=none
 dp:A.depth+3 * k+5<recursionLimit
 un:A.units+16 * k+200<cLine
 gd:A.guards=some []
theorem Room.mono {j k:Nat}{A:Around} (r:Room k A) (h:j<=k):Room j A:=⟨r.hd,by have:=r.dp; omega,by have:=r.un; omega,r.gd⟩
theorem Room.deeper {k:Nat}{A:Around} (r:Room (k+1) A) (env:Env):Room k (A.deeper env) :=
 ⟨r.hd,by have:=r.dp; show A.depth+1+3 * k+5<_; omega,by have:=r.un; show A.units+3+16 * k+200<_; omega,r.gd⟩
theorem Room.depth {k:Nat}{A:Around} (r:Room k A):A.depth<recursionLimit:=by have:=r.dp; omega
theorem Room.units {k:Nat}{A:Around} (r:Room k A):A.units+64<cLine:=by have:=r.un; omega
def KD:TA:=fun _ H Q=>Q [] H
def Dc (ta:TE) (tr:TA):TA:=fun σ H Q=>ta σ H fun x H1=>tr σ H1 fun xs H2=>Q (x::xs) H2
section
variable {X:Cx}{e:Expr}{es:List Expr}{te:TE}{t:TA}{pos:Pos}
theorem bB:PA X [] KD:=fun _ _ _ _ H Q I h=>Calls.spliced_nil ⟨[],H,I,.nil,h⟩
theorem aG (ha:PE X e te) (hr:PA X es t) (hs:starEach (e::es) X.env=(false,eval e X.env)::starEach es X.env:=by rfl):PA X (e::es) (Dc te t):=by
 intro pos pins s σ H Q I h
 rw [hs]
 show wpAny _ _ (spliced ((false,eval e X.env)::backTo pos (starEach es X.env))) _ _ s
 refine Calls.spliced_cons (thn (ha pins s σ H _ I h) fun u s1 ⟨x,H1,I1,r1,q1⟩=>?_)
 exact thn (hr pos pins s1 σ H1 _ I1 q1) fun us s2 ⟨xs,H2,I2,r2,q2⟩=>⟨x::xs,H2,I2,.cons r1 r2,q2⟩
def Qk (t:TA):TE:=fun σ H Q=>t σ H fun xs H1=>xs.length<=sizeLine/\∀ p,H1 p=none->Q (.ref p) (upd H1 p (.tup xs))
def Oa (t:TA):TE:=fun σ H Q=>t σ H fun xs H1=>xs.length<=sizeLine/\∀ p,H1 p=none->Q (.ref p) (upd H1 p (.lst xs))
theorem Ek {x1} (h:PA X es t):PE X (.Tuple es x1 pos) (Qk t):=by
 intro pins s σ H Q I hq
 refine wpAny_Tuple_spliced (thn (h pos pins s σ H _ I hq) fun us s1 ⟨xs,H1,I1,r,z,q⟩=>⟨by rw [← r.length]; exact z,?_⟩)
 have hf:H1 s1.heap.objs.size=none:=I1.hok.fresh (Ï _)
 refine⟨.ref s1.heap.objs.size,upd H1 s1.heap.objs.size (.tup xs),I1.laid (t':=s1.toks) (fun b u e=>Å _ e) (Ï _) ?_,rfl,q _ hf⟩
 exact⟨z,us,r,⟨_,Ò _ rfl,rfl,_,rfl⟩⟩
theorem wC (h:PA X es t):PE X (.List es pos) (Oa t):=by
 intro pins s σ H Q I hq
 refine wpAny_List_spliced (thn (h pos pins s σ H _ I hq) fun us s1 ⟨xs,H1,I1,r,z,q⟩=>⟨by rw [← r.length]; exact z,?_⟩)
 have hf:H1 s1.heap.objs.size=none:=I1.hok.fresh (Ï _)
 refine⟨.ref s1.heap.objs.size,upd H1 s1.heap.objs.size (.lst xs),I1.laid (t':=s1.toks) (fun b u e=>Å _ e) (Ï _) ?_,rfl,q _ hf⟩
 exact⟨z,us,0,r,Ò _ rfl⟩
end
abbrev Sp:=List V->Hp->VK->XK->Prop
abbrev CXT:=List Env->Hp->Shared->XK->Value->Shared->Prop
structure Env0 (P:Program) (w:World) (K:Ý) (mg:Str->Option Value) (base:Heap) (A:Around) (outer:List Env) (s:Shared) (H:Hp):Prop where
 frames:A.frames=some outer
 mod:Mod K mg base
 bs:∀ b o,base.get? b=some o->s.heap.get? b=some o/\H b=none
 bsz:base.objs.size<=s.heap.objs.size
 oU:s.heap.FunFrames base outer
 frf:∀ b∈frs outer,H b=none
 hok:HOk P w H s.heap
 bare:AllBare s.gens
def CE (outer:List Env) (P:Program) (w:World) (H:Hp) (s:Shared) (Q:VK) (u:Value) (s':Shared):Prop :=
 ∃ v H',s'.os=s.os/\AllBare s'.gens/\Un (frs outer) [] H H' s.heap s'.heap/\HOk P w H' s'.heap/\RelV v u/\Q v H'
def CR (CX:CXT) (outer:List Env) (P:Program) (w:World) (H:Hp) (s:Shared) (Q:VK) (E:XK) (r:Result) (s':Shared):Prop :=
 match r with
 | .ok (.ret u)=>CE outer P w H s Q u s'
 | .ok _=>False
 | .error e=>CX outer H s E e s'
structure FnOk (P:Program) (w:World) (K:Ý) (mg:Str->Option Value) (base:Heap) (CX:CXT) (k:Nat) (f:Addr) (fd:FuncData) (ps:List Str) (sp:Sp):Prop where
 len:∀ vs H Q E,sp vs H Q E->vs.length=ps.length
 run:∀ (A:Around) (outer:List Env) (s:Shared) (H:Hp) (args:Args) (us:List Value) (vs:List V) (Q:VK) (E:XK),Room k A->Env0 P w K mg base A outer s H->BindsTo s fd args (ps.zip us)->Vals vs us->sp vs H Q E ->
  codeAny (model P w) A (.call (.ref f) args) (CR CX outer P w H s Q E) s
section
variable {X:Cx}{pins:List (Addr×Obj)}{σ:St}{H:Hp}{s s':Shared}
theorem Inv.env0 (I:Inv X pins σ H s):Env0 X.prog X.w X.K X.mg X.base X.A X.stack s H :=
 ⟨I.ok.frames,I.ok.mod,I.bs,Ĕ I.ok.bsz I.sz,I.stack,I.yt,I.hok,I.bare⟩
theorem Inv.after {Q:VK}{u:Value} (I:Inv X pins σ H s) (h:CE X.stack X.prog X.w H s Q u s'):EP X pins σ Q u s':=by
 obtain⟨v,H',os,bare,un,hok,r,q⟩:=h
 obtain⟨hh,g,d,t,os'⟩:=s'
 obtain rfl:os'=s.os:=os
 exact⟨v,H',I.call (h':=hh) (g':=g) (d':=d) (t':=t) (ch:=[]) un hok bare (fun b z=>absurd z (by simp)),r,q⟩
end
def ux (sp:Sp) (dvs:List V) (E:XK) (t:TA):TE:=fun σ H Q=>t σ H fun vs H1=>sp (vs++dvs) H1 Q E
def Binds (K:Ý) (fd:FuncData) (ps:List Str) (ds:List Value):Prop :=
 ∀ (s:Shared) (us:List Value),K.In s.heap->(us++ds).length=ps.length->BindsTo s fd ⟨us,[]⟩ (ps.zip (us++ds))
theorem Binds.all {K:Ý}{fd:FuncData}{ps:List Str} (h:∀ us:List Value,us.length=ps.length->bindArgs fd ⟨us,[]⟩=pure (ps.zip us)):Binds K fd ps []:=fun s us _ hl=>by
 rw [Ĵ] at hl ⊢
 exact .of_eq (h us hl)
def Passes (CX:CXT) (X:Cx) (E:XK):Prop:=∀ (pins:List (Addr×Obj)) (σ:St) (H:Hp) (s:Shared) (e:Value) (s':Shared),Inv X pins σ H s->CX X.stack H s E e s'->X.xe e s'
section
variable {X:Cx}{CX:CXT}{k:Nat}{f C:Addr}{fd:FuncData}{ps:List Str}{sp:Sp}{dvs:List V}{ds:List Value}{E:XK}{x m:Str}{p pos apos:Pos}{e o:Expr}{es:List Expr}{ta:TE}{t:TA}
theorem K4 {pins:List (Addr×Obj)}{σ:St}{H:Hp}{s:Shared}{Q:VK}{us:List Value}{vs:List V} (F:FnOk X.prog X.w X.K X.mg X.base CX k f fd ps sp) (hr:Room k X.A) (hb:Binds X.K fd ps ds) (hd:Vals dvs ds) (hx:Passes CX X E)
  (I:Inv X pins σ H s) (r:Vals vs us) (h:sp (vs++dvs) H Q E):wpAny (model X.prog X.w) X.A (call (.ref f) us) (EP X pins σ Q) X.xe s:=by
 have r2:Vals (vs++dvs) (us++ds):=r.append hd
 have hl:(us++ds).length=ps.length:=by rw [← r2.length]; exact F.len _ _ _ _ h
 refine wpAny_call (codeAny_mono (F.run X.A X.stack s H ⟨us,[]⟩ (us++ds) (vs++dvs) Q E hr I.env0 (hb s us I.kIn hl) r2 h) fun r s' hq=>?_)
 cases r with
 | error e=>exact hx pins σ H s e s' I hq
 | ok fl =>
  cases fl with
  | ret u=>exact I.after hq
  | next=>exact ş hq
  | brk=>exact ş hq
  | cont=>exact ş hq
theorem IW (F:FnOk X.prog X.w X.K X.mg X.base CX k f fd ps sp) (hr:Room k X.A) (hg:Gl X x) (hm:X.mg x=some (.ref f)) (hk:W.keepIn X.K (.ref f)=true) (hb:Binds X.K fd ps ds) (hd:Vals dvs ds) (hx:Passes CX X E)
  (ha:PA X (e::es) t) (hdb:(x == ("__debug__":Str))=false:=by decide) (he:starEach (e::es) X.env=(false,eval e X.env)::starEach es X.env:=by rfl) (hpl:(backTo pos (starEach es X.env)).any (·.1)=false:=by rfl) :
  PE X (.Call (.Name x p) (e::es) [] pos) (ux sp dvs E t):=by
 intro pins s σ H Q I h
 refine Ř (zx I hg hm ?_ hdb)
 refine W.callWith_K (h₀:=X.base) I.ok.mod.kin hk (thn (ha pos pins s σ H _ I h) fun us s1 ⟨vs,H1,I1,r,q⟩=>⟨I1.kIn,?_⟩) he hpl
 exact K4 F hr hb hd hx I1 r q
structure Mk (K:Ý) (C f:Addr):Prop where
 makes:W.makesIn K C=true
 init:W.findIn K (.ref C) "__init__"=some (some (.ref f))
 fn:W.isFn K (.ref f)=true
 kp:W.keepIn K (.ref C)=true
end
section
variable {X:Cx}{CX:CXT}{k:Nat}{f C:Addr}{fd:FuncData}{ps ks:List Str}{sp:Sp}{E:XK}{x m:Str}{p pos apos kpos:Pos}{e o:Expr}{es:List Expr}{kws:List Keyword}{te ta:TE}{t tk:TA}{nm:Option Str}
structure KBinds (K:Ý) (fd:FuncData) (ps ks:List Str) (g:List Value->List Value->List Value) (gV:List V->List V->List V):Prop where
 to:∀ (s:Shared) (us ws:List Value),K.In s.heap->(g us ws).length=ps.length->BindsTo s fd ⟨us,ks.zip ws⟩ (ps.zip (g us ws))
 rel:∀ {vs:List V}{us:List Value}{zs:List V}{ws:List Value},Vals vs us->Vals zs ws->Vals (gV vs zs) (g us ws)
variable {g:List Value->List Value->List Value}{gV:List V->List V->List V}
end
structure FnScope (N P:List Str) (sc:Scope):Prop where
 kind:sc.kind=.function
 co:sc.isCoroutine=false
 gen:sc.isGenerator=false
 nd:N.Nodup
 pre:N.take P.length=P
 par:∀ x∈P,sc.names.lookup x=some .local\/sc.names.lookup x=some .cell
 nofree:∀ y∈sc.names,y.2≠.free
theorem zC {N P:List Str}{sc:Scope} (a:sc.kind=.function:=by rfl) (b:sc.isCoroutine=false:=by rfl) (c:sc.isGenerator=false:=by rfl) (d:N.Nodup:=by decide +kernel) (e:N.take P.length=P:=by rfl) (f:∀ x∈P,sc.names.lookup x=some .local\/sc.names.lookup x=some .cell:=by decide +kernel) (g:∀ y∈sc.names,y.2≠.free:=by decide +kernel):FnScope N P sc:=⟨a,b,c,d,e,f,g⟩
theorem qK {kindOf:Str->Option NameKind}{x:Str}:∀ {binds:List (Str×Value)}{m:Str->Option Value},(∀ v,(x,v)∉binds)->bindL kindOf binds m x=m x
 | [],_,_=>rfl
 | (n,v)::r,m,h=>by
  unfold bindL
  rw [qK fun w hw=>h w (Ó _ hw)]
  split
  ·have:x≠n:=by rintro rfl; exact h v Ö
   simp [this]
  ·rfl
theorem qM {kindOf:Str->Option NameKind}{x:Str}:∀ {binds:List (Str×Value)}{m:Str->Option Value},(∀ v,(x,v)∉binds)->bindC kindOf binds m x=m x
 | [],_,_=>rfl
 | (n,v)::r,m,h=>by
  unfold bindC
  rw [qM fun w hw=>h w (Ó _ hw)]
  split
  ·rfl
  ·have:x≠n:=by rintro rfl; exact h v Ö
   simp [this]
theorem qL {kindOf:Str->Option NameKind}{x:Str}{v:Value}:∀ {P:List Str}{vs:List Value}{i:Nat}{m:Str->Option Value},P.Nodup->P[i]?=some x->vs[i]?=some v->kindOf x=some .local ->
  bindL kindOf (P.zip vs) m x=some v
 | [],_,_,_,_,h,_,_=>by simp at h
 | _::_,[],_,_,_,_,h,_=>by simp at h
 | p::P,w::vs,0,m,nd,h1,h2,hk=>by
  simp at h1 h2; subst h1; subst h2
  show bindL kindOf ((p,w)::P.zip vs) m p=_
  unfold bindL
  rw [qK fun v hv=>(ř.mp nd).1 (List.of_mem_zip hv).1,if_pos hk]
  simp
 | p::P,w::vs,i+1,m,nd,h1,h2,hk=>by
  show bindL kindOf ((p,w)::P.zip vs) m x=_
  unfold bindL
  exact qL (i:=i) (ř.mp nd).2 (by simpa using h1) (by simpa using h2) hk
theorem qN {kindOf:Str->Option NameKind}{x:Str}{v:Value}:∀ {P:List Str}{vs:List Value}{i:Nat}{m:Str->Option Value},P.Nodup->P[i]?=some x->vs[i]?=some v->kindOf x≠some .local ->
  bindC kindOf (P.zip vs) m x=some v
 | [],_,_,_,_,h,_,_=>by simp at h
 | _::_,[],_,_,_,_,h,_=>by simp at h
 | p::P,w::vs,0,m,nd,h1,h2,hk=>by
  simp at h1 h2; subst h1; subst h2
  show bindC kindOf ((p,w)::P.zip vs) m p=_
  unfold bindC
  rw [qM fun v hv=>(ř.mp nd).1 (List.of_mem_zip hv).1,if_neg hk]
  simp
 | p::P,w::vs,i+1,m,nd,h1,h2,hk=>by
  show bindC kindOf ((p,w)::P.zip vs) m x=_
  unfold bindC
  exact qN (i:=i) (ř.mp nd).2 (by simpa using h1) (by simpa using h2) hk
def start (N:List Str) (vs:List V):St:=vs.map some++Ð (N.length - vs.length) none
def BP (CX:CXT) (P:Program) (w:World) (K:Ý) (mg:Str->Option Value) (base:Heap) (N:List Str) (qual:Str) (scope:Scope) (f:Addr) (cd:Value) (A:Around) (outer:List Env) (s:Shared) (H:Hp) (E:XK):Cx where
 prog:=P
 w:=w
 K:=K
 mg:=mg
 base:=base
 A:=A.deeper (envOfC qual scope s.heap.objs.size f cd)
 N:=N
 s₀:=s
 H₀:=H
 env:=envOfC qual scope s.heap.objs.size f cd
 outer:=outer
 stack:=envOfC qual scope s.heap.objs.size f cd::outer
 ex:=[]
 calm:=true
 fn:=fun _=>true
 pn:=[]
 xe:=fun e s'=>wpAny (model P w) (A.deeper (envOfC qual scope s.heap.objs.size f cd)) (leaving (envOfC qual scope s.heap.objs.size f cd) e) (fun _ s''=>CX outer H s E e s'') (fun e' s''=>CX outer H s E e' s'') s'
theorem vH {sc:Scope}{n:Nat}{x:Str} (h:sc.names.lookup x=some .cell):∃ c,(cellsFrom n sc.names []).lookup x=some c:=by
 have q:=W.cellsFrom_some sc.names n [] (.inl h)
 exact Option.isSome_iff_exists.mp q
theorem Bs {CX:CXT}{P:Program}{w:World}{K:Ý}{mg:Str->Option Value}{base:Heap}{N ps:List Str}{qual:Str}{scope:Scope}{f:Addr}{cd:Value}{A:Around}{outer:List Env}{s s1:Shared}{H:Hp}{E:XK}{us:List Value}{vs:List V}
  (S:FnScope N ps scope) (hd:A.handled=none) (e0:Env0 P w K mg base A outer s H) (hl:vs.length=ps.length) (r:Vals vs us)
  (x:InCallC s s.heap.objs.size (bindL (envOfC qual scope s.heap.objs.size f cd).kindOf (ps.zip us) fun _=>none) (cellsFrom (s.heap.objs.size+1) scope.names []) (bindC (envOfC qual scope s.heap.objs.size f cd).kindOf (ps.zip us) fun _=>none) s1) :
  Inv (BP CX P w K mg base N qual scope f cd A outer s H E) [] (start N vs) H s1:=by
 have hpl:ps.length<=N.length:=by have:=congrArg List.length S.pre; rw [Ī] at this; omega
 obtain⟨h1,tk,rfl,hk⟩:=x.done
 have noA:∀ b:Addr,b∉(BP CX P w K mg base N qual scope f cd A outer s H E).ex:=fun b z=>absurd (show b∈([]:List Addr) from z) (by simp)
 refine⟨⟨e0.mod,S.kind,rfl,rfl,Ï _,fun y z c h1 h2=>?_,fun y hy=>?_,fun y c _ h=>?_,fun _=>hd,Around.frames_deeper e0.frames,.inr ⟨rfl,rfl⟩,fun b z=>absurd z (noA b),e0.bs,e0.bsz,fun b _ _=>noA b,fun b z=>absurd z (noA b),e0.oU,e0.frf,fun q z=>nomatch (show q∈([]:List (Addr×Obj×HO)) from z)⟩,
  rfl,e0.bare,Un.kept hk,⟨_,x.toInCall.ns,fun i y v h1 h2 h3=>?_⟩,fun y c h=>⟨_,x.cell y c h⟩,e0.hok.fresh (Ï _),fun y c h=>?_,fun p hp=>absurd (show p∈([]:List (Addr×Obj)) from hp) (by simp),e0.hok.kept hk,?_⟩
 ·exact name_of_addr x.apart (ŋ h1) (ŋ h2)
 ·have hy:scope.names.lookup y=some .cell\/scope.names.lookup y=some .free:=hy
  rcases hy with hy | hy
  ·exact vH hy
  ·exact absurd rfl (S.nofree _ (ŋ hy))
 ·exact Nat.le_of_lt (x.above y c (ŋ h))
 ·have hi:i<vs.length:=by
   unfold start at h2
   by_cases hi:i<vs.length
   ·exact hi
   ·rw [î (by simpa using hi)] at h2
    rw [Ŧ] at h2
    split at h2 <;> cases h2
  have ha:vs[i]?=some v:=by
   unfold start at h2
   rw [ë (by simpa using hi),Ø] at h2
   cases e:vs[i]? with
   | none=>rw [e] at h2; cases h2
   | some a=>rw [e] at h2; cases h2; rfl
  obtain⟨u,hu,rv⟩:=r.get ha
  have hp:ps[i]?=some y:=by
   rw [← S.pre,List.getElem?_take_of_lt (by omega)]; exact h1
  have ndP:ps.Nodup:=by rw [← S.pre]; exact S.nd.sublist (List.take_sublist _ _)
  refine⟨u,rv,?_⟩
  rcases S.par y (Ñ hp) with k | k
  ·exact .inl ⟨k,qL ndP hp hu k⟩
  ·obtain⟨c,e⟩:=vH (n:=s.heap.objs.size+1) k
   refine .inr ⟨.inl k,c,e,?_⟩
   have q:=x.cell y c e
   rw [qN ndP hp hu (by show scope.names.lookup y≠_; rw [k]; decide)] at q
   exact q
 ·exact e0.hok.fresh (Nat.le_of_lt (x.above y c (ŋ h)))
 ·unfold start
  show _=N.length
  rw [È,Â,Ų]
  omega
theorem PK {CX:CXT}{P:Program}{w:World}{K:Ý}{mg:Str->Option Value}{base:Heap}{k:Nat}{f:Addr}{name qual:Str}{params:Arguments}{body:List Stmt}{scope:Scope}{dV kV doc pm cdv ct oc:Value}{an od:Option Addr}
  {osl:Array (Option Value)}{N ps:List Str}{sp:Sp} (lk:K.lookup f=some ⟨oc,od,.func (W.fnOf name qual params body scope dV kV doc pm an cdv ct),osl⟩) (hcd:W.codeIn K cdv qual=true) (S:FnScope N ps scope)
  (len:∀ vs H Q E,sp vs H Q E->vs.length=ps.length)
  (hbody:∀ (A:Around) (outer:List Env) (s:Shared) (H:Hp) (vs:List V) (Q:VK) (E:XK),Room k (A.deeper (envOfC qual scope s.heap.objs.size f cdv))->sp vs H Q E ->
   ∃ t,PSs (BP CX P w K mg base N qual scope f cdv A outer s H E) body t/\t { nx:=fun _ H'=>Q .non H',rt:=Q } (start N vs) H) :
  FnOk P w K mg base CX (k+1) f (W.fnOf name qual params body scope dV kV doc pm an cdv ct) ps sp:=by
 refine⟨len,fun A outer s H args us vs Q E hr e0 hb r hsp=>?_⟩
 have hl:=len _ _ _ _ hsp
 have KX:K.In s.heap:=e0.mod.kin.keeps fun b o e=>(e0.bs b o e).1
 have lim:s.heap.NoLimit:=e0.mod.nolimit.keeps fun b o e=>(e0.bs b o e).1
 have hkind:∀ y∈ps.zip us,scope.names.lookup y.1=some .local\/(scope.names.lookup y.1=some .cell/\((cellsFrom (s.heap.objs.size+1) scope.names []).lookup y.1).isSome=true):=fun ⟨n,v⟩ hy=>by
  rcases S.par n (List.of_mem_zip hy).1 with q | q
  ·exact .inl q
  ·exact .inr ⟨q,W.cellsFrom_some _ _ _ (.inl q)⟩
 refine codeAny_call_function hr.depth (KX _ _ lk) rfl S.co S.gen rfl (W.codeRec_of KX hcd) (hb _ _ _ _ ?_)
 refine wpAny_newFunctionEnv_cells S.kind hkind fun env he s1 x=>?_
 subst he
 refine⟨lim.keeps x.toInCall.keep,codeAny_func ?_⟩
 obtain⟨t,ht,hq⟩:=hbody A outer s H vs Q E (hr.deeper _) hsp
 have I:Inv (BP CX P w K mg base N qual scope f cdv A outer s H E) [] (start N vs) H s1:=Bs S hr.hd e0 hl r x
 refine ĭ (ht [] s1 (start N vs) H _ I hq) (fun fl s' hs=>?_) fun e s' hs=>hs
 have fin:∀ {σ':St}{H':Hp}{v:V}{u:Value},Inv (BP CX P w K mg base N qual scope f cdv A outer s H E) [] σ' H' s'->RelV v u->Q v H'->CE outer P w H s Q u s' :=
  fun {σ' H' v u} J rv q=>⟨v,H',J.os,J.bare,J.base,J.hok,rv,q⟩
 cases fl with
 | ret u =>
  obtain⟨v,σ',H',J,rv,q⟩:=hs
  exact fin J rv q
 | next =>
  obtain⟨σ',H',J,q⟩:=hs
  exact fin (v:=V.non) (u:=Ě) J rfl q
 | brk =>
  obtain⟨_,_,_,q⟩:=hs
  exact ş q
 | cont =>
  obtain⟨_,_,_,q⟩:=hs
  exact ş q
section
variable {X:Cx}{x:Str}{p pos:Pos}{e:Expr}{es:List Expr}{t:TA}{id T:String}{r:List V->Hp->VK->Prop}
def tCB (r:List V->Hp->VK->Prop) (t:TA):TE:=fun σ H Q=>t σ H fun vs H1=>r vs H1 Q
theorem bT (hc:aU X (.builtin id) r) (hg:Gl X x) (hm:X.mg x=none) (hv:bootBuiltins x=some (.builtin id)) (ha:PA X (e::es) t) (hn:x≠"__name__":=by decide) (hdb:(x == ("__debug__":Str))=false:=by decide)
  (he:starEach (e::es) X.env=(false,eval e X.env)::starEach es X.env:=by rfl) (hpl:(backTo pos (starEach es X.env)).any (·.1)=false:=by rfl):PE X (.Call (.Name x p) (e::es) [] pos) (tCB r t):=by
 intro pins s σ H Q I h
 refine Ř (dh I hg hm hv ?_ hn hdb)
 exact PyProof.Rows.callWith_builtin1 (thn (ha pos pins s σ H _ I h) fun us s1 ⟨vs,H1,I1,r1,q1⟩=>hc pins s1 σ H1 vs us Q I1 r1 q1) he hpl
theorem cD (hc:aU X (.type T) r) (hg:Gl X x) (hm:X.mg x=none) (hv:bootBuiltins x=some (.type T)) (ha:PA X (e::es) t) (hn:x≠"__name__":=by decide) (hdb:(x == ("__debug__":Str))=false:=by decide)
  (he:starEach (e::es) X.env=(false,eval e X.env)::starEach es X.env:=by rfl) (hpl:(backTo pos (starEach es X.env)).any (·.1)=false:=by rfl):PE X (.Call (.Name x p) (e::es) [] pos) (tCB r t):=by
 intro pins s σ H Q I h
 refine Ř (dh I hg hm hv ?_ hn hdb)
 exact ā (thn (ha pos pins s σ H _ I h) fun us s1 ⟨vs,H1,I1,r1,q1⟩=>hc pins s1 σ H1 vs us Q I1 r1 q1) he hpl
end
end L2
namespace HT
open PySem PyProof.Rows
section
open PySem.SeqAt
open PySem.AutoSeq1 (wpAny_loadPart')
open PySem.MeetsSeq PySem.MeetsSeq2 PySem.MeetsSeq3
end
section
variable {prog:Program}{w:World}{A:Around}{E:Value->Shared->Prop}{s:Shared}
theorem JK {t b:Addr}{vs ws:List Value}{Q:Value->Shared->Prop} (ht:IsTup s.heap t vs.toArray) (hb:IsTup s.heap b ws.toArray) (hv:vs≠[])
  (h1:ws=[]->Q (.ref t) s) (h2:ws≠[]->Q (.ref s.heap.objs.size) { s with heap:=s.heap.push { cls:=.type "tuple",data:=.seq (vs++ws).toArray } })
  (hsz:vs.length+ws.length<=sizeLine):wpAny (model prog w) A (binaryOp .Add (.ref t) (.ref b)) Q E s:=by
 obtain⟨⟨cls,dd,data,sl⟩,ho,hc,n,hd⟩:=id ht
 obtain⟨⟨cls2,dd2,data2,sl2⟩,ho2,hc2,n2,hd2⟩:=id hb
 simp only at hc hd hc2 hd2
 subst hc hd hc2 hd2
 have e:vs.toArray++ws.toArray=(vs++ws).toArray:=by simp
 by_cases hw:ws=[]
 ·exact concat_meets ⟨_,ho,rfl⟩ ⟨_,ho2,rfl⟩ noFill_tuple_add seq_tuple_add PySem.F.slot_tuple_add PySem.F.entry_tuple_add (PySem.F.args_tuple_add_2 _ _)
   (tuple_addW1 t b vs.toArray ws.toArray n n2 dd dd2 sl sl2 (by simpa using hv) (by simp [hw])) ⟨ho,ho2,h1 hw⟩
 ·refine concat_meets ⟨_,ho,rfl⟩ ⟨_,ho2,rfl⟩ noFill_tuple_add seq_tuple_add PySem.F.slot_tuple_add PySem.F.entry_tuple_add (PySem.F.args_tuple_add_2 _ _)
   (tuple_addW2 t b vs.toArray ws.toArray n n2 dd dd2 sl sl2 (by simpa using hv) (by simpa using hw) (by rw [Î,Î]; exact hsz)) ⟨ho,ho2,?_⟩
  rw [e]
  exact h2 hw
def sIx (n d:Nat):Option Int->Nat
 | none=>d
 | some v=>if v<0 then (v+(n:Int)).toNat else min v.toNat n
theorem yJ (n d k:Nat):sIx n d (some (k:Int))=min k n:=by
 show (if (k:Int)<0 then ((k:Int)+(n:Int)).toNat else min (k:Int).toNat n)=min k n
 rw [if_neg (by omega),ģ]
theorem K3 (n d:Nat) (hd:d<=n) (o:Option Int):sIx n d o<=n:=by
 cases o with
 | none=>exact hd
 | some v =>
  show (if v<0 then (v+(n:Int)).toNat else min v.toNat n)<=n
  by_cases hv:v<0
  ·rw [if_pos hv]; omega
  ·rw [if_neg hv]; exact Nat.min_le_right _ _
theorem Aa (v:Int) (n d:Nat):(if v<0 then max (v+(n:Int)) 0 else min v (n:Int))=((sIx n d (some v):Nat):Int):=by
 show (if v<0 then max (v+(n:Int)) 0 else min v (n:Int))=(((if v<0 then (v+(n:Int)).toNat else min v.toNat n):Nat):Int)
 by_cases hv:v<0
 ·simp only [if_pos hv]; omega
 ·simp only [if_neg hv]; omega
theorem xX (lo hi:Option Int) (n:Nat):Builtin.Slice.sliceAdjust lo hi 1 (n:Int)=(((sIx n 0 lo:Nat):Int),((sIx n n hi:Nat):Int)):=by
 have h1:¬ ((1:Int)<0):=by omega
 unfold Builtin.Slice.sliceAdjust
 simp only [h1,if_false]
 refine Prod.ext ?_ ?_
 ·cases lo with
  | none=>rfl
  | some v=>exact Aa v n 0
 ·cases hi with
  | none=>rfl
  | some v=>exact Aa v n n
theorem wB (i j:Nat):Ů (i:Int) (j:Int) 1=j - i:=by
 unfold Ů
 have h1:(1:Int) > 0:=by omega
 simp only [h1,if_true,Int.ediv_one]
 split <;> omega
theorem nA {v:Value}{o:Option Int}{Q:Option Int->Shared->Prop} (p:IsPart v o) (h:Q o s):wpAny (model prog w) A (Builtin.Slice.slicePartIndex v) Q E s:=by
 cases p with
 | none=>exact slicePart_none h
 | int i t=>exact slicePart_int h
theorem kE {sl:Addr}{vl vu:Value}{lo hi:Option Int}{n:Nat}{Q:Int×Int×Nat->Shared->Prop} (hs:s.heap.IsSliceOf sl vl vu .none) (pl:IsPart vl lo) (pu:IsPart vu hi)
  (h:Q (((sIx n 0 lo:Nat):Int),1,sIx n n hi - sIx n 0 lo) s):wpAny (model prog w) A (Builtin.Slice.sliceApplied (.ref sl) (pure (n:Int))) Q E s:=by
 obtain⟨os,hos,hcs,hds⟩:=id hs
 unfold Builtin.Slice.sliceApplied Builtin.Slice.sliceFields
 refine Á (Á (Ű hos hds (x:=vl) rfl (Á (Ű hos hds (x:=vu) rfl (Á (Ű hos hds (x:=.none) rfl (Ä ?_)))))))
 refine Á (slicePart_none ?_)
 show wpAny _ _ (if ((1:Int) == 0)=true then _ else _) _ _ s
 rw [if_neg (by decide)]
 refine Á (nA pl (Á (nA pu (Á (Ä ?_)))))
 show wpAny _ _ (match Builtin.Slice.sliceAdjust lo hi 1 (n:Int) with | (lo,hi)=>pure (lo,(1:Int),Ů lo hi 1)) _ _ s
 rw [xX lo hi n]
 show wpAny _ _ (pure (((sIx n 0 lo:Nat):Int),(1:Int),Ů ((sIx n 0 lo:Nat):Int) ((sIx n n hi:Nat):Int) 1)) _ _ s
 rw [wB]
 exact Ä h
theorem Ei (xs:Array Value) (i k:Nat):((ý k).filterMap fun (m:Nat)=>xs[((i:Int)+(m:Int) * 1).toNat]?).toArray=((xs.toList.drop i).take k).toArray:=by
 have e:(fun (m:Nat)=>xs[((i:Int)+(m:Int) * 1).toNat]?)=fun m=>xs[i+m]?:=by
  funext m
  have:((i:Int)+(m:Int) * 1).toNat=i+m:=by omega
  rw [this]
 rw [e]
 have:=pick_run xs i k
 rw [List.filterMap_map] at this
 have e2:((fun x=>xs[x]?) ∘ fun x=>i+x)=fun m=>xs[i+m]?:=rfl
 rw [e2] at this
 rw [this]
theorem jT {t sl:Addr}{items:Array Value}{vl vu:Value}{lo hi:Option Int}{Q:Value->Shared->Prop} (ht:IsTup s.heap t items) (hs:s.heap.IsSliceOf sl vl vu .none) (pl:IsPart vl lo) (pu:IsPart vu hi)
  (hw:¬ (sIx items.size 0 lo=0/\sIx items.size items.size hi=items.size))
  (h:Q (.ref s.heap.objs.size) { s with heap:=s.heap.push { cls:=.type "tuple",data:=.seq ((items.toList.drop (sIx items.size 0 lo)).take (sIx items.size items.size hi - sIx items.size 0 lo)).toArray } })
  (hsz:items.size<=sizeLine):wpAny (model prog w) A (getItem (.ref t) (.ref sl)) Q E s:=by
 have htake:sizeOk (.seq ((items.toList.drop (sIx items.size 0 lo)).take (sIx items.size items.size hi - sIx items.size 0 lo)).toArray):=by
  show ((items.toList.drop (sIx items.size 0 lo)).take (sIx items.size items.size hi - sIx items.size 0 lo)).toArray.size<=sizeLine
  rw [Î,Ī,List.length_drop,è]
  omega
 have hj:sIx items.size items.size hi<=items.size:=K3 _ _ (Ï _) hi
 obtain⟨os,hos,hcs,hds⟩:=id hs
 have hTs:s.TypeIs (.ref sl) "slice":=⟨os,hos,hcs⟩
 unfold getItem
 try with_reducible refine ú ?_
 first | refine Á (Ä ?_) | skip
 refine Á (wpAny_sequenceKey ht.typeIs (by decide) ?_)
 refine Á (č (name:=Ģ "__getitem__") ht.typeIs PyProof.Rows.slot_tuple_getitem
  (Ĉ PyProof.Rows.slot_tuple_getitem ht.typeIs entry_tuple_getitem ?_ (args_tuple_getitem _ _)))
 show wpAny _ _ (Builtin.Tuple.tupleItemsOf (.ref t) >>= _) _ _ s
 refine Á (tupleItemsOf_ ht ?_)
 refine Á (wpAny_typeOf hTs ?_)
 rw [if_pos (by decide)]
 refine Á (kE hs pl pu ?_)
 have hno:¬ ((((sIx items.size 0 lo:Nat):Int) == 0&&(1:Int) == 1&&(sIx items.size items.size hi - sIx items.size 0 lo) == items.size)=true):=by
  intro q
  rw [à,à] at q
  have q1:((sIx items.size 0 lo:Nat):Int)=0:=eq_of_beq q.1.1
  have q2:sIx items.size items.size hi - sIx items.size 0 lo=items.size:=eq_of_beq q.2
  exact hw ⟨by omega,by omega⟩
 show wpAny _ _ (if (((sIx items.size 0 lo:Nat):Int) == 0&&(1:Int) == 1&&(sIx items.size items.size hi - sIx items.size 0 lo) == items.size)=true then _ else _) _ _ s
 rw [if_neg hno,Ei]
 first
  | exact Á (m:=Ŷ _) (Ė (Ä ⟨_,rfl,Ä h⟩) htake)
  | exact Á (m:=Ŷ _) (Ė (Á (Ä (Ä ⟨_,rfl,Ä h⟩))) htake)
  | exact Á (Á (m:=Ŷ _) (Ė (Ä (Ä ⟨_,rfl,Ä h⟩)) htake))
  | exact Á (Á (m:=Ŷ _) (Ė (Ä ⟨_,rfl,Ä h⟩) htake))
end
end HT
namespace L2
open PySem PySem.Spec PyProof.Rows
abbrev TO:=St->Hp->(Option Int->Hp->Prop)->Prop
def PO (X:Cx) (e:Option Expr) (t:TO):Prop :=
 ∀ (pins:List (Addr×Obj)) (s:Shared) (σ:St) (H:Hp) (Q:Option Int->Hp->Prop),Inv X pins σ H s->t σ H Q ->
  wpAny (model X.prog X.w) X.A (evalPart e X.env) (fun u s'=>∃ o H',Inv X pins σ H' s'/\IsPart u o/\Q o H') X.xe s
def HS:TO:=fun _ H Q=>Q none H
def NZ (t:TE):TO:=fun σ H Q=>t σ H fun x H1=>∃ i,x=.int i/\Q (some i) H1
theorem intsAre_of {ns:List Int}:∀ {us:List Value},Vals (ns.map V.int) us->IntsAre us ns:=by
 induction ns with
 | nil=>intro us r; rw [List.map_nil] at r; cases r; exact .nil
 | cons n ns ih =>
  intro us r
  rw [Ą] at r
  cases r with
  | cons r1 r2 =>
   obtain⟨t,e⟩:=r1
   subst e
   exact .cons n t (ih r2)
section
variable {X:Cx}{e:Expr}{te:TE}{lo hi:Option Expr}{tl th:TO}{pos p2:Pos}
theorem Ip:PO X none HS:=by
 intro pins s σ H Q I h
 rw [evalPart_none]
 exact Ä ⟨none,H,I,.none,h⟩
theorem Io (h:PE X e te):PO X (some e) (NZ te):=by
 intro pins s σ H Q I hw
 rw [evalPart_some]
 refine thn (h pins s σ H _ I hw) fun u s1 ⟨x,H1,I1,r1,q1⟩=>?_
 obtain⟨i,rfl,q⟩:=q1
 obtain⟨t,rfl⟩:=r1
 exact⟨some i,H1,I1,.int i t,q⟩
def SlR (X:Cx) (r:V->Option Int->Option Int->Hp->VK->Prop):Prop :=
 ∀ (pins:List (Addr×Obj)) (s:Shared) (σ:St) (H:Hp) (x:V) (v vl vu:Value) (lo hi:Option Int) (sl:Addr) (Q:VK),Inv X pins σ H s->RelV x v->s.heap.IsSliceOf sl vl vu .none->IsPart vl lo->IsPart vu hi->r x lo hi H Q ->
  ∃ T id,typeLookup (.type T) "__getitem__"=pure (some (.builtin id))/\s.TypeIs v T/\wpAny (model X.prog X.w) X.A (getItem v (.ref sl)) (EP X pins σ Q) X.xe s
theorem SlR.or {r r':V->Option Int->Option Int->Hp->VK->Prop} (h:SlR X r) (h':SlR X r'):SlR X (fun x lo hi H Q=>r x lo hi H Q\/r' x lo hi H Q):=by
 intro pins s σ H x v vl vu lo hi sl Q I rx hs pl pu q
 rcases q with q | q
 ·exact h pins s σ H x v vl vu lo hi sl Q I rx hs pl pu q
 ·exact h' pins s σ H x v vl vu lo hi sl Q I rx hs pl pu q
def tSl (r:V->Option Int->Option Int->Hp->VK->Prop) (te:TE) (tl th:TO):TE:=fun σ H Q=>te σ H fun x H1=>tl σ H1 fun l H2=>th σ H2 fun u H3=>r x l u H3 Q
theorem uQ {r:V->Option Int->Option Int->Hp->VK->Prop} (hr:SlR X r) (he:PE X e te) (hl:PO X lo tl) (hu:PO X hi th):PE X (.Subscript e (.Slice lo hi none p2) pos) (tSl r te tl th):=by
 intro pins s σ H Q I h
 refine Subscript_ (thn (he pins s σ H _ I h) fun v s1 ⟨x,H1,I1,r1,q1⟩=>?_)
 refine wpAny_Slice (thn (hl pins s1 σ H1 _ I1 q1) fun vl s2 ⟨l,H2,I2,pl,q2⟩=>thn (hu pins s2 σ H2 _ I2 q2) fun vu s3 ⟨u,H3,I3,pu,q3⟩=>?_)
 rw [evalPart_none]
 refine Ä ?_
 have I4:Inv X pins σ H3 { s3 with heap:=s3.heap.push { cls:=.type "slice",data:=.fields #[vl,vu,.none] } }:=I3.kept (t':=s3.toks) fun b ob q=>Å _ q
 obtain⟨T,id,hT,ht,hg⟩:=hr pins { s3 with heap:=s3.heap.push { cls:=.type "slice",data:=.fields #[vl,vu,.none] } } σ H3 x v vl vu l u s3.heap.objs.size Q I4 r1 (Heap.IsSliceOf.new ..) pl pu q3
 show wpAny (model X.prog X.w) X.A (subscriptTail e (.Slice lo hi none p2) v (.ref s3.heap.objs.size)) (EP X pins σ Q) X.xe { s3 with heap:=s3.heap.push { cls:=.type "slice",data:=.fields #[vl,vu,.none] } }
 exact tail_any (ops:=[.ref s3.heap.objs.size,v]) ht hT hg (by with_unfolding_all rfl)
def pA (xs:List V) (lo hi:Option Int):List V:=(xs.drop (HT.sIx xs.length 0 lo)).take (HT.sIx xs.length xs.length hi - HT.sIx xs.length 0 lo)
theorem lV (xs:List V) (lo hi:Option Int):(pA xs lo hi).length<=xs.length:=by
 unfold pA
 rw [Ī,List.length_drop]
 omega
def Qs (K:Ý):V->Option Int->Option Int->Hp->VK->Prop:=fun x lo hi H Q=>∃ a xs,x=.ref a/\SqT K H a xs /\
 ¬ (HT.sIx xs.length 0 lo=0/\HT.sIx xs.length xs.length hi=xs.length)/\∀ p,H p=none->Q (.ref p) (upd H p (.tup (pA xs lo hi)))
theorem KN:SlR X (Qs X.K):=by
 intro pins s σ H x v vl vu lo hi sl Q I rx hs pl pu h
 obtain⟨a,xs,rfl,hx,hw,q⟩:=h
 cases rx
 obtain⟨its,r,ht,hz⟩:=I.tuple hx
 have hlen:its.toArray.size=xs.length:=by rw [Î]; exact r.length.symm
 refine⟨"tuple",_,PyProof.Rows.slot_tuple_getitem.lookup,ht.typeIs,?_⟩
 refine HT.jT ht hs pl pu (by rw [hlen]; exact hw) ?_ (by rw [hlen]; exact hz)
 rw [hlen]
 refine⟨.ref s.heap.objs.size,_,I.laid (t':=s.toks) (o:=.tup (pA xs lo hi)) (fun b ob q=>Å _ q) (Ï _) ?_,rfl,q _ (I.hok.fresh (Ï _))⟩
 exact⟨Ĕ (lV xs lo hi) hz,_,(r.drop (HT.sIx xs.length 0 lo)).take (HT.sIx xs.length xs.length hi - HT.sIx xs.length 0 lo),IsTup.new _ _⟩
def Oz (K:Ý):R2:=fun x y H Q=>∃ a b xs ys,x=.ref a/\y=.ref b/\SqT K H a xs/\SqT K H b ys/\xs≠[]/\xs.length+ys.length<=sizeLine /\
 (ys=[]->Q (.ref a) H)/\(ys≠[]->∀ p,H p=none->Q (.ref p) (upd H p (.tup (xs++ys))))
theorem Vals.su {xs:List V}{us:List Value} (r:Vals xs us):us=[]↔xs=[]:=by
 cases r with
 | nil=>simp
 | cons _ _=>simp
theorem Jc:OpR X (binaryOp .Add) (Oz X.K):=by
 intro pins s σ H x y v u Q I rx ry h
 obtain⟨a,b,xs,ys,rfl,rfl,ha,hb,hx,hz,q1,q2⟩:=h
 cases rx
 cases ry
 obtain⟨its,r1,p1,_⟩:=I.tuple ha
 obtain⟨its2,r2,p2,_⟩:=I.tuple hb
 refine HT.JK p1 p2 (fun z=>hx (r1.su.mp z)) (fun z=>⟨.ref a,H,I,rfl,q1 (r2.su.mp z)⟩) (fun z=>?_) (by rw [← r1.length,← r2.length]; exact hz)
 refine⟨.ref s.heap.objs.size,_,I.laid (t':=s.toks) (o:=.tup (xs++ys)) (fun b ob q=>Å _ q) (Ï _) ?_,rfl,q2 (fun w=>z (r2.su.mpr w)) _ (I.hok.fresh (Ï _))⟩
 exact⟨by rw [È]; exact hz,_,r1.append r2,IsTup.new _ _⟩
end
def ixN (n:Nat) (i:Int):Option Nat:=if 0<=i then (if i<n then some i.toNat else none) else if -(n:Int)<=i then some (i+n).toNat else none
def atI {α:Type} (xs:List α) (i:Int):Option α:=(ixN xs.length i).bind fun j=>xs[j]?
theorem sO {n:Nat}{i:Int}{j:Nat} (h:ixN n i=some j):seqIndex? i n=some j/\j<n/\-(n:Int)<=i/\i<n:=by
 unfold ixN at h
 by_cases h0:0<=i
 ·rw [if_pos h0] at h
  by_cases h1:i<n
  ·rw [if_pos h1] at h
   have e:i.toNat=j:=Û h
   exact⟨by rw [seqIndex_of h0 h1,e],by omega,by omega,h1⟩
  ·rw [if_neg h1] at h; cases h
 ·rw [if_neg h0] at h
  by_cases h1:-(n:Int)<=i
  ·rw [if_pos h1] at h
   have e:(i+n).toNat=j:=Û h
   exact⟨by rw [seqIndex_neg (by omega) h1,e],by omega,h1,by omega⟩
  ·rw [if_neg h1] at h; cases h
theorem Ac {α:Type}{xs:List α}{i:Int}{v:α} (h:atI xs i=some v):∃ j,seqIndex? i xs.length=some j/\xs[j]?=some v/\j<xs.length/\-(xs.length:Int)<=i/\i<xs.length:=by
 unfold atI at h
 cases e:ixN xs.length i with
 | none=>rw [e] at h; cases h
 | some j =>
  rw [e] at h
  obtain⟨h1,h2,h3,h4⟩:=sO e
  exact⟨j,h1,h,h2,h3,h4⟩
theorem bA {α:Type}{xs:List α}{j:Nat}{v:α} (h:xs[j]?=some v):atI xs (j:Int)=some v:=by
 have hj:j<xs.length:=(É.mp h).1
 have e:ixN xs.length (j:Int)=some j:=by
  unfold ixN
  rw [if_pos (by omega),if_pos (by omega)]; simp
 unfold atI; rw [e]; exact h
theorem Hw {α:Type} (xs:List α) (v:α):atI (xs++[v]) (-1)=some v:=by
 have hl:(xs++[v]).length=xs.length+1:=by simp
 have e:ixN (xs++[v]).length (-1)=some xs.length:=by
  unfold ixN
  rw [hl,if_neg (by decide),if_pos (by omega)]
  congr 1
  omega
 unfold atI
 rw [e]
 show (xs++[v])[xs.length]?=some v
 simp
def ni (b:Expr):Prop:=∀ o i,subscripted b false o i=operate [o,i] (getItem o i)
def IxR (X:Cx) (r:R2):Prop :=
 ∀ (value slice:Expr) (pins:List (Addr×Obj)) (s:Shared) (σ:St) (H:Hp) (x y:V) (v u:Value) (Q:VK),Inv X pins σ H s->RelV x v->RelV y u->r x y H Q ->
  subscripted slice false v u=operate [v,u] (getItem v u)->wpAny (model X.prog X.w) X.A (subscriptTail value slice v u) (EP X pins σ Q) X.xe s
def MtR (X:Cx) (id:String) (r:V->List V->Hp->VK->Prop):Prop :=
 ∀ (pins:List (Addr×Obj)) (s:Shared) (σ:St) (H:Hp) (x:V) (xs:List V) (v:Value) (us:List Value) (Q:VK),Inv X pins σ H s->RelV x v->Vals xs us->r x xs H Q ->
  wpAny (model X.prog X.w) X.A (call (.builtin id) (v::us)) (EP X pins σ Q) X.xe s
section
variable {X:Cx}{a b:Expr}{ta tb:TE}{pos:Pos}
theorem IxR.or {r r':R2} (h:IxR X r) (h':IxR X r'):IxR X (fun x y H Q=>r x y H Q\/r' x y H Q):=by
 intro value slice pins s σ H x y v u Q I rx ry q hs
 rcases q with q | q
 ·exact h value slice pins s σ H x y v u Q I rx ry q hs
 ·exact h' value slice pins s σ H x y v u Q I rx ry q hs
theorem uR {r:R2} (hr:IxR X r) (ha:PE X a ta) (hb:PE X b tb) (hs:ni b):PE X (.Subscript a b pos) (tOp r ta tb):=by
 intro pins s σ H Q I h
 exact Subscript_ (Nv ha hb I h fun v u s2 x y H2 I2 rx ry q=>hr a b pins s2 σ H2 x y v u Q I2 rx ry q (hs _ _))
def Ox (K:Ý):R2:=fun x y H Q=>∃ p xs i v,x=.ref p/\y=.int i/\SqL K H p xs/\atI xs i=some v/\Q v H
def K9 (K:Ý):R2:=fun x y H Q=>∃ p xs i v,x=.ref p/\y=.int i/\SqT K H p xs/\atI xs i=some v/\Q v H
theorem sJ:IxR X (Ox X.K):=by
 intro value slice pins s σ H x y v u Q I rx ry h hs
 obtain⟨p,xs,i,z,rfl,rfl,hq,he,q⟩:=h
 cases rx
 obtain⟨t,rfl⟩:=ry
 obtain⟨its,r,pl,hz⟩:=I.list hq
 obtain⟨j,h1,h2,h3,h4,h5⟩:=Ac he
 obtain⟨w,ew,rw'⟩:=r.get h2
 have hl:=r.length
 have hn:=oF
 have fin:EP X pins σ Q w s:=⟨z,H,I,rw',q⟩
 by_cases h0:0<=i
 ·have hj:i.toNat=j:=by
   rw [seqIndex_of h0 h5] at h1
   exact Û h1
  exact item_listR pl.isList h0 (by omega) (by rw [hj]; simpa using ew) fin hs
 ·have hj:(i+(its.toArray.size:Int)).toNat=j:=by
   rw [seqIndex_neg (by omega) h4] at h1
   rw [Î,← hl]
   exact Û h1
  exact subscriptTail_builtinR (x:=w) pl.isList.typeIs slot_list_getitem.lookup
   (wpAny_getItem_list_neg (Q:=fun r s'=>r=w/\EP X pins σ Q r s') pl.isList (by omega) (by rw [Î] <;> omega) (by omega) (by rw [hj]; simpa using ew) ⟨rfl,fin⟩) hs
theorem wX:IxR X (K9 X.K):=by
 intro value slice pins s σ H x y v u Q I rx ry h hs
 obtain⟨p,xs,i,z,rfl,rfl,hq,he,q⟩:=h
 cases rx
 obtain⟨t,rfl⟩:=ry
 obtain⟨its,r,pl,hz⟩:=I.tuple hq
 obtain⟨j,h1,h2,h3,h4,h5⟩:=Ac he
 obtain⟨w,ew,rw'⟩:=r.get h2
 have hl:=r.length
 have hn:=oF
 have fin:EP X pins σ Q w s:=⟨z,H,I,rw',q⟩
 exact subscriptTail_builtinR (x:=w) pl.typeIs slot_tuple_getitem.lookup
  (getItem_tuple (j:=j) (Q:=fun r s'=>r=w/\EP X pins σ Q r s') pl (by omega) (by omega) (by rw [Î,← hl]; exact h1) (by simpa using ew) ⟨rfl,fin⟩) hs
theorem wU (its:List Value) (n j:Nat) (u:Value):æ (·.setIfInBounds j u) { cls:=.type "list",data:=.seq its.toArray n }={ cls:=.type "list",data:=.seq (its.set j u).toArray n }:=by
 simp [æ]
theorem Inv.lst {pins:List (Addr×Obj)}{σ:St}{H:Hp}{s:Shared}{p:Addr}{xs:List V} (I:Inv X pins σ H s) (h:H p=some (.lst xs)) :
  ∃ (its:List Value) (n:Nat),Vals xs its/\s.heap.get? p=some { cls:=.type "list",data:=.seq its.toArray n }/\xs.length<=sizeLine:=by
 obtain⟨z,its,n,r,e⟩:=I.hok p _ h
 exact⟨its,n,r,e,z⟩
theorem Inv.Mv {pins:List (Addr×Obj)}{σ:St}{H:Hp}{s:Shared}{p:Addr}{xs ys:List V}{its its':List Value}{n n':Nat}{f:Obj->Obj} (I:Inv X pins σ H s) (h:H p=some (.lst xs))
  (ho:s.heap.get? p=some { cls:=.type "list",data:=.seq its.toArray n }) (hf:f { cls:=.type "list",data:=.seq its.toArray n }={ cls:=.type "list",data:=.seq its'.toArray n' }) (r:Vals ys its') (hz:ys.length<=sizeLine) (t:Nat) :
  Inv X pins σ (upd H p (.lst ys)) { s with heap:=s.heap.update p f,toks:=t }:=by
 have e:(s.heap.update p f).get? p=some { cls:=.type "list",data:=.seq its'.toArray n' }:=by
  rw [ù f ho (by rw [hf] <;> rfl),hf]
 refine I.write (x:=p) (e:=p) (by rw [h]; trivial) (.inl rfl) (fun b u hb q=>(õ _ _ (ċ hb)).trans q) ⟨_,e⟩ ?_
 exact⟨hz,its',n',r,e⟩
def Ov:V->V->V->Hp->(Hp->Prop)->Prop:=fun o i v H Q=>∃ p xs k j,o=.ref p/\i=.int k/\H p=some (.lst xs)/\ixN xs.length k=some j/\Q (upd H p (.lst (xs.set j v)))
theorem set_list:Qf X Ov:=by
 intro pins s σ H o i v ov iv u Q I ro ri rv h
 obtain⟨p,xs,k,j,rfl,rfl,hp,hj,q⟩:=h
 cases ro
 obtain⟨t,rfl⟩:=ri
 obtain⟨its,n,r,ho,hz⟩:=I.lst hp
 obtain⟨h1,h2,h3,h4⟩:=sO hj
 have hl:=r.length
 have hn:=oF
 have I':Inv X pins σ (upd H p (.lst (xs.set j v))) { s with heap:=s.heap.update p (æ (·.setIfInBounds j u)) } :=
  I.Mv hp ho (wU its n j u) (r.set rv j) (by rw [List.length_set]; exact hz) s.toks
 by_cases h0:0<=k
 ·have hk:k.toNat=j:=by
   rw [seqIndex_of h0 h4] at h1
   exact Û h1
  exact W.ki_setAt ho h0 (by omega) (by rw [Î,← hl]; exact h4) (by rw [hk]; exact⟨_,I',q⟩)
 ·have hk:(k+(its.toArray.size:Int)).toNat=j:=by
   rw [seqIndex_neg (by omega) h3] at h1
   rw [Î,← hl]
   exact Û h1
  exact W.ki_setBack ho (by omega) (by rw [Î,← hl]; exact h3) (by omega) (by rw [hk]; exact⟨_,I',q⟩)
theorem qX (lo hi:Option Int) (n:Nat):(sliceBounds lo hi none n).1=((HT.sIx n 0 lo:Nat):Int)/\(sliceBounds lo hi none n).2.1=((HT.sIx n n hi:Nat):Int)/\(sliceBounds lo hi none n).2.2=1:=by
 refine⟨?_,?_,rfl⟩
 ·cases lo with
  | none=>simp [sliceBounds,HT.sIx]
  | some i =>
   simp only [sliceBounds,HT.sIx,Option.getD_none,show (1:Int) > 0 by decide,if_true]
   by_cases h:i<0
   ·simp only [h,if_true] <;> omega
   ·simp only [h,if_false] <;> omega
 ·cases hi with
  | none=>simp [sliceBounds,HT.sIx]
  | some i =>
   simp only [sliceBounds,HT.sIx,Option.getD_none,show (1:Int) > 0 by decide,if_true]
   by_cases h:i<0
   ·simp only [h,if_true] <;> omega
   ·simp only [h,if_false] <;> omega
theorem pN (its:List Value) (lo hi:Option Int):slicePick its.toArray lo hi none=((its.drop (HT.sIx its.length 0 lo)).take (HT.sIx its.length its.length hi - HT.sIx its.length 0 lo)).toArray:=by
 obtain⟨h1,h2,h3⟩:=qX lo hi its.toArray.size
 unfold slicePick
 rw [h1,h2,h3]
 simp only [sliceRange_one,pick_run,Î] <;> rfl
def Qt (K:Ý):V->Option Int->Option Int->Hp->VK->Prop:=fun x lo hi H Q=>∃ a xs,x=.ref a/\SqL K H a xs/\∀ p,H p=none->Q (.ref p) (upd H p (.lst (pA xs lo hi)))
theorem yD:SlR X (Qt X.K):=by
 intro pins s σ H x v vl vu lo hi sl Q I rx hs pl pu h
 obtain⟨a,xs,rfl,hx,q⟩:=h
 cases rx
 obtain⟨its,r,ht,hz⟩:=I.list hx
 have hlen:=r.length
 refine⟨"list",_,slot_list_getitem.lookup,ht.isList.typeIs,?_⟩
 refine wpAny_getItem_list_slice ht.isList hs pl pu .none (by simp) ?_ (by rw [Î] <;> omega)
 rw [pN,← hlen]
 refine⟨.ref s.heap.objs.size,_,I.laid (t':=s.toks) (o:=.lst (pA xs lo hi)) (fun b ob q=>Å _ q) (Ï _) ?_,rfl,q _ (I.hok.fresh (Ï _))⟩
 exact⟨Ĕ (lV xs lo hi) hz,_,0,(r.drop (HT.sIx xs.length 0 lo)).take (HT.sIx xs.length xs.length hi - HT.sIx xs.length 0 lo),Ò _ rfl⟩
theorem cB:aU X (.builtin "len") (fun xs H Q=>∃ p ys,xs=[.ref p]/\(SqL X.K H p ys\/SqT X.K H p ys)/\Q (.int ys.length) H):=by
 intro pins s σ H xs us Q I r h
 obtain⟨p,ys,rfl,hq,q⟩:=h
 obtain⟨u,rfl,rx⟩:=vals1 r
 cases rx
 have hn:=oF
 rcases hq with hq | hq
 ·obtain⟨its,r',pl,hz⟩:=I.list hq
  have hlen:=r'.length
  exact Calls.call_len_list pl.isList (by simp only [Î] <;> omega) ⟨.int ys.length,H,I.tok _,⟨s.toks+1,by rw [Î,hlen]⟩,q⟩
 ·obtain⟨its,r',pl,hz⟩:=I.tuple hq
  have hlen:=r'.length
  exact len_tuple pl (by simp only [Î] <;> omega) ⟨.int ys.length,H,I.tok _,⟨s.toks+1,by rw [Î,hlen]⟩,q⟩
theorem tR:aU X (.type "list") (fun xs H Q=>∃ p ys,xs=[.ref p]/\(SqL X.K H p ys\/SqT X.K H p ys)/\∀ l,H l=none->Q (.ref l) (upd H l (.lst ys))):=by
 intro pins s σ H xs us Q I r h
 obtain⟨p,ys,rfl,hq,q⟩:=h
 obtain⟨u,rfl,rx⟩:=vals1 r
 cases rx
 have fin:∀ (its:List Value),Vals ys its->ys.length<=sizeLine->∀ (h':Heap) (c':Nat),(∀ b o',s.heap.get? b=some o'->h'.get? b=some o') ->
   h'.get? s.heap.objs.size=some { cls:=.type "list",dict:=none,data:=.seq its.toArray c',slots:=#[] }->EP X pins σ Q (.ref s.heap.objs.size) { s with heap:=h' }:=fun its r' hz h' c' kp e =>
  ⟨.ref s.heap.objs.size,_,I.laid (t':=s.toks) kp (Ï _) (show aM X.prog X.w _ h' _ (.lst ys) from ⟨hz,its,c',r',e⟩),rfl,q _ (I.hok.fresh (Ï _))⟩
 rcases hq with hq | hq
 ·obtain⟨its,r',pl,hz⟩:=I.list hq
  have hlen:=r'.length
  obtain⟨o,ho,hc,n,hd⟩:=pl.isList
  exact call_list_seq p (.inl rfl) ho hc hd (fun h' c' kp e=>fin its r' hz h' c' kp e) (by simp only [Î] <;> omega)
 ·obtain⟨its,r',pl,hz⟩:=I.tuple hq
  have hlen:=r'.length
  obtain⟨o,ho,hc,n,hd⟩:=pl
  exact call_list_seq p (.inr rfl) ho hc hd (fun h' c' kp e=>fin its r' hz h' c' kp e) (by simp only [Î] <;> omega)
theorem pU:aU X (.type "tuple") (fun xs H Q=>∃ p ys,xs=[.ref p]/\((SqL X.K H p ys/\∀ l,H l=none->Q (.ref l) (upd H l (.tup ys)))\/(SqT X.K H p ys/\Q (.ref p) H))):=by
 intro pins s σ H xs us Q I r h
 obtain⟨p,ys,rfl,h⟩:=h
 obtain⟨u,rfl,rx⟩:=vals1 r
 cases rx
 rcases h with ⟨hq,q⟩ | ⟨hq,q⟩
 ·obtain⟨its,r',pl,hz⟩:=I.list hq
  have hlen:=r'.length
  refine call_tuple_list pl.isList (fun h' kp=>?_) (by simp only [Î] <;> omega)
  have I1:Inv X pins σ H { s with heap:=h' }:=I.kept (t':=s.toks) kp
  have I2:Inv X pins σ (upd H h'.objs.size (.tup ys)) { s with heap:=h'.push { cls:=.type "tuple",data:=.seq its.toArray } } :=
   I1.laid (t':=s.toks) (fun b o e=>Å _ e) (Ï _) (show aM X.prog X.w _ _ _ (.tup ys) from ⟨hz,its,r',IsTup.new _ _⟩)
  exact⟨.ref h'.objs.size,_,I2,rfl,q _ (I1.hok.fresh (Ï _))⟩
 ·obtain⟨its,r',pl,hz⟩:=I.tuple hq
  exact call_tuple_same pl ⟨.ref p,H,I,rfl,q⟩
def tyV (K:Ý) (T:String) (x:V) (H:Hp):Prop:=match x with
 | .str _=>T="str"
 | .int _=>T="int"
 | .ref p=>(T="list"/\∃ xs,SqL K H p xs)\/(T="tuple"/\∃ o,K.lookup p=some o/\o.cls=.type "tuple"/\o.dict=none) ∨
   (T="dict"/\((∃ kvs,H p=some (.dK kvs))\/∃ kvs,H p=some (.dT kvs)))\/(T="set"/\∃ S n,H p=some (.set S n))
 | _=>False
theorem CQ {pins:List (Addr×Obj)}{σ:St}{H:Hp}{s:Shared}{T:String}{x:V}{v:Value} (I:Inv X pins σ H s) (r:RelV x v) (ty:tyV X.K T x H) :
  s.TypeIs v T/\∀ a,v=.ref a->∃ ob,s.heap.get? a=some ob/\ob.dict=none:=by
 cases x with
 | str z =>
  obtain⟨t,rfl⟩:=r
  cases (show T="str" from ty)
  exact⟨typeIs_str s z t,fun _ e=>nomatch e⟩
 | int i =>
  obtain⟨t,rfl⟩:=r
  cases (show T="int" from ty)
  exact⟨typeIs_int s i t,fun _ e=>nomatch e⟩
 | ref p =>
  cases r
  rcases ty with ⟨rfl,xs,hq⟩ | ⟨rfl,o,hk,hc,hd⟩ | ⟨rfl,hk⟩ | ⟨rfl,S,n,hk⟩
  ·obtain⟨its,_,pl,_⟩:=I.list hq
   refine⟨pl.isList.typeIs,fun a e=>?_⟩
   cases e
   obtain⟨o,n,e,c,hd,_⟩:=pl
   exact⟨o,e,hd⟩
  ·refine⟨⟨o,I.kIn p o hk,hc⟩,fun a e=>?_⟩
   cases e
   exact⟨o,I.kIn _ o hk,hd⟩
  ·have z:∃ o,s.heap.get? p=some o/\o.ExactDict:=by
    rcases hk with ⟨kvs,hk⟩ | ⟨kvs,hk⟩
    ·obtain⟨_,_,_,_,o,_,_,e,ex,_⟩:=I.hok p _ hk
     exact⟨o,e,ex⟩
    ·obtain⟨_,_,_,_,o,_,_,e,ex,_⟩:=I.hok p _ hk
     exact⟨o,e,ex⟩
   obtain⟨o,e,ex⟩:=z
   refine⟨⟨o,e,ex.1⟩,fun a e2=>?_⟩
   cases e2
   exact⟨o,e,ex.2.1⟩
  ·obtain⟨o,_,_,_,e,ex,_⟩:=I.hok p _ hk
   refine⟨⟨o,e,ex.1⟩,fun a e2=>?_⟩
   cases e2
   exact⟨o,e,ex.2.1⟩
 | _=>exact ş ty
def Oi (K:Ý) (T:String) (r:V->List V->Hp->VK->Prop) (to:TE):TE:=fun σ H Q=>to σ H fun x H1=>tyV K T x H1/\r x [] H1 Q
def tBM (K:Ý) (T:String) (r:V->List V->Hp->VK->Prop) (to:TE) (t:TA):TE:=fun σ H Q=>to σ H fun x H1=>tyV K T x H1/\t σ H1 fun xs H2=>r x xs H2 Q
variable {o e:Expr}{es:List Expr}{to:TE}{t:TA}{name:Str}{apos cpos:Pos}{T id:String}{r:V->List V->Hp->VK->Prop}
theorem Lz (pa:PlainAttrs T) (slot:Slot T name id) (hty:typeOf (.builtin id)=pure (.type "method_descriptor")) (hm:MtR X id r) (ho:PE X o to)
  (hbase:attributeBase o name X.env (eval o X.env)=eval o X.env:=by rfl) (hline:(apos.endLine == cpos.line)=true:=by rfl):PE X (.Call (.Attribute o name apos) [] [] cpos) (Oi X.K T r to):=by
 intro pins s σ H Q I h
 refine wpAny_Call_method0_late hbase hline (thn (ho pins s σ H _ I h) fun v s1 ⟨x,H1,I1,r1,ty,q1⟩=>?_)
 obtain⟨h1,h2⟩:=CQ I1 r1 ty
 exact⟨T,id,pa,slot,hty,h1,h2,Calls.callWith_builtin rfl (PySem.evalArgs_none (hm pins s1 σ H1 x [] v [] Q I1 r1 .nil q1))⟩
theorem yU (pa:PlainAttrs T) (slot:Slot T name id) (hty:typeOf (.builtin id)=pure (.type "method_descriptor")) (hm:MtR X id r) (ho:PE X o to) (ha:PA X (e::es) t)
  (hbase:attributeBase o name X.env (eval o X.env)=eval o X.env:=by rfl)
  (hfew:((backTo cpos (starEach (e::es) X.env)).all (fun x=>!x.1)&&(backToKw cpos (keywordEach [] X.env)).all (fun x=>x.1.isSome)
  &&decide ((e::es).length+([]:List Keyword).length+(if ([]:List Keyword).isEmpty then 0 else 1)<30))=true:=by rfl)
  (hline:(apos.endLine == cpos.line)=true:=by rfl) (hs:starEach (e::es) X.env=(false,eval e X.env)::starEach es X.env:=by rfl) (hplain:(backTo cpos (starEach es X.env)).any (·.1)=false:=by rfl) :
  PE X (.Call (.Attribute o name apos) (e::es) [] cpos) (tBM X.K T r to t):=by
 intro pins s σ H Q I h
 refine wpAny_Call_method_late hbase hfew hline rfl (thn (ho pins s σ H _ I h) fun v s1 ⟨x,H1,I1,r1,ty,q1⟩=>?_)
 obtain⟨h1,h2⟩:=CQ I1 r1 ty
 refine⟨T,id,pa,slot,hty,h1,h2,?_⟩
 have hA:=ha cpos pins s1 σ H1 _ I1 q1
 rw [hs] at hA ⊢
 refine Calls.callWith_builtin (by show (false || (backTo cpos (starEach es X.env)).any (·.1))=false; rw [hplain] <;> rfl) (Calls.evalArgs_plain ?_)
 exact thn hA fun us s2 ⟨vs,H2,I2,r2,q2⟩=>hm pins s2 σ H2 x vs v us Q I2 r1 r2 q2
/- xs.append(e),list.index on a module's tuple .. are MtR facts of 06m -/
end
def MtM (X:Cx) (id:String) (r:V->List V->Hp->VK->Prop):Prop :=
 ∀ (pins:List (Addr×Obj)) (s:Shared) (σ:St) (H:Hp) (x:V) (xs:List V) (v:Value) (us:List Value) (Q:VK),Inv X pins σ H s->RelV x v->Vals xs us->r x xs H Q ->
  wpAny (model X.prog X.w) X.A (call (.builtin id) (v::us)) (EP X pins σ Q) X.xe s
theorem Vals.one:∀ {x:V}{us:List Value},Vals [x] us->∃ u,us=[u]/\RelV x u
 | _,_,.cons r .nil=>⟨_,rfl,r⟩
theorem Vals.zero:∀ {us:List Value},Vals [] us->us=[]
 | _,.nil=>rfl
theorem Vals.dropLast {xs:List V}{us:List Value} (h:Vals xs us):Vals xs.dropLast us.dropLast:=by
 induction h with
 | nil=>exact .nil
 | cons r t ih =>
  cases t with
  | nil=>exact .nil
  | cons q t'=>exact .cons r ih
theorem Vals.eraseIdx:∀ {xs:List V}{us:List Value} (i:Nat),Vals xs us->Vals (xs.eraseIdx i) (us.eraseIdx i)
 | _,_,_,.nil=>.nil
 | _,_,0,.cons _ t=>t
 | _,_,i+1,.cons r t=>.cons r (Vals.eraseIdx i t)
theorem Vals.reverse {xs:List V}{us:List Value} (h:Vals xs us):Vals xs.reverse us.reverse:=by
 induction h with
 | nil=>exact .nil
 | cons r t ih=>rw [ŷ,ŷ]; exact Vals.append ih (.cons r .nil)
theorem Vals.rep {xs:List V}{us:List Value} (h:Vals xs us):∀ k:Nat,Vals (Ð k xs).flatten (Ð k us).flatten
 | 0=>.nil
 | k+1=>by
  rw [Ŏ,Ŏ,Ÿ,Ÿ]
  exact Vals.append h (Vals.rep h k)
theorem xu {α:Type} (l:List α):l.eraseIdx (l.length - 1)=l.dropLast:=by
 induction l with
 | nil=>rfl
 | cons a r ih =>
  cases r with
  | nil=>rfl
  | cons b r =>
   have e:(a::b::r).length - 1=((b::r).length - 1)+1:=by
    have h1:(a::b::r).length=r.length+2:=rfl
    have h2:(b::r).length=r.length+1:=rfl
    omega
   rw [e,List.eraseIdx_cons_succ,ih]
   all_goals rfl
theorem qu {α:Type}:∀ (l:List α) (i:Nat),(l.eraseIdx i).length<=l.length
 | [],_=>Ï _
 | _::_,0=>Ķ _
 | _::r,i+1=>Nat.succ_le_succ (qu r i)
theorem foldl_rep (its:List Value):∀ (k:Nat) (acc:List Value),
  List.foldl (fun x1 x2=>x1++x2) acc.toArray (Ð k its.toArray)=(acc++(Ð k its).flatten).toArray
 | 0,acc=>by simp
 | k+1,acc=>by
  have e:acc.toArray++its.toArray=(acc++its).toArray:=by simp
  have e2:(acc++its)++(Ð k its).flatten=acc++(Ð (k+1) its).flatten:=by
   rw [Ŏ,Ÿ,ŝ]
  rw [← e2,← foldl_rep its k (acc++its),← e,Ŏ,List.foldl_cons]
section
variable {X:Cx}{pins:List (Addr×Obj)}{σ:St}{H:Hp}{s:Shared}{l b:Addr}{xs ys zs:List V}
theorem Inv.FZ {its its':List Value}{n:Nat}{f:Array Value->Array Value}{t':Nat} (I:Inv X pins σ H s) (hH:H l=some (.lst xs))
  (e:s.heap.get? l=some { cls:=.type "list",data:=.seq its.toArray n }) (hf:f its.toArray=its'.toArray) (hv:Vals ys its') (hz:ys.length<=sizeLine) :
  Inv X pins σ (upd H l (.lst ys)) { s with heap:=s.heap.update l (æ f),toks:=t' }:=by
 have q:=PySem.IsL.update e f
 rw [hf] at q
 refine I.write (x:=l) (e:=l) (by rw [hH]; exact trivial) (.inl rfl) (fun b' u hb hu=>(õ s.heap (æ f) (ċ hb)).trans hu) ⟨_,q⟩ ?_
 exact⟨hz,its',_,hv,q⟩
theorem Inv.Pj {its:List Value}{t':Nat} (I:Inv X pins σ H s) (hv:Vals ys its) (hz:ys.length<=sizeLine) :
  Inv X pins σ (upd H s.heap.objs.size (.lst ys)) { s with heap:=s.heap.push { cls:=.type "list",data:=.seq its.toArray },toks:=t' } :=
 I.laid (fun _ _ q=>Å _ q) (Ï _) ⟨hz,its,0,hv,Ò _ rfl⟩
theorem Inv.fresh (I:Inv X pins σ H s):H s.heap.objs.size=none:=I.hok.fresh (Ï _)
theorem Inv.sy (I:Inv X pins σ H s) (hH:H l=some (.lst xs)):xs.length<=sizeLine/\∃ (its:List Value) (n:Nat),Vals xs its/\xs.length=its.length/\s.heap.get? l=some { cls:=.type "list",data:=.seq its.toArray n }:=by
 obtain⟨z,its,n,r,e⟩:=I.hok l _ hH
 exact⟨z,its,n,r,r.length,e⟩
theorem uX {n:Nat} (h:n<=sizeLine):ź n=false:=by
 unfold ź
 exact decide_eq_false (by omega)
end
section
variable {X:Cx}
def mJ:V->List V->Hp->VK->Prop:=fun x vs H Q=>∃ l xs y,x=.ref l/\vs=[y]/\H l=some (.lst xs)/\xs.length<sizeLine/\Q .non (upd H l (.lst (xs++[y])))
theorem lA:MtM X "list.append" mJ:=by
 intro pins s σ H x vs v us Q I rx rv h
 obtain⟨l,xs,y,rfl,rfl,hH,hz,q⟩:=h
 cases rx
 obtain⟨u,rfl,ru⟩:=rv.one
 obtain⟨z,its,n,r,hl,e⟩:=I.sy hH
 refine call_meets F.slot_list_append ⟨_,e,rfl⟩ F.entry_list_append (F.args_list_append_2 _ _) (PySem.list_append l its.toArray n u (by rw [Î]; omega)) ⟨e,?_⟩
 refine⟨.non,_,I.FZ (its':=its++[u]) hH e (by simp) (r.append (.cons ru .nil)) ?_,rfl,q⟩
 rw [È,Ú]
 omega
def Ih:V->List V->Hp->VK->Prop:=fun x vs H Q=>∃ l b xs zs,x=.ref l/\vs=[.ref b]/\H l=some (.lst xs)/\H b=some (.lst zs)/\xs.length+zs.length<=sizeLine/\Q .non (upd H l (.lst (xs++zs)))
theorem NP:MtM X "list.extend" Ih:=by
 intro pins s σ H x vs v us Q I rx rv h
 obtain⟨l,b,xs,zs,rfl,rfl,hH,hB,hz,q⟩:=h
 cases rx
 obtain⟨u,rfl,ru⟩:=rv.one
 cases ru
 obtain⟨z,its,n,r,hl,e⟩:=I.sy hH
 obtain⟨z2,its2,n2,r2,hl2,e2⟩:=I.sy hB
 have hsz:its.toArray.size+its2.toArray.size<=sizeLine:=by rw [Î,Î]; omega
 have hlong:¬ (!its.toArray.isEmpty&&ź (its.toArray.size+its2.toArray.size))=true:=by
  rw [uX hsz,Bool.and_false]
  exact Ô
 refine call_meets F.slot_list_extend ⟨_,e,rfl⟩ F.entry_list_extend (F.args_list_extend_2 _ _)
  (AutoSeq1.list_extend_list_list_0 l its.toArray n b its2.toArray n2 hlong (by rw [Î]; omega) (by omega)) ⟨e,e2,?_⟩
 refine⟨.non,_,I.FZ (its':=its++its2) hH e (by simp) (r.append r2) ?_,rfl,q⟩
 rw [È]
 omega
def Qu:V->List V->Hp->VK->Prop:=fun x vs H Q=>∃ l xs y,x=.ref l/\vs=[]/\H l=some (.lst xs)/\xs[xs.length - 1]?=some y/\Q y (upd H l (.lst xs.dropLast))
theorem Qz:MtM X "list.pop" Qu:=by
 intro pins s σ H x vs v us Q I rx rv h
 obtain⟨l,xs,y,rfl,rfl,hH,hy,q⟩:=h
 cases rx
 have hus:=rv.zero
 subst hus
 obtain⟨z,its,n,r,hl,e⟩:=I.sy hH
 obtain⟨u,hu,ru⟩:=r.get hy
 have hy':its.toArray[its.toArray.size - 1]?=some u:=by
  show its.toArray[its.length - 1]?=some u
  rw [← ĸ,← hl]
  exact hu
 refine call_meets F.slot_list_pop ⟨_,e,rfl⟩ F.entry_list_pop (F.args_list_pop_1 _) (MeetsSeq.list_pop_last l its.toArray n u hy' (by rw [Î]; omega)) ⟨e,?_⟩
 refine⟨y,_,I.FZ (its':=its.dropLast) hH e ?_ r.dropLast ?_,ru,q⟩
 ·show its.toArray.eraseIdxIfInBounds (its.toArray.size - 1)=its.dropLast.toArray
  rw [Î,List.eraseIdxIfInBounds_toArray,xu]
 ·rw [List.length_dropLast]
  omega
def K7:V->List V->Hp->VK->Prop:=fun x vs H Q=>∃ l xs i k y,x=.ref l/\vs=[.int i]/\H l=some (.lst xs)/\-(2 ^ 63)<=i/\i<2 ^ 63/\seqIndex? i xs.length=some k/\xs[k]?=some y/\Q y (upd H l (.lst (xs.eraseIdx k)))
theorem FP:MtM X "list.pop" K7:=by
 intro pins s σ H x vs v us Q I rx rv h
 obtain⟨l,xs,i,k,y,rfl,rfl,hH,h1,h2,hk,hy,q⟩:=h
 cases rx
 obtain⟨u,rfl,ru⟩:=rv.one
 obtain⟨t,rfl⟩:=ru
 obtain⟨z,its,n,r,hl,e⟩:=I.sy hH
 obtain⟨w,hw,rw'⟩:=r.get hy
 refine call_meets F.slot_list_pop ⟨_,e,rfl⟩ F.entry_list_pop (F.args_list_pop_2 _ _)
  (MeetsSeq.list_pop_at l its.toArray n i t k w (fitsIndex_both h1 h2) (by rw [Î,← hl]; exact hk) (by rw [← ĸ]; exact hw) (by rw [Î]; omega)) ⟨e,?_⟩
 refine⟨y,_,I.FZ (its':=its.eraseIdx k) hH e ?_ (r.eraseIdx k) ?_,rw',q⟩
 ·show its.toArray.eraseIdxIfInBounds k=(its.eraseIdx k).toArray
  rw [List.eraseIdxIfInBounds_toArray]
 ·have:=qu xs k
  omega
def DX:V->List V->Hp->VK->Prop:=fun x vs H Q=>∃ l xs,x=.ref l/\vs=[]/\H l=some (.lst xs)/\Q .non (upd H l (.lst []))
theorem FQ:MtM X "list.clear" DX:=by
 intro pins s σ H x vs v us Q I rx rv h
 obtain⟨l,xs,rfl,rfl,hH,q⟩:=h
 cases rx
 have hus:=rv.zero
 subst hus
 obtain⟨z,its,n,r,hl,e⟩:=I.sy hH
 refine call_meets F.slot_list_clear ⟨_,e,rfl⟩ F.entry_list_clear (F.args_list_clear_1 _) (AutoSeq1.list_clear_list_0 l its.toArray n (by rw [Î]; omega)) ⟨e,?_⟩
 exact⟨.non,_,I.FZ (its':=[]) (ys:=[]) hH e rfl .nil (ÿ _),rfl,q⟩
def OD:R2:=fun x y H Q=>∃ l b xs zs,x=.ref l/\y=.ref b/\H l=some (.lst xs)/\H b=some (.lst zs)/\xs.length+zs.length<=sizeLine/\∀ p,H p=none->Q (.ref p) (upd H p (.lst (xs++zs)))
theorem Mi:OpR X (binaryOp .Add) OD:=by
 intro pins s σ H x y v u Q I rx ry h
 obtain⟨l,b,xs,zs,rfl,rfl,hH,hB,hz,q⟩:=h
 cases rx
 cases ry
 obtain⟨z,its,n,r,hl,e⟩:=I.sy hH
 obtain⟨z2,its2,n2,r2,hl2,e2⟩:=I.sy hB
 refine PySem.P.add_list e e2 ?_ (by rw [Î,Î]; omega)
 have ea:its.toArray++its2.toArray=(its++its2).toArray:=by simp
 rw [ea]
 exact⟨.ref _,_,I.Pj (t':=s.toks) (r.append r2) (by rw [È]; omega),rfl,q _ I.fresh⟩
def Ow:R2:=fun x y H Q=>∃ l k xs,x=.ref l/\y=.int k/\H l=some (.lst xs)/\-(2 ^ 63)<=k/\k<2 ^ 63/\xs.length * k.toNat<=sizeLine /\
 ∀ p,H p=none->Q (.ref p) (upd H p (.lst (Ð k.toNat xs).flatten))
theorem len_rep {α:Type} (xs:List α) (k:Nat):(Ð k xs).flatten.length=k * xs.length:=by
 induction k with
 | zero=>simp
 | succ k ih=>rw [Ŏ,Ÿ,È,ih,Nat.succ_mul,Nat.add_comm]
theorem Ma:OpR X (binaryOp .Mult) Ow:=by
 intro pins s σ H x y v u Q I rx ry h
 obtain⟨l,k,xs,rfl,rfl,hH,h1,h2,hz,q⟩:=h
 cases rx
 obtain⟨t,rfl⟩:=ry
 obtain⟨z,its,n,r,hl,e⟩:=I.sy hH
 have hlen:its.toArray.size * k.toNat<=sizeLine:=by rw [Î,← hl]; exact hz
 have hcap:¬ its.toArray.size * k.toNat > (2 ^ 63 - 1) / 8:=by
  have:(sizeLine:Nat)<=(2 ^ 63 - 1) / 8:=by decide
  omega
 have hfit:¬ (!Builtin.List.listFitsIndex k)=true:=by
  rw [fitsIndex_both h1 h2]
  exact Ô
 have hlong:¬ ź (its.toArray.size * k.toNat)=true:=by
  rw [uX hlen]
  exact Ô
 have hnew:List.foldl (fun x1 x2=>x1++x2) #[] (Ð (if its.toArray.isEmpty=true then 0 else k.toNat) its.toArray)=(Ð k.toNat its).flatten.toArray:=by
  have f0:∀ m:Nat,List.foldl (fun x1 x2=>x1++x2) #[] (Ð m its.toArray)=(Ð m its).flatten.toArray:=fun m=>by
   have:=foldl_rep its m []
   rw [List.nil_append] at this
   exact this
  rw [f0]
  cases its with
  | nil=>simp
  | cons a r'=>rw [if_neg (by simp)]
 refine wpAny_binaryOp_repeat_ref (T:="list") (U:="int") (by decide) ⟨_,e,rfl⟩ (fun s'=>typeIs_int s' k t) noFill_list_mul F.fills_int_mul F.slot_int_rmul repeat_list F.slot_int_index.lookup
  (call_meets F.slot_int_rmul (typeIs_int s k t) F.entry_int_rmul (F.args_int_rmul_2 _ _) (int___rmul___int_list k t l its.toArray n)
   ⟨e,rfl,⟨_,e,rfl⟩,call_meets F.slot_list_mul ⟨_,e,rfl⟩ F.entry_list_mul (F.args_list_mul_2 _ _) (AutoListH.list___mul___list_int_3 l its.toArray n k t hfit hcap hlong) ⟨e,?_⟩⟩)
 rw [hnew]
 exact⟨.ref _,_,I.Pj (t':=s.toks) (r.rep k.toNat) (by rw [len_rep,Nat.mul_comm]; exact hz),rfl,q _ I.fresh⟩
end
section
variable {prog:Program}{w:World}{A:Around}{E:Value->Shared->Prop}{s:Shared}
end
section
variable {X:Cx}
end
end L2
namespace Att
open PySem PySem.W PySem.Calls PyProof.Rows
theorem mq {P:Params}{h:Heap}:∀ (ns:List Int) (vs:List Value),WellAll P h vs (ns.map WData.int)->IntsAre vs ns:=by
 intro ns
 induction ns with
 | nil =>
  intro vs w
  rw [List.map_nil] at w
  cases w
  exact .nil
 | cons n ns ih =>
  intro vs w
  rw [Ą] at w
  cases w with
  | cons a b =>
   cases a
   exact .cons _ _ (ih _ b)
theorem Ar {l:OpenLaw}{n:Nat} (hn:l.most=some n) {P:Params}{h:Heap}{args:List WData}{vals:List Value}
  (hpre:l.row.toRowW.claim.pre args=true) (hwl:WellAll P h vals args) :
  ∃ a vs ns,vals=[ü a]/\args=[WData.list (ns.map WData.int)]/\h.get? a=some { cls:=.type "list",data:=.seq vs.toArray }/\IntsAre vs ns/\ns.length<=n:=by
 have hsh:WShape.hasAll [] args [.list .int]=true:=(pre_splitW hpre).1
 have hc:l.pre.holds [] { args:=args }=true:=(pre_splitW hpre).2
 obtain⟨d,r,rfl,h1,h2⟩:=hasAllW_cons hsh
 obtain rfl:=hasAllW_nil h2
 obtain⟨xs,rfl,h3⟩:=hasW_list h1
 obtain⟨ns,rfl⟩:=items_int h3
 have hlen:ns.length<=n:=by
  unfold OpenLaw.pre at hc
  have h4:(WTm.not (.lt (.lit (.int (n:Int))) (.len (.arg 0)))).holds [] { args:=[.list (ns.map .int)] }=true:=by
   have h4:=(holds_andW hc).1
   rw [hn] at h4
   exact h4
  have h5:=condW_of h4 (w_not (w_lt w_lit (w_len_list (w_arg rfl))))
  rw [Â] at h5
  refine Nat.le_of_not_lt fun q=>?_
  have q':(n:Int)<((ns.length:Nat):Int):=by omega
  first
   | (rw [decide_eq_true q'] at h5; exact absurd h5 (by decide))
   | (simp at h5; omega)
 cases hwl with
 | cons w1 w2 =>
  cases w2
  cases w1 with
  | list ho hall=>exact⟨_,_,ns,rfl,rfl,ho,mq ns _ hall,hlen⟩
theorem Ax (l:OpenLaw) (args:List WData):l.row.toRowW.claim.post args (.bool true) args=true :=
 postW_of (r:=l.row.toRowW) (X:=(true == true))
  (show WShape.has [] (.bool true) .bool=true by first | rfl | decide | simp [WShape.has,WShape.arms,WShape.armsAll])
  (show (WTm.eq .res (.lit (.bool true))).value [] { args:=args,res:=some (.bool true),after:=args }=some (.bool (true == true)) from w_eq_bool (w_res rfl) w_lit) rfl
theorem vM {l:OpenLaw}{n:Nat}{q:Program}{loose:List Str}{XP:(Str->Option Value)->Heap->Prop}{YP:World->Heap->Prop}{d:DefRec}
  (hn:l.most=some n) (hdf:d.params.defaults=[])
  (call:∀ (w:World) (s₀ s₁:Shared) (mg mb:Str->Option Value) (fa:Addr) (o:Obj) (pm cd doc:Value) (a:Addr) (vs:List Value) (ns:List Int),
   Ground q loose [] XP w s₀ mg mb s₁.heap->YP w s₁.heap ->
   s₁.heap.get? fa=some o->o.data=.func (docDef d.name d.params d.body d.scope pm cd doc)->s₁.heap.CodeRec cd d.name->mg d.name=some (.ref fa) ->
   s₁.heap.get? a=some { cls:=.type "list",data:=.seq vs.toArray }->IntsAre vs ns->ns.length<=n->s₁.gens=#[] ->
   codeAny (model l.prog w) callerA (.call (.ref fa) ⟨[.ref a],[]⟩) (fun r s'=>r=.ok (.ret (.bool true))/\OldK s₁.heap s'.heap/\s'.os=s₁.os/\AllBare s'.gens) s₁) :
  WalkO q loose XP YP l.row.toRowW d [] (fun f vs=>PySem.call f vs):=by
 intro w s₀ s₁ mg mb G Y fa o pm cd doc dV kV ho hd hcd hD hmg hg args vals as hpre hlay hrd hwl hlo
 obtain rfl:dV=.none:=Dflts.none hD hdf
 obtain rfl:kV=.none:=Dflts.noKw hD
 obtain⟨a,vs,ns,rfl,rfl,hobj,hints,hlen⟩:=Ar hn hpre hwl
 refine enter_call (codeAny_mono (call w s₀ s₁ mg mb fa o pm cd doc a vs ns G Y ho (fd_plain hd) hcd hmg hobj hints hlen hg) fun r s' hq=>?_)
 obtain⟨rfl,h2,h3,h4⟩:=hq
 exact⟨.inl ⟨.bool true,.bool true,[],rfl,fun _=>rfl,.bool true,Ax l _,fun _=>⟨List.Pairwise.nil,fun _ hm=>(nomatch hm)⟩⟩,h2,h3,h4⟩
section
variable {prog:Program}{w:World}{A:Around}{E:Value->Shared->Prop}{s:Shared}{K:Frag}
def ledger (h:Heap) (L d:Addr):List (Addr×Obj):=(ý h.objs.size).filterMap fun a=>if a=L\/a=d then none else (h.get? a).map fun o=>(a,o)
end
end Att
namespace L2
open PySem PySem.Spec PyProof.Rows
theorem kh:∀ {vs:List Value}{ns:List Int},IntsAre vs ns->Vals (ns.map V.int) vs
 | _,_,.nil=>.nil
 | _,_,.cons n t h=>.cons ⟨t,rfl⟩ (kh h)
def Only (H:Hp):Prop:=∀ b,H b=none\/∃ o xs,H b=some (.frz o (.lst xs))
def iw (s:Stmt):Arguments:=match s with
 | .FunctionDef _ a _ _ _ _ _ _ _ _=>a
 | _=>{ posonlyargs:=[],args:=[],vararg:=none,kwonlyargs:=[],kw_defaults:=[],kwarg:=none,defaults:=[] }
def fC (s:Stmt):List Stmt:=match s with
 | .FunctionDef _ _ b _ _ _ _ _ _ _=>b
 | _=>[]
def aA (s:Stmt):Scope:=match s with
 | .FunctionDef _ _ _ _ _ _ sc _ _ _=>sc
 | _=>{ kind:=.function,names:=[],isGenerator:=false,isCoroutine:=false }
abbrev CX0:CXT:=fun _ _ _ _ _ _=>False
abbrev E0:XK:=fun _ _ _=>False
theorem O4 {X:Cx}:Passes CX0 X E0:=fun _ _ _ _ _ _ _ h=>h.elim
structure Fun (K:Ý) (x qual:Str) (st:Stmt) (f:Addr) (fd:FuncData):Prop where
 ex:∃ (oc:Value) (od:Option Addr) (kV doc pm:Value) (an:Option Addr) (cdv ct:Value) (osl:Array (Option Value)),
  fd=W.fnOf x qual (iw st) (fC st) (aA st) .none kV doc pm an cdv ct/\K.lookup f=some ⟨oc,od,.func fd,osl⟩/\W.codeIn K cdv qual=true
 kp:W.keepIn K (.ref f)=true
section
variable {P:Program}{w:World}{K:Ý}{mg:Str->Option Value}{base:Heap}
theorem Fun.ok {x qual:Str}{st:Stmt}{f:Addr}{fd:FuncData}{N ps:List Str}{k:Nat}{sp:Sp} (F:Fun K x qual st f fd) (S:FnScope N ps (aA st)) (len:∀ vs H Q E,sp vs H Q E->vs.length=ps.length)
  (hbody:∀ (cdv:Value) (A:Around) (outer:List Env) (s:Shared) (H:Hp) (vs:List V) (Q:VK) (E:XK),Room k (A.deeper (envOfC qual (aA st) s.heap.objs.size f cdv))->sp vs H Q E ->
   ∃ t,PSs (BP CX0 P w K mg base N qual (aA st) f cdv A outer s H E).nox (fC st) t/\t { nx:=fun _ H'=>Q .non H',rt:=Q } (start N vs) H):FnOk P w K mg base CX0 (k+1) f fd ps sp:=by
 obtain⟨oc,od,kV,doc,pm,an,cdv,ct,osl,rfl,lk,hcd⟩:=F.ex
 refine PK lk hcd S len fun A outer s H vs Q E hr hsp=>?_
 obtain⟨t,h,q⟩:=hbody cdv A outer s H vs Q E hr hsp
 exact⟨t,h.nox,q⟩
theorem Fun.binds {x qual:Str}{st:Stmt}{f:Addr}{fd:FuncData}{ps:List Str} (F:Fun K x qual st f fd)
  (h:∀ (kV doc pm:Value) (an:Option Addr) (cdv ct:Value) (us:List Value),us.length=ps.length->bindArgs (W.fnOf x qual (iw st) (fC st) (aA st) .none kV doc pm an cdv ct) ⟨us,[]⟩=pure (ps.zip us):=by intro _ _ _ _ _ _ us hl; first | (obtain⟨_,rfl⟩:=Nf.len1 us hl; rfl) | (obtain⟨_,_,rfl⟩:=Nf.len2 us hl; rfl) | (obtain⟨_,_,_,rfl⟩:=Nf.QC us hl; rfl)):Binds K fd ps []:=by
 obtain⟨oc,od,kV,doc,pm,an,cdv,ct,osl,rfl,lk,hcd⟩:=F.ex
 exact .all (h kV doc pm an cdv ct)
theorem Nb {x qual:Str}{st:Stmt}{f:Addr}{oc:Value}{od an:Option Addr}{osl:Array (Option Value)}{kV doc pm cdv ct:Value} (l:K.lookup f=some ⟨oc,od,.func (W.fnOf x qual (iw st) (fC st) (aA st) .none kV doc pm an cdv ct),osl⟩)
  (c:W.codeIn K cdv qual=true) (k:W.keepIn K (.ref f)=true):Fun K x qual st f (W.fnOf x qual (iw st) (fC st) (aA st) .none kV doc pm an cdv ct):=⟨⟨oc,od,kV,doc,pm,an,cdv,ct,osl,rfl,l,c⟩,k⟩
end
section
variable {X:Cx}
theorem pv (i:Nat) {x:Str}{pos:Pos} (hN:X.N[i]?=some x:=by rfl) (hv:Vis X.env.scope x:=by first | exact Or.inl rfl | exact Or.inr (Or.inl rfl) | exact Or.inr (Or.inr rfl)) (hd:(x == ("__debug__":Str))=false:=by decide)
  (hcd:(x == ("__classdict__":Str))=false:=by decide):PE X (.Name x pos) (lW i):=Lr hN hv hd hcd
end
theorem aB {A B:Prop} (h:B):if false=true then A else B:=by
 rw [if_neg Ô]
 exact h
theorem aH {A B:Prop} (h:A):if true=true then A else B:=by
 rw [if_pos rfl]
 exact h
theorem gB {c A B:Prop} [Decidable c] (h1:c->A) (h2:¬ c->B):if c then A else B:=by
 by_cases h:c
 ·rw [if_pos h]
  exact h1 h
 ·rw [if_neg h]
  exact h2 h
def Same (H H':Hp):Prop:=∀ b o,H b=some o->H' b=some o
theorem Same.refl (H:Hp):Same H H:=fun _ _ h=>h
theorem Same.trans {H H1 H2:Hp} (a:Same H H1) (b:Same H1 H2):Same H H2:=fun c o h=>b c o (a c o h)
structure CB where
 cl:List (Str×Addr)
 C:Addr
 s:Shared
 H:Hp
 ex:List Addr
abbrev Cx.bC (X:Cx) (own M:List Str) (scope:Scope) (c:CB):Cx where
 prog:=X.prog
 w:=X.w
 K:=X.K
 mg:=X.mg
 base:=X.base
 A:=X.A
 N:=own++M
 s₀:=c.s
 H₀:=c.H
 env:=compEnvC scope c.cl c.C X.env
 outer:=X.stack
 stack:=X.stack
 ex:=c.ex
 fn:=fun x=>scope.names.lookup x == some .cell
 calm:=X.calm
 pn:=[]
 sf:=X.sf
 xe:=fun _ _=>False
abbrev Cx.comp (X:Cx) (own:List Str) (scope:Scope) (c:CB):Cx:=X.bC own X.N scope c
def cg (cells:List (Str×Addr)):List (Str×NameKind)->List (Str×Addr)->List (Str×Addr)
 | [],acc=>acc
 | (n,k)::r,acc=>if k == .free then cg cells r ((n,(cells.lookup n).getD 0)::acc) else cg cells r acc
theorem fD {env:Env}:∀ (names:List (Str×NameKind)) (acc:List (Str×Addr)),(∀ x∈names,x.2=.free->∃ c,env.cells.lookup x.1=some c) ->
  (forIn names acc fun (p:Str×NameKind) (r:List (Str×Addr))=>match p with
   | (name,kind)=>if (kind == ñ)=true then do let a ← cellOf env name; pure (ĥ ((name,a)::r)) else pure (ĥ r):Sem (List (Str×Addr)))=pure (cg env.cells names acc)
 | [],acc,_=>by simp [cg]
 | (n,k)::r,acc,h=>by
  rw [List.forIn_cons]
  by_cases hk:(k == ñ)=true
  ·obtain⟨c,hc⟩:=h (n,k) Ö (by simpa using hk)
   have e:cellOf env n=pure c:=by unfold cellOf; rw [hc]
   have ih:=fD (env:=env) r ((n,c)::acc) fun x hx=>h x (Ó _ hx)
   show ((if (k == ñ)=true then do let a ← cellOf env n; pure (ĥ ((n,a)::acc)) else pure (ĥ acc)) >>= _:Sem _)=_
   rw [if_pos hk,e]
   unfold cg
   rw [if_pos hk,hc]
   exact ih
  ·have ih:=fD (env:=env) r acc fun x hx=>h x (Ó _ hx)
   show ((if (k == ñ)=true then do let a ← cellOf env n; pure (ĥ ((n,a)::acc)) else pure (ĥ acc)) >>= _:Sem _)=_
   rw [if_neg hk]
   unfold cg
   rw [if_neg hk]
   exact ih
theorem xQ {scope:Scope}{env:Env} (h:∀ x∈scope.names,x.2=.free->∃ c,env.cells.lookup x.1=some c):closureFor scope env=pure (cg env.cells scope.names []):=by
 have e:=fD (env:=env) scope.names [] h
 unfold closureFor
 show (forIn scope.names [] _ >>= fun cs=>pure cs:Sem _)=_
 have e2:(forIn scope.names ([]:List (Str×Addr)) fun (p:Str×NameKind) (r:List (Str×Addr))=>match p with
   | (name,kind)=>if (kind == ñ)=true then do let a ← cellOf env name; pure (ĥ ((name,a)::r)) else pure (ĥ r):Sem (List (Str×Addr)))=pure (cg env.cells scope.names []):=e
 rw [e2]
 rfl
theorem j5 {cells:List (Str×Addr)}{x:Str}{c:Addr}:∀ {names:List (Str×NameKind)}{acc:List (Str×Addr)},(cg cells names acc).lookup x=some c->acc.lookup x=some c\/((x,ñ)∈names/\c=(cells.lookup x).getD 0)
 | [],acc,h=>.inl h
 | (n,k)::r,acc,h=>by
  unfold cg at h
  by_cases hk:(k == ñ)=true
  ·rw [if_pos hk] at h
   have hk':k=.free:=by simpa using hk
   rcases j5 h with q | ⟨q1,q2⟩
   ·rw [ļ] at q
    cases hx:x == n with
    | true =>
     rw [hx] at q
     have e:x=n:=by simpa using hx
     subst e hk'
     exact .inr ⟨Ö,(Û q).symm⟩
    | false=>rw [hx] at q; exact .inl q
   ·exact .inr ⟨Ó _ q1,q2⟩
  ·rw [if_neg hk] at h
   rcases j5 h with q | ⟨q1,q2⟩
   ·exact .inl q
   ·exact .inr ⟨Ó _ q1,q2⟩
theorem pF {cells:List (Str×Addr)}{x:Str}:∀ {names:List (Str×NameKind)}{acc:List (Str×Addr)},(acc.lookup x).isSome=true->((cg cells names acc).lookup x).isSome=true
 | [],_,h=>h
 | (n,k)::r,acc,h=>by
  unfold cg
  split
  ·refine pF ?_
   rw [ļ]
   cases hx:x == n <;> simp [h]
  ·exact pF h
theorem gJ {cells:List (Str×Addr)}{x:Str}:∀ {names:List (Str×NameKind)}{acc:List (Str×Addr)},(x,ñ)∈names->((cg cells names acc).lookup x).isSome=true
 | (n,k)::r,acc,h=>by
  unfold cg
  rcases Ù.mp h with e | h
  ·cases e
   rw [if_pos (by rfl)]
   exact pF (by simp [ļ])
  ·split
   ·exact gJ h
   ·exact gJ h
def dD (env:Env) (scope:Scope) (N:List Str):Bool :=
 (scope.kind == .function)&&scope.names.all fun y=>match y.2 with
  | .local=>!(N.contains y.1)&&(scope.names.lookup y.1 == some .local)
  | .cell=>!(N.contains y.1)&&(scope.names.lookup y.1 == some .cell)
  | .free=>(scope.names.lookup y.1 == some .free)&&(env.kindOf y.1 == some .cell || env.kindOf y.1 == some .free)
  | _=>true
theorem bZ {env:Env}:∀ {names:List (Str×NameKind)}{x:Str}{q:NameKind},(names.map fun (n,k)=>if (k == ñ&&env.scope.kind == .function&&env.kindOf n == some .cell) then (n,ĉ) else (n,k)).lookup x=some q ->
  ∃ k,(x,k)∈names/\names.lookup x=some k/\(q=k\/(q=.cell/\k=.free))
 | [],_,_,h=>by simp at h
 | (n,k)::r,x,q,h=>by
  have ih:=@bZ env r x q
  have h':List.lookup x ((if (k == ñ&&env.scope.kind == .function&&env.kindOf n == some .cell)=true then (n,ĉ) else (n,k))::(r.map fun (n,k)=>if (k == ñ&&env.scope.kind == .function&&env.kindOf n == some .cell) then (n,ĉ) else (n,k)))=some q:=h
  by_cases hc:(k == ñ&&env.scope.kind == .function&&env.kindOf n == some .cell)=true
  ·rw [if_pos hc,ļ] at h'
   cases hx:x == n with
   | true =>
    rw [hx] at h'
    have e:x=n:=by simpa using hx
    subst e
    have hk:k=.free:=by simp at hc; exact hc.1.1
    exact⟨k,Ö,by simp [ļ],.inr ⟨(Û h').symm,hk⟩⟩
   | false =>
    rw [hx] at h'
    obtain⟨k',h1,h2,h3⟩:=ih h'
    exact⟨k',Ó _ h1,by rw [ļ,hx]; exact h2,h3⟩
  ·rw [if_neg hc,ļ] at h'
   cases hx:x == n with
   | true =>
    rw [hx] at h'
    have e:x=n:=by simpa using hx
    subst e
    exact⟨k,Ö,by simp [ļ],.inl (Û h').symm⟩
   | false =>
    rw [hx] at h'
    obtain⟨k',h1,h2,h3⟩:=ih h'
    exact⟨k',Ó _ h1,by rw [ļ,hx]; exact h2,h3⟩
theorem HOk.track {P:Program}{w:World}{H:Hp}{h:Heap}{a:Addr}{o:HO} (x:HOk P w H h) (hn:H a=none) (new:aM P w (upd H a o) h a o):HOk P w (upd H a o) h:=fun b u e=>by
 by_cases hb:b=a
 ·subst hb; rw [ao] at e; cases e; exact new
 ·rw [aj hb] at e
  exact (x b u e).stay (fun c v _ q=>q) (fun c q=>by rw [aj (aq q hn)]; exact q) fun c xs q=>by rw [aj (aq q hn)]; exact q
theorem BR {prog:Program}{w:World}{A:Around}{s:Shared}{elt target iter:Expr}{ifs:List Expr}{scope:Scope}{pos:Pos}{it acc:Value}{env:Env}{R:Result->Shared->Prop} (I:Nat->Shared->Prop)
  (turn:∀ n s,I n s->wpAny (model prog w) A (pyNext it) (fun r s₁=>match r with
   | none=>R (.ok .next) s₁
   | some v=>wpAny (model prog w) A (letOwnedTupleGo target it v) (fun _ s₀=>wpAny (model prog w) A (assign target env v) (fun _ s₂ =>
     wpAny (model prog w) A (forIn ifs true fun c r=>if r=true then do let ok ← isTrue c env (eval c env); pure (ĥ ok) else pure (ĥ r)) (fun ok s₃ =>
      if ok=true then wpAny (model prog w) A (eval elt env) (fun x s₄ =>
       wpAny (model prog w) A (call (.builtin "list.append") [acc,x]) (fun _ s₅=>∃ m,m<n/\I m s₅) (fun _ _=>False) s₄) (fun _ _=>False) s₃
      else ∃ m,m<n/\I m s₃) (fun _ _=>False) s₂) (fun _ _=>False) s₀) (fun _ _=>False) s₁) (fun _ _=>False) s)
  (n:Nat) (h:I n s):codeAny (model prog w) A (.compLoop (.ListComp elt [⟨target,iter,ifs,0⟩] scope pos) 0 it acc env) R s:=by
 refine codeAny_loop rfl I (fun n s hI=>?_) n h
 show wpAny _ A ((compTurn (.ListComp elt [⟨target,iter,ifs,0⟩] scope pos) 0 it acc env).onRaise (fun x=>do noteFrame x env; theTreesLotGoes x)) _ _ s
 refine wpAny_noted ?_
 rw [compTurn_list]
 refine Á (wpAny_standAt (Á (ĭ (turn n s hI) (fun r s₁ h₁=>?_) fun _ _ h'=>h'.elim)))
 cases r with
 | none=>exact Ä h₁
 | some v =>
  refine Á (ĭ h₁ (fun _ s₀ h₀'=>?_) fun _ _ h'=>h'.elim)
  refine Á (ĭ h₀' (fun _ s₂ h₂=>Á (ĭ h₂ (fun ok s₃ h₃=>?_) fun _ _ h'=>h'.elim)) fun _ _ h'=>h'.elim)
  cases ok with
  | false=>exact Ä ⟨rfl,h₃⟩
  | true =>
   exact Á (Á (ĭ h₃ (fun x s₄ h₄=>Á (ĭ h₄ (fun _ s₅ h₅=>Ä (Ä ⟨rfl,h₅⟩)) fun _ _ h'=>h'.elim)) fun _ _ h'=>h'.elim))
def PTs (X:Cx) (ifs:List Expr) (t:TT):Prop :=
 ∀ (pins:List (Addr×Obj)) (s:Shared) (σ:St) (H:Hp) (Q:Bool->Hp->Prop),Inv X pins σ H s->t σ H Q ->
  wpAny (model X.prog X.w) X.A (forIn ifs true fun c r=>if r=true then do let ok ← isTrue c X.env (eval c X.env); pure (ĥ ok) else pure (ĥ r)) (TP X pins σ Q) X.xe s
theorem yO {X:Cx}:PTs X [] (fun _ H Q=>Q true H):=fun _ _ _ H _ I h=>wpAny_tests_nil ⟨H,I,h⟩
theorem Ij {X:Cx}{c:Expr}{t:TT} (hc:PT X c t):PTs X [c] t:=fun pins s σ H Q I h=>wpAny_tests_one (hc pins s σ H Q I h)
def Hz (J:It) (n:Nat) (g:CB->TG) (tt:CB->TT) (te:CB->TE) (σ:St) (Q:VK) (H:Hp):Prop:=∃ W:Nat->Nat->List V->Hp->Prop,(∃ m,W 0 m [] H)/\∀ (c:CB) i m ys H,W i m ys H ->
 (J.stop i H/\∀ p,H p=none->Q (.ref p) (upd H p (.lst ys))) ∨
 (J.go i H/\ys.length<sizeLine/\∃ N:List V->Hp->Prop,(∀ ys' H',N ys' H'->∃ m',m'<m/\W (i+1) m' ys' H')/\∀ x H',J.yld i H x H'->g c x (Ð n none++σ) H' fun σ2 H2=>tt c σ2 H2 fun b H3 =>
  if b=true then te c σ2 H3 fun v H4=>N (ys++[v]) H4 else N ys H3)
def tLC (n:Nat) (wi:TI) (g:CB->TG) (tt:CB->TT) (te:CB->TE):TE:=fun σ H Q=>wi σ H fun J H1=>Hz J n g tt te σ Q H1
section
variable {X:Cx}{own:List Str}{scope:Scope}{tg iter elt:Expr}{ifs:List Expr}{pos:Pos}{wi:TI}{g:CB->TG}{tt:CB->TT}{te:CB->TE}
def aV (env:Env) (scope:Scope) (N M:List Str):Bool :=
 dD env scope M&&((N.length == M.length)&&(N.zip M).all fun y=>y.1 == y.2 || ((y.2 == ("":Str))&&scope.names.all fun z=>!(z.1 == ("":Str))))
theorem vD {env:Env}{N:List Str} (h:dD env scope N=true):aV env scope N N=true:=by
 unfold aV
 rw [h,Bool.true_and,beq_self_eq_true,Bool.true_and,Ĭ]
 rintro ⟨a,b⟩ hy
 obtain⟨i,hi,e⟩:=List.mem_iff_getElem.mp hy
 rw [List.getElem_zip] at e
 cases e
 simp
variable {M:List Str}
theorem cR (h:aV X.env scope X.N M=true):scope.kind=.function:=by
 unfold aV dD at h
 simp only [à,beq_iff_eq] at h
 exact h.1.1
theorem bF (h:aV X.env scope X.N M=true):∀ y∈scope.names,(y.2=.local->y.1∉M/\scope.names.lookup y.1=some .local)/\(y.2=.cell->y.1∉M/\scope.names.lookup y.1=some .cell)/\(y.2=.free->scope.names.lookup y.1=some .free/\(X.env.kindOf y.1=some .cell\/X.env.kindOf y.1=some .free)):=by
 unfold aV at h
 rw [à] at h
 have h:=h.1
 unfold dD at h
 rw [à,Ĭ] at h
 intro y hy
 have q:=h.2 y hy
 obtain⟨n,k⟩:=y
 cases k with
 | «local»=>simp at q ⊢; exact q
 | cell=>simp at q ⊢; exact q
 | free=>simp at q ⊢; exact q
 | globalExplicit=>simp
 | globalImplicit=>simp
theorem aR:∀ (names:List (Str×NameKind)) (n:Nat) (acc:List (Str×Addr)),cellsFrom n names acc=cellsFrom n names []++acc
 | [],_,_=>rfl
 | (nm,k)::r,n,acc=>by
  show (if (k == ĉ)=true then cellsFrom (n+1) r ((nm,n)::acc) else cellsFrom n r acc)=(if (k == ĉ)=true then cellsFrom (n+1) r [(nm,n)] else cellsFrom n r [])++acc
  split
  ·rw [aR r (n+1) ((nm,n)::acc),aR r (n+1) [(nm,n)],ŝ]
   rfl
  ·exact aR r n acc
theorem cV:∀ (names:List (Str×NameKind)) (n:Nat) (x:Str) (c:Addr),(x,c)∈cellsFrom n names []->(x,ĉ)∈names/\n<=c
 | [],_,_,_,h=>nomatch h
 | (nm,k)::r,n,x,c,h=>by
  have h:(x,c)∈(if (k == ĉ)=true then cellsFrom (n+1) r [(nm,n)] else cellsFrom n r []):=h
  split at h
  ·rename_i hk
   rw [aR] at h
   rcases ä.mp h with z | z
   ·obtain⟨h1,h2⟩:=cV r (n+1) x c z
    exact⟨Ó _ h1,by omega⟩
   ·have z:(x,c)=(nm,n):=by simpa using z
    cases z
    have hk:k=.cell:=by simpa using hk
    subst hk
    exact⟨Ö,Ï _⟩
  ·obtain⟨h1,h2⟩:=cV r n x c h
   exact⟨Ó _ h1,h2⟩
theorem lJ:∀ (names:List (Str×NameKind)) (n:Nat) (x y:Str) (c:Addr),(x,c)∈cellsFrom n names []->(y,c)∈cellsFrom n names []->x=y
 | [],_,_,_,_,h,_=>nomatch h
 | (nm,k)::r,n,x,y,c,h,h'=>by
  have h:(x,c)∈(if (k == ĉ)=true then cellsFrom (n+1) r [(nm,n)] else cellsFrom n r []):=h
  have h':(y,c)∈(if (k == ĉ)=true then cellsFrom (n+1) r [(nm,n)] else cellsFrom n r []):=h'
  by_cases hk:(k == ĉ)=true
  ·rw [if_pos hk,aR] at h h'
   rcases ä.mp h with z | z <;> rcases ä.mp h' with z' | z'
   ·exact lJ r (n+1) x y c z z'
   ·have:=(cV r (n+1) x c z).2
    have z':(y,c)=(nm,n):=by simpa using z'
    cases z'
    exact absurd this (Nat.not_succ_le_self _)
   ·have:=(cV r (n+1) y c z').2
    have z:(x,c)=(nm,n):=by simpa using z
    cases z
    exact absurd this (Nat.not_succ_le_self _)
   ·have z:(x,c)=(nm,n):=by simpa using z
    have z':(y,c)=(nm,n):=by simpa using z'
    cases z
    cases z'
    rfl
  ·rw [if_neg hk] at h h'
   exact lJ r n x y c h h'
theorem gP:∀ (names:List (Str×NameKind)) (h:Heap) (b:Addr) (o:Obj),h.get? b=some o->(pushCells h names).get? b=some o
 | [],_,_,_,e=>e
 | (nm,k)::r,h,b,o,e=>by
  show (if (k == ĉ)=true then pushCells (h.push { cls:=ï "cell",data:=Data.cell none }) r else pushCells h r).get? b=some o
  split
  ·exact gP r _ b o (Å _ e)
  ·exact gP r h b o e
theorem kO:∀ (names:List (Str×NameKind)) (h:Heap) (x:Str) (c:Addr),(x,c)∈cellsFrom h.objs.size names []->(pushCells h names).IsCell c none
 | [],_,_,_,e=>nomatch e
 | (nm,k)::r,h,x,c,e=>by
  have e:(x,c)∈(if (k == ĉ)=true then cellsFrom (h.objs.size+1) r [(nm,h.objs.size)] else cellsFrom h.objs.size r []):=e
  show (if (k == ĉ)=true then pushCells (h.push { cls:=ï "cell",data:=Data.cell none }) r else pushCells h r).IsCell c none
  by_cases hk:(k == ĉ)=true
  ·rw [if_pos hk,aR] at e
   rw [if_pos hk]
   rcases ä.mp e with z | z
   ·exact kO r _ x c (by rw [ħ]; exact z)
   ·have z:(x,c)=(nm,h.objs.size):=by simpa using z
    cases z
    exact⟨_,gP r _ _ _ (Ò _ rfl),rfl⟩
  ·rw [if_neg hk] at e ⊢
   exact kO r h x c e
theorem wR {M:Model}{A:Around}{E:Value->Shared->Prop}{s:Shared}{scope:Scope}{globals:Addr}{closure:List (Str×Addr)}{qual:Str}{func:Option Addr}{code:Value}{around:Option Env}{builtins:Addr}{Q:Env->Shared->Prop}
  (h:Q (newEnv scope s.heap.objs.size globals (cellsFrom (s.heap.objs.size+1) scope.names closure) qual func code around builtins) { s with heap:=pushCells (s.heap.push { cls:=ï (if around.isSome=true then "dict" else "frame"),data:=Data.dict #[] }) scope.names }) :
  wpAny M A (newFunctionEnv scope globals closure [] qual func code around builtins) Q E s:=by
 unfold newFunctionEnv
 refine Á (wpAny_alloc ?_)
 refine Á (wpAny_layCells _ (fun _ _ _=>rfl) _ _ _ _ ?_)
 rw [ħ]
 exact Á (Ä (Ä h))
theorem Nt {n:Nat}{names:List (Str×NameKind)}{cl:List (Str×Addr)}{x:Str}{c:Addr} (h:(cellsFrom n names cl).lookup x=some c):(x,c)∈cellsFrom n names []\/cl.lookup x=some c:=by
 rw [aR,List.lookup_append] at h
 cases e:(cellsFrom n names []).lookup x with
 | none=>rw [e] at h; exact .inr h
 | some d =>
  rw [e] at h
  cases h
  exact .inl (ŋ e)
theorem Hs {n:Nat}{names:List (Str×NameKind)}{cl:List (Str×Addr)}{x:Str} (h:∀ c,(x,c)∈cellsFrom n names []->False):(cellsFrom n names cl).lookup x=cl.lookup x:=by
 rw [aR,List.lookup_append]
 cases e:(cellsFrom n names []).lookup x with
 | none=>rfl
 | some d=>exact (h d (ŋ e)).elim
theorem vA (h:aV X.env scope X.N M=true) {n:Nat}{x:Str} (hx:(x,ñ)∈scope.names):∀ c,(x,c)∈cellsFrom n scope.names []->False:=fun c z=>by
 have h1:=((bF h _ hx).2.2 rfl).1
 have h2:=((bF h _ (cV _ _ _ _ z).1).2.1 rfl).2
 rw [h1] at h2
 cases h2
theorem gH (h:aV X.env scope X.N M=true):X.N.length=M.length:=by
 unfold aV at h
 rw [à,à] at h
 exact eq_of_beq h.2.1
theorem qJ {i:Nat}{x:Str}{k:NameKind} (h:aV X.env scope X.N M=true) (hx:M[i]?=some x) (_:x∈M) (hn:(x,k)∈scope.names):X.N[i]?=some x:=by
 have hl:=gH h
 unfold aV at h
 rw [à,à,Ĭ] at h
 have hi:i<M.length:=(É.mp hx).1
 have hx':M[i]=x:=(É.mp hx).2
 have hi':i<X.N.length:=by omega
 have q:=h.2.2 (X.N[i],M[i]) (by
  refine List.mem_iff_getElem.mpr ⟨i,by rw [ů]; omega,?_⟩
  rw [List.getElem_zip])
 rw [Bool.or_eq_true] at q
 rcases q with q | q
 ·have q:X.N[i]=M[i]:=eq_of_beq q
  rw [Í hi',q,hx']
 ·rw [à,Ĭ] at q
  have e:M[i]=("":Str):=eq_of_beq q.1
  have z:=q.2 (x,k) hn
  rw [← hx',e] at z
  simp at z
theorem xP {pins:List (Addr×Obj)}{σ:St}{H:Hp}{s:Shared}{fp:List Addr}{h₁:Heap}{tk:Nat} (hk:aV X.env scope X.N M=true) (I:Inv X pins σ H s) (hf:∀ b∈fp,j8 X pins H b) (hfo:∀ b∈fp,∃ o,s.heap.get? b=some o)
  (hns:h₁.Ns (s.heap.objs.size+1) fun _=>none) (old:∀ b o,s.heap.get? b=some o->h₁.get? b=some o) (hD:h₁.get? s.heap.objs.size=some { cls:=.type "list",data:=.seq #[] 0 }) (hnc:∀ x c,(x,c)∈cellsFrom (s.heap.objs.size+2) scope.names []->h₁.IsCell c none) :
  Inv (X.bC own M scope ⟨cellsFrom (s.heap.objs.size+2) scope.names (cg X.env.cells scope.names []),s.heap.objs.size+1,s,H,fp⟩) [(s.heap.objs.size,{ cls:=.type "list",data:=.seq #[] 0 })] (Ð own.length none++σ) H { s with heap:=h₁,toks:=tk }:=by
 have hkk:=cR hk
 have hka:=bF hk
 have hhas:∀ x,(x,ñ)∈scope.names->∃ c,X.env.cells.lookup x=some c:=fun x hx=>I.ok.has x ((hka _ hx).2.2 rfl).2
 have hcl:∀ x c,(cg X.env.cells scope.names []).lookup x=some c->X.env.cells.lookup x=some c/\(x,ñ)∈scope.names:=fun x c e=>by
  rcases j5 e with q | ⟨q1,q2⟩
  ·simp at q
  ·obtain⟨c',e'⟩:=hhas x q1
   rw [e'] at q2
   exact⟨by rw [e',q2]; rfl,q1⟩
 have hcc:∀ x c,(cellsFrom (s.heap.objs.size+2) scope.names (cg X.env.cells scope.names [])).lookup x=some c->(X.env.cells.lookup x=some c/\(x,ñ)∈scope.names/\c<s.heap.objs.size)\/((x,c)∈cellsFrom (s.heap.objs.size+2) scope.names []/\(x,ĉ)∈scope.names/\s.heap.objs.size+2<=c):=fun x c e=>by
  rcases Nt e with z | z
  ·exact .inr ⟨z,cV _ _ _ _ z⟩
  ·obtain⟨h1,h2⟩:=hcl x c z
   obtain⟨v,o,ho,_⟩:=I.cell x c h1
   exact .inl ⟨h1,h2,Ë ho⟩
 have hvis:∀ x,(relabel scope X.env).names.lookup x=some .cell\/(relabel scope X.env).names.lookup x=some .free->(x,ñ)∈scope.names\/(x,ĉ)∈scope.names:=fun x hx=>by
  have key:∀ q,(relabel scope X.env).names.lookup x=some q->q=.cell\/q=.free->(x,ñ)∈scope.names\/(x,ĉ)∈scope.names:=fun q hq hq'=>by
   obtain⟨k,h1,h2,h3⟩:=bZ (env:=X.env) (names:=scope.names) hq
   rcases h3 with h3 | ⟨_,h3⟩
   ·subst h3
    rcases hq' with z | z
    ·rw [z] at h1; exact .inr h1
    ·rw [z] at h1; exact .inl h1
   ·rw [h3] at h1; exact .inl h1
  rcases hx with hx | hx
  ·exact key _ hx (.inl rfl)
  ·exact key _ hx (.inr rfl)
 have hlt:∀ b o,s.heap.get? b=some o->b<s.heap.objs.size:=fun b o e=>Ë e
 refine⟨⟨I.ok.mod,hkk,I.ok.glob,I.ok.blt,Ķ _,fun x y c h1 h2=>?inj,fun x hx=>?_,fun x c z e=>?cab,I.ok.hd,I.ok.frames,.inl rfl,fun b hb=>⟨?_,fun x c e=>?exf⟩,I.bs,
   Ĕ I.ok.bsz I.sz,fun b o e hb=>?_,fun b hb hs=>?_,I.stack,I.yt,fun q hq=>⟨(I.ok.sof q hq).1,I.base.frzs _ _ _ (I.ok.sof q hq).2.1,(I.ok.sof q hq).2.2⟩⟩,rfl,I.bare,Un.kept old,⟨_,hns,fun i x v h1 h2 h3=>?_⟩,fun x c e=>?_,?_,fun x c e=>?frc,fun p hp=>?_,I.hok.kept old,?_⟩
 case inj =>
  rcases hcc x c h1 with ⟨a1,_,a3⟩ | ⟨a1,_,a3⟩ <;> rcases hcc y c h2 with ⟨b1,_,b3⟩ | ⟨b1,_,b3⟩
  ·exact I.ok.inj x y c a1 b1
  ·exact absurd (â a3 (Ĕ (Nat.le_add_right _ 2) b3)) (ą _)
  ·exact absurd (â b3 (Ĕ (Nat.le_add_right _ 2) a3)) (ą _)
  ·exact lJ _ _ _ _ _ a1 b1
 case cab =>
  show s.heap.objs.size<=c
  rcases hcc x c e with ⟨_,a2,_⟩ | ⟨_,_,a3⟩
  ·have h1:=((hka _ a2).2.2 rfl).1
   have z:(scope.names.lookup x == some ĉ)=true:=z
   rw [h1] at z
   exact absurd z (by decide)
  ·omega
 case exf =>
  rcases hcc x c e with ⟨a1,_,_⟩ | ⟨_,_,a3⟩
  ·exact (hf b hb).2.2.2.2.1 x c a1
  ·obtain⟨o,e⟩:=hfo b hb
   have:=hlt b o e
   intro z
   subst z
   exact absurd (â this (Ĕ (Nat.le_add_right _ 2) a3)) (ą _)
 case frc =>
  rcases hcc x c e with ⟨a1,_,_⟩ | ⟨_,_,a3⟩
  ·exact I.freeC x c a1
  ·exact I.hok.fresh (by omega)
 ·have hx':(relabel scope X.env).names.lookup x=some .cell\/(relabel scope X.env).names.lookup x=some .free:=hx
  refine Option.isSome_iff_exists.mp (W.cellsFrom_some _ _ _ ?_)
  rcases hvis x hx' with z | z
  ·exact .inr (gJ z)
  ·exact .inl ((hka _ z).2.1 rfl).2
 ·obtain⟨o,e⟩:=hfo b hb
  exact Ü (Ć (hlt b o e))
 ·have hb':b∈fp:=hb
  rcases (hf b hb').2.2.2.1 with z | z
  ·exact I.ok.noex b o e z
  ·exact absurd (â (Ë (I.ok.bs b o e).1) z) (ą _)
 ·have hb':b∈fp:=hb
  rcases Ù.mp (I.vX b hs) with z | z
  ·exact (hf b hb').2.1 z
  ·exact (hf b hb').2.2.1 z
 ·have hi:own.length<=i:=by
   by_cases hi:i<own.length
   ·rw [ë (by simpa using hi),Ŧ] at h2
    split at h2 <;> cases h2
   ·omega
  have h1':M[i - own.length]?=some x:=by
   have q:(own++M)[i]?=some x:=h1
   rwa [î hi] at q
  have h2':σ[i - own.length]?=some (some v):=by
   rw [î (by simpa using hi)] at h2
   simpa using h2
  have h3':Vis (relabel scope X.env) x:=h3
  have hfr:(x,ñ)∈scope.names:=by
   rcases h3' with z | z
   ·obtain⟨k,q1,q2,q3⟩:=bZ (env:=X.env) (names:=scope.names) z
    rcases q3 with q3 | ⟨q3,_⟩
    ·subst q3
     exact absurd (Ñ h1') ((hka _ q1).1 rfl).1
    ·cases q3
   ·rcases hvis x z with y | y
    ·exact y
    ·exact absurd (Ñ h1') ((hka _ y).2.1 rfl).1
  have hkx:=((hka _ hfr).2.2 rfl).2
  obtain⟨m,hm,hl⟩:=I.loc
  obtain⟨u,ru,lu⟩:=hl _ x v (qJ hk h1' (Ñ h1') hfr) h2' (by rcases hkx with z | z; exact .inr (.inl z); exact .inr (.inr z))
  refine⟨u,ru,.inr ⟨?_,?_⟩⟩
  ·rcases h3' with z | z | z
   ·obtain⟨k,q1,q2,q3⟩:=bZ (env:=X.env) (names:=scope.names) z
    rcases q3 with q3 | ⟨q3,_⟩
    ·subst q3
     exact absurd (Ñ h1') ((hka _ q1).1 rfl).1
    ·cases q3
   ·exact .inl z
   ·exact .inr z
  ·rcases lu with ⟨z,_⟩ | ⟨_,c,e,ic⟩
   ·rcases hkx with q | q
    ·rw [q] at z; cases z
    ·rw [q] at z; cases z
   ·obtain⟨c',e'⟩:=Option.isSome_iff_exists.mp (gJ (cells:=X.env.cells) (acc:=[]) hfr)
    have e2:=(hcl x c' e').1
    rw [e] at e2
    cases e2
    obtain⟨o,ho,hd⟩:=ic
    exact⟨c,(Hs (vA hk hfr)).trans e',o,old _ _ ho,hd⟩
 ·rcases hcc x c e with ⟨z,_,_⟩ | ⟨z,_,_⟩
  ·obtain⟨v,o,ho,hd⟩:=I.cell x c z
   exact⟨v,o,old _ _ ho,hd⟩
  ·exact⟨none,hnc x c z⟩
 ·exact I.hok.fresh (Ķ _)
 ·have hp':p=(s.heap.objs.size,{ cls:=.type "list",data:=.seq #[] 0 }):=by simpa using hp
  subst hp'
  refine⟨hD,I.hok.fresh (Ï _),Ü (Œ _),fun z=>?_,fun v z=>nomatch z⟩
  obtain⟨_,o,ho,_⟩:=I.stack.mem z
  exact absurd (Ë ho) (ą _)
 ·show (Ð own.length none++σ).length=(own++M).length
  rw [È,È,Ų,I.len,gH hk]
theorem xO {pins pn:List (Addr×Obj)}{σ σ':St}{H H':Hp}{s s':Shared}{fp:List Addr}{cl:List (Str×Addr)}{ys:List V}{us:List Value}{n:Nat} (I:Inv X pins σ H s) (hf:∀ b∈fp,j8 X pins H b)
  (J:Inv (X.bC own M scope ⟨cl,s.heap.objs.size+1,s,H,fp⟩) pn σ' H' s') (hp:(s.heap.objs.size,({ cls:=.type "list",data:=.seq us.toArray n }:Obj))∈pn) (hv:Vals ys us) (hz:ys.length<=sizeLine) :
  Inv X pins σ (upd H' s.heap.objs.size (.lst ys)) s'/\H' s.heap.objs.size=none:=by
 obtain⟨hD,hDn,_⟩:=J.pin _ (ã _ hp)
 refine⟨I.call' J.os ⟨fun b o e n hb hx=>J.base.keep b o e n hb hx,fun b o e n hb hx=>J.base.slot b o e n hb hx,fun b o e n hx=>?_,fun b o e hx=>J.base.there b o e hx,fun b xs e=>?_,fun b o u e=>?_,fun b ps e=>?_⟩ ?_ J.bare ?_,hDn⟩
 ·rw [aj (Ü (Ë e))]
  exact J.base.free b o e n hx
 ·have q:=J.base.tups b xs e
  rw [aj (aq q hDn)]
  exact q
 ·have q:=J.base.frzs b o u e
  rw [aj (aq q hDn)]
  exact q
 ·obtain⟨more,q⟩:=J.base.tbls b ps e
  exact⟨more,by rw [aj (aq q hDn)]; exact q⟩
 ·exact J.hok.track hDn ⟨hz,us,n,hv,hD⟩
 ·intro b hb
  exact⟨(hf b hb).2.2.2.1,(hf b hb).2.1,(hf b hb).2.2.2.2.1,(hf b hb).2.2.2.2.2⟩
theorem pB {pins pn:List (Addr×Obj)}{σ σ':St}{H H':Hp}{s s':Shared}{fp:List Addr}{cl:List (Str×Addr)} (hk:aV X.env scope X.N M=true) (I:Inv X pins σ H s) (hf:∀ b∈fp,j8 X pins H b)
  (hcl:∀ x,(x,ñ)∈scope.names->∃ c,cl.lookup x=some c/\X.env.cells.lookup x=some c)
  (J:Inv (X.bC own M scope ⟨cl,s.heap.objs.size+1,s,H,fp⟩) pn σ' H' s'):Inv (X.bC own M scope ⟨cl,s.heap.objs.size+1,s,H,fp⟩) pn (Ð own.length none++σ) H' s':=by
 have hka:=bF hk
 refine⟨J.ok,J.os,J.bare,J.base,?_,J.cell,J.free,J.freeC,J.pin,J.hok,?_⟩
 ·obtain⟨mC,hmC,_⟩:=J.loc
  refine⟨mC,hmC,fun i x v h1 h2 h3=>?_⟩
  have hi:own.length<=i:=by
   by_cases hi:i<own.length
   ·rw [ë (by simpa using hi),Ŧ] at h2
    split at h2 <;> cases h2
   ·omega
  have h1':M[i - own.length]?=some x:=by
   have q:(own++M)[i]?=some x:=h1
   rwa [î hi] at q
  have h2':σ[i - own.length]?=some (some v):=by
   rw [î (by simpa using hi)] at h2
   simpa using h2
  have h3':Vis (relabel scope X.env) x:=h3
  have nloc:¬ (relabel scope X.env).names.lookup x=some .local:=fun z=>by
   obtain⟨k,q1,q2,q3⟩:=bZ (env:=X.env) (names:=scope.names) z
   rcases q3 with q3 | ⟨q3,_⟩
   ·subst q3
    exact absurd (Ñ h1') ((hka _ q1).1 rfl).1
   ·cases q3
  have hkk:(relabel scope X.env).names.lookup x=some .cell\/(relabel scope X.env).names.lookup x=some .free:=by
   rcases h3' with z | z
   ·exact absurd z nloc
   ·exact z
  have hfr:(x,ñ)∈scope.names:=by
   have key:∀ q,(relabel scope X.env).names.lookup x=some q->q=.cell\/q=.free->(x,ñ)∈scope.names:=fun q hq hq'=>by
    obtain⟨k,h1,h2,h3⟩:=bZ (env:=X.env) (names:=scope.names) hq
    rcases h3 with h3 | ⟨_,h3⟩
    ·subst h3
     rcases hq' with z | z
     ·rw [z] at h1; exact absurd (Ñ h1') ((hka _ h1).2.1 rfl).1
     ·rw [z] at h1; exact h1
    ·rw [h3] at h1; exact h1
   rcases hkk with hx | hx
   ·exact key _ hx (.inl rfl)
   ·exact key _ hx (.inr rfl)
  have hkx:=((hka _ hfr).2.2 rfl).2
  obtain⟨m,hm,hl⟩:=I.loc
  obtain⟨u,ru,lu⟩:=hl _ x v (qJ hk h1' (Ñ h1') hfr) h2' (by rcases hkx with z | z; exact .inr (.inl z); exact .inr (.inr z))
  refine⟨u,ru,.inr ⟨hkk,?_⟩⟩
  rcases lu with ⟨z,_⟩ | ⟨_,c,e,ic⟩
  ·rcases hkx with q | q
   ·rw [q] at z; cases z
   ·rw [q] at z; cases z
  ·obtain⟨c',e',e2⟩:=hcl x hfr
   rw [e] at e2
   cases e2
   obtain⟨o,ho,hd⟩:=ic
   obtain⟨sl,q⟩:=J.base.any ho (I.freeC x c e) fun z=>(hf c z).2.2.2.2.1 x c e rfl
   exact⟨c,e',_,q,hd⟩
 ·show (Ð own.length none++σ).length=(own++M).length
  rw [È,È,Ų,I.len,gH hk]
theorem qG {pins:List (Addr×Obj)}{σ:St}{H:Hp}{s:Shared}{it:Addr}{fp:List Addr}{tn:Nat->Heap->Prop}{J:It}{W:Nat->Nat->List V->Hp->Prop}{E:Value->Shared->Prop}{RR:Value->Addr->Result->Shared->Prop}{Cm:Cx->Prop} (hc:∀ c,Cm (X.bC own M scope c))
  (hk:aV X.env scope X.N M=true) (hg:∀ c,PG (X.bC own M scope c) tg (g c)) (ht:∀ c,PTs (X.bC own M scope c) ifs (tt c)) (he:∀ c,PE (X.bC own M scope c) elt (te c))
  (I:Inv X pins σ H s) (T:TurnG Cm X.prog X.w X.K tg J fp it tn) (st:tn 0 s.heap) (hf:∀ b∈fp,j8 X pins H b) {m0:Nat} (w0:W 0 m0 [] H) {D:List V->Hp->Prop}
  (turn:∀ (c:CB) i m ys H,W i m ys H->(J.stop i H/\D ys H) ∨
   (J.go i H/\ys.length<sizeLine/\∃ N:List V->Hp->Prop,(∀ ys' H',N ys' H'->∃ m',m'<m/\W (i+1) m' ys' H')/\∀ x H',J.yld i H x H'->g c x (Ð own.length none++σ) H' fun σ2 H2=>tt c σ2 H2 fun b H3 =>
    if b=true then te c σ2 H3 fun v H4=>N (ys++[v]) H4 else N ys H3))
  (fin:∀ s' m' ys H',(s'.heap.Ns (s.heap.objs.size+1) m')->H' (s.heap.objs.size+1)=none->H' s.heap.objs.size=none->Inv X pins σ (upd H' s.heap.objs.size (.lst ys)) s'->D ys H'->RR (.ref s.heap.objs.size) (s.heap.objs.size+1) (.ok .next) s') :
  wpAny (model X.prog X.w) X.A (newList []) (fun acc s₃=>wpAny (model X.prog X.w) X.A (newFunctionEnv scope X.env.globals (cg X.env.cells scope.names []) [] X.env.qual none .none (some X.env)) (fun cenv s₄ =>
   codeAny (model X.prog X.w) X.A (.compStart (.ListComp elt [⟨tg,iter,ifs,0⟩] scope pos) 0 (.ref it) acc { cenv with scope:=relabel scope X.env }) (RR acc cenv.locals) s₄) E s₃) E s:=by
 have hkk:=cR hk
 have hka:=bF hk
 refine Ė (wR ?_)
 dsimp only
 have hC:(s.heap.push { cls:=.type "list",dict:=none,data:=.seq ([]:List Value).toArray }).objs.size=s.heap.objs.size+1:=ħ ..
 rw [hC]
 generalize hH2:s.heap.push { cls:=.type "list",dict:=none,data:=.seq ([]:List Value).toArray }=H2 at hC ⊢
 generalize hH3:H2.push { cls:=ï (if (some X.env:Option Env).isSome=true then "dict" else "frame"),data:=Data.dict #[] }=H3
 generalize hh1:pushCells H3 scope.names=h₁
 have hC3:H3.objs.size=s.heap.objs.size+2:=by rw [← hH3,ħ,hC]
 have old3:∀ b o,H3.get? b=some o->h₁.get? b=some o:=fun b o e=>hh1 ▸ gP _ _ _ _ e
 have old2:∀ b o,H2.get? b=some o->h₁.get? b=some o:=fun b o e=>old3 b o (hH3 ▸ Å _ e)
 have old:∀ b o,s.heap.get? b=some o->h₁.get? b=some o:=fun b o e=>old2 b o (hH2 ▸ Å _ e)
 have hacc:h₁.get? s.heap.objs.size=some { cls:=.type "list",data:=.seq #[] 0 }:=old2 _ _ (hH2 ▸ Ò _ rfl)
 have hns:h₁.Ns (s.heap.objs.size+1) fun _=>none:=by
  have z:=Heap.Ns.new H2 (ï (if (some X.env:Option Env).isSome=true then "dict" else "frame"))
  rw [hC,hH3] at z
  exact z.keeps old3
 have hnc:∀ x c,(x,c)∈cellsFrom (s.heap.objs.size+2) scope.names []->h₁.IsCell c none:=fun x c e=>by
  rw [← hC3] at e
  exact hh1 ▸ kO _ _ _ _ e
 have hfo:∀ b∈fp,∃ o,s.heap.get? b=some o:=fun b hb=>let ⟨o,e,_⟩:=T.obj 0 _ st b hb; ⟨o,e⟩
 have st₁:tn 0 h₁:=T.keep 0 _ _ st fun b _ o e=>old b o e
 have I₁:=xP (own:=own) (tk:=s.toks) hk I hf hfo hns old hacc hnc
 have loop:∀ s₃:Shared,s₃={ s with heap:=h₁,toks:=s.toks } ->
   codeAny (model X.prog X.w) X.A (.compLoop (.ListComp elt [⟨tg,iter,ifs,0⟩] scope pos) 0 (.ref it) (.ref s.heap.objs.size) (compEnvC scope (cellsFrom (s.heap.objs.size+2) scope.names (cg X.env.cells scope.names [])) (s.heap.objs.size+1) X.env))
    (RR (.ref s.heap.objs.size) (s.heap.objs.size+1)) s₃:=by
  rintro s₃ rfl
  have neD:∀ b∈fp,b≠s.heap.objs.size:=fun b hb=>by
   obtain⟨o,e⟩:=hfo b hb
   exact Ü (Ë e)
  have stat:∀ {H':Hp}{o:Obj},(∀ b∈fp,H' b=none)->∀ b∈fp,j8 (X.bC own M scope ⟨cellsFrom (s.heap.objs.size+2) scope.names (cg X.env.cells scope.names []),s.heap.objs.size+1,s,H,fp⟩) [(s.heap.objs.size,o)] H' b:=fun {H' o} hn b hb =>
   ⟨hn b hb,(I₁.ok.exf b hb).1,I₁.ok.exfs b hb,.inl hb,(I₁.ok.exf b hb).2,fun p hp=>by
    have hp':p=(s.heap.objs.size,o):=by simpa using hp
    subst hp'
    exact ċ (neD b hb)⟩
  refine BR (fun k s'=>∃ i ys us n H',Inv (X.bC own M scope ⟨cellsFrom (s.heap.objs.size+2) scope.names (cg X.env.cells scope.names []),s.heap.objs.size+1,s,H,fp⟩) [(s.heap.objs.size,{ cls:=.type "list",data:=.seq (us:List Value).toArray n })] (Ð own.length none++σ) H' s' /\
    Vals ys us/\ys.length<=sizeLine/\tn i s'.heap/\(∀ b∈fp,H' b=none)/\W i k ys H') ?_ m0 ⟨0,[],[],0,H,I₁,.nil,ÿ _,st₁,fun b hb=>(hf b hb).1,w0⟩
  rintro k s3 ⟨i,ys,us,n,H3,I3,hv,hz,st3,fr3,w3⟩
  rcases turn ⟨cellsFrom (s.heap.objs.size+2) scope.names (cg X.env.cells scope.names []),s.heap.objs.size+1,s,H,fp⟩ i k ys H3 w3 with ⟨stop,d⟩ | ⟨go,hlt,N,hN,step⟩
  ·refine thn (T.done (X.bC own M scope ⟨cellsFrom (s.heap.objs.size+2) scope.names (cg X.env.cells scope.names []),s.heap.objs.size+1,s,H,fp⟩) rfl rfl rfl (hc _) i _ s3 _ H3 _ I3 (stat fr3) st3 stop) fun r s4 ⟨hr,I4⟩=>?_
   subst hr
   obtain⟨m',hm',_⟩:=I4.loc
   obtain⟨J4,hDn⟩:=xO I hf I4 (Õ.mpr rfl) hv hz
   exact fin s4 m' ys H3 hm' I4.free hDn J4 d
  ·refine thn (T.item (X.bC own M scope ⟨cellsFrom (s.heap.objs.size+2) scope.names (cg X.env.cells scope.names []),s.heap.objs.size+1,s,H,fp⟩) rfl rfl rfl (hc _) i _ s3 _ H3 _ I3 (stat fr3) st3 go) fun r s4 ⟨u,hr,h4⟩=>?_
   subst hr
   refine thn h4 fun _ s5 ⟨x,H5,I5,r5,y5,st5,fr5⟩=>?_
   have I5':=I5.pinned (stat fr5) (T.obj _ _ st5)
   refine thn (hg _ _ s5 _ H5 x u _ I5' r5 (step x H5 y5)) fun _ s6 ⟨σ6,H6,I6,q6⟩=>?_
   refine thn (ht _ _ s6 σ6 H6 _ I6 q6) fun b s7 ⟨H7,I7,q7⟩=>?_
   -- the turn's end: the iterator's records stand,the names are forgotten
   have clH:∀ x,(x,ñ)∈scope.names->∃ c,(cellsFrom (s.heap.objs.size+2) scope.names (cg X.env.cells scope.names [])).lookup x=some c/\X.env.cells.lookup x=some c:=fun x hx=>by
    obtain⟨c,e⟩:=I.ok.has x ((hka _ hx).2.2 rfl).2
    obtain⟨c',e'⟩:=Option.isSome_iff_exists.mp (gJ (cells:=X.env.cells) (acc:=[]) hx)
    rcases j5 e' with q | ⟨_,q⟩
    ·simp at q
    ·rw [e] at q
     exact⟨c',(Hs (vA hk hx)).trans e',by rw [e,q]; rfl⟩
   have keepT:∀ {H':Hp}{σ':St}{s':Shared}{pn:List (Addr×Obj)},(∀ p∈fV fp s5.heap,p∈pn)->Inv (X.bC own M scope ⟨cellsFrom (s.heap.objs.size+2) scope.names (cg X.env.cells scope.names []),s.heap.objs.size+1,s,H,fp⟩) pn σ' H' s'->tn (i+1) s'.heap/\∀ b∈fp,H' b=none:=fun {H' σ' s' pn} hs I' =>
    ⟨T.keep _ _ _ st5 fun b hb o e=>(I'.pin (b,o) (ã _ (hs _ (fj hb e)))).1,fun b hb=>by
     obtain⟨o,e,_⟩:=T.obj _ _ st5 b hb
     exact (I'.pin (b,o) (ã _ (hs _ (fj hb e)))).2.1⟩
   cases b with
   | false =>
    rw [if_neg Ô]
    rw [if_neg Ô] at q7
    obtain⟨m',hm',w7⟩:=hN _ _ q7
    obtain⟨t7,f7⟩:=keepT (fun p hp=>ã _ hp) I7
    exact⟨m',hm',i+1,ys,us,n,H7,pB hk I hf clH I7.jh,hv,hz,t7,f7,w7⟩
   | true =>
    rw [if_pos rfl]
    rw [if_pos rfl] at q7
    refine thn (he _ _ s7 σ6 H7 _ I7 q7) fun u8 s8 ⟨v8,H8,I8,r8,q8⟩=>?_
    obtain⟨m',hm',w8⟩:=hN _ _ q8
    obtain⟨t8,f8⟩:=keepT (fun p hp=>ã _ hp) I8
    obtain⟨hD8,nD8,lD8,fD8,_⟩:=I8.pin (s.heap.objs.size,{ cls:=.type "list",data:=.seq us.toArray n }) (ã _ (þ _ (Õ.mpr rfl)))
    refine append_at (hsz:=by rw [Î,← hv.length]; exact Nat.le_of_lt hlt) hD8 fun h9 hs9 hD9=>?_
    have J8:Inv (X.bC own M scope ⟨cellsFrom (s.heap.objs.size+2) scope.names (cg X.env.cells scope.names []),s.heap.objs.size+1,s,H,fp⟩) (fV fp s5.heap) σ6 H8 s8:=I8.mL fun p hp=>I8.pin p (ã _ (ã _ hp))
    have J9:Inv (X.bC own M scope ⟨cellsFrom (s.heap.objs.size+2) scope.names (cg X.env.cells scope.names []),s.heap.objs.size+1,s,H,fp⟩) (fV fp s5.heap) σ6 H8 { s8 with heap:=h9 }:=J8.turned (t':=s8.toks) (it:=s.heap.objs.size) (fun b o hb e=>(hs9.2 b hb).trans e) nD8 lD8 (.inr (Ï _))
     (fun x c e z=>by
      obtain⟨v,o,ho,hd⟩:=J8.cell x c e
      rw [z,hD8] at ho
      cases ho
      cases hd)
     (fun p hp=>by
      have hp':p∈fV fp s5.heap:=by simpa using hp
      exact neD _ (qt hp').1)
    obtain⟨t9,f9⟩:=keepT (fun p hp=>hp) J9
    have e9:h9.get? s.heap.objs.size=some { cls:=.type "list",data:=.seq (us++[u8]).toArray (n+1) }:=by
     rw [hD9,List.push_toArray]
    have J9':Inv (X.bC own M scope ⟨cellsFrom (s.heap.objs.size+2) scope.names (cg X.env.cells scope.names []),s.heap.objs.size+1,s,H,fp⟩) [(s.heap.objs.size,{ cls:=.type "list",data:=.seq (us++[u8]).toArray (n+1) })] σ6 H8 { s8 with heap:=h9 }:=J9.mL fun p hp=>by
     have hp':p=(s.heap.objs.size,{ cls:=.type "list",data:=.seq (us++[u8]).toArray (n+1) }):=by simpa using hp
     subst hp'
     exact⟨e9,nD8,lD8,fD8,fun v z=>nomatch z⟩
    exact⟨m',hm',i+1,ys++[v8],us++[u8],n+1,H8,pB hk I hf clH J9',hv.append (.cons r8 .nil),by rw [È,Ú]; exact hlt,t9,f9,w8⟩
 exact codeAny_compStart_list (loop _ rfl) (T.self _ 0 _ _ _ st₁ (loop _ rfl))
theorem qI {pins:List (Addr×Obj)}{σ:St}{H:Hp}{s:Shared} (hk:aV X.env scope X.N M=true) (I:Inv X pins σ H s):closureFor scope X.env=pure (cg X.env.cells scope.names []) :=
 xQ fun x hx hf=>I.ok.has x.1 ((bF hk x hx).2.2 hf).2
theorem qH {pins:List (Addr×Obj)}{σ:St}{H:Hp}{s s':Shared}{C:Addr}{h':Heap}{m:Str->Option Value} (I:Inv X pins σ H s') (hs:X.s₀.heap.objs.size<=C) (hC:C≠X.env.locals) (hcl:∀ x c,X.env.cells.lookup x=some c->c≠C) (hp:∀ p∈X.pn++pins,p.1≠C) (hn:H C=none)
  (hb:ŏ C s'.heap h'):Inv X pins σ H { s' with heap:=h' }:=I.turned (t':=s'.toks) (fun b o hb' e=>(hb.2 b hb').trans e) hn hC (.inr hs) hcl hp
theorem Ly (own M:List Str) (hc:X.calm=true) (hi:PI X tg iter wi) (hg:∀ c,PG (X.bC own M scope c) tg (g c)) (ht:∀ c,PTs (X.bC own M scope c) ifs (tt c)) (he:∀ c,PE (X.bC own M scope c) elt (te c))
  (hk:aV X.env scope X.N M=true:=by rfl) (hs:∀ x,foldedSetIterable iter X.env x=pure x:=by intro _; rfl) :
  PE X (.ListComp elt [⟨tg,iter,ifs,0⟩] scope pos) (tLC own.length wi g tt te):=by
 intro pins s σ H Q I h
 rw [eval_ListComp]
 have hka:=bF hk
 refine wpAny_comprehension_free (use:=none) rfl hs (qI hk I) (cR hk) (fun x hx hl=>((hka x hx).1 hl).2) (thn (hi pins s σ H _ I h) fun v s1 h1=>thn h1 fun itv s2 h2=>?_)
 obtain⟨it,fp,tn,J,H2,e,I2,T,st2,f2,W,⟨m0,w0⟩,turn⟩:=h2
 subst e
 refine qG (RR:=fun acc C=>compPost (model X.prog X.w) X.A X.xe none (EP X pins σ Q) acc C) (D:=fun ys H=>∀ p,H p=none->Q (.ref p) (upd H p (.lst ys))) (fun _=>hc) hk hg ht he I2 T st2 f2 w0 turn ?_
 intro s' m' ys H' hns hCn hDn J' d
 have lt2:∀ {b:Addr}{o:Obj},s2.heap.get? b=some o->b≠s2.heap.objs.size+1:=fun e=>Ü (Ć (Ë e))
 refine⟨m',hns,fun h' hb=>⟨.ref s2.heap.objs.size,_,qH (m:=m') (s:=s2) J' (Ĕ I2.sz (Ķ _)) (ċ (Ü (Ć I2.lt))) (fun x c e=>?_) (fun p hp=>?_) ?_ hb,rfl,d _ hDn⟩⟩
 ·obtain⟨v,o,ho,_⟩:=I2.cell x c e
  exact lt2 ho
 ·exact lt2 (I2.pin p hp).1
 ·rw [aj (ń (Œ _))]
  exact hCn
theorem Ik {Cm:Cx->Prop} (own M:List Str) {i:Nat}{y:Str}{py spos:Pos} (hc:∀ c,Cm (X.bC own M scope c)) (hN:X.N.Nodup) (hiN:X.N[i]?=some y) (hx:Loc X.env.scope y) (hi:PIG Cm X tg iter wi) (hg:∀ c,PG (X.bC own M scope c) tg (g c)) (ht:∀ c,PTs (X.bC own M scope c) ifs (tt c)) (he:∀ c,PE (X.bC own M scope c) elt (te c))
  (hsw:swapsWith (.ListComp elt [⟨tg,iter,ifs,0⟩] scope pos) (some (.Name y py)) spos.line X.env=pure true:=by rfl)
  (hk:aV X.env scope X.N M=true:=by rfl) (hs:∀ x,foldedSetIterable iter X.env x=pure x:=by intro _; rfl) (hf:X.fn y=true\/X.env.scope.names.lookup y=some .local:=by first | exact .inl rfl | exact .inr rfl | assumption) :
  PS X (.Assign [.Name y py] (.ListComp elt [⟨tg,iter,ifs,0⟩] scope pos) spos) (pL (tLC own.length wi g tt te) (gF i)):=by
 intro pins s σ H D I h
 rw [exec_Assign_Name_used _ _ _ _ hsw]
 have hka:=bF hk
 refine Á (wpAny_standAt (Á ?_))
 show wpAny _ X.A (do let _ ← comprehension (.ListComp elt [⟨tg,iter,ifs,0⟩] scope pos) scope X.env _ (newList []) false (eval iter X.env) (some (assign (.Name y py) X.env))) _ _ s
 refine Á (ĭ (wpAny_comprehension_free (use:=some (assign (.Name y py) X.env)) (Q:=fun _ s'=>SP X pins D .next s') rfl hs (qI hk I) (cR hk) (fun x hx hl=>((hka x hx).1 hl).2)
  (thn (hi pins s σ H _ I h) fun v s1 h1=>thn h1 fun itv s2 h2=>?_)) (fun _ s' hq=>Ä (Ä hq)) fun _ _ e=>e)
 obtain⟨it,fp,tn,J,H2,e,I2,T,st2,f2,W,⟨m0,w0⟩,turn⟩:=h2
 subst e
 refine qG (RR:=fun acc C=>compPost (model X.prog X.w) X.A X.xe (some (assign (.Name y py) X.env)) (fun _ s'=>SP X pins D .next s') acc C) (D:=fun ys H=>∀ p,H p=none->gF i (.ref p) σ (upd H p (.lst ys)) D.nx) hc hk hg ht he I2 T st2 f2 w0 turn ?_
 intro s' m' ys H' hns hCn hDn J' d
 have lt2:∀ {b:Addr}{o:Obj},s2.heap.get? b=some o->b≠s2.heap.objs.size+1:=fun e=>Ü (Ć (Ë e))
 show wpAny _ X.A (assign (.Name y py) X.env (.ref s2.heap.objs.size)) _ _ _
 refine wpAny_assign_Name (p8 (v:=.ref s2.heap.objs.size) J' (fun j h=>uY hN h hiN) hiN hx rfl (fun s'' J'' ⟨a,hsb,ha⟩=>?_) hf)
 have hLne:X.env.locals≠s2.heap.objs.size+1:=Ü (Ć I2.lt)
 have hCa:s2.heap.objs.size+1≠a:=by
  rcases ha with ha | ha
  ·rw [ha]; exact ċ hLne
  ·obtain⟨v,o,ho,_⟩:=I2.cell _ _ ha
   exact ċ (lt2 ho)
 refine⟨m',hns.sameBut hsb hCa,fun h' hb=>⟨_,_,qH (m:=m') (s:=s2) J'' (Ĕ I2.sz (Ķ _)) (ċ hLne) (fun x c e=>?_) (fun p hp=>?_) ?_ hb,d _ hDn⟩⟩
 ·obtain⟨v,o,ho,_⟩:=I2.cell x c e
  exact lt2 ho
 ·exact lt2 (I2.pin p hp).1
 ·rw [aj (ń (Œ _))]
  exact hCn
theorem Lg (own M:List Str) {i:Nat}{y:Str}{py spos:Pos} (hc:X.calm=true) (hN:X.N.Nodup) (hiN:X.N[i]?=some y) (hx:Loc X.env.scope y) (hi:PI X tg iter wi) (hg:∀ c,PG (X.bC own M scope c) tg (g c)) (ht:∀ c,PTs (X.bC own M scope c) ifs (tt c)) (he:∀ c,PE (X.bC own M scope c) elt (te c))
  (hsw:swapsWith (.ListComp elt [⟨tg,iter,ifs,0⟩] scope pos) (some (.Name y py)) spos.line X.env=pure true:=by rfl)
  (hk:aV X.env scope X.N M=true:=by rfl) (hs:∀ x,foldedSetIterable iter X.env x=pure x:=by intro _; rfl) (hf:X.fn y=true\/X.env.scope.names.lookup y=some .local:=by first | exact .inl rfl | exact .inr rfl | assumption) :
  PS X (.Assign [.Name y py] (.ListComp elt [⟨tg,iter,ifs,0⟩] scope pos) spos) (pL (tLC own.length wi g tt te) (gF i)):=Ik own M (fun _=>hc) hN hiN hx hi hg ht he hsw hk hs hf
theorem J0 (own:List Str) (hc:X.calm=true) (hi:PI X tg iter wi) (hg:∀ c,PG (X.comp own scope c) tg (g c)) (ht:∀ c,PTs (X.comp own scope c) ifs (tt c)) (he:∀ c,PE (X.comp own scope c) elt (te c))
  (hk:dD X.env scope X.N=true:=by rfl) (hs:∀ x,foldedSetIterable iter X.env x=pure x:=by intro _; rfl) :
  PE X (.ListComp elt [⟨tg,iter,ifs,0⟩] scope pos) (tLC own.length wi g tt te):=Ly own X.N hc hi hg ht he (vD hk) hs
theorem JZ (own:List Str) {i:Nat}{y:Str}{py spos:Pos} (hc:X.calm=true) (hN:X.N.Nodup) (hiN:X.N[i]?=some y) (hx:Loc X.env.scope y) (hi:PI X tg iter wi) (hg:∀ c,PG (X.comp own scope c) tg (g c)) (ht:∀ c,PTs (X.comp own scope c) ifs (tt c)) (he:∀ c,PE (X.comp own scope c) elt (te c))
  (hsw:swapsWith (.ListComp elt [⟨tg,iter,ifs,0⟩] scope pos) (some (.Name y py)) spos.line X.env=pure true:=by rfl)
  (hk:dD X.env scope X.N=true:=by rfl) (hs:∀ x,foldedSetIterable iter X.env x=pure x:=by intro _; rfl) (hf:X.fn y=true\/X.env.scope.names.lookup y=some .local:=by first | exact .inl rfl | exact .inr rfl | assumption) :
  PS X (.Assign [.Name y py] (.ListComp elt [⟨tg,iter,ifs,0⟩] scope pos) spos) (pL (tLC own.length wi g tt te) (gF i)):=Lg own X.N hc hN hiN hx hi hg ht he hsw (vD hk) hs hf
end
section
variable {X:Cx}{tg:Expr}{K:Ý}{g:CB->TG}{tt:CB->TT}{te:CB->TE}{σ:St}{H:Hp}{Q:VK}{n:Nat}
def QF (K:Ý) (tl:TE):TI:=fun σ H R=>tl σ H fun x H1=>∃ a,x=.ref a/\(((∃ xs,SqL K H1 a xs)/\R (Itl K a) H1)\/((∃ xs,SqT K H1 a xs)/\R (Itt K a) H1))
theorem Lk {l:Expr}{tl:TE} (hl:PE X l tl):PI X tg l (QF X.K tl):=by
 intro pins s σ H R I h
 refine thn (hl pins s σ H _ I h) fun v s1 ⟨x,H1,I1,r1,q1⟩=>?_
 obtain⟨a,e,q1⟩:=q1
 subst e
 cases r1
 rcases q1 with ⟨⟨xs,hq⟩,q⟩ | ⟨⟨xs,hq⟩,q⟩
 ·obtain⟨its,rv,p,hz⟩:=I1.list hq
  refine wpAny_pyIter_list p.isList ?_
  refine⟨s1.heap.objs.size,[s1.heap.objs.size],_,_,H1,rfl,I1.kept (t':=s1.toks) fun b o e=>Å _ e,Af a _,⟨_,Ò _ rfl,rfl,rfl⟩,fun b hb=>?_,q⟩
  have e:b=s1.heap.objs.size:=by simpa using hb
  subst e
  exact I1.Bw (Ï _) (I1.hok.fresh (Ï _))
 ·obtain⟨its,rv,p,hz⟩:=I1.tuple hq
  refine ų (show s1.heap.IsTuple a its.toArray from p) ?_
  refine⟨s1.heap.objs.size,[s1.heap.objs.size],_,_,H1,rfl,I1.kept (t':=s1.toks) fun b o e=>Å _ e,vR a _,⟨_,Ò _ rfl,rfl,rfl⟩,fun b hb=>?_,q⟩
  have e:b=s1.heap.objs.size:=by simpa using hb
  subst e
  exact I1.Bw (Ï _) (I1.hok.fresh (Ï _))
theorem Mx {J:It} (k:Nat) (hk:k<=1000) (Pv:Nat->List V->Hp->Prop) (h0:Pv 0 [] H) (hgo:∀ i ys H,i<k->Pv i ys H->J.go i H) (hst:∀ ys H,Pv k ys H->J.stop k H) (hl:∀ i ys H,Pv i ys H->ys.length<=i)
  (hs:∀ c i x ys H H',i<k->J.yld i H x H'->Pv i ys H->g c x (Ð n none++σ) H' fun σ2 H2=>tt c σ2 H2 fun b H3=>if b=true then te c σ2 H3 fun v H4=>Pv (i+1) (ys++[v]) H4 else Pv (i+1) ys H3)
  (hd:∀ ys H,Pv k ys H->∀ p,H p=none->Q (.ref p) (upd H p (.lst ys))):Hz J n g tt te σ Q H:=by
 refine⟨fun i m ys H=>m=k - i/\i<=k/\Pv i ys H,⟨k,by simp,ÿ _,h0⟩,?_⟩
 rintro c i m ys H ⟨rfl,hi,p⟩
 by_cases hlt:i<k
 ·refine .inr ⟨hgo i ys H hlt p,?_,Pv (i+1),fun ys' H' p'=>⟨k - (i+1),by omega,rfl,hlt,p'⟩,fun x H' y=>hs c i x ys H H' hlt y p⟩
  have:=hl i ys H p
  have h24:=ö
  omega
 ·have e:i=k:=by omega
  subst e
  exact .inl ⟨hst ys H p,hd ys H p⟩
theorem Mw {lo:Int}{k:Nat} (hk:k<=1000) (Pv:Nat->List V->Hp->Prop) (h0:Pv 0 [] H) (hl:∀ i ys H,Pv i ys H->ys.length<=i)
  (hs:∀ c i ys H,i<k->Pv i ys H->g c (.int (lo+i)) (Ð n none++σ) H fun σ2 H2=>tt c σ2 H2 fun b H3=>if b=true then te c σ2 H3 fun v H4=>Pv (i+1) (ys++[v]) H4 else Pv (i+1) ys H3)
  (hd:∀ ys H,Pv k ys H->∀ p,H p=none->Q (.ref p) (upd H p (.lst ys))):Hz (Itr lo k) n g tt te σ Q H :=
 Mx k hk Pv h0 (fun i ys H hi p=>hi) (fun ys H p=>Ï k) hl (fun c i x ys H H' hi y p=>by
  obtain⟨e,y⟩:=y
  subst e y
  exact hs c i ys _ hi p) hd
end
end L2
namespace NfSort
open PySem PySem.W PyProof.Rows
def kwp {α:Type} (n:Nat) (key:Nat->Int):KasT α->(α->Prop)->Prop
 | .ret a,Q=>Q a
 | .ask i j k,Q=>i<n/\j<n/\kwp n key (k (decide (key i<key j))) Q
theorem bN {α:Type}{n:Nat}{key:Nat->Int}{Q Q':α->Prop} (h:∀ a,Q a->Q' a):∀ {t:KasT α},kwp n key t Q->kwp n key t Q'
 | .ret a,q=>h a q
 | .ask _ _ k,q=>⟨q.1,q.2.1,bN h q.2.2⟩
theorem dZ {α β:Type}{n:Nat}{key:Nat->Int}{f:α->KasT β}{Q:β->Prop}:∀ {t:KasT α},kwp n key t (fun a=>kwp n key (f a) Q)->kwp n key (t.bind f) Q
 | .ret a,q=>q
 | .ask _ _ k,q=>⟨q.1,q.2.1,dZ q.2.2⟩
theorem zy {α:Type}{n:Nat}{key:Nat->Int}{cmp:Nat->Nat->(Bool->Shared->Prop)->Shared->Prop}{s:Shared}{G:α->Shared->Prop} (hc:∀ i j C,i<n->j<n->C (decide (key i<key j)) s->cmp i j C s) :
  ∀ {t:KasT α},kwp n key t (fun a=>G a s)->t.kasWp cmp G s
 | .ret _,q=>q
 | .ask i j k,q=>hc i j _ q.1 q.2.1 (zy hc q.2.2)
section
variable {n:Nat}{key:Nat->Int}{p:Array Nat}
def Pm (n:Nat) (p:Array Nat):Prop:=p.Perm (ý n).toArray
def kk (key:Nat->Int) (p:Array Nat) (i:Nat):Int:=key (p.getD i 0)
theorem Pm.size (h:Pm n p):p.size=n:=by
 have:=Array.Perm.size_eq h
 simpa using this
theorem getD_eq (p:Array Nat) (i:Nat):p.getD i 0=(p[i]?).getD 0:=by
 by_cases h:i<p.size <;> simp [Array.getD,h]
theorem Pm.lt (h:Pm n p) {i:Nat} (hi:i<n):p.getD i 0<n:=by
 have hs:=h.size
 have hi':i<p.size:=by omega
 have hm:p[i]∈p.toList:=by
  have:=Array.getElem_mem hi'
  simpa using this
 have hp:p.toList.Perm (ý n):=by
  have:=Array.perm_iff_toList_perm.mp h
  simpa using this
 have e:p.getD i 0=p[i]:=by simp [Array.getD,hi']
 rw [e]
 exact List.mem_range.mp (hp.mem_iff.mp hm)
theorem Pm.rev (h:Pm n p) (i j:Nat):Pm n (kas_rev p i j):=Array.Perm.trans (mirror_perm _ _ _ _) h
theorem Pm.bub (h:Pm n p) (i j:Nat):Pm n (bubble p i j):=Array.Perm.trans (bubble_perm _ _ _) h
theorem sH (h:Pm n p) {i j:Nat} (hj:j<=n) (t:Nat):kk key (kas_rev p i j) t=if i<=t/\t<j then kk key p (i+j - 1 - t) else kk key p t:=by
 unfold kk kas_rev
 rw [getD_eq,getElem?_mirror_all (by rw [h.size]; exact hj)]
 split
 ·rw [getD_eq]
 ·rw [getD_eq]
theorem Mz (h:Pm n p) {k l:Nat} (hk:k<n) (hl:l<=k) (t:Nat):kk key (bubble p k (k - l)) t=if t=l then kk key p k else if l<t/\t<=k then kk key p (t - 1) else kk key p t:=by
 unfold kk
 rw [getD_eq,getElem?_bubble (by rw [h.size]; exact hk) _ (by omega)]
 have e:k - (k - l)=l:=by omega
 rw [e]
 split
 ·rw [getD_eq]
 ·split
  ·rw [getD_eq]
  ·rw [getD_eq]
def Up (key:Nat->Int) (p:Array Nat) (m:Nat):Prop:=∀ i j,i<=j->j<m->kk key p i<=kk key p j
def Dn (key:Nat->Int) (p:Array Nat) (m:Nat):Prop:=∀ i j,i<=j->j<m->kk key p j<=kk key p i
def Rn (key:Nat->Int) (p:Array Nat) (m q:Nat):Prop:=q+1<=m/\∀ t,m<=t+q+1->t<m->kk key p t=kk key p (m - 1)
theorem Up.more {a:Nat} (h:Up key p a) (h1:1<=a) (hx:kk key p (a - 1)<=kk key p a):Up key p (a+1):=fun i j hij hj=>by
 by_cases hja:j<a
 ·exact h i j hij hja
 ·obtain rfl:j=a:=by omega
  by_cases hi:i=j
  ·subst hi; exact Int.le_refl _
  ·exact Int.le_trans (h i (j - 1) (by omega) (by omega)) hx
theorem Dn.more {a:Nat} (h:Dn key p a) (h1:1<=a) (hx:kk key p a<=kk key p (a - 1)):Dn key p (a+1):=fun i j hij hj=>by
 by_cases hja:j<a
 ·exact h i j hij hja
 ·obtain rfl:j=a:=by omega
  by_cases hi:i=j
  ·subst hi; exact Int.le_refl _
  ·exact Int.le_trans hx (h i (j - 1) (by omega) (by omega))
theorem xW (hp:Pm n p):∀ (f a:Nat),1<=a->a+f<=n->Up key p a->kwp n key (kas_asc p f a) (fun m=>a<=m/\m<=a+f/\Up key p m/\(m<a+f->kk key p m<kk key p (m - 1)))
 | 0,a,h1,hf,hu=>⟨Ï _,Ï _,hu,fun h=>absurd h (by omega)⟩
 | f+1,a,h1,hf,hu=>by
  refine⟨hp.lt (by omega),hp.lt (by omega),?_⟩
  by_cases hc:key (p.getD a 0)<key (p.getD (a - 1) 0)
  ·(rw [decide_eq_true hc]; dsimp only; rw [if_pos rfl])
   exact⟨Ï _,by omega,hu,fun _=>hc⟩
  ·(rw [decide_eq_false hc]; dsimp only; rw [if_neg Ô])
   refine bN (fun m ⟨a1,a2,a3,a4⟩=>⟨by omega,by omega,a3,fun h=>a4 (by omega)⟩) (xW hp f (a+1) (by omega) (by omega) (hu.more h1 (Int.not_lt.mp hc)))
theorem yM (hp:Pm n p) {a q:Nat} (ha:a<=n) (hr:Rn key p a q) (t:Nat):kk key (kas_rev p (a - (q+1)) a) t=kk key p t:=by
 rw [sH hp ha]
 split
 ·rename_i h
  rw [hr.2 t (by omega) h.2]
  exact hr.2 _ (by have:=hr.1; omega) (by omega)
 ·rfl
theorem Dn.eq {p':Array Nat}{m:Nat} (h:Dn key p m) (e:∀ t,kk key p' t=kk key p t):Dn key p' m:=fun i j a b=>by rw [e,e]; exact h i j a b
theorem zV:∀ (f:Nat) (p:Array Nat) (a q:Nat),Pm n p->1<=a->a+f<=n->Dn key p a->Rn key p a q ->
  kwp n key (kas_desc f p a q) (fun r=>Pm n r.1/\a<=r.2.1/\r.2.1<=a+f/\Dn key r.1 r.2.1/\Rn key r.1 r.2.1 r.2.2)
 | 0,p,a,q,hp,h1,hf,hd,hr=>⟨hp,Ï _,Ï _,hd,hr⟩
 | f+1,p,a,q,hp,h1,hf,hd,hr=>by
  refine⟨hp.lt (by omega),hp.lt (by omega),?_⟩
  have fin:∀ {p':Array Nat}{q':Nat},Pm n p'->Dn key p' (a+1)->Rn key p' (a+1) q'->kwp n key (kas_desc f p' (a+1) q') (fun r=>Pm n r.1/\a<=r.2.1/\r.2.1<=a+(f+1)/\Dn key r.1 r.2.1/\Rn key r.1 r.2.1 r.2.2):=fun x y z =>
   bN (fun r ⟨a1,a2,a3,a4,a5⟩=>⟨a1,by omega,by omega,a4,a5⟩) (zV f _ (a+1) _ x (by omega) (by omega) y z)
  have rn0:∀ p':Array Nat,Rn key p' (a+1) 0:=fun p'=>⟨by omega,fun t h1 h2=>by
   have e:t=a+1 - 1:=by omega
   rw [e]⟩
  by_cases hc:key (p.getD a 0)<key (p.getD (a - 1) 0)
  ·(rw [decide_eq_true hc]; dsimp only; rw [if_pos rfl])
   have hc':kk key p a<kk key p (a - 1):=hc
   by_cases hq:q > 0
   ·rw [if_pos hq]
    have e:=yM (key:=key) hp (by omega) hr
    exact fin (hp.rev _ _) ((hd.more h1 (Int.le_of_lt hc')).eq e) (rn0 _)
   ·rw [if_neg hq]
    exact fin hp (hd.more h1 (Int.le_of_lt hc')) (rn0 _)
  ·(rw [decide_eq_false hc]; dsimp only; rw [if_neg Ô])
   refine⟨hp.lt (by omega),hp.lt (by omega),?_⟩
   by_cases hc2:key (p.getD (a - 1) 0)<key (p.getD a 0)
   ·(rw [decide_eq_true hc2]; dsimp only; rw [if_pos rfl])
    exact⟨hp,Ï _,(by show a<=a+(f+1); omega),hd,hr⟩
   ·(rw [decide_eq_false hc2]; dsimp only; rw [if_neg Ô])
    have e:kk key p a=kk key p (a - 1):=Int.le_antisymm (Int.not_lt.mp hc2) (Int.not_lt.mp hc)
    refine fin hp (hd.more h1 (Int.le_of_eq e)) ⟨by have:=hr.1; omega,fun t t1 t2=>?_⟩
    show _=kk key p a
    by_cases ht:t=a
    ·rw [ht]
    ·rw [e]
     exact hr.2 t (by omega) (by omega)
theorem ur {a:Nat} (hp:Pm n p) (h1:1<=a) (ha:a<=n) (hd:Dn key p a):kwp n key (kas_tail3 a n p) (fun r=>Pm n r.2/\1<=r.1/\r.1<=n/\Up key r.2 r.1):=by
 unfold kas_tail3
 have hu:Up key (kas_rev p 0 a) a:=fun i j hij hj=>by
  rw [sH hp ha,sH hp ha,if_pos ⟨by omega,by omega⟩,if_pos ⟨by omega,hj⟩]
  exact hd _ _ (by omega) (by omega)
 refine dZ (bN (fun m ⟨a1,a2,a3,_⟩=>?_) (xW (hp.rev 0 a) (n - a) a h1 (by omega) hu))
 exact⟨hp.rev 0 a,by omega,by omega,a3⟩
theorem lU {a:Nat} (hp:Pm n p) (ha:a+1<=n) (hd:Dn key p (a+1)):kwp n key (kas_descPart a n p) (fun r=>Pm n r.2/\1<=r.1/\r.1<=n/\Up key r.2 r.1):=by
 unfold kas_descPart
 refine dZ (bN (fun r ⟨a1,a2,a3,a4,a5⟩=>?_) (zV (n - (a+1)) p (a+1) 0 hp (by omega) (by omega) hd ⟨by omega,fun t h1 h2=>by
  have e:t=a+1 - 1:=by omega
  rw [e]⟩))
 split
 ·exact ur (a1.rev _ _) (by omega) (by omega) (a4.eq (yM a1 (by omega) a5))
 ·exact ur a1 (by omega) (by omega) a4
theorem Hr (hp:Pm n p) (h1:1<=n):kwp n key (kas_count n p) (fun r=>Pm n r.2/\1<=r.1/\r.1<=n/\Up key r.2 r.1):=by
 unfold kas_count
 have u1:Up key p 1:=fun i j hij hj=>by
  have e:i=j:=by omega
  rw [e]; exact Int.le_refl _
 refine dZ (bN (fun m ⟨a1,a2,a3,a4⟩=>?_) (xW hp (n - 1) 1 (Ï _) (by omega) u1))
 by_cases hm:m=n
 ·rw [if_pos (by simpa using hm)]
  exact⟨hp,by omega,by omega,a3⟩
 ·rw [if_neg (by simpa using hm)]
  have hlt:=a4 (by omega)
  by_cases hm1:m > 1
  ·rw [if_pos hm1]
   refine⟨hp.lt (by omega),hp.lt (by omega),?_⟩
   by_cases hc:key (p.getD 0 0)<key (p.getD (m - 1) 0)
   ·(rw [decide_eq_true hc]; dsimp only; rw [if_pos rfl])
    exact⟨hp,by omega,by omega,a3⟩
   ·(rw [decide_eq_false hc]; dsimp only; rw [if_neg Ô])
    have hall:∀ t,t<m->kk key p t=kk key p 0:=fun t ht=>by
     have e1:=a3 0 t (by omega) ht
     have e2:=a3 t (m - 1) (by omega) (by omega)
     have e3:kk key p (m - 1)<=kk key p 0:=Int.not_lt.mp hc
     omega
    have e:∀ t,kk key (kas_rev p 0 m) t=kk key p t:=fun t=>by
     rw [sH hp (by omega)]
     split
     ·rename_i h
      rw [hall t h.2,hall _ (by omega)]
     ·rfl
    refine lU (hp.rev 0 m) (by omega) (Dn.eq (p:=p) (Dn.more (fun i j hij hj=>?_) (by omega) (Int.le_of_lt hlt)) e)
    rw [hall i (by omega),hall j hj]
    exact Int.le_refl _
  ·rw [if_neg hm1]
   obtain rfl:m=1:=by omega
   refine lU hp (by omega) (Dn.more (fun i j hij hj=>?_) (by omega) (Int.le_of_lt hlt))
   have e:i=j:=by omega
   rw [e]; exact Int.le_refl _
theorem nJ {k:Nat} (hp:Pm n p) (hk:k<n) (hu:Up key p k):∀ (f l r:Nat),l<=r->r<=k->r<=l+f->(∀ t,t<l->kk key p t<=kk key p k)->(∀ t,r<=t->t<k->kk key p k<kk key p t) ->
  kwp n key (kas_place p k f l r) (fun l'=>l'<=k/\(∀ t,t<l'->kk key p t<=kk key p k)/\(∀ t,l'<=t->t<k->kk key p k<kk key p t))
 | 0,l,r,h1,h2,h3,h4,h5=>⟨by omega,h4,fun t a b=>h5 t (by omega) b⟩
 | f+1,l,r,h1,h2,h3,h4,h5=>by
  unfold kas_place
  by_cases hlr:l ≥ r
  ·rw [if_pos hlr]
   exact⟨by omega,h4,fun t a b=>h5 t (by omega) b⟩
  ·rw [if_neg hlr]
   have hm:(l+r) / 2<r:=by omega
   refine⟨hp.lt hk,hp.lt (by omega),?_⟩
   by_cases hc:key (p.getD k 0)<key (p.getD ((l+r) / 2) 0)
   ·(rw [decide_eq_true hc]; dsimp only; rw [if_pos rfl])
    have hc':kk key p k<kk key p ((l+r) / 2):=hc
    exact nJ hp hk hu f l _ (by omega) (by omega) (by omega) h4 fun t a b=>Int.lt_of_lt_of_le hc' (hu _ t a b)
   ·(rw [decide_eq_false hc]; dsimp only; rw [if_neg Ô])
    have hc':kk key p ((l+r) / 2)<=kk key p k:=Int.not_lt.mp hc
    exact nJ hp hk hu f _ r (by omega) (by omega) (by omega) (fun t a=>Int.le_trans (hu t _ (by omega) (by omega)) hc') h5
theorem Hv:∀ (f:Nat) (p:Array Nat) (k:Nat),Pm n p->k+f<=n->Up key p k->kwp n key (kas_bin f p k) (fun p'=>Pm n p'/\Up key p' (k+f))
 | 0,p,k,hp,hk,hu=>⟨hp,hu⟩
 | f+1,p,k,hp,hk,hu=>by
  unfold kas_bin
  refine dZ (bN (fun l ⟨a1,a2,a3⟩=>?_) (nJ hp (by omega) hu k 0 k (ÿ _) (Ï _) (by omega) (fun t h=>absurd h (by omega)) (fun t h1 h2=>absurd h1 (by omega))))
  have e:=Mz (key:=key) hp (k:=k) (by omega) a1
  have hu':Up key (bubble p k (k - l)) (k+1):=fun i j hij hj=>by
   rw [e,e]
   by_cases hi:i=l
   ·rw [if_pos hi]
    by_cases hj':j=l
    ·rw [if_pos hj']; exact Int.le_refl _
    ·rw [if_neg hj',if_pos ⟨by omega,by omega⟩]
     exact Int.le_of_lt (a3 _ (by omega) (by omega))
   ·rw [if_neg hi]
    by_cases hi2:l<i/\i<=k
    ·rw [if_pos hi2,if_neg (by omega),if_pos ⟨by omega,by omega⟩]
     exact hu _ _ (by omega) (by omega)
    ·rw [if_neg hi2]
     by_cases hj':j=l
     ·rw [if_pos hj']
      exact a2 i (by omega)
     ·rw [if_neg hj']
      by_cases hj2:l<j/\j<=k
      ·rw [if_pos hj2]
       exact hu _ _ (by omega) (by omega)
      ·rw [if_neg hj2]
       exact hu _ _ hij (by omega)
  refine bN (fun p' ⟨b1,b2⟩=>⟨b1,?_⟩) (Hv f _ (k+1) (hp.bub _ _) (by omega) hu')
  have e2:k+(f+1)=k+1+f:=by omega
  rw [e2]; exact b2
theorem H9 (h1:1<=n):kwp n key (kas_sort n) (fun p=>Pm n p/\Up key p n):=by
 unfold kas_sort
 refine dZ (bN (fun r ⟨a1,a2,a3,a4⟩=>?_) (Hr (p:=(ý n).toArray) (Array.Perm.refl _) h1))
 have e:max r.1 1=r.1:=by omega
 rw [e]
 split
 ·refine bN (fun p' ⟨b1,b2⟩=>⟨b1,?_⟩) (Hv (n - r.1) r.2 r.1 a1 (by omega) a4)
  have e2:r.1+(n - r.1)=n:=by omega
  rw [e2] at b2; exact b2
 ·have e2:r.1=n:=by omega
  rw [e2] at a4
  exact⟨a1,a4⟩
end
end NfSort
namespace L2
open PySem PySem.Spec PyProof.Rows
section
variable {prog:Program}{w:World}{A:Around}{E:Value->Shared->Prop}{s:Shared}
theorem o7 {it t:Addr}{items:Array Value} (hne:t≠it):∀ (n i:Nat) (s:Shared) (Q:List Value->Shared->Prop),s.heap.IsListIter it t i->s.heap.IsList t items->i+n<=items.size ->
  (∀ h',h'.IsListIter it t (i+n)->ŏ it s.heap h'->Q ((items.toList.drop i).take n) { s with heap:=h' })->wpAny (model prog w) A (draw (.ref it) n) Q E s
 | 0,i,s,Q,hit,_,_,hQ=>by
  show wpAny _ _ (pure []) Q E s
  exact Ä (by simpa using hQ s.heap hit (Heap.SameBut.refl ..))
 | n+1,i,s,Q,hit,ht,hle,hQ=>by
  have hlt:i<items.size:=by omega
  show wpAny _ _ (pyNext (.ref it) >>= _) Q E s
  refine Á (wpAny_pyNext_list_item hit ht (x:=items[i]) (by simp [hlt]) fun h₁ hit₁ hs₁=>?_)
  refine Á (ú (o7 hne n (i+1) _ _ hit₁ (ht.extBut hs₁.extBut hne) (by omega) fun h₂ hit₂ hs₂=>Ä ?_))
  have hd:items.toList.drop i=items[i]::items.toList.drop (i+1):=by simp [List.drop_eq_getElem_cons,hlt]
  have:=hQ h₂ (by rw [show i+(n+1)=i+1+n by omega]; exact hit₂) (hs₁.trans hs₂)
  rw [hd,List.take_succ_cons] at this
  exact this
theorem ji {t:Addr}{items:Array Value}{Q:List Value->Shared->Prop} (hh:A.handled=none) (ht:s.heap.IsList t items)
  (hQ:∀ h',Heap.ExtBut s.heap.objs.size s.heap h'->Q items.toList { s with heap:=h' }):wpAny (model prog w) A (unpackItems (.ref t) items.size none) Q E s:=by
 have hlt:t≠s.heap.objs.size:=by obtain⟨o,ho,_⟩:=ht; exact Ü (Ë ho)
 have hT:s.TypeIs (.ref t) "list":=by obtain⟨o,ho,hc,_⟩:=ht; exact⟨o,ho,hc⟩
 unfold unpackItems
 refine Á ?_
 ·unfold notIterableAtAll
  refine Á (ż hT slot_list_iter.lookup ?_)
  refine Ä ?_
  simp only [ì,if_false]
  refine Á (ú (wpAny_pyIter_list ht ?_))
  refine Á (ú (o7 hlt items.size 0 _ _ ⟨_,Ò _ rfl,rfl,rfl⟩ (ht.push _) (by omega) fun h₁ hit₁ hs₁=>?_))
  have hall:List.take items.size (List.drop 0 items.toList)=items.toList:=by
   rw [List.drop_zero]; exact ŧ (by simp)
  rw [hall]
  rw [if_neg (by simp)]
  have ht₁:h₁.IsList t items:=(ht.push _).extBut hs₁.extBut hlt
  refine Á (ú (wpAny_pyNext_list_end hh hit₁ ht₁ (by simp) fun h₂ he₂=>?_))
  simp only [Option.isSome_none,ì,if_false]
  refine Ä (hQ h₂ fun b o hb e=>he₂ b o hb (hs₁.extBut b o hb (Å _ e)))
theorem qQ {t:Addr}{items:Array Value}{targets:List (Bool×(Value->Sem Unit))}{Q:Unit->Shared->Prop} (hh:A.handled=none) (ht:s.heap.IsList t items)
  (hn:targets.length=items.size) (hstar:targets.findIdx? (·.1)=none)
  (h:∀ h',Heap.ExtBut s.heap.objs.size s.heap h'->wpAny (model prog w) A (assignInOrder (targets.map (·.2)) items.toList) Q E { s with heap:=h' }) :
  wpAny (model prog w) A (unpack (.ref t) targets) Q E s:=by
 unfold unpack
 rw [hn,hstar]
 exact Á (ú (ji hh ht h))
end
section
variable {X:Cx}{pos:Pos}
def Gs (K:Ý) (n:Nat) (t:TGs):TG:=fun v σ H Q=>∃ a xs,v=.ref a/\SqL K H a xs/\xs.length=n/\t xs σ H Q
theorem Lp {es:List Expr}{k:Nat}{t:TGs}{n:Nat} (hc:X.calm=true) (h:PGs X es t)
  (hn:(assignEach es X.env).length=n:=by rfl) (hst:(assignEach es X.env).findIdx? (·.1)=none:=by rfl):PG X (.Tuple es k pos) (Gs X.K n t):=by
 intro pins s σ H v u Q I r hw
 obtain⟨a,xs,e1,hq,hl,hw⟩:=hw
 subst e1
 cases r
 obtain⟨its,rv,ht,hz⟩:=I.list hq
 rw [PyProof.Rows.assign_Tuple]
 refine Á (wpAny_standAt (qQ (I.ok.hd hc) ht.isList (by simp [hn,← hl,rv.length]) hst fun h' hx=>?_))
 have I1:Inv X pins σ H { s with heap:=h' }:=I.kept (t':=s.toks) fun b o e=>hx b o (Ü (Ë e)) e
 exact h pins _ σ H xs _ Q I1 (by simpa using rv) hw
end
section
variable {X:Cx}
theorem tW:aU X (.builtin "isinstance") (fun xs H Q=>∃ x c t b,xs=[x,.ty c]/\TyOf X.K H x t/\W.kitOne X.K t (.type c)=some b/\Q (.bl b) H):=by
 intro pins s σ H xs us Q I r h
 obtain⟨x,c,t,b,rfl,ty,e,q⟩:=h
 obtain⟨u,u2,rfl,rx,rc⟩:=vals2 r
 cases rc
 exact Br I rx ty e fun tk=>⟨.bl b,H,I.tok _,rfl,q⟩
theorem tU:aU X (.builtin "isinstance") (fun xs H Q=>∃ x p c1 c2 t b,xs=[x,.ref p]/\TyOf X.K H x t/\SqT X.K H p [.ty c1,.ty c2]/\W.kitAny X.K t [.type c1,.type c2]=some b/\Q (.bl b) H):=by
 intro pins s σ H xs us Q I r h
 obtain⟨x,p,c1,c2,t,b,rfl,ty,hp,e,q⟩:=h
 obtain⟨u,u2,rfl,rx,rc⟩:=vals2 r
 cases rc
 obtain⟨its,rv,⟨o,ho,hcl,n,hd⟩,hz⟩:=I.tuple hp
 obtain⟨v1,v2,rfl,r1,r2⟩:=vals2 rv
 cases r1
 cases r2
 obtain⟨oc,od,odt,osl⟩:=o
 cases hcl
 cases hd
 have fin:∀ tk,EP X pins σ Q (.bool b) { s with toks:=tk }:=fun tk=>⟨.bl b,H,I.tok _,rfl,q⟩
 cases ty with
 | non=>cases (show u=Ě from rx); exact W.kia_tup W.kitx_none I.kIn Į ho e (fun z=>nomatch z) fin
 | bl y=>cases (show u=Value.bool y from rx); exact W.kia_tup W.kitx_bool I.kIn Į ho e (fun z=>nomatch z) fin
 | int i=>obtain⟨t,q⟩:=(show ∃ t,u=ĩ i t from rx); cases q; exact W.kia_tup W.kitx_int I.kIn Į ho e (fun z=>nomatch z) fin
 | str y=>obtain⟨t,q⟩:=(show ∃ t,u=Value.str y t from rx); cases q; exact W.kia_tup W.kitx_str I.kIn Į ho e (fun z=>nomatch z) fin
 | flt y=>obtain⟨t,q⟩:=(show ∃ t,u=Value.float y t from rx); cases q; exact W.kia_tup W.kitx_float I.kIn Į ho e (fun z=>nomatch z) fin
 | @lst a xs ea =>
  cases (show u=ü a from rx)
  obtain⟨_,_,n,_,h1⟩:=(show aM X.prog X.w H s.heap a (.lst xs) from I.hok a _ ea)
  exact W.kia_tup W.kitx_list I.kIn ⟨_,h1,rfl⟩ ho e (fun z=>nomatch z) fin
 | @frz a ob xs ea =>
  cases (show u=ü a from rx)
  obtain⟨_,_,_,n,_,h1⟩:=(show aM X.prog X.w H s.heap a (.frz ob (.lst xs)) from I.hok a _ ea)
  exact W.kia_tup W.kitx_list I.kIn ⟨_,h1,rfl⟩ ho e (fun z=>nomatch z) fin
 | @tup a xs ea =>
  cases (show u=ü a from rx)
  obtain⟨_,_,_,p⟩:=(show aM X.prog X.w H s.heap a (.tup xs) from I.hok a _ ea)
  obtain⟨o,h1,h2,_⟩:=p
  exact W.kia_tup W.kitx_tuple I.kIn ⟨o,h1,h2⟩ ho e (fun z=>nomatch z) fin
 | @dK a kvs ea =>
  cases (show u=ü a from rx)
  obtain⟨_,_,vs,_,p⟩:=(show aM X.prog X.w H s.heap a (.dK kvs) from I.hok a _ ea)
  obtain⟨o,es,ep,h1,h2,_⟩:=p
  exact W.kia_tup W.kitx_dict I.kIn ⟨o,h1,h2.1⟩ ho e (fun z=>nomatch z) fin
 | @dT a kvs ea =>
  cases (show u=ü a from rx)
  obtain⟨_,_,xs,_,o,es,ep,h1,h2,_⟩:=(show aM X.prog X.w H s.heap a (.dT kvs) from I.hok a _ ea)
  exact W.kia_tup W.kitx_dict I.kIn ⟨o,h1,h2.1⟩ ho e (fun z=>nomatch z) fin
 | @ins a C dx fs ea cl ha hn htk hm =>
  cases (show u=ü a from rx)
  obtain⟨mA,O,_⟩:=zG I.hok ea
  obtain⟨od,J,_⟩:=O.look
  exact W.kia_tup (W.kitx_own (cl.get _) cl.hd ha hn htk hm) I.kIn J ho e (fun z=>nomatch z) fin
theorem uT:OpR X (compareOp .IsNot) (fun x y H Q=>∃ a b,x=.bl a/\y=.bl b/\Q (.bl (!decide (a=b))) H):=by
 intro pins s σ H x y v u Q I rx ry h
 obtain⟨a,b,rfl,rfl,q⟩:=h
 cases rx
 cases ry
 refine Ä ?_
 refine⟨.bl (!decide (a=b)),H,I,?_,q⟩
 cases a <;> cases b <;> rfl
theorem yd:∀ {bs:List Bool}{us:List Value},Vals (bs.map V.bl) us->us=bs.map Value.bool
 | [],_,h=>by cases h; rfl
 | b::bs,_,h=>by
  cases h with
  | cons r t =>
   cases r
   rw [yd t]
   rfl
theorem all_range (bs:List Bool):(ý bs.length).all (fun i=>bs.getD i true)=bs.all id:=by
 rw [ĵ]
 simp only [Ĭ,List.mem_range]
 constructor
 ·intro h x hx
  obtain⟨i,hi,e⟩:=List.mem_iff_getElem.mp hx
  have q:=h i hi
  simp [hi] at q
  rw [← e]; exact q
 ·intro h i hi
  have q:=h bs[i] (ť hi)
  simpa [hi] using q
theorem Ck (hc:X.calm=true):aU X (.builtin "all") (fun xs H Q=>∃ (p:Addr) (bs:List Bool),xs=[.ref p]/\SqL X.K H p (bs.map V.bl)/\Q (.bl (bs.all id)) H):=by
 intro pins s σ H xs us Q I r h
 obtain⟨p,bs,rfl,hp,q⟩:=h
 obtain⟨u,rfl,rx⟩:=vals1 r
 cases rx
 obtain⟨its,rv,pl,hz⟩:=I.list hp
 have e:=yd rv
 subst e
 have hlt:p≠s.heap.objs.size:=by obtain⟨o,ho,_⟩:=pl.isList; exact Ü (Ë ho)
 refine call_all_walk (wpAny_pyIter_list pl.isList ?_)
 refine⟨_,_,_,_,_,_,fun i=>bs.getD i true,rfl,Walks.list (A:=X.A.in1) (I.ok.hd hc) _ p hlt _,⟨⟨_,Ò _ rfl,rfl,rfl⟩,pl.isList.push _⟩,?_,fun h' tk hk=>?_⟩
 ·intro i v s Q E hP hQ
  have hP':(bs.map Value.bool)[i]?=some v:=by simpa using hP
  rw [Ø] at hP'
  cases hb:bs[i]? with
  | none=>rw [hb] at hP'; cases hP'
  | some b =>
   rw [hb] at hP'
   cases hP'
   refine Ĩ ?_
   have e:bs.getD i true=b:=by rw [œ,hb]; rfl
   have hQ':Q (bs.getD i true) s:=hQ
   rw [e] at hQ'
   exact hQ'
 ·have e:(ý (bs.map Value.bool).toArray.size).all (fun i=>bs.getD i true)=bs.all id:=by
   rw [Î,Â]
   exact all_range bs
  rw [e]
  refine⟨.bl (bs.all id),H,I.kept fun b o eb=>hk b o ?_ (Å _ eb),rfl,q⟩
  intro hm
  have:b=s.heap.objs.size:=by simpa using hm
  exact absurd (Ë eb) (by rw [this]; exact ą _)
theorem Ca (hc:X.calm=true):aU X (.builtin "min") (fun xs H Q=>∃ p a b,xs=[.ref p]/\SqT X.K H p [.int a,.int b]/\Q (.int (if b<a then b else a)) H):=by
 intro pins s σ H xs us Q I r h
 obtain⟨p,a,b,rfl,hp,q⟩:=h
 obtain⟨u,rfl,rx⟩:=vals1 r
 cases rx
 obtain⟨its,rv,pl,hz⟩:=I.tuple hp
 obtain⟨v1,v2,rfl,⟨t1,rfl⟩,⟨t2,rfl⟩⟩:=vals2 rv
 have pl':s.heap.IsTuple p (intItems #[(a,t1),(b,t2)]):=by
  have z:s.heap.IsTuple p #[ĩ a t1,ĩ b t2]:=pl
  simpa [intItems] using z
 have hlt:p<s.heap.objs.size:=by obtain⟨o,ho,_⟩:=pl; exact Ë ho
 refine call_min_walk (ų pl' ?_)
 refine⟨_,[s.heap.objs.size,p],[s.heap.objs.size],_,_,_,_,rfl,Walks.tuple (A:=X.A.in1) (I.ok.hd hc) _ p (Ü hlt) (intItems #[(a,t1),(b,t2)]),⟨⟨_,Ò _ rfl,rfl,rfl⟩,pl'.push _⟩,fun c hc=>?_,by simp [intItems],
  CmpOf.ints_lt (numAt #[(a,t1),(b,t2)]) (fun _ _=>intItems_at),fun v h' tk hP hk=>?_⟩
 ·show c<(s.heap.push _).objs.size
  rw [ħ]
  rcases Ù.mp hc with rfl | hc
  ·exact Œ _
  ·have:c=p:=by simpa using hc
   rw [this]; exact Ć hlt
 ·have hv:v=if b<a then ĩ b t2 else ĩ a t1:=by
   have hP':(intItems #[(a,t1),(b,t2)])[argBest (fun i j=>decide (numAt #[(a,t1),(b,t2)] i<numAt #[(a,t1),(b,t2)] j)) 1]?=some v:=by
    have hsz2:(intItems #[(a,t1),(b,t2)]).size - 1=1:=by simp [intItems]
    rw [← hsz2]; exact hP
   by_cases hba:b<a
   ·have e:argBest (fun i j=>decide (numAt #[(a,t1),(b,t2)] i<numAt #[(a,t1),(b,t2)] j)) 1=1:=by simp [argBest,numAt,hba]
    rw [e] at hP'
    simpa [intItems,hba] using hP'.symm
   ·have e:argBest (fun i j=>decide (numAt #[(a,t1),(b,t2)] i<numAt #[(a,t1),(b,t2)] j)) 1=0:=by simp [argBest,numAt,hba]
    rw [e] at hP'
    simpa [intItems,hba] using hP'.symm
  subst hv
  refine⟨.int (if b<a then b else a),H,I.kept fun b o eb=>hk b o ?_ (Å _ eb),?_,q⟩
  ·intro hm
   have:b=s.heap.objs.size:=by simpa using hm
   exact absurd (Ë eb) (by rw [this]; exact ą _)
  ·by_cases hba:b<a
   ·rw [if_pos hba,if_pos hba]; exact⟨_,rfl⟩
   ·rw [if_neg hba,if_neg hba]; exact⟨_,rfl⟩
theorem Cg (hc:X.calm=true):aU X (.builtin "max") (fun xs H Q=>∃ p a b,xs=[.ref p]/\SqT X.K H p [.int a,.int b]/\Q (.int (if b > a then b else a)) H):=by
 intro pins s σ H xs us Q I r h
 obtain⟨p,a,b,rfl,hp,q⟩:=h
 obtain⟨u,rfl,rx⟩:=vals1 r
 cases rx
 obtain⟨its,rv,pl,hz⟩:=I.tuple hp
 obtain⟨v1,v2,rfl,⟨t1,rfl⟩,⟨t2,rfl⟩⟩:=vals2 rv
 have pl':s.heap.IsTuple p (intItems #[(a,t1),(b,t2)]):=by
  have z:s.heap.IsTuple p #[ĩ a t1,ĩ b t2]:=pl
  simpa [intItems] using z
 have hlt:p<s.heap.objs.size:=by obtain⟨o,ho,_⟩:=pl; exact Ë ho
 refine call_max_walk (ų pl' ?_)
 refine⟨_,[s.heap.objs.size,p],[s.heap.objs.size],_,_,_,_,rfl,Walks.tuple (A:=X.A.in1) (I.ok.hd hc) _ p (Ü hlt) (intItems #[(a,t1),(b,t2)]),⟨⟨_,Ò _ rfl,rfl,rfl⟩,pl'.push _⟩,fun c hc=>?_,by simp [intItems],
  CmpOf.ints_gt (numAt #[(a,t1),(b,t2)]) (fun _ _=>intItems_at),fun v h' tk hP hk=>?_⟩
 ·show c<(s.heap.push _).objs.size
  rw [ħ]
  rcases Ù.mp hc with rfl | hc
  ·exact Œ _
  ·have:c=p:=by simpa using hc
   rw [this]; exact Ć hlt
 ·have hv:v=if b > a then ĩ b t2 else ĩ a t1:=by
   have hP':(intItems #[(a,t1),(b,t2)])[argBest (fun i j=>decide (numAt #[(a,t1),(b,t2)] i > numAt #[(a,t1),(b,t2)] j)) 1]?=some v:=by
    have hsz2:(intItems #[(a,t1),(b,t2)]).size - 1=1:=by simp [intItems]
    rw [← hsz2]; exact hP
   by_cases hba:b > a
   ·have e:argBest (fun i j=>decide (numAt #[(a,t1),(b,t2)] i > numAt #[(a,t1),(b,t2)] j)) 1=1:=by simp [argBest,numAt,hba]
    rw [e] at hP'
    simpa [intItems,hba] using hP'.symm
   ·have e:argBest (fun i j=>decide (numAt #[(a,t1),(b,t2)] i > numAt #[(a,t1),(b,t2)] j)) 1=0:=by simp [argBest,numAt,hba]
    rw [e] at hP'
    simpa [intItems,hba] using hP'.symm
  subst hv
  refine⟨.int (if b > a then b else a),H,I.kept fun b o eb=>hk b o ?_ (Å _ eb),?_,q⟩
  ·intro hm
   have:b=s.heap.objs.size:=by simpa using hm
   exact absurd (Ë eb) (by rw [this]; exact ą _)
  ·by_cases hba:b > a
   ·rw [if_pos hba,if_pos hba]; exact⟨_,rfl⟩
   ·rw [if_neg hba,if_neg hba]; exact⟨_,rfl⟩
theorem BZ:aU X (.type "range") (fun xs H Q=>∃ j,xs=[.int j]/\∀ p,H p=none->Q (.ref p) (upd H p (.rng 0 j))):=by
 intro pins s σ H xs us Q I r h
 obtain⟨j,rfl,q⟩:=h
 obtain⟨u,rfl,t,rfl⟩:=vals1 r
 refine call_range_1 ?_
 exact⟨.ref s.heap.objs.size,_,I.laid (o:=.rng 0 j) (fun b o e=>Å _ e) (Ï _) ⟨_,_,_,Ò _ rfl⟩,rfl,q _ I.fresh⟩
theorem BX:aU X (.type "range") (fun xs H Q=>∃ i j,xs=[.int i,.int j]/\∀ p,H p=none->Q (.ref p) (upd H p (.rng i j))):=by
 intro pins s σ H xs us Q I r h
 obtain⟨i,j,rfl,q⟩:=h
 obtain⟨u,u2,rfl,⟨t,rfl⟩,⟨t2,rfl⟩⟩:=vals2 r
 refine call_range_2 ?_
 exact⟨.ref s.heap.objs.size,_,I.laid (o:=.rng i j) (fun b o e=>Å _ e) (Ï _) ⟨_,_,_,Ò _ rfl⟩,rfl,q _ I.fresh⟩
def lX (lo hi:Int):List V:=(ý (hi - lo).toNat).map fun i=>V.int (lo+(i:Nat))
theorem vQ {lo:Int}:∀ {n:Nat}{us:List Value},us.length=n->(∀ j v,us[j]?=some v->∃ t,v=ĩ (lo+(j:Nat) * 1) t)->Vals ((ý n).map fun i=>V.int (lo+(i:Nat))) us:=by
 intro n us hl h
 have key:∀ (us:List Value) (k:Nat),(∀ j v,us[j]?=some v->∃ t,v=ĩ (lo+((k+j:Nat):Int)) t)->Vals ((List.range' k us.length).map fun i=>V.int (lo+(i:Nat))) us:=by
  intro us
  induction us with
  | nil=>intro k _; exact .nil
  | cons u us ih =>
   intro k hk
   obtain⟨t,e⟩:=hk 0 u (by simp)
   rw [í,List.range'_succ,Ą]
   refine .cons ⟨t,by simpa using e⟩ (ih (k+1) fun j v hv=>?_)
   obtain⟨t,e⟩:=hk (j+1) v (by simpa using hv)
   exact⟨t,by rw [e]; congr 2; omega⟩
 have q:=key us 0 fun j v hv=>by
  obtain⟨t,e⟩:=h j v hv
  exact⟨t,by rw [e]; simp⟩
 rw [hl,← List.range_eq_range'] at q
 exact q
theorem iK (hc:X.calm=true):aU X (.type "list") (fun xs H Q=>∃ p lo hi,xs=[.ref p]/\H p=some (.rng lo hi)/\(-1000<=lo/\lo<=1000/\-1000<=hi/\hi<=1000)/\∀ l,H l=none->Q (.ref l) (upd H l (.lst (lX lo hi)))):=by
 intro pins s σ H xs us Q I r h
 obtain⟨p,lo,hi,rfl,hp,⟨b1,b2,b3,b4⟩,q⟩:=h
 obtain⟨u,rfl,rx⟩:=vals1 r
 cases rx
 obtain⟨t,u,v,e⟩:=I.hok p _ hp
 have hsz:Builtin.Range.rangeSize lo hi 1=(((hi - lo).toNat:Nat):Int):=by rw [rangeSize_one]; split <;> omega
 refine call_list_range (I.ok.hd hc) (show IsRange s.heap p lo hi 1 t u v from e) (small_one (by omega) (by omega) (by omega) (by omega)) hsz (by omega) fun h' tk acc' c' hk ho ⟨hn,hit⟩=>?_
 have hv:Vals (lX lo hi) acc'.toList:=vQ (by simpa using hn) fun j w hw=>hit j w (by simpa using hw)
 refine⟨.ref s.heap.objs.size,_,I.laid (o:=.lst (lX lo hi)) hk (Ï _) ⟨?_,acc'.toList,c',hv,by simpa using ho⟩,rfl,q _ I.fresh⟩
 unfold lX
 rw [Â,ð,ö]
 omega
end
abbrev Tie:=Int×Int
def Pr (H:Hp) (v:V) (t:Tie):Prop:=∃ p,v=.ref p/\H p=some (.tup [.int t.1,.int t.2])
abbrev Prs (H:Hp):List V->List Tie->Prop:=Paired (Pr H)
def bx (t:Tie):Int:=64 * t.1+t.2
def pX (t:Tie):Prop:=0<=t.2/\t.2<64
def gO (h:Heap) (u:Value) (t:Tie):Prop:=∃ a o t1 t2 n,u=.ref a/\h.get? a=some o/\o.cls=.type "tuple"/\o.data=.seq #[.int t.1 t1,.int t.2 t2] n
theorem gO.keep {h h':Heap}{u:Value}{t:Tie} (x:gO h u t) (k:∀ a o,h.get? a=some o->o.cls=.type "tuple"->h'.get? a=some o):gO h' u t:=by
 obtain⟨a,o,t1,t2,n,e,ho,hc,hd⟩:=x
 exact⟨a,o,t1,t2,n,e,k a o ho hc,hc,hd⟩
theorem OJ {α β:Type}{F:α->β->Prop}{l₁:List α}{l₂:List β} (h:Paired F l₁ l₂):∀ {i:Nat}{b:β},l₂[i]?=some b->∃ a,l₁[i]?=some a/\F a b:=by
 induction h with
 | nil=>intro i x e; simp at e
 | cons r t ih =>
  intro i x e
  cases i with
  | zero=>simp at e; subst e; exact⟨_,rfl,r⟩
  | succ i =>
   obtain⟨c,e1,f⟩:=ih (by simpa using e)
   exact⟨c,by simpa using e1,f⟩
theorem Eh {α β:Type}{F:α->β->Prop}{l₁:List α}{l₂:List β} (h:Paired F l₁ l₂) (da:α) (db:β):∀ (p:List Nat),(∀ i∈p,i<l₂.length)->Paired F (p.map fun i=>l₁.getD i da) (p.map fun i=>l₂.getD i db)
 | [],_=>.nil
 | i::p,hp=>by
  have hi:i<l₂.length:=hp i Ö
  obtain⟨a,e,f⟩:=OJ h (i:=i) (b:=l₂[i]) (by simp [hi])
  refine .cons ?_ (Eh h da db p fun j hj=>hp j (Ó _ hj))
  have e1:l₁.getD i da=a:=by rw [œ,e]; rfl
  have e2:l₂.getD i db=l₂[i]:=by simp [hi]
  show F (l₁.getD i da) (l₂.getD i db)
  rw [e1,e2]
  exact f
theorem Om {α:Type}:∀ us:List α,List.map (fun x=>x.snd) (us.zip us)=us
 | []=>rfl
 | u::us=>by rw [List.zip_cons_cons,Ą,Om us]
theorem gk {α:Type} (l:List α) (d:α):(ý l.length).map (fun i=>l.getD i d)=l:=by
 apply List.ext_getElem
 ·simp
 ·intro i h1 h2
  simp at h1 ⊢
  simp [h1]
section
variable {X:Cx}{pins:List (Addr×Obj)}{σ:St}{H:Hp}{s:Shared}
theorem Inv.pairs (I:Inv X pins σ H s):∀ {vs:List V}{ts:List Tie}{us:List Value},Prs H vs ts->Vals vs us->Paired (gO s.heap) us ts
 | _,_,_,.nil,r=>by cases r; exact .nil
 | _,_,_,.cons p q,r=>by
  cases r with
  | cons r rr =>
   refine .cons ?_ (I.pairs q rr)
   obtain⟨a,rfl,e⟩:=p
   cases r
   obtain⟨_,its,rv,⟨o,ho,hc,n,hd⟩⟩:=I.hok a _ e
   obtain⟨v1,v2,rfl,⟨t1,rfl⟩,⟨t2,rfl⟩⟩:=vals2 rv
   exact⟨a,o,t1,t2,n,rfl,ho,hc,hd⟩
end
section
variable {prog:Program}{w:World}{A:Around}{E:Value->Shared->Prop}{s:Shared}
theorem FW {x y:Value}{a b:Tie}{Q:Bool->Shared->Prop} (hx:gO s.heap x a) (hy:gO s.heap y b) (na:pX a) (nb:pX b) (h:Q (decide (bx a<bx b)) s):wpAny (model prog w) A (keyLt' (tuples' true) x y) Q E s:=by
 obtain⟨p,o,t1,t2,n,rfl,ho,hc,hd⟩:=hx
 obtain⟨p',o',t1',t2',n',rfl,ho',hc',hd'⟩:=hy
 obtain⟨a1,a2⟩:=a
 obtain⟨b1,b2⟩:=b
 unfold pX at na nb
 simp only at na nb
 refine W.kat_lt ho hd ho' hd' ?_
 refine W.kat_cons (wpAny_eqBool_int ?_)
 by_cases e1:a1=b1
 ·subst e1
  rw [beq_self_eq_true]
  refine W.kat_yes (W.kat_cons (wpAny_eqBool_int ?_))
  by_cases e2:a2=b2
  ·subst e2
   rw [beq_self_eq_true]
   refine W.kat_yes (W.kat_nil ?_)
   have e:decide (bx (a1,a2)<bx (a1,a2))=false:=decide_eq_false (Int.lt_irrefl _)
   rw [e] at h
   exact h
  ·rw [beq_eq_false_iff_ne.mpr e2]
   refine W.kat_no (W.kat_one _ _ (lt_int ?_))
   have e:decide (bx (a1,a2)<bx (a1,b2))=decide (a2<b2):=by
    apply decide_eq_decide.mpr
    unfold bx
    omega
   rw [e] at h
   exact h
 ·rw [beq_eq_false_iff_ne.mpr e1]
  refine W.kat_no (oneLt_int ?_)
  have e:decide (bx (a1,a2)<bx (b1,b2))=decide (a1<b1):=by
   apply decide_eq_decide.mpr
   unfold bx
   simp only
   constructor
   ·intro h; omega
   ·intro h; omega
  rw [e] at h
  exact h
theorem Gf:∀ {us:List Value}{ts:List Tie},Paired (gO s.heap) us ts->∃ fs,W.KatTups s.heap us fs/\fs.length=us.length/\∀ v∈fs,∃ i t,v=ĩ i t
 | _,_,.nil=>⟨[],.nil,rfl,fun _ h=>nomatch h⟩
 | _,_,.cons p q=>by
  obtain⟨a,o,t1,t2,n,rfl,ho,hc,hd⟩:=p
  obtain⟨fs,k,hl,hv⟩:=Gf q
  refine⟨_::fs,.cons ho hc hd (f:=ĩ _ t1) rfl k,by simp [hl],fun v hv'=>?_⟩
  rcases Ù.mp hv' with rfl | h
  ·exact⟨_,_,rfl⟩
  ·exact hv v h
theorem Ak {a:Addr}{us:List Value}{ts:List Tie}{n:Nat}{P:PySem.Fin->Shared->Prop} (ho:s.heap.get? a=some (seqObj "list" us.toArray n))
  (hp:Paired (gO s.heap) us ts) (hn:∀ t∈ts,pX t) (h64:us.length<64)
  (h:∀ p:List Nat,p.Perm (ý us.length)->(∀ i j,i<=j->j<us.length->bx (ts.getD (p.getD i 0) (0,0))<=bx (ts.getD (p.getD j 0) (0,0))) ->
   P (.done (.ret .none)) { s with heap:=sortedHeap s.heap a us (p.map fun i=>us.getD i Ě).toArray }) :
  wpAny (model prog w) A (Builtin.«list.sort» ⟨[.ref a],[]⟩) P E s:=by
 have hlen:=hp.length
 have h24:=ö
 rw [list_sort_plain]
 have ha:a<s.heap.objs.size:=Ë ho
 refine Á (listItems_at ho rfl ?_)
 refine Á (listUpdate_at ho rfl ?_ (by rw [Î,ö]; omega) (ÿ _))
 obtain⟨e1,ho1⟩:∃ e1,(s.heap.update a (æ fun _=>(#[]:Array Value))).get? a=some (seqObj "list" #[] e1):=⟨_,get?_update_seq ho (fun _=>#[])⟩
 refine Á (seqEpoch_at ho1 rfl ?_)
 refine Á (wpAny_newTuple ?_ (by show us.length<=_; rw [ö]; omega))
 refine Á (wpAny_newList ?_ (ÿ _))
 refine ú ?_
 have ho6:(((s.heap.update a (æ fun _=>(#[]:Array Value))).push (seqObj "tuple" us.toArray 0)).push (seqObj "list" #[] 0)).get? a=some (seqObj "list" #[] e1):=by
  rw [ŵ _ _ _ (by rw [size_push',Ő]; exact Ü (Ć ha)),ŵ _ _ _ (by rw [Ő]; exact Ü ha)]
  exact ho1
 have kept:∀ b o,s.heap.get? b=some o->o.cls=.type "tuple"->(((s.heap.update a (æ fun _=>(#[]:Array Value))).push (seqObj "tuple" us.toArray 0)).push (seqObj "list" #[] 0)).get? b=some o:=fun b o q hc=>by
  have hlt:b<s.heap.objs.size:=Ë q
  have hne:b≠a:=fun z=>by
   rw [z,ho] at q
   cases q
   have z2:(ï "list")=ï "tuple":=hc
   injection z2 with z3
   exact absurd z3 (by decide)
  rw [ŵ _ _ _ (by rw [size_push',Ő]; exact Ü (Ć hlt)),ŵ _ _ _ (by rw [Ő]; exact Ü hlt),Heap.get?_update_ne _ _ _ _ hne]
  exact q
 show wpAny (model prog w) A _ P E { s with heap:=((s.heap.update a (æ fun _=>(#[]:Array Value))).push (seqObj "tuple" us.toArray 0)).push (seqObj "list" #[] 0) }
 dsimp only
 have hsz:us.toArray.size=us.length:=by simp
 have hp6:Paired (gO (((s.heap.update a (æ fun _=>(#[]:Array Value))).push (seqObj "tuple" us.toArray 0)).push (seqObj "list" #[] 0))) us ts:=Paired.Bk hp fun u t x=>x.keep kept
 by_cases h2:us.toArray.size<2
 ·rw [if_pos h2,if_pos h2]
  refine Á (Ä ?_)
  rw [StateT.run_pure]
  refine Á (Ä ?_)
  dsimp only
  have eout:(arrOf (SortSt.mk' general' (us.toArray.zip us.toArray) #[] 7 none)).map (·.2)=((ý us.length).map fun i=>us.getD i Ě).toArray:=by
   rw [gk]
   show (us.toArray.zip us.toArray).map (·.2)=us.toArray
   apply Array.toList_inj.mp
   simp
   exact Om us
  rw [eout]
  refine Á (seqEpoch_at ho6 rfl ?_)
  refine Á (listUpdate_at ho6 rfl ?_ (ÿ _) (by rw [Î,Â,ð,ö]; omega))
  simp only [bne_self_eq_false,ì,if_false]
  refine Ä (h _ (List.Perm.refl _) fun i j hij hj=>?_)
  have:i=j:=by omega
  subst this
  exact Int.le_refl _
 ·rw [if_neg h2,if_neg h2]
  have h2':2<=us.length:=by omega
  obtain⟨fs,hk,hfl,hfi⟩:=Gf (s:={ s with heap:=((s.heap.update a (æ fun _=>(#[]:Array Value))).push (seqObj "tuple" us.toArray 0)).push (seqObj "list" #[] 0) }) hp6
  refine Á (W.kat_kind (T:=.type "int") hk (by omega) (fun v hv=>by obtain⟨i,t,rfl⟩:=hfi v hv; exact W.Looks.of_pure rfl) rfl ?_)
  have hcmp:∀ i j C,i<us.length->j<us.length->C (decide (bx (ts.getD i (0,0))<bx (ts.getD j (0,0)))) { s with heap:=((s.heap.update a (æ fun _=>(#[]:Array Value))).push (seqObj "tuple" us.toArray 0)).push (seqObj "list" #[] 0) } ->
    W.kas_cmp prog w A (tuples' true) (us.toArray.zip us.toArray) i j C { s with heap:=((s.heap.update a (æ fun _=>(#[]:Array Value))).push (seqObj "tuple" us.toArray 0)).push (seqObj "list" #[] 0) }:=fun i j C hi hj hC=>by
   unfold W.kas_cmp
   rw [W.kat_item rfl,W.kat_item rfl]
   have key:∀ k,k<us.length->gO (((s.heap.update a (æ fun _=>(#[]:Array Value))).push (seqObj "tuple" us.toArray 0)).push (seqObj "list" #[] 0)) (us.getD k Ě) (ts.getD k (0,0))/\pX (ts.getD k (0,0)):=fun k hk=>by
    have hk':k<ts.length:=by omega
    have ek:ts.getD k (0,0)=ts[k]:=by simp [hk']
    obtain⟨u,eu,pu⟩:=OJ hp6 (i:=k) (b:=ts[k]) (by simp [hk'])
    have eu':us.getD k Ě=u:=by rw [œ,eu]; rfl
    rw [ek,eu']
    exact⟨pu,hn _ (ť hk')⟩
   exact FW (key i hi).1 (key j hj).1 (key i hi).2 (key j hj).2 hC
  have G:=W.kas_runs (prog:=prog) (w:=w) (A:=A) (E:=E) (κ:=tuples' true) (it:=us.toArray.zip us.toArray) (n:=us.length) (s:={ s with heap:=((s.heap.update a (æ fun _=>(#[]:Array Value))).push (seqObj "tuple" us.toArray 0)).push (seqObj "list" #[] 0) })
   (Q:=fun _ st' s'=>∃ p:Array Nat,s'={ s with heap:=((s.heap.update a (æ fun _=>(#[]:Array Value))).push (seqObj "tuple" us.toArray 0)).push (seqObj "list" #[] 0) }/\arrOf st'=p.map (W.kas_item (us.toArray.zip us.toArray))/\failedOf st'=none/\NfSort.Pm us.length p/\NfSort.Up (fun i=>bx (ts.getD i (0,0))) p us.length)
   (G:=fun p s'=>s'={ s with heap:=((s.heap.update a (æ fun _=>(#[]:Array Value))).push (seqObj "tuple" us.toArray 0)).push (seqObj "list" #[] 0) }/\NfSort.Pm us.length p/\NfSort.Up (fun i=>bx (ts.getD i (0,0))) p us.length) h2' h64 (fun p' st' s' a1 a2 a3 a4=>⟨p',a4.1,a2,a3,a4.2⟩)
   (NfSort.zy hcmp (NfSort.bN (fun p hp=>⟨rfl,hp⟩) (NfSort.H9 (by omega))))
  have est:SortSt.mk' (tuples' true) (us.toArray.zip us.toArray) #[] 7 none=W.kas_st (tuples' true) (us.toArray.zip us.toArray) (List.toArray (ý us.length)):=by
   have e:=W.kas_range (us.toArray.zip us.toArray)
   rw [show (us.toArray.zip us.toArray).size=us.length by simp] at e
   show SortSt.mk' (tuples' true) (us.toArray.zip us.toArray) #[] 7 none=SortSt.mk' (tuples' true) ((List.toArray (ý us.length)).map (W.kas_item (us.toArray.zip us.toArray))) #[] 7 none
   rw [e]
  have eT:tuples' (ï "int" != ï "tuple")=tuples' true:=rfl
  rw [eT,est]
  refine Á (ĭ G ?_ fun _ _ e=>e)
  rintro ⟨⟨⟩,st'⟩ s' ⟨p,rfl,har,hf,hpm,hup⟩
  dsimp only
  have hout:=W.kat_snds (ks:=us) (vs:=us) rfl har
  rw [hout]
  have hsz2:p.size=us.length:=hpm.size
  refine Á (seqEpoch_at ho6 rfl ?_)
  refine Á (listUpdate_at ho6 rfl ?_ (ÿ _) (by rw [Î,Â,è,hsz2,ö]; omega))
  rw [hf]
  simp only [bne_self_eq_false,ì,if_false]
  refine Ä (h p.toList ?_ fun i j hij hj=>?_)
  ·have:=Array.perm_iff_toList_perm.mp hpm
   simpa using this
  ·have q:=hup i j hij hj
   unfold NfSort.kk at q
   have eg:∀ k,p.toList.getD k 0=p.getD k 0:=fun k=>by
    rw [NfSort.getD_eq,œ]
    simp
   rw [eg,eg]
   exact q
theorem pC {l:Addr}{vs:List Value}{Q:List Value->Shared->Prop} (hl:IsTup s.heap l vs.toArray)
  (h:Q vs { s with heap:=(s.heap.push (seqObj "list" #[] 0)).update s.heap.objs.size (æ (·++vs.toArray)) }) (hsz:vs.length<=sizeLine) :
  wpAny (model prog w) A (collect (.ref l)) Q E s:=by
 obtain⟨o,ho,hc,n,hd⟩:=id hl
 unfold collect
 refine Á (wpAny_runValue (Ļ entry_proto_collect' ?_))
 show wpAny _ _ (do again (.builtin "list.__iadd__" ⟨[← newList [],.ref l],[]⟩)) _ _ s
 refine Á (wpAny_newList (Ä ⟨Code.quiet_builtin _ (by decide +kernel),Ļ entry_list_iadd' ?_⟩))
 show wpAny _ _ (Ď (.ref s.heap.objs.size) (.ref l) (.ref s.heap.objs.size)) _ _ { s with heap:=s.heap.push (seqObj "list" #[] 0) }
 unfold Ď
 have ho':(s.heap.push (seqObj "list" #[] 0)).get? l=some o:=Å _ ho
 refine Á (wpAny_typeOf (T:="tuple") ⟨o,ho',hc⟩ ?_)
 have ht:(ï "tuple" == ï "tuple")=true:=by rfl
 rw [if_pos (by rw [ht]; simp)]
 refine Á (listItems_at ho' hd ?_)
 refine Á (listItems_at (xs:=#[]) (n:=0) (Ò _ rfl) rfl ?_)
 rw [if_neg (by simp)]
 refine Á (listUpdate_at (xs:=#[]) (n:=0) (Ò _ rfl) rfl ?_ (ÿ _) (by show (#[]++vs.toArray).size<=sizeLine+1; simp only [Array.size_append,Î,Ś]; omega))
 refine Ä ?_
 show wpAny (model prog w) A (do
   let o ← load s.heap.objs.size
   match o.data with
   | .seq xs _=>pure xs.toList
   | _=>unsupported "internal:collect") Q E { s with heap:=(s.heap.push (seqObj "list" #[] 0)).update s.heap.objs.size (æ (·++vs.toArray)) }
 refine Á (wpAny_load (get?_update_seq (Ò _ rfl) _) ?_)
 show wpAny _ _ (pure ((#[]:Array Value)++vs.toArray).toList) Q E _
 rw [show ((#[]:Array Value)++vs.toArray).toList=vs by simp]
 exact Ä h
theorem qW {l:Addr}{us:List Value}{ts:List Tie}{Q:Value->Shared->Prop} (hl:s.heap.IsList l us.toArray\/IsTup s.heap l us.toArray) (hp:Paired (gO s.heap) us ts) (hn:∀ t∈ts,pX t) (h64:us.length<64)
  (h:∀ p:List Nat,p.Perm (ý us.length)->(∀ i j,i<=j->j<us.length->bx (ts.getD (p.getD i 0) (0,0))<=bx (ts.getD (p.getD j 0) (0,0))) ->
   Q (.ref (s.heap.objs.size+1)) { s with heap:=sortedAll s.heap us (p.map fun i=>us.getD i Ě).toArray }) :
  wpAny (model prog w) A (call (.builtin "sorted") [.ref l]) Q E s:=by
 have h24:=ö
 refine Calls.call_function_entry kind_sorted plain_sorted entry_sorted (args_sorted1 _) ?_
 unfold Builtin.«sorted»
 refine Á (m:=checkCount "sorted" 1 1 _) (Ä ?_)
 have hsz:((s.heap.push (seqObj "list" #[] 0)).update s.heap.objs.size (æ (·++us.toArray))).objs.size=s.heap.objs.size+1:=by
  rw [Ő,size_push']
 have hoL:(((s.heap.push (seqObj "list" #[] 0)).update s.heap.objs.size (æ (·++us.toArray))).push (seqObj "list" us.toArray 0)).get? (s.heap.objs.size+1)=some (seqObj "list" us.toArray 0):=by
  rw [← hsz]; exact Ò _ rfl
 have keep:∀ b o,s.heap.get? b=some o->(((s.heap.push (seqObj "list" #[] 0)).update s.heap.objs.size (æ (·++us.toArray))).push (seqObj "list" us.toArray 0)).get? b=some o:=fun b o q=>by
  have hlt:b<s.heap.objs.size:=Ë q
  rw [ŵ _ _ _ (by rw [hsz]; exact Ü (Ć hlt)),Heap.get?_update_ne _ _ _ _ (Ü hlt),ŵ _ _ _ (Ü hlt)]
  exact q
 have go:∀ {Q':List Value->Shared->Prop},Q' us { s with heap:=(s.heap.push (seqObj "list" #[] 0)).update s.heap.objs.size (æ (·++us.toArray)) }->wpAny (model prog w) A.in1 (collect (.ref l)) Q' (fun e s'=>E e s') s:=fun {Q'} hq=>by
  rcases hl with hl | hl
  ·exact collect_list hl hq (by omega)
  ·exact pC hl hq (by omega)
 refine Á (go ?_)
 refine Á (wpAny_newList ?_ (by omega))
 show wpAny _ _ _ _ _ { s with heap:=((s.heap.push (seqObj "list" #[] 0)).update s.heap.objs.size (æ (·++us.toArray))).push (seqObj "list" us.toArray 0) }
 rw [hsz]
 refine Á (ú (Ĉ slot_list_sort ⟨_,hoL,rfl⟩ entry_list_sort (Ak hoL (Paired.Bk hp fun u t x=>x.keep fun a o e _=>keep a o e) hn h64 fun p a1 a2=>⟨_,rfl,?_⟩) (args_list_sort _)))
 exact Ä ⟨_,rfl,h p a1 a2⟩
end
section
variable {X:Cx}
theorem uD {ts:List Tie}{p:List Nat} (hp:p.Perm (ý ts.length)) (h:∀ i j,i<=j->j<ts.length->bx (ts.getD (p.getD i 0) (0,0))<=bx (ts.getD (p.getD j 0) (0,0))) :
  (p.map fun i=>ts.getD i (0,0)).Perm ts/\(p.map fun i=>ts.getD i (0,0)).Pairwise (fun a b=>bx a<=bx b):=by
 refine⟨?_,?_⟩
 ·have q:=hp.map fun i=>ts.getD i (0,0)
  rw [gk] at q
  exact q
 ·have hl:p.length=ts.length:=by simpa using hp.length_eq
  rw [List.pairwise_iff_getElem]
  intro i j hi hj hij
  rw [Â] at hi hj
  have q:=h i j (by omega) (by omega)
  have ei:p.getD i 0=p[i]:=by simp [hi]
  have ej:p.getD j 0=p[j]:=by simp [hj]
  rw [ei,ej] at q
  simpa using q
theorem tQ:aU X (.builtin "sorted") (fun xs H Q=>∃ (p:Addr) (vs:List V) (ts:List Tie),xs=[.ref p]/\(SqL X.K H p vs\/SqT X.K H p vs)/\Prs H vs ts/\(∀ t∈ts,pX t)/\ts.length<64 /\
  ∀ l ws us,H l=none->Prs H ws us->us.Perm ts->us.Pairwise (fun a b=>bx a<=bx b)->Q (.ref l) (upd H l (.lst ws))):=by
 intro pins s σ H xs us Q I r h
 obtain⟨p,vs,ts,rfl,hp,hpr,hn,h64,q⟩:=h
 obtain⟨u,rfl,rx⟩:=vals1 r
 cases rx
 have h24:=ö
 have fin:∀ its:List Value,Vals vs its->(s.heap.IsList p its.toArray\/IsTup s.heap p its.toArray)->wpAny (model X.prog X.w) X.A (call (.builtin "sorted") [.ref p]) (EP X pins σ Q) X.xe s:=fun its rv hl=>by
  have hpv:=I.pairs hpr rv
  have hlen:=hpr.length
  have hlen2:=rv.length
  refine qW hl hpv hn (by omega) fun pp hpp hord=>?_
  have eits:its.length=ts.length:=by omega
  rw [eits] at hpp hord
  obtain⟨hperm,hpw⟩:=uD hpp hord
  have hlt:∀ i∈pp,i<ts.length:=fun i hi=>List.mem_range.mp (hpp.mem_iff.mp hi)
  have hw:=Eh hpr V.non (0,0) pp hlt
  have hvv:Vals (pp.map fun i=>vs.getD i V.non) (pp.map fun i=>its.getD i Ě):=Eh rv V.non Ě pp fun i hi=>by have:=hlt i hi; omega
  obtain⟨e,he⟩:=sortedAll_at s.heap its (pp.map fun i=>its.getD i Ě).toArray
  refine⟨.ref (s.heap.objs.size+1),upd H (s.heap.objs.size+1) (.lst (pp.map fun i=>vs.getD i V.non)),I.laid (t':=s.toks) (fun b o eb=>sortedAll_old eb) (Ķ _) ?_,rfl,q _ _ _ (I.hok.fresh (Ķ _)) hw hperm hpw⟩
  refine⟨?_,_,e,hvv,he⟩
  have hl3:pp.length=ts.length:=by simpa using hpp.length_eq
  rw [Â]
  omega
 rcases hp with hp | hp
 ·obtain⟨its,rv,pl,hz⟩:=I.list hp
  exact fin its rv (.inl pl.isList)
 ·obtain⟨its,rv,pl,hz⟩:=I.tuple hp
  exact fin its rv (.inr pl)
def pD (t:Tie):PyData:=.tuple [.int t.1,.int t.2]
inductive DatV (K:Ý) (H:Hp):V->PyData->Prop
 | lst {a:Addr}{vs:List V}{ts:List Tie}:SqL K H a vs->Prs H vs ts->DatV K H (.ref a) (.list (ts.map pD))
 | tup {a:Addr}{vs:List V}{ts:List Tie}:SqT K H a vs->Prs H vs ts->DatV K H (.ref a) (.tuple (ts.map pD))
 | web {a b:Addr}{n:Int}{vs:List V}{ts:List Tie}:SqT K H a [.int n,.ref b]->SqT K H b vs->Prs H vs ts->DatV K H (.ref a) (.tuple [.int n,.tuple (ts.map pD)])
end
end L2
namespace L2
open PySem PySem.Spec PyProof.Rows HT
section
variable {prog:Program}{w:World}{A:Around}{E:Value->Shared->Prop}{s:Shared}
end
section
variable {X:Cx}{e:Expr}{te:TE}{p1 p2 p3 pos:Pos}
end
end L2
namespace PySem
open Sem (wp)
open AutoSeq1 (wpAny_loadPart')
theorem gj (l:Addr) (items:Array Value) (n:Nat) (dct:Option Addr) (sl:Array (Option Value)) :
  Meets (Builtin.«enumerate.__new__» ⟨[.type "enumerate",.ref l],[]⟩) (fun _ R s=>s.heap.get? l=some { cls:=.type "tuple",dict:=dct,data:=.seq items n,slots:=sl } /\
   R (.ok (.ret (.ref (s.heap.push { cls:=.type "tuple_iterator",data:=.fields #[.ref l,.int 0 0] }).objs.size)))
    { s with heap:=(s.heap.push { cls:=.type "tuple_iterator",data:=.fields #[.ref l,.int 0 0] }).push { cls:=.type "enumerate",data:=.fields #[.none,.bool false,.ref s.heap.objs.size,rawInt 0,.none,.none] } }) :=
 .of_wp fun prog w A R s h=>by
  obtain⟨hp,g,d,tk,os⟩:=s; obtain⟨hl,h⟩:=h
  have hsub:=sub_enumerate
  have hL:Heap.IsTuple (Shared.heap ⟨hp,g,d,tk,os⟩) l items:=⟨_,hl,rfl,n,rfl⟩
  wp_walk using wpAny_loadPart' hl
  refine wpAny_stack_any fun st=>Ä ?_
  split
  ·rename_i c _ _ _ _ _
   cases (c == ï "enumerate")
   ·wp_walk using wpAny_loadPart' hl,ų hL
    exact⟨_,rfl,h⟩
   ·wp_walk using wpAny_loadPart' hl,ų hL
    exact⟨_,rfl,h⟩
  ·wp_walk using wpAny_loadPart' hl,ų hL
   exact⟨_,rfl,h⟩
section
variable {prog:Program}{w:World}{A:Around}{E:Value->Shared->Prop}{s:Shared}
theorem gK {l:Addr}{items:Array Value}{Q:Value->Shared->Prop} (hL:s.heap.IsTuple l items)
  (h:∀ h',IsEnum h' (s.heap.objs.size+1) s.heap.objs.size 0 .none->h'.IsTupleIter s.heap.objs.size l 0->h'.objs.size=s.heap.objs.size+2 ->
   (∀ b o,s.heap.get? b=some o->h'.get? b=some o)->Q (.ref (s.heap.objs.size+1)) { s with heap:=h' }) :
  wpAny (model prog w) A (call (.type "enumerate") [.ref l]) Q E s:=by
 obtain⟨⟨c,dct,dt,sl⟩,hl,hc,n,hd⟩:=hL
 replace hc:c=.type "tuple":=hc
 replace hd:dt=.seq items n:=hd
 subst hc hd
 refine callType_new F.called_enumerate (by decide) (F.typeCall_enumerate_1 _) (F.newCall_enumerate_1 _) (fun obj=>F.args_object_init_2 obj _) F.entry_enumerate_new
  (gj l items n dct sl) ⟨hl,?_⟩
 have hz:(s.heap.push { cls:=.type "tuple_iterator",data:=.fields #[.ref l,.int 0 0] }).objs.size=s.heap.objs.size+1:=ħ ..
 show _/\_
 rw [hz]
 have he:IsEnum ((s.heap.push { cls:=.type "tuple_iterator",data:=.fields #[.ref l,.int 0 0] }).push
   { cls:=.type "enumerate",data:=.fields #[.none,.bool false,.ref s.heap.objs.size,rawInt 0,.none,.none] }) (s.heap.objs.size+1) s.heap.objs.size 0 .none:=by
  have:=Ò (s.heap.push { cls:=.type "tuple_iterator",data:=.fields #[.ref l,.int 0 0] })
   (o:={ cls:=.type "enumerate",data:=.fields #[.none,.bool false,.ref s.heap.objs.size,rawInt 0,.none,.none] }) rfl
  rw [hz] at this; exact this
 refine⟨⟨_,he,rfl⟩,h _ he ⟨_,Å _ (Ò _ rfl),rfl,rfl⟩ (by rw [ħ,hz]) fun b o x=>Å _ (Å _ x)⟩
theorem jH {it l:Addr}{i:Nat}{items}{x:Value}{Q:Value->Shared->Prop} (hit:s.heap.IsTupleIter it l i)
  (hl:s.heap.IsTuple l items) (hx:items[i]?=some x)
  (hQ:∀ h',h'.IsTupleIter it l (i+1)->ŏ it s.heap h'->Q x { s with heap:=h' }) :
  wpAny (model prog w) A (ė (.ref it)) Q E s:=by
 obtain⟨o,ho,hc,hd⟩:=id hit
 obtain⟨ol,hol,_,nl,hdl⟩:=hl
 unfold ė
 refine Á (č (name:=Ģ "__next__") hit.typeIs ő
  (Ĉ ő hit.typeIs PyProof.Rows.entry_tupleiter_next ?_ (PyProof.Rows.args_tupleiter_next _)))
 show wpAny _ _ (field (.ref it) 0 >>= _) _ _ s
 refine Á (Ű ho hd (x:=.ref l) rfl ?_)
 show wpAny _ _ (if (ü l == Ě)=true then _ else _) _ _ s
 rw [if_neg (show ¬ ((ü l == Ě)=true) from Ô)]
 show wpAny _ _ (field (.ref it) 1 >>= _) _ _ s
 refine Á (Ű ho hd (x:=.int i 0) rfl ?_)
 show wpAny _ _ (seqItems? (.ref l) >>= _) _ _ s
 refine Á (ũ hol hdl ?_)
 simp only [ģ,hx]
 refine Á (Ũ ho hd (by simp) (Ä ⟨x,rfl,Ä (hQ _ ?_ (ŀ ..))⟩))
 exact⟨_,ù _ ho (Ŵ (Ħ hd _)),(Obj.cls_mapFields ..).trans hc,by
  rw [Ħ hd]; simp [rawInt]⟩
theorem dX {it l:Addr}{i:Nat}{items}{Q:Value->Shared->Prop} (hh:A.handled=none)
  (hit:s.heap.IsTupleIter it l i) (hl:s.heap.IsTuple l items) (hx:items[i]?=none)
  (hE:∀ h' e,Heap.ExtBut it s.heap h'->(∃ o,h'.get? e=some o/\o.cls=.type "StopIteration")->E (.ref e) { s with heap:=h' }) :
  wpAny (model prog w) A (ė (.ref it)) Q E s:=by
 obtain⟨o,ho,hc,hd⟩:=id hit
 obtain⟨ol,hol,_,nl,hdl⟩:=hl
 unfold ė
 refine Á (č (name:=Ģ "__next__") hit.typeIs ő
  (Ĉ ő hit.typeIs PyProof.Rows.entry_tupleiter_next ?_ (PyProof.Rows.args_tupleiter_next _)))
 show wpAny _ _ (field (.ref it) 0 >>= _) _ _ s
 refine Á (Ű ho hd (x:=.ref l) rfl ?_)
 show wpAny _ _ (if (ü l == Ě)=true then _ else _) _ _ s
 rw [if_neg (show ¬ ((ü l == Ě)=true) from Ô)]
 show wpAny _ _ (field (.ref it) 1 >>= _) _ _ s
 refine Á (Ű ho hd (x:=.int i 0) rfl ?_)
 show wpAny _ _ (seqItems? (.ref l) >>= _) _ _ s
 refine Á (ũ hol hdl ?_)
 simp only [ģ,hx]
 refine Á (wpAny_rule (Á (Ũ ho hd (by simp) ?_)))
 show wpAny _ _ (newExc (.type "StopIteration") [] >>= _) _ _ _
 refine Á ?_
 simp only [newExc,newTuple]
 refine Á (Ė ?_ (by size_fits))
 refine Á (m:=firstArgMember _ _) (wpAny_of_eq (a:=Ě) (by first | rfl | (simp only [firstArgMember]; rfl)) ?_)
 refine Ė ?_ (by size_fits)
 simp only [raiseNew]
 refine Á (wpAny_handled ?_)
 first | rw [show A.in1.handled=none from hh] | rw [hh]
 refine Á (Ä (wpAny_throw ?_))
 exact hE _ _ (((ŀ ..).extBut.push _).push _) ⟨_,Ò _ rfl,rfl⟩
end
theorem Draws.tuple {prog:Program}{w:World}{A:Around} (hh:A.handled=none) (it l:Addr) (hne:l≠it) (items:Array Value) :
  Draws prog w A it [it,l] items.size (fun i v=>items[i]?=some v) (fun i h=>h.IsTupleIter it l i/\h.IsTuple l items) where
 live:=fun _ _ st=>let ⟨o,ho,_⟩:=st.1; ⟨o,ho⟩
 frame:=fun _ _ _ st hk=>⟨let ⟨o,ho,r⟩:=st.1; ⟨o,hk it (by simp) o ho,r⟩,let ⟨o,ho,r⟩:=st.2; ⟨o,hk l (by simp) o ho,r⟩⟩
 item:=fun i s Q E hi st hQ=>by
  refine jH st.1 st.2 (x:=items[i]) (by simp [hi]) fun h' hit' hs'=>?_
  exact hQ _ h' s.toks (by simp [hi]) ⟨hit',st.2.extBut hs'.extBut hne⟩ hs'
 done:=fun s Q E st hE=>dX hh st.1 st.2 (by simp) hE
end PySem
namespace L2
open PySem PySem.Spec PyProof.Rows
def Ite (K:Ý) (a:Addr):It :=
 ⟨fun i H=>∃ xs x,SqT K H a xs/\xs[i]?=some x,fun i H x H'=>∃ t v,x=.ref t/\H t=none/\H'=upd H t (.tup [.int i,v])/\∀ xs,SqT K H a xs->xs[i]?=some v,fun i H=>∃ xs,SqT K H a xs/\xs.length<=i⟩
theorem Ag {P:Program}{w:World}{K:Ý}{elts:List Expr}{kk:Nat}{pos:Pos} (a e it:Addr) (hei:e≠it) :
  Turn P w K (.Tuple elts kk pos) (Ite K a) [e,it] e (fun i h=>(∃ old,IsEnum h e it i old)/\h.IsTupleIter it a i) where
 mem:=by simp
 obj:=fun i h st b hb=>by
  obtain⟨⟨old,he⟩,o,ho,hc,hd⟩:=st
  rcases Ù.mp hb with rfl | hb
  ·exact⟨_,he,fun v z=>nomatch z⟩
  ·have e1:b=it:=by simpa using hb
   subst e1
   exact⟨o,ho,fun v z=>by rw [hd] at z; cases z⟩
 keep:=fun i h h' st k=>by
  obtain⟨⟨old,he⟩,o,ho,r⟩:=st
  exact⟨⟨old,k e (by simp) _ he⟩,o,k it (by simp) _ ho,r⟩
 item:=by
  intro X hP hw hK hc i pins s σ H E I hf st hg
  subst hP hw hK
  obtain⟨xs,x,hq,hx⟩:=hg
  obtain⟨its,rv,p,hz⟩:=I.tuple hq
  obtain⟨u,hu,ru⟩:=rv.get hx
  obtain⟨⟨old,he⟩,hit⟩:=st
  have hai:a≠it:=fun z=>by
   obtain⟨o,ho,hc1,_⟩:=p
   obtain⟨o',ho',hc2,_⟩:=hit
   rw [z,ho'] at ho
   cases ho
   rw [hc2] at hc1
   injection hc1 with z2
   exact absurd z2 (by decide)
  have hae:e≠a:=fun z=>by
   obtain⟨o,ho,hc1,_⟩:=p
   have he':s.heap.get? e=some _:=he
   rw [z,ho] at he'
   cases he'
   have z1:ï "enumerate"=ï "tuple":=hc1
   injection z1 with z2
   exact absurd z2 (by decide)
  have hlt:i<its.toArray.size:=by have:=(É.mp hu).1; simpa using this
  obtain⟨e0,e1,e2,e3,e4,e5⟩:=hf e (by simp)
  obtain⟨f0,f1,f2,f3,f4,f5⟩:=hf it (by simp)
  have D:=Draws.tuple (prog:=X.prog) (w:=X.w) (A:=X.A.in1) (I.ok.hd hc) it a hai its.toArray
  refine wpAny_pyNext_enum_itemD D he ⟨hit,show s.heap.IsTuple a its.toArray from p⟩ hlt hei (by simp [hei,hae]) fun x' h' tk hP ho hs' hT hsz hk=>⟨_,rfl,?_⟩
  have ex:x'=u:=by
   have hP':its[i]?=some x':=by simpa using hP
   rw [hu] at hP'
   exact (Û hP').symm
  subst ex
  refine wpAny_letOwnedTupleGo_enum ho fun h2 he2 hs2=>?_
  have hTn:H s.heap.objs.size=none:=I.hok.fresh (Ï _)
  have keep2:∀ b o,b≠e->b≠it->s.heap.get? b=some o->h2.get? b=some o:=fun b o hb1 hb2 q=>(hs2.2 b hb1).trans (hk b o hb1 hb2 q)
  have hTe:s.heap.objs.size≠e:=ń (Ë he)
  have hTup:h2.get? s.heap.objs.size=some { cls:=.type "tuple",data:=.seq #[.int i tk,x'] }:=(hs2.2 _ hTe).trans hT
  have J:Inv X pins σ (upd H s.heap.objs.size (.tup [.int i,x])) { s with heap:=h2,toks:=tk+1 }:=by
   refine I.step (g':=s.gens) (d':=s.drawn) (t':=tk+1) (ch:=[e,it]) (fun b hb=>?_) (fun b o _ _ hcb q _=>keep2 b o (fun z=>hcb (by simp [z])) (fun z=>hcb (by simp [z])) q)
    (fun b o _ _ hcb q _=>⟨o.slots,keep2 b o (fun z=>hcb (by simp [z])) (fun z=>hcb (by simp [z])) q⟩) (fun b o _ q n=>by rw [aj (Ü (Ë q))]; exact n)
    (fun b o hcb q=>⟨o,keep2 b o (fun z=>hcb (by simp [z])) (fun z=>hcb (by simp [z])) q⟩) (fun b ys q=>by rw [aj (aq q hTn)]; exact q) (fun b o y q=>by rw [aj (aq q hTn)]; exact q)
    (fun b ps q=>⟨#[],by rw [aj (aq q hTn),q]; simp⟩) (fun m hm=>?_) ?_ I.bare
   ·rcases Ù.mp hb with rfl | hb
    ·exact⟨e3,e1,e4,e5⟩
    ·have z:b=it:=by simpa using hb
     subst z
     exact⟨f3,f1,f4,f5⟩
   ·obtain⟨o,es,ep,ho',r⟩:=hm
    exact⟨o,es,ep,keep2 _ o (ċ e1) (ċ f1) ho',r⟩
   ·intro b u' q
    have nT:∀ {c y},H c=some y->c≠e/\c≠it:=fun {c y} z=>⟨fun v=>(by rw [v,e0] at z; exact nomatch z),fun v=>(by rw [v,f0] at z; exact nomatch z)⟩
    by_cases hb:b=s.heap.objs.size
    ·subst hb
     rw [ao] at q
     cases q
     exact⟨(by show 2<=sizeLine; decide),[.int i tk,x'],.cons ⟨_,rfl⟩ (.cons ru .nil),_,hTup,rfl,_,rfl⟩
    ·rw [aj hb] at q
     refine (I.hok b u' q).stay (fun c v hcv y=>keep2 c v ?_ ?_ y) (fun c y=>by rw [aj (aq y hTn)]; exact y) fun c ys y=>by rw [aj (aq y hTn)]; exact y
     ·rcases hcv with rfl | z
      ·exact (nT q).1
      ·exact (nT z).1
     ·rcases hcv with rfl | z
      ·exact (nT q).2
      ·exact (nT z).2
  refine⟨.ref s.heap.objs.size,_,J,rfl,⟨_,x,rfl,hTn,rfl,fun ys hy=>by rw [I.pZ hy hq]; exact hx⟩,⟨⟨x',?_⟩,?_⟩,fun b hb=>?_⟩
  ·have he3:IsEnum h2 e it ((i:Int)+1) x':=by simpa using he2
   have ec:((i+1:Nat):Int)=(i:Int)+1:=by omega
   rw [ec]
   exact he3
  ·obtain⟨o,ho2,r⟩:=hs'.1
   exact⟨o,(hs2.2 it (ċ hei)).trans ho2,r⟩
  ·rw [aj]
   ·exact (hf b hb).1
   ·rcases Ù.mp hb with rfl | hb
    ·exact ċ hTe
    ·have z:b=it:=by simpa using hb
     subst z
     obtain⟨o,ho2,_⟩:=hit
     exact Ü (Ë ho2)
 done:=by
  intro X hP hw hK hc i pins s σ H E I hf st hg
  subst hP hw hK
  obtain⟨xs,hq,hx⟩:=hg
  obtain⟨its,rv,p,hz⟩:=I.tuple hq
  obtain⟨⟨old,he⟩,hit⟩:=st
  obtain⟨f0,f1,f2,f3,f4,f5⟩:=hf it (by simp)
  have hl:=rv.length
  have hT:s.TypeIs (.ref e) "enumerate":=⟨_,he,rfl⟩
  unfold pyNext
  refine Á (wpAny_attempt (č (name:=Ģ "__next__") hT PySem.F.slot_enumerate_next
   (Ĉ PySem.F.slot_enumerate_next hT PySem.F.entry_enumerate_next ?_ (PySem.F.args_enumerate_next_1 _))))
  show wpAny _ _ (field (.ref e) 2 >>= _) _ _ _
  refine Á (Ű he rfl (x:=.ref it) rfl ?_)
  refine Á (dX (I.ok.hd hc) hit (show s.heap.IsTuple a its.toArray from p) (by simp; omega) fun h' x he' hx'=>?_)
  obtain⟨o,ho,hc'⟩:=hx'
  refine Á (wpAny_isInstance (T:="StopIteration") (b:=true) ⟨o,ho,hc'⟩ isSubtype_stop ?_)
  exact Ä ⟨rfl,I.turned (t':=s.toks) (fun b o hb e=>he' b o hb e) f0 f1 f3 f4 f5⟩
 self:=fun A i s Q E st h=>by
  obtain⟨⟨old,he⟩,_⟩:=st
  have hT:s.TypeIs (.ref e) "enumerate":=⟨_,he,rfl⟩
  refine wpAny_pyIter_slot hT PySem.F.slot_enumerate_iter (Ĉ PySem.F.slot_enumerate_iter hT PySem.F.entry_enumerate_iter ?_ (PySem.F.args_enumerate_iter_1 _))
  show wpAny _ _ (ret (.ref e)) _ _ s
  exact Ä ⟨_,rfl,"enumerate",_,hT,PySem.F.slot_enumerate_next.lookup,h⟩
theorem boot_enumerate:bootBuiltins "enumerate"=some (.type "enumerate"):=by decide +kernel
def Py (K:Ý) (ta:TA):TI:=fun σ H R=>ta σ H fun vs H1=>∃ a,vs=[.ref a]/\(∃ xs,SqT K H1 a xs)/\R (Ite K a) H1
theorem Ir {X:Cx}{elts:List Expr}{kk:Nat}{tpos:Pos}{a:Expr}{ta:TA}{p pos:Pos} (hg:Gl X "enumerate") (hm:X.mg "enumerate"=none) (ha:PA X [a] ta) (hs:starEach [a] X.env=[(false,eval a X.env)]:=by rfl):PI X (.Tuple elts kk tpos) (.Call (.Name "enumerate" p) [a] [] pos) (Py X.K ta):=by
 intro pins s σ H R I h
 refine Call_ (dh I hg hm boot_enumerate (ā (thn (ha pos pins s σ H _ I h) fun us s1 ⟨vs,H1,I1,r1,q1⟩=>?_) hs rfl))
 obtain⟨b,e,⟨xs,hq⟩,q⟩:=q1
 subst e
 obtain⟨u,rfl,rx⟩:=vals1 r1
 cases rx
 obtain⟨its,rv,pt,hz⟩:=I1.tuple hq
 refine gK (show s1.heap.IsTuple b its.toArray from pt) fun h' he hit hsz hk=>?_
 have I2:Inv X pins σ H1 { s1 with heap:=h' }:=I1.kept (t':=s1.toks) hk
 have T:Turn X.prog X.w X.K (.Tuple elts kk tpos) (Ite X.K b) [s1.heap.objs.size+1,s1.heap.objs.size] (s1.heap.objs.size+1) (fun i h=>(∃ old,IsEnum h (s1.heap.objs.size+1) s1.heap.objs.size i old)/\h.IsTupleIter s1.heap.objs.size b i):=Ag b _ _ (ń (Œ _))
 refine T.self _ 0 _ _ _ ⟨⟨_,he⟩,hit⟩ ⟨_,_,_,_,H1,rfl,I2,T,⟨⟨_,he⟩,hit⟩,fun c hc=>?_,q⟩
 rcases Ù.mp hc with rfl | hc
 ·exact I1.Bw (Ķ _) (I1.hok.fresh (Ķ _))
 ·have z:c=s1.heap.objs.size:=by simpa using hc
  subst z
  exact I1.Bw (Ï _) (I1.hok.fresh (Ï _))
section
variable {κ:Type} [DecidableEq κ]
def fM (kvs:List (κ×V)) (k:κ):Option V:=(kvs.find? fun kv=>decide (kv.1=k)).map (·.2)
def putK (kvs:List (κ×V)) (k:κ) (v:V):List (κ×V) :=
 if (kvs.any fun kv=>decide (kv.1=k))=true then kvs.map (fun kv=>if kv.1=k then (kv.1,v) else kv) else kvs++[(k,v)]
theorem jg {p:κ×V}{r:List (κ×V)}{k:κ} (e:p.1=k):fM (p::r) k=some p.2:=by simp [fM,ň,e]
theorem nj {p:κ×V}{r:List (κ×V)}{k:κ} (e:¬ p.1=k):fM (p::r) k=fM r k:=by simp [fM,ň,e]
theorem uq (k:κ):∀ kvs:List (κ×V),(kvs.any fun kv=>decide (kv.1=k))=(fM kvs k).isSome
 | []=>rfl
 | p::r=>by
  rw [List.any_cons]
  by_cases e:p.1=k
  ·simp only [jg e,decide_eq_true e,Bool.true_or,Option.isSome_some]
  ·rw [nj e,decide_eq_false e,Bool.false_or]; exact uq k r
theorem gq (kvs:List (κ×V)) (k:κ) (v:V):(putK kvs k v).length<=kvs.length+1:=by
 unfold putK
 split
 ·rw [Â]; omega
 ·rw [È,í,Ś]; omega
theorem pK.lB {o:Option V}{u:Option Value} (r:pK o u):o.isSome=u.isSome:=by
 cases o with
 | none=>cases u with
  | none=>rfl
  | some _=>exact (show False from r).elim
 | some _=>cases u with
  | none=>exact (show False from r).elim
  | some _=>rfl
theorem KV.val {kvs:List (κ×V)}{vs:List (κ×Value)} (r:KV kvs vs) (k:κ):pK (fM kvs k) (valueAt vs k):=by
 unfold KV at r
 induction r with
 | nil=>exact Į
 | @cons p q ps qs h t ih =>
  obtain⟨h1,h2⟩:=h
  by_cases e:p.1=k
  ·have e':q.1=k:=h1.symm.trans e
   have b:valueAt (q::qs) k=some q.2:=by simp [valueAt,ň,e']
   rw [jg e,b]; exact h2
  ·have e':¬ q.1=k:=fun z=>e (h1.trans z)
   have b:valueAt (q::qs) k=valueAt qs k:=by simp [valueAt,ň,e']
   rw [nj e,b]; exact ih
theorem KV.any {kvs:List (κ×V)}{vs:List (κ×Value)} (r:KV kvs vs) (k:κ):(kvs.any fun kv=>decide (kv.1=k))=vs.any fun kv=>decide (kv.1=k):=by
 unfold KV at r
 induction r with
 | nil=>rfl
 | cons h t ih=>rw [List.any_cons,List.any_cons,ih,h.1]
theorem KV.repl {kvs:List (κ×V)}{vs:List (κ×Value)} (r:KV kvs vs) (k:κ) {y:V}{u:Value} (ry:RelV y u) :
  KV (kvs.map fun kv=>if kv.1=k then (kv.1,y) else kv) (vs.map fun kv=>if kv.1=k then (kv.1,u) else kv):=by
 unfold KV at r ⊢
 induction r with
 | nil=>exact .nil
 | @cons p q ps qs h t ih =>
  rw [Ą,Ą]
  refine .cons ?_ ih
  obtain⟨h1,h2⟩:=h
  by_cases e:p.1=k
  ·rw [if_pos e,if_pos (h1.symm.trans e)]; exact⟨h1,ry⟩
  ·rw [if_neg e,if_neg (fun z=>e (h1.trans z))]; exact⟨h1,h2⟩
theorem KV.put {kvs:List (κ×V)}{vs:List (κ×Value)} (r:KV kvs vs) (k:κ) {y:V}{u:Value} (ry:RelV y u):KV (putK kvs k y) (stored vs k u):=by
 unfold putK stored
 rw [r.any k]
 by_cases e:(vs.any fun kv=>decide (kv.1=k))=true
 ·rw [if_pos e,if_pos e]; exact r.repl k ry
 ·rw [if_neg e,if_neg e]; exact Paired.snoc r ⟨rfl,ry⟩
theorem KV.length {kvs:List (κ×V)}{vs:List (κ×Value)} (r:KV kvs vs):kvs.length=vs.length:=Paired.length r
end
theorem vg {P:Program}{w:World}{k:Key}{u:Value} (r:RelV (kV k) u):(aZ P w).is k u=true:=by
 cases k with
 | inl i=>obtain⟨t,e⟩:=(show ∃ t,u=ĩ i t from r); subst e; exact u6 P w i t
 | inr x=>obtain⟨t,e⟩:=(show ∃ t,u=Value.str x t from r); subst e; exact u5 P w x t
theorem qy {P:Program}{w:World}:∀ {ks:List Key}{us:List Value},Vals (ks.map kV) us->ItemsAre (aZ P w) ks us
 | [],_,r=>by rw [List.map_nil] at r; cases r; exact .nil
 | k::ks,_,r=>by
  rw [Ą] at r
  cases r with
  | cons h t=>exact .cons (vg h) (qy t)
abbrev KT (H:Hp):List (List Key×V)->List (List Key×Addr×Value)->Prop:=Paired fun p q=>p.1=q.1/\H q.2.1=some (.tup (p.1.map kV))/\RelV p.2 q.2.2
theorem KT.val {H:Hp}{kvs:List (List Key×V)}{xs:List (List Key×Addr×Value)} (r:KT H kvs xs) (k:List Key):pK (fM kvs k) ((atKey xs k).map (·.2)):=by
 induction r with
 | nil=>exact Į
 | @cons p q ps qs h t ih =>
  obtain⟨h1,_,h2⟩:=h
  by_cases e:p.1=k
  ·have e':q.1=k:=h1.symm.trans e
   have b:atKey (q::qs) k=some q.2:=by simp [atKey,ň,e']
   rw [jg e,b]; exact h2
  ·have e':¬ q.1=k:=fun z=>e (h1.trans z)
   have b:atKey (q::qs) k=atKey qs k:=by simp [atKey,ň,e']
   rw [nj e,b]; exact ih
theorem KT.repl {H:Hp}{kvs:List (List Key×V)}{xs:List (List Key×Addr×Value)} (r:KT H kvs xs) (k:List Key) {y:V}{u:Value} (ry:RelV y u) :
  KT H (kvs.map fun kv=>if kv.1=k then (kv.1,y) else kv) (xs.map (putAt k u)):=by
 induction r with
 | nil=>exact .nil
 | @cons p q ps qs h t ih =>
  rw [Ą,Ą]
  refine .cons ?_ ih
  obtain⟨h1,h2,h3⟩:=h
  unfold putAt
  by_cases e:p.1=k
  ·rw [if_pos e,if_pos (h1.symm.trans e)]; exact⟨h1,h2,ry⟩
  ·rw [if_neg e,if_neg (fun z=>e (h1.trans z))]; exact⟨h1,h2,h3⟩
theorem KT.put {H:Hp}{kvs:List (List Key×V)}{xs:List (List Key×Addr×Value)} (r:KT H kvs xs) (k:List Key) {b:Addr}{y:V}{u:Value} (hb:H b=some (.tup (k.map kV))) (ry:RelV y u) :
  KT H (putK kvs k y) (storedH xs k b u):=by
 have e:(kvs.any fun kv=>decide (kv.1=k))=(atKey xs k).isSome:=by
  rw [uq,(r.val k).lB,Option.isSome_map]
 unfold putK storedH
 rw [e]
 by_cases q:(atKey xs k).isSome=true
 ·rw [if_pos q,if_pos q]; exact r.repl k ry
 ·rw [if_neg q,if_neg q]; exact Paired.snoc r ⟨rfl,hb,ry⟩
theorem KT.keeps {H H':Hp}{kvs:List (List Key×V)}{xs:List (List Key×Addr×Value)} (r:KT H kvs xs) (ht:∀ b ys,H b=some (.tup ys)->H' b=some (.tup ys)):KT H' kvs xs :=
 Paired.Bk r fun _ _ z=>⟨z.1,ht _ _ z.2.1,z.2.2⟩
section
variable {P:Program}{w:World}{H:Hp}{h:Heap}{a:Addr}
theorem JV {u:HO} (ok:HOk P w H h) (e:Rd H a u):aM P w H h a u:=e.ok ok
theorem zU {kvs:List (Key×V)} (ok:HOk P w H h) (e:Rd H a (.dK kvs)):kvs.length<=sizeLine/\(a == sysModules)=false/\∃ vs,KV kvs vs/\h.DictOf (aZ P w) a vs :=
 show aM P w H h a (.dK kvs) from JV ok e
theorem G7 {kvs:List (Key×V)} (ok:HOk P w H h) (e:H a=some (.dK kvs)):kvs.length<=sizeLine/\(a == sysModules)=false/\∃ vs,KV kvs vs/\h.DictOf (aZ P w) a vs:=zU ok (.inl e)
theorem sI {ks:List Key} (ok:HOk P w H h) (e:H a=some (.tup (ks.map kV))):(tupleKind (aZ P w)).is h ks a:=by
 obtain⟨_,its,r,o,h1,h2,n,h3⟩:=(show aM P w H h a (.tup (ks.map kV)) from ok a _ e)
 exact⟨o,its.toArray,n,h1,h2,h3,by simpa using qy r⟩
theorem zT {kvs:List (List Key×V)} (ok:HOk P w H h) (e:Rd H a (.dT kvs)):kvs.length<=sizeLine/\(a == sysModules)=false /\
  ∃ xs,KT H kvs xs/\h.DictOfH (tupleKind (aZ P w)) a xs:=by
 obtain⟨z,y,xs,r,o,es,ep,h1,h2,h3,h4,h5⟩:=(show aM P w H h a (.dT kvs) from JV ok e)
 refine⟨z,y,xs,r,o,es,ep,h1,h2,h3,h4,fun x hx=>?_,h5⟩
 have all:∀ {l:List (List Key×V)}{m:List (List Key×Addr×Value)},KT H l m->∀ x∈m,(tupleKind (aZ P w)).is h x.1 x.2.1:=by
  intro l m q
  induction q with
  | nil=>intro x hx; exact nomatch hx
  | @cons p q ps qs hq t ih =>
   intro x hx
   rcases Ù.mp hx with e | hx
   ·subst e
    exact sI ok (by rw [← hq.1]; exact hq.2.1)
   ·exact ih x hx
 exact all r x hx
theorem P0 {kvs:List (List Key×V)} (ok:HOk P w H h) (e:H a=some (.dT kvs)):kvs.length<=sizeLine/\(a == sysModules)=false /\
  ∃ xs,KT H kvs xs/\h.DictOfH (tupleKind (aZ P w)) a xs:=zT ok (.inl e)
end
def tZ (H:Hp) (a:Addr) (y:V) (r:Option V):Prop :=
 (∃ kvs k,Rd H a (.dK kvs)/\y=kV k/\r=fM kvs k)\/∃ kvs k b,Rd H a (.dT kvs)/\y=.ref b/\H b=some (.tup (k.map kV))/\r=fM kvs k
def HB (H:Hp) (a:Addr) (y v:V) (H':Hp):Prop :=
 (∃ kvs k,H a=some (.dK kvs)/\y=kV k/\kvs.length<sizeLine/\H'=upd H a (.dK (putK kvs k v))) ∨
 ∃ kvs k b,H a=some (.dT kvs)/\y=.ref b/\H b=some (.tup (k.map kV))/\kvs.length<sizeLine/\H'=upd H a (.dT (putK kvs k v))
theorem tZ.k {H:Hp}{a:Addr}{kvs:List (Key×V)}{k:Key} (e:H a=some (.dK kvs)):tZ H a (kV k) (fM kvs k):=.inl ⟨kvs,k,.inl e,rfl,rfl⟩
theorem HB.k {H:Hp}{a:Addr}{kvs:List (Key×V)}{k:Key}{v:V} (e:H a=some (.dK kvs)) (hl:kvs.length<sizeLine):HB H a (kV k) v (upd H a (.dK (putK kvs k v))):=.inl ⟨kvs,k,e,rfl,hl,rfl⟩
section
variable {X:Cx}{pins:List (Addr×Obj)}{σ:St}{H:Hp}{s:Shared}{a:Addr}{y v:V}{u r:Value}{o:Option V}{A:Around}{E:Value->Shared->Prop}
theorem Inv.big (I:Inv X pins σ H s):sysModules<s.heap.objs.size:=by
 have h:mainGlobals<s.heap.objs.size:=(I.mod.glob.keeps I.bk).lt
 exact Nat.lt_trans (by decide) h
theorem BL {Q:Value->Shared->Prop} (hu:A.units+1<cLine) (I:Inv X pins σ H s) (g:tZ H a y (some v)) (ry:RelV y u) (h:∀ w' s',Inv X pins σ H s'->RelV v w'->Q w' s') :
  wpAny (model X.prog X.w) A (getItem (.ref a) u) Q E s:=by
 rcases g with ⟨kvs,k,e,ey,l⟩ | ⟨kvs,k,b,e,ey,eb,l⟩
 ·subst ey
  obtain⟨z,hd,vs,rel,dd⟩:=zU I.hok e
  obtain⟨w',hw,rw'⟩:=pK.some_of (v:=v) (o:=valueAt vs k) (by rw [l]; exact rel.val k)
  exact wpAny_getItem_of (vg ry) dd.mapOf hw (h w' _ (I.tok _) rw')
 ·subst ey
  cases (show u=ü b from ry)
  obtain⟨z,hd,xs,rel,dd⟩:=zT I.hok e
  obtain⟨w',hw,rw'⟩:=pK.some_of (v:=v) (o:=(atKey xs k).map (·.2)) (by rw [l]; exact rel.val k)
  obtain⟨p,hp,hp2⟩:=Option.map_eq_some_iff.mp hw
  refine wpAny_getItem_heap (tupleKind_room_in1 hu) (sI I.hok eb) dd hp ?_
  rw [hp2]
  exact h w' _ (I.tok _) rw'
theorem JH {Q:Value->Shared->Prop} (hu:A.units+1<cLine) (I:Inv X pins σ H s) (g:tZ H a y o) (ry:RelV y u) (h:∀ s',Inv X pins σ H s'->Q (.bool (!o.isSome)) s') :
  wpAny (model X.prog X.w) A (compareOp .NotIn u (.ref a)) Q E s:=by
 rcases g with ⟨kvs,k,e,ey,l⟩ | ⟨kvs,k,b,e,ey,eb,l⟩
 ·subst ey
  obtain⟨z,hd,vs,rel,dd⟩:=zU I.hok e
  refine wpAny_notIn_of (vg ry) hd dd.mapOf ?_
  rw [← (rel.val k).lB,← l]
  exact h _ (I.tok _)
 ·subst ey
  cases (show u=ü b from ry)
  obtain⟨z,hd,xs,rel,dd⟩:=zT I.hok e
  refine wpAny_notIn_heap (tupleKind_room_in1 hu) (sI I.hok eb) hd dd ?_
  have q:=(rel.val k).lB
  rw [Option.isSome_map] at q
  rw [← q,← l]
  exact h _ (I.tok _)
theorem tL {h':Heap}{t':Nat}{ob:HO} (I:Inv X pins σ H s) (mu:Mut (H a)) (hs:ŏ a s.heap h') (he:∃ q,h'.get? a=some q) (new:aM X.prog X.w (upd H a ob) h' a ob) :
  Inv X pins σ (upd H a ob) { s with heap:=h',toks:=t' } :=
 I.write (x:=a) (e:=a) mu (.inl rfl) (fun b q hb z=>(hs.2 b hb).trans z) he new
theorem G8 {P:Program}{w:World}{H':Hp}{h':Heap}{kvs:List (Key×V)}{vs:List (Key×Value)} (z:kvs.length<=sizeLine) (hd:(a == sysModules)=false) (rel:KV kvs vs) (dd:h'.DictOf (aZ P w) a vs) :
  aM P w H' h' a (.dK kvs):=⟨z,hd,vs,rel,dd⟩
theorem BK {H':Hp}{Q:Unit->Shared->Prop} (hu:A.units+1<cLine) (I:Inv X pins σ H s) (g:HB H a y v H') (ry:RelV y u) (rv:RelV v r) (h:∀ s',Inv X pins σ H' s'->Q () s') :
  wpAny (model X.prog X.w) A (setItem (.ref a) u r) Q E s:=by
 rcases g with ⟨kvs,k,e,ey,l,eH⟩ | ⟨kvs,k,b,e,ey,eb,l,eH⟩
 ·subst ey eH
  obtain⟨z,hd,vs,rel,dd⟩:=G7 I.hok e
  have hz:vs.length<=sizeLine:=by rw [← rel.length]; exact z
  have hl:(putK kvs k v).length<=sizeLine:=by have:=gq kvs k v; omega
  refine wpAny_setItem_pairs (hsz:=hz) (vg ry) dd fun h' dd' hs=>h _ ?_
  have he:∃ q,h'.get? a=some q:=let ⟨q,_,_,hq,_⟩:=dd'; ⟨q,hq⟩
  exact tL I (by rw [e]; exact Į) hs he (G8 hl hd (rel.put k rv) dd')
 ·subst ey eH
  cases (show u=ü b from ry)
  obtain⟨z,hd,xs,rel,dd⟩:=P0 I.hok e
  have hz:xs.length<=sizeLine:=by rw [← Paired.length rel]; exact z
  have hl:(putK kvs k v).length<=sizeLine:=by have:=gq kvs k v; omega
  refine wpAny_setItem_heap (hsz:=hz) (tupleKind_room_in1 hu) (sI I.hok eb) dd fun h' dd' hs=>h _ ?_
  obtain⟨q,es,ep,hq,h2,h3,h4,_,h5⟩:=dd'
  refine tL I (by rw [e]; exact Į) hs ⟨q,hq⟩ ⟨hl,hd,_,(rel.put k eb rv).keeps fun c ys ec=>?_,q,es,ep,hq,h2,h3,h4,h5⟩
  rw [aj (Pg ec e (fun z=>nomatch z))]
  exact ec
end
section
variable {X:Cx}{pins:List (Addr×Obj)}{σ:St}{H:Hp}{s:Shared}{a:Addr}{kvs:List (Key×V)}{k:Key}{u:Value}{A:Around}{E:Value->Shared->Prop}
end
def JM (i:Expr):Prop:=∀ ov iv,subscripted i false ov iv=operate [ov,iv] (getItem ov iv)
theorem HX {prog:Program}{w:World}{A:Around}{E:Value->Shared->Prop}{s:Shared}{env:Env}{value slice:Expr}{pos:Pos}{T id:String}{Q:Value->Shared->Prop}
  (hl:typeLookup (.type T) "__getitem__"=pure (some (.builtin id))) (hs:JM slice)
  (h:wpAny (model prog w) A (eval value env) (fun o s₁=>wpAny (model prog w) A (eval slice env) (fun i s₂=>s₂.TypeIs o T/\wpAny (model prog w) A (getItem o i) Q E s₂) E s₁) E s) :
  wpAny (model prog w) A (eval (.Subscript value slice pos) env) Q E s:=by
 refine Subscript_ (ĭ h (fun o s₁ h₁=>ĭ h₁ (fun i s₂ h₂=>?_) fun _ _ x=>x) fun _ _ x=>x)
 obtain⟨hT,h₂⟩:=h₂
 unfold subscriptTail
 refine Á ?_
 rw [getitemInPython_of_ne hT.not_modules]
 refine Á (ż hT hl ?_)
 have fin:wpAny (model prog w) A (subscripted slice false o i) (fun r s₃=>wpAny (model prog w) A (letTemporaryGo value o r >>= fun _=>pure r) Q E s₃) E s₂:=by
  rw [hs o i]
  exact wpAny_operating (ĭ h₂ (fun r s₃ h₃=>Á (wpAny_letTemporaryGo (Ä h₃))) fun _ _ x=>x)
 first
  | exact Ä (Á fin)
  | exact Á (Ä (Á fin))
  | exact Á fin
theorem vC {X:Cx}{pins:List (Addr×Obj)}{σ:St}{H:Hp}{s:Shared}{a:Addr}{y:V}{o:Option V} (I:Inv X pins σ H s) (g:tZ H a y o):s.TypeIs (.ref a) "dict":=by
 rcases g with ⟨kvs,k,e,_,_⟩ | ⟨kvs,k,b,e,_,_,_⟩
 ·obtain⟨_,_,vs,_,dd⟩:=zU I.hok e
  exact dd.typeIs
 ·obtain⟨_,_,xs,_,dd⟩:=zT I.hok e
  exact dd.typeIs
def Oh (td ty:TE):TE:=fun σ H Q=>td σ H fun x H1=>ty σ H1 fun y H2=>∃ a v,x=.ref a/\tZ H2 a y (some v)/\Q v H2
def yp (ty td:TE):TE:=fun σ H Q=>ty σ H fun y H1=>td σ H1 fun x H2=>∃ a o,x=.ref a/\tZ H2 a y o/\Q (.bl (!o.isSome)) H2
def JT (td ty tv:TE):TS:=fun D σ H=>tv σ H fun v H1=>td σ H1 fun x H2=>ty σ H2 fun y H3=>∃ a H4,x=.ref a/\HB H3 a y v H4/\D.nx σ H4
section
variable {X:Cx}{o i e value:Expr}{pos pos' tpos:Pos}{td ty tv:TE}
theorem IK (hu:X.A.units+1<cLine) (ho:PE X o td) (hi:PE X i ty) (hs:JM i):PE X (.Subscript o i pos) (Oh td ty):=by
 intro pins s σ H Q I h
 refine HX PySem.F.slot_dict_getitem.lookup hs (thn (ho pins s σ H _ I h) fun u s1 ⟨x,H1,I1,rx,q1⟩=>thn (hi pins s1 σ H1 _ I1 q1) fun iv s2 ⟨y,H2,I2,ry,a,v,ex,g,q2⟩=>?_)
 subst ex
 obtain rfl:u=ü a:=rx
 exact⟨vC I2 g,BL hu I2 g ry fun w' s3 I3 rw'=>⟨v,H2,I3,rw',q2⟩⟩
theorem Ba (hu:X.A.units+1<cLine) (hi:PE X i ty) (ho:PE X o td):PC X .NotIn i o (yp ty td):=by
 intro pins s σ H Q I h
 refine thn (hi pins s σ H _ I h) fun iv s1 ⟨y,H1,I1,ry,q1⟩=>thn (ho pins s1 σ H1 _ I1 q1) fun u s2 ⟨x,H2,I2,rx,a,ov,ex,g,q2⟩=>?_
 subst ex
 obtain rfl:u=ü a:=rx
 exact JH hu I2 g ry fun s3 I3=>⟨.bl (!ov.isSome),H2,I3,rfl,q2⟩
theorem Il (hu:X.A.units+1<cLine) (ho:PE X o td) (hi:PE X i ty) (hv:PE X value tv) (hs:swapsWith value (some (.Subscript o i pos')) pos.line X.env=pure false) :
  PS X (.Assign [.Subscript o i pos'] value pos) (JT td ty tv):=by
 intro pins s σ H D I h
 refine wpAny_Assign_Subscript (thn (hv pins s σ H _ I h) fun r s1 ⟨v,H1,I1,rv,q1⟩=>thn (ho pins s1 σ H1 _ I1 q1) fun u s2 ⟨x,H2,I2,rx,q2⟩=>thn (hi pins s2 σ H2 _ I2 q2) fun iv s3 ⟨y,H3,I3,ry,a,H4,ex,g,q3⟩=>?_) hs
 subst ex
 obtain rfl:u=ü a:=rx
 exact BK hu I3 g ry rv fun s4 I4=>⟨σ,H4,I4,q3⟩
end
theorem G9 {P:Program}{w:World}{H:Hp} (h:Heap) (hb:sysModules<h.objs.size):aM P w H (h.push { cls:=.type "dict",data:=.dict #[] }) h.objs.size (.dK []) :=
 ⟨ÿ _,beq_eq_false_iff_ne.mpr (ċ (Ü hb)),[],.nil,Heap.DictOf.new h⟩
section
variable {X:Cx}{pos:Pos}
end
def vW:List (TE×TE)->St->Hp->(List (V×V)->Hp->Prop)->Prop
 | [],_,H,Q=>Q [] H
 | (tk,tv)::r,σ,H,Q=>tk σ H fun x H1=>tv σ H1 fun y H2=>vW r σ H2 fun ps H3=>Q ((x,y)::ps) H3
abbrev VV:List (V×V)->List (Value×Value)->Prop:=Paired fun p q=>RelV p.1 q.1/\RelV p.2 q.2
def PPs (X:Cx) (pos:Pos) (keys:List (Option Expr)) (values:List Expr) (trs:List (TE×TE)):Prop :=
 ∀ (pins:List (Addr×Obj)) (s:Shared) (σ:St) (H:Hp) (Q:List (V×V)->Hp->Prop),Inv X pins σ H s->vW trs σ H Q ->
  wpAny (model X.prog X.w) X.A (evalPairs (pairTrees keys values X.env pos)) (fun vs s'=>∃ ps H',Inv X pins σ H' s'/\VV ps vs/\Q ps H') X.xe s
theorem Im {X:Cx}{pos:Pos}:PPs X pos [] [] []:=fun pins s σ H Q I h=>pairTrees_nil_walk ⟨[],H,I,.nil,h⟩
theorem Ef {X:Cx}{pos:Pos}{k v:Expr}{ks:List (Option Expr)}{vs:List Expr}{tk tv:TE}{trs:List (TE×TE)} (hk:PE X k tk) (hv:PE X v tv) (hr:PPs X pos ks vs trs) :
  PPs X pos (some k::ks) (v::vs) ((tk,tv)::trs):=fun pins s σ H Q I h =>
 pairTrees_cons_walk (thn (hk pins s σ H _ I h) fun u s1 ⟨x,H1,I1,rx,q1⟩=>thn (hv pins s1 σ H1 _ I1 q1) fun w2 s2 ⟨y,H2,I2,ry,q2⟩ =>
  thn (hr pins s2 σ H2 _ I2 q2) fun ws s3 ⟨ps,H3,I3,rel,q3⟩=>⟨(x,y)::ps,H3,I3,.cons ⟨rx,ry⟩ rel,q3⟩)
def oA (kvs more:List (Key×V)):List (Key×V):=more.foldl (fun acc kv=>putK acc kv.1 kv.2) kvs
theorem KV.merge:∀ {more:List (Key×V)}{rs:List (Key×Value)}{kvs:List (Key×V)}{vs:List (Key×Value)},KV more rs->KV kvs vs->KV (oA kvs more) (merged vs rs):=by
 intro more rs kvs vs r
 unfold KV at r
 induction r generalizing kvs vs with
 | nil=>intro q; exact q
 | @cons p q ps qs h t ih =>
  intro r0
  have e:KV (putK kvs p.1 p.2) (stored vs q.1 q.2):=by
   have:=r0.put p.1 h.2
   rw [← h.1]; exact this
  exact ih e
theorem iJ:∀ (more kvs:List (Key×V)),(oA kvs more).length<=kvs.length+more.length
 | [],kvs=>by show kvs.length<=kvs.length+0; omega
 | p::r,kvs=>by
  have h1:=iJ r (putK kvs p.1 p.2)
  have h2:=gq kvs p.1 p.2
  show (oA (putK kvs p.1 p.2) r).length<=_
  rw [í]; omega
theorem pG {P:Program}{w:World}:∀ {kvs:List (Key×V)}{ws:List (Value×Value)},VV (kvs.map fun kv=>(kV kv.1,kv.2)) ws->∃ rs,Carries (aZ P w) ws rs/\KV kvs rs
 | [],_,r=>by rw [List.map_nil] at r; cases r; exact⟨[],Į,.nil⟩
 | p::kvs,_,r=>by
  rw [Ą] at r
  cases r with
  | @cons a b as bs h t =>
   obtain⟨rs,c,q⟩:=pG (P:=P) (w:=w) t
   obtain⟨b1,b2⟩:=b
   exact⟨(p.1,b2)::rs,⟨vg h.1,rfl,c⟩,.cons ⟨rfl,h.2⟩ q⟩
def Og (trs:List (TE×TE)):TE:=fun σ H Q=>∀ p,H p=none->vW trs σ (upd H p (.dK [])) fun ps H2=>H2 p=some (.dK [])/\∃ kvs:List (Key×V),ps=kvs.map (fun kv=>(kV kv.1,kv.2))/\kvs.length<=15/\Q (.ref p) (upd H2 p (.dK (oA [] kvs)))
theorem Iz {X:Cx}{pos:Pos}{keys:List (Option Expr)}{values:List Expr}{trs:List (TE×TE)} (h:PPs X pos keys values trs) (hall:keys.all (·.isSome)=true) (hl:keys.length=values.length) (h0:keys≠[])
  (h15:keys.length<=15):PE X (.Dict keys values pos) (Og trs):=by
 intro pins s σ H Q I q
 have hn:=I.hok.fresh (Ï s.heap.objs.size)
 have I1:=I.laid (a:=s.heap.objs.size) (o:=.dK []) (h':=s.heap.push { cls:=.type "dict",data:=.dict #[] }) (t':=s.toks) (fun _ _ q=>Å _ q) (Ï _) (G9 s.heap I.big)
 refine wpAny_Dict_walk (knd:=aZ X.prog X.w) hall hl h0 h15 (thn (h pins _ σ _ _ I1 (q _ hn)) fun ws s2 ⟨ps,H2,I2,rel,e,kvs,ep,lk,q2⟩=>?_)
 subst ep
 obtain⟨rs,c,rk⟩:=pG (P:=X.prog) (w:=X.w) rel
 obtain⟨z,hd,vs0,r0,dd⟩:=G7 I2.hok e
 cases r0
 refine⟨rs,c,dd,fun h' dd' hs=>⟨.ref s.heap.objs.size,_,?_,rfl,q2⟩⟩
 have hz:(oA [] kvs).length<=sizeLine:=by
  have h1:=iJ kvs []
  rw [Ś] at h1
  rw [ö]; omega
 have he:∃ q,h'.get? s.heap.objs.size=some q:=let ⟨q,_,_,hq,_⟩:=dd'; ⟨q,hq⟩
 exact tL I2 (by rw [e]; exact Į) hs he (G8 hz hd (rk.merge .nil) dd')
structure M1 (X:Cx) (o:Expr) (m:Str) (apos:Pos) (e:Expr) (cpos:Pos):Prop where
 base:attributeBase o m X.env (eval o X.env)=eval o X.env
 few:((backTo cpos (starEach [e] X.env)).all (fun x=>!x.1)&&(backToKw cpos (keywordEach [] X.env)).all (fun x=>x.1.isSome)
 &&decide (([e]:List Expr).length+([]:List Keyword).length+(if ([]:List Keyword).isEmpty then 0 else 1)<30))=true
 line:(apos.endLine == cpos.line)=true
 trees:backTo cpos (starEach [e] X.env)=[(false,eval e X.env)]
structure M2 (X:Cx) (o:Expr) (m:Str) (apos:Pos) (e f:Expr) (cpos:Pos):Prop where
 base:attributeBase o m X.env (eval o X.env)=eval o X.env
 few:((backTo cpos (starEach [e,f] X.env)).all (fun x=>!x.1)&&(backToKw cpos (keywordEach [] X.env)).all (fun x=>x.1.isSome)
 &&decide (([e,f]:List Expr).length+([]:List Keyword).length+(if ([]:List Keyword).isEmpty then 0 else 1)<30))=true
 line:(apos.endLine == cpos.line)=true
 trees:backTo cpos (starEach [e,f] X.env)=[(false,eval e X.env),(false,eval f X.env)]
section
variable {X:Cx}{pins:List (Addr×Obj)}{σ:St}{H:Hp}{s:Shared}{a:Addr}{y d:V}{u r:Value}{o:Option V}{A:Around}{E:Value->Shared->Prop}
end
section
variable {X:Cx}{o e f:Expr}{apos cpos:Pos}{td ty tx:TE}
end
section
variable {X:Cx}{pins:List (Addr×Obj)}{σ:St}{H:Hp}{s:Shared}{a:Addr}{kvs:List (Key×V)}{A:Around}{E:Value->Shared->Prop}
end
section
variable {X:Cx}{pins:List (Addr×Obj)}{σ:St}{H:Hp}{s:Shared}{a:Addr}{y:V}{u:Value}{A:Around}{E:Value->Shared->Prop}
end
section
variable {prog:Program}{w:World}{A:Around}{E:Value->Shared->Prop}{s:Shared}
end
section
variable {X:Cx}
end
section
variable {X:Cx}
def iD (l:List Int):PyData:=.list (l.map Æ)
inductive DatL (K:Ý) (H:Hp):V->PyData->Prop
 | flt {a:Addr}{l:List Int}:SqL K H a (l.map V.int)->DatL K H (.ref a) (iD l)
 | lists {a:Addr}{as:List Addr}{ls:List (List Int)}:SqL K H a (as.map V.ref)->Paired (fun (a:Addr) (l:List Int)=>SqL K H a (l.map V.int)) as ls->DatL K H (.ref a) (.list (ls.map iD))
end
end L2
namespace PySem
open PyProof.Rows
def QS (h:Heap) (e:Addr):Prop:=∃ oe vs,h.get? e=some oe/\oe.data=.fields vs/\vs[2]?=some .none
section
variable {M:Model}{A:Around}{E:Value->Shared->Prop}{s:Shared}{base:Heap}{env:Env}{outer:List Env}{L e:Addr}{Q:Unit->Shared->Prop}
end
end PySem
namespace L2
open PySem PySem.Spec PyProof.Rows
def QT (base:Heap) (l:List Env) (e:Addr) (cls a0:Value) (h:Heap):Prop:=base.StaysIn h/\base.get? e=none/\h.FunFrames base l/\h.TracedW base e cls a0/\QS h e
def CX1 (P:Program) (w:World):CXT:=fun outer H s E e s'=>∃ (a:Addr) (cls a0:Value) (H1:Hp) (hb:Heap),e=.ref a/\s'.os=s.os/\AllBare s'.gens/\Un (frs outer) [] H H1 s.heap s'.heap/\HOk P w H1 hb/\QT hb outer a cls a0 s'.heap /\
 (∀ b o,s.heap.get? b=some o->H b=none->b∉frs outer->hb.get? b=some o)/\(∀ b o,s.heap.get? b=some o->b∉frs outer->∃ o',hb.get? b=some o')/\E cls none H1
structure Lets (X:Cx) (E:XK):Prop where
 xe:∀ e s',wpAny (model X.prog X.w) X.A (leaving X.env e) (fun _ s''=>CX1 X.prog X.w X.outer X.H₀ X.s₀ E e s'') (fun e' s''=>CX1 X.prog X.w X.outer X.H₀ X.s₀ E e' s'') s'->X.xe e s'
 stk:X.stack=X.env::X.outer
 fr:X.env.frame=some X.env.locals
 ex:X.ex=[]
section
variable {X:Cx}{pins:List (Addr×Obj)}{σ:St}{H H1:Hp}{s:Shared}{E:XK}
end
structure ExcCls (K:Ý) (C:Addr) (newId:String) (bmB:List Value):Prop where
 ex:∃ (nm q:Str) (N:Addr) (bs bm:List Value) (hdct:Bool) (sn:List Str) (sub:List Value) (ab:Bool) (col:Option Bool) (dd:Option Addr) (k0 k1 k2 k3 k5:Option Value),
  K.lookup C=some (excClassObj nm q C N bs bm hdct sn sub ab col dd k0 k1 k2 k3 k5 newId)/\W.tailIn K bmB bm=true/\W.nsOkIn K N=true/\W.nsIn K N "__init__"=some none/\bm.contains (.type "BaseException")=true
section
variable {X:Cx}{E:XK}{x:Str}{C:Addr}{newId Bn initId:String}{bmB:List Value}{e:Expr}{es:List Expr}{t:TA}{np cpos pos:Pos}
end
section
variable {X:Cx}{pins:List (Addr×Obj)}{σ:St}{H:Hp}{s:Shared}{ev:Value}
theorem Inv.track {a:Addr}{o:HO} (I:Inv X pins σ H s) (hn:H a=none) (h0:∀ ob,X.s₀.heap.get? a≠some ob) (hL:a≠X.env.locals) (hC:∀ x c,X.env.cells.lookup x=some c->c≠a) (hp:∀ p∈X.pn++pins,p.1≠a)
  (new:aM X.prog X.w (upd H a o) s.heap a o):Inv X pins σ (upd H a o) s:=by
 refine⟨I.ok,I.os,I.bare,⟨I.base.keep,I.base.slot,fun b ob e n hx=>?_,I.base.there,fun b xs e=>?_,fun b ob u e=>?_,fun b ps e=>?_⟩,I.loc,I.cell,?_,fun x c e=>?_,fun p q=>?_,I.hok.track hn new,I.len⟩
 ·rw [aj (show b≠a from fun z=>h0 ob (by rw [← z]; exact e))]
  exact I.base.free b ob e n hx
 ·have q:=I.base.tups b xs e
  rw [aj (aq q hn)]
  exact q
 ·have q:=I.base.frzs b ob u e
  rw [aj (aq q hn)]
  exact q
 ·obtain⟨m,q⟩:=I.base.tbls b ps e
  exact⟨m,by rw [aj (aq q hn)]; exact q⟩
 ·rw [aj (ċ hL)]
  exact I.free
 ·rw [aj (hC x c e)]
  exact I.freeC x c e
 ·obtain⟨q1,q2,q3⟩:=I.pin p q
  exact⟨q1,by rw [aj (hp p q)]; exact q2,q3⟩
end
section
variable {X:Cx}{k:Nat}{f CF:Addr}{fd:FuncData}{ps:List Str}{sp:Sp}{E:XK}{x hx n:Str}{p np cpos epos hpos pos:Pos}{e:Expr}{es:List Expr}{t:TA}{b₀:Stmt}{suite:List Stmt}{ts:TS}{j:Nat}
end
end L2
namespace L2
open PySem PySem.W PySem.Spec PyProof.Rows
structure ExcK (K:Ý) (C:Addr):Prop where
 ex:∃ (nm q:Str) (N AF:Addr) (bs bmB:List Value) (hdct:Bool) (sn:List Str) (sub:List Value) (ab:Bool) (col:Option Bool) (dd ddF:Option Addr) (k0 k1 k2 k3 k5:Option Value) (newId B:String) (c0:Value) (cd:ClassData) (slF:Array (Option Value)),
  K.lookup C=some (excClassObj nm q C N bs (.ref AF::bmB) hdct sn sub ab col dd k0 k1 k2 k3 k5 newId)/\K.lookup AF=some ⟨c0,ddF,.cls cd,slF⟩/\nsOkIn K cd.ns=true/\(∀ n∈quietNames,nsIn K cd.ns n=some none)/\ExcAttrBase B bmB
 ga:findIn K (.ref C) "__getattribute__"=some (some (.builtin "BaseException.__getattribute__"))
 hook:findIn K (.ref C) "__getattr__"=some none
 cls:findIn K (.ref C) "__class__"=some (some (.builtin "object.__class__"))
 mro:mroIn K C (.type "object")=some true
section
variable {prog:Program}{w:World}{K:Ý}{a C:Addr}{A:Around}{E:Value->Shared->Prop}{s:Shared}
end
section
variable {X:Cx}
def JW:R2:=fun x y H Q=>∃ a b xs ys,x=.ref a/\y=.ref b/\H a=some (.tup xs)/\H b=some (.tup ys)/\xs.length+ys.length<=sizeLine/\∀ c H',(∀ d u,H d=some u->H' d=some u)->H' c=some (.tup (xs++ys))->Q (.ref c) H'
theorem Jd:OpR X (binaryOp .Add) JW:=by
 intro pins s σ H x y v u Q I rx ry h
 obtain⟨a,b,xs,ys,rfl,rfl,ha,hb,hz,q⟩:=h
 cases rx
 cases ry
 obtain⟨its,r1,p1,_⟩:=I.tuple (SqT.of ha)
 obtain⟨its2,r2,p2,_⟩:=I.tuple (SqT.of hb)
 by_cases hx:xs=[]
 ·subst hx
  cases r1
  obtain⟨m,F⟩:=I.fr
  refine add_tuples (vs:=[]) F FJ p1 p2 (fun _=>⟨.ref b,H,I,rfl,q b H (fun _ _ z=>z) (by simpa using hb)⟩) (fun z=>absurd rfl z) (fun z=>absurd rfl z) (by rw [← r2.length]; simpa using hz)
 ·refine Jc pins s σ H (.ref a) (.ref b) (.ref a) (.ref b) Q I rfl rfl ⟨a,b,xs,ys,rfl,rfl,SqT.of ha,SqT.of hb,hx,hz,fun e=>?_,fun _ p hp=>?_⟩
  ·subst e
   exact q a H (fun _ _ z=>z) (by rw [Ĵ]; exact ha)
  ·exact q p _ (fun d u z=>by rw [aj (aq z hp)]; exact z) ao
end
section
variable {K:Ý}{C c:Addr}{dd:Option Addr}{cd:ClassData}{sl:Array (Option Value)}
end
end L2
namespace Dl
open PySem L2 PyProof.Rows
abbrev D:=PyData
def kD:Key->D
 | .inl i=>.int i
 | .inr x=>.str x
mutual
inductive Rp (ok:Addr->Prop) (H:Hp):V->D->Prop
 | non:Rp ok H .non .none
 | bl (b:Bool):Rp ok H (.bl b) (.bool b)
 | int (i:Int):Rp ok H (.int i) (.int i)
 | str (x:Str):Rp ok H (.str x) (.str x)
 | lst {a:Addr}{vs:List V}{ds:List D} (o:ok a) (h:H a=some (.lst vs)) (r:Rps ok H vs ds):Rp ok H (.ref a) (.list ds)
 | tup {a:Addr}{vs:List V}{ds:List D} (h:H a=some (.tup vs)) (r:Rps ok H vs ds):Rp ok H (.ref a) (.tuple ds)
 | dct {a:Addr}{kvs:List (Key×V)}{ds:List (D×D)} (o:ok a) (h:H a=some (.dK kvs)) (r:Rkv ok H kvs ds):Rp ok H (.ref a) (.dict ds)
inductive Rps (ok:Addr->Prop) (H:Hp):List V->List D->Prop
 | nil:Rps ok H [] []
 | cons {v:V}{d:D}{vs:List V}{ds:List D} (h:Rp ok H v d) (t:Rps ok H vs ds):Rps ok H (v::vs) (d::ds)
inductive Rkv (ok:Addr->Prop) (H:Hp):List (Key×V)->List (D×D)->Prop
 | nil:Rkv ok H [] []
 | cons {k:Key}{v:V}{d:D}{vs:List (Key×V)}{ds:List (D×D)} (h:Rp ok H v d) (t:Rkv ok H vs ds):Rkv ok H ((k,v)::vs) ((kD k,d)::ds)
end
section
variable {ok ok':Addr->Prop}{H H':Hp}
mutual
theorem Rp.mono (f:∀ a,ok a->ok' a) (g:∀ a o,ok a->H a=some o->H' a=some o) (t:∀ a xs,H a=some (.tup xs)->H' a=some (.tup xs)):∀ {v:V}{d:D},Rp ok H v d->Rp ok' H' v d
 | _,_,.non=>.non
 | _,_,.bl b=>.bl b
 | _,_,.int i=>.int i
 | _,_,.str x=>.str x
 | _,_,.lst o h r=>.lst (f _ o) (g _ _ o h) (Rps.mono f g t r)
 | _,_,.tup h r=>.tup (t _ _ h) (Rps.mono f g t r)
 | _,_,.dct o h r=>.dct (f _ o) (g _ _ o h) (Rkv.mono f g t r)
theorem Rps.mono (f:∀ a,ok a->ok' a) (g:∀ a o,ok a->H a=some o->H' a=some o) (t:∀ a xs,H a=some (.tup xs)->H' a=some (.tup xs)):∀ {v:List V}{d:List D},Rps ok H v d->Rps ok' H' v d
 | _,_,.nil=>.nil
 | _,_,.cons h r=>.cons (Rp.mono f g t h) (Rps.mono f g t r)
theorem Rkv.mono (f:∀ a,ok a->ok' a) (g:∀ a o,ok a->H a=some o->H' a=some o) (t:∀ a xs,H a=some (.tup xs)->H' a=some (.tup xs)):∀ {v:List (Key×V)}{d:List (D×D)},Rkv ok H v d->Rkv ok' H' v d
 | _,_,.nil=>.nil
 | _,_,.cons h r=>.cons (Rp.mono f g t h) (Rkv.mono f g t r)
end
theorem Rps.length:∀ {vs:List V}{ds:List D},Rps ok H vs ds->vs.length=ds.length
 | _,_,.nil=>rfl
 | _,_,.cons _ t=>by rw [í,í,Rps.length t]
theorem Rps.getD:∀ {vs:List V}{ds:List D}{i:Nat}{d:D},Rps ok H vs ds->ds[i]?=some d->∃ v,vs[i]?=some v/\Rp ok H v d
 | _,_,i,v,.nil,e=>by simp at e
 | _,_,0,v,.cons h t,e=>by simp at e; subst e; exact⟨_,rfl,h⟩
 | _,_,i+1,v,.cons h t,e=>by
  obtain⟨d,a,b⟩:=Rps.getD (i:=i) (d:=v) t (by simpa using e)
  exact⟨d,by simpa using a,b⟩
theorem Rps.app:∀ {vs ws:List V}{ds es:List D},Rps ok H vs ds->Rps ok H ws es->Rps ok H (vs++ws) (ds++es)
 | _,_,_,_,.nil,s=>s
 | _,_,_,_,.cons h t,s=>.cons h (Rps.app t s)
theorem Rps.snoc {vs:List V}{ds:List D}{v:V}{d:D} (h:Rps ok H vs ds) (r:Rp ok H v d):Rps ok H (vs++[v]) (ds++[d]):=h.app (.cons r .nil)
theorem Rps.take:∀ {vs:List V}{ds:List D} (n:Nat),Rps ok H vs ds->Rps ok H (vs.take n) (ds.take n)
 | _,_,0,_=>by simp; exact .nil
 | _,_,_+1,.nil=>by simp; exact .nil
 | _,_,n+1,.cons r t=>.cons r (Rps.take n t)
theorem Rps.drop:∀ {vs:List V}{ds:List D} (n:Nat),Rps ok H vs ds->Rps ok H (vs.drop n) (ds.drop n)
 | _,_,0,r=>r
 | _,_,_+1,.nil=>by simp; exact .nil
 | _,_,n+1,.cons _ t=>Rps.drop n t
theorem Rps.ofMap {α:Type}{f:α->V}{g:α->D} (h:∀ x,Rp ok H (f x) (g x)):∀ l:List α,Rps ok H (l.map f) (l.map g)
 | []=>.nil
 | x::l=>.cons (h x) (Rps.ofMap h l)
theorem Rp.int' {v:V}{i:Int} (r:Rp ok H v (.int i)):v=.int i:=by cases r; rfl
theorem Rp.bl' {v:V}{i:Bool} (r:Rp ok H v (.bool i)):v=.bl i:=by cases r; rfl
theorem Rp.str' {v:V}{i:Str} (r:Rp ok H v (.str i)):v=.str i:=by cases r; rfl
theorem Rp.bM {v:V}{ds:List D} (r:Rp ok H v (.list ds)):∃ a vs,v=.ref a/\ok a/\H a=some (.lst vs)/\Rps ok H vs ds:=by
 cases r with
 | lst o h r=>exact⟨_,_,rfl,o,h,r⟩
theorem Rp.cP {v:V}{ds:List D} (r:Rp ok H v (.tuple ds)):∃ a vs,v=.ref a/\H a=some (.tup vs)/\Rps ok H vs ds:=by
 cases r with
 | tup h r=>exact⟨_,_,rfl,h,r⟩
theorem Rps.ints:∀ {vs:List V}{ns:List Int},Rps ok H vs (ns.map Æ)->vs=ns.map V.int
 | [],[],_=>rfl
 | _,n::ns,.cons h t=>by
  have e:=h.int'
  subst e
  rw [Rps.ints t]
  rfl
theorem Rps.two {vs:List V}{d e:D} (r:Rps ok H vs [d,e]):∃ v w,vs=[v,w]/\Rp ok H v d/\Rp ok H w e:=by
 cases r with
 | cons h t =>
  cases t with
  | cons h2 t2 =>
   cases t2
   exact⟨_,_,rfl,h,h2⟩
end
mutual
def dF:D->Bool
 | .none=>true
 | .bool _=>true
 | .int _=>true
 | .str _=>true
 | .list _=>false
 | .tuple ds=>cu ds
 | .dict _=>false
def cu:List D->Bool
 | []=>true
 | d::ds=>dF d&&cu ds
end
section
variable {ok:Addr->Prop}{H:Hp}
mutual
theorem Rp.imm:∀ {v:V}{d:D},Rp ok H v d->dF d=true->Rp (fun _=>False) H v d
 | _,_,.non,_=>.non
 | _,_,.bl b,_=>.bl b
 | _,_,.int i,_=>.int i
 | _,_,.str x,_=>.str x
 | _,_,.tup h r,e=>.tup h (Rps.imm r e)
theorem Rps.imm:∀ {v:List V}{d:List D},Rps ok H v d->cu d=true->Rps (fun _=>False) H v d
 | _,_,.nil,_=>.nil
 | _,_,.cons h r,e=>.cons (Rp.imm h (by simp only [cu,à] at e; exact e.1)) (Rps.imm r (by simp only [cu,à] at e; exact e.2))
end
end
structure Pn where
 fp:Addr->Prop
 PI:Hp->Prop
 pv:V
 mono:∀ H H',PI H->(∀ b o,fp b->H b=some o->H' b=some o)->PI H'
 is:∀ H b,PI H->fp b->∃ o,H b=some o/\∀ xs,o≠.tup xs
class Gr where
 G:Pn->Hp->Prop
instance (priority:=low) grT:Gr:=⟨fun _ _=>True⟩
def lO:Pn:=⟨fun _=>False,fun _=>True,.non,fun _ _ _ _=>trivial,fun _ _ _ h=>h.elim⟩
def Kp (p:Pn) (H H':Hp):Prop:=∀ b o,H b=some o->¬ p.fp b->H' b=some o
theorem Kp.refl {p:Pn}{H:Hp}:Kp p H H:=fun _ _ h _=>h
theorem Kp.trans {p:Pn}{H H1 H2:Hp} (a:Kp p H H1) (b:Kp p H1 H2):Kp p H H2:=fun c o h n=>b c o (a c o h n) n
theorem Kp.of {p:Pn}{H H':Hp} (s:Same H H'):Kp p H H':=fun b o h _=>s b o h
inductive Sl where
 | any
 | im (d:D)
 | sh (d:D)
 | sn (d:D)
 | dw (r:Nat) (d:D)
 | pen (C:Pn->Prop)
 | rw (r:Nat) (L:List (List D))
 | tw (r:Nat) (L:List (List D))
 | scr (v:V) (b:Bool)
 | sp (r:Nat) (b:Bool) (ds:List D)
inductive Kd where
 | imm | new | reg (r:Nat) | n0 | snw | shr | wk
 deriving DecidableEq
def Kd.le:Kd->Kd->Bool
 | .imm,_=>true
 | .new,.new=>true
 | .new,.n0=>true
 | .new,.snw=>true
 | .new,.shr=>true
 | .new,.wk=>true
 | .reg r,.reg q=>r == q
 | .reg _,.n0=>true
 | .reg _,.wk=>true
 | .snw,.snw=>true
 | .snw,.n0=>true
 | .snw,.shr=>true
 | .snw,.wk=>true
 | .n0,.n0=>true
 | .n0,.wk=>true
 | .shr,.shr=>true
 | .shr,.wk=>true
 | .wk,.wk=>true
 | _,_=>false
def Kd.join (a b:Kd):Kd:=if a.le b then b else if b.le a then a else if a.le .n0&&b.le .n0 then .n0 else if a.le .shr&&b.le .shr then .shr else .wk
def norm (k:Kd) (d:D):Kd:=match k with
 | .imm=>.imm
 | k=>if dF d then .imm else k
theorem bG {k:Kd}{d:D} (h:dF d=true):norm k d=.imm:=by
 cases k <;> first
  | rfl
  | exact if_pos h
theorem jF {k:Kd}{d:D} (h:¬ dF d=true):norm k d=k:=by
 cases k <;> first
  | rfl
  | exact if_neg h
def okK (p:Pn) (H0:Hp) (own:Addr->Option Nat) (Hb:Hp):Kd->Addr->Prop
 | .imm=>fun _=>False
 | .new=>fun a=>Hb a=none
 | .reg r=>fun a=>own a=some r
 | .n0=>fun a=>H0 a=none/\¬ p.fp a
 | .snw=>fun a=>H0 a=none/\¬ p.fp a/\own a=none
 | .shr=>fun a=>¬ p.fp a/\own a=none
 | .wk=>fun a=>¬ p.fp a
structure At (p:Pn) (H0:Hp) (own:Addr->Option Nat) (Hb H:Hp):Prop where
 k0:∀ b o,H0 b=some o->¬ p.fp b->Hb b=some o
 kp:Kp p Hb H
 penb:p.PI Hb
 pen:p.PI H
 ow:∀ a r,own a=some r->H0 a=none/\¬ p.fp a/\Hb a≠none
section
variable {p:Pn}{H0 Hb H H':Hp}{own:Addr->Option Nat}
theorem At.nfp (A:At p H0 own Hb H) {a:Addr} (h:H a=none):¬ p.fp a:=fun z=>by
 obtain⟨o,e,_⟩:=p.is H a A.pen z
 rw [h] at e
 cases e
theorem At.free (A:At p H0 own Hb H) {a:Addr} (h:H a=none):Hb a=none:=by
 have hn:=A.nfp h
 cases e:Hb a with
 | none=>rfl
 | some o=>rw [A.kp a o e hn] at h; cases h
theorem At.nfb (A:At p H0 own Hb H) {a:Addr} (h:Hb a=none):¬ p.fp a:=fun z=>by
 obtain⟨o,e,_⟩:=p.is Hb a A.penb z
 rw [h] at e
 cases e
theorem At.Ja (A:At p H0 own Hb H) {a:Addr} (h:Hb a=none):own a=none:=by
 cases e:own a with
 | none=>rfl
 | some r=>exact absurd h (A.ow a r e).2.2
theorem At.h0 (A:At p H0 own Hb H) {a:Addr} (h:Hb a=none):H0 a=none:=by
 cases e:H0 a with
 | none=>rfl
 | some o=>rw [A.k0 a o e (A.nfb h)] at h; cases h
theorem cj (A:At p H0 own Hb H) {j k:Kd} (h:j.le k=true) {a:Addr} (o:okK p H0 own Hb j a):okK p H0 own Hb k a:=by
 cases j with
 | imm=>exact ş o
 | new =>
  cases k with
  | imm=>cases h
  | new=>exact o
  | reg r=>cases h
  | n0=>exact⟨A.h0 o,A.nfb o⟩
  | snw=>exact⟨A.h0 o,A.nfb o,A.Ja o⟩
  | shr=>exact⟨A.nfb o,A.Ja o⟩
  | wk=>exact A.nfb o
 | reg r =>
  cases k with
  | reg q =>
   have e:r=q:=by simpa [Kd.le] using h
   subst e
   exact o
  | n0=>exact⟨(A.ow a r o).1,(A.ow a r o).2.1⟩
  | wk=>exact (A.ow a r o).2.1
  | _=>cases h
 | n0 =>
  cases k with
  | n0=>exact o
  | wk=>exact o.2
  | _=>cases h
 | snw =>
  cases k with
  | snw=>exact o
  | n0=>exact⟨o.1,o.2.1⟩
  | shr=>exact o.2
  | wk=>exact o.2.1
  | _=>cases h
 | shr =>
  cases k with
  | shr=>exact o
  | wk=>exact o.1
  | _=>cases h
 | wk =>
  cases k with
  | wk=>exact o
  | _=>cases h
theorem jE (A:At p H0 own Hb H) {k:Kd}{a:Addr} (o:okK p H0 own Hb k a):¬ p.fp a:=by
 have:k.le .wk=true:=by cases k <;> rfl
 exact cj A this o
theorem jr (A:At p H0 own Hb H) {j k:Kd} (h:j.le k=true) {v:V}{d:D}{H2:Hp} (r:Rp (okK p H0 own Hb j) H2 v d):Rp (okK p H0 own Hb k) H2 v d :=
 r.mono (fun a o=>cj A h o) (fun _ _ _ e=>e) fun _ _ e=>e
theorem cJ (a b:Kd):a.le (a.join b)=true/\b.le (a.join b)=true:=by
 unfold Kd.join
 by_cases h:a.le b=true
 ·rw [if_pos h]; exact⟨h,by cases b <;> simp [Kd.le]⟩
 ·rw [if_neg h]
  by_cases h2:b.le a=true
  ·rw [if_pos h2]; exact⟨by cases a <;> simp [Kd.le],h2⟩
  ·rw [if_neg h2]
   by_cases h3:(a.le .n0&&b.le .n0)=true
   ·rw [if_pos h3]; exact à _ _ ▸ h3
   ·rw [if_neg h3]
    by_cases h4:(a.le .shr&&b.le .shr)=true
    ·rw [if_pos h4]; exact à _ _ ▸ h4
    ·rw [if_neg h4]; exact⟨by cases a <;> rfl,by cases b <;> rfl⟩
theorem bI {k:Kd}{v:V}{d:D}{H2:Hp} (r:Rp (okK p H0 own Hb k) H2 v d):Rp (okK p H0 own Hb (norm k d)) H2 v d:=by
 by_cases h:dF d=true
 ·rw [bG h]; exact r.imm h
 ·rw [jF h]; exact r
theorem gA (A:At p H0 own Hb H) (k:Kp p H H'):∀ a xs,H a=some (.tup xs)->H' a=some (.tup xs):=fun a xs h=>k a _ h fun z=>by
 obtain⟨o,e,n⟩:=p.is H a A.pen z
 rw [h] at e
 exact n xs (Û e).symm
theorem fQ (A:At p H0 own Hb H) (k:Kp p H H') {j:Kd}{v:V}{d:D} (r:Rp (okK p H0 own Hb j) H v d):Rp (okK p H0 own Hb j) H' v d :=
 r.mono (fun _ o=>o) (fun a o h e=>k a o e (jE A h)) (gA A k)
theorem bR (A:At p H0 own Hb H) (k:Kp p H H') {j:Kd}{v:List V}{d:List D} (r:Rps (okK p H0 own Hb j) H v d):Rps (okK p H0 own Hb j) H' v d :=
 r.mono (fun _ o=>o) (fun a o h e=>k a o e (jE A h)) (gA A k)
theorem At.go (A:At p H0 own Hb H) (k:Kp p H H') (i:p.PI H'):At p H0 own Hb H':=⟨A.k0,A.kp.trans k,A.penb,i,A.ow⟩
theorem At.base {H1:Hp} (A:At p H0 own Hb H) (B:At p H0 own H H1):At p H0 own Hb H1:=⟨A.k0,A.kp.trans B.kp,A.penb,B.pen,A.ow⟩
theorem Ft (A:At p H0 own Hb H) {k:Kd}{a:Addr} (o:okK p H0 own H k a):okK p H0 own Hb k a:=by
 cases k <;> first
  | exact o
  | exact A.free o
theorem jt (A:At p H0 own Hb H) {k:Kd}{v:V}{d:D}{H2:Hp} (r:Rp (okK p H0 own H k) H2 v d):Rp (okK p H0 own Hb k) H2 v d :=
 r.mono (fun a o=>Ft A o) (fun _ _ _ e=>e) fun _ _ e=>e
theorem At.new (A:At p H0 own Hb H) {a:Addr} (h:H a=none) (o:HO):Kp p H (upd H a o)/\p.PI (upd H a o)/\okK p H0 own Hb .new a :=
 have s:Same H (upd H a o):=fun b u q=>by rw [aj (aq q h)]; exact q
 ⟨Kp.of s,p.mono H _ A.pen fun b u _ q=>s b u q,A.free h⟩
end
structure RowsH (own:Addr->Option Nat) (r:Nat) (H:Hp) (st:Addr) (as:List Addr) (L:List (List D)):Prop where
 top:H st=some (.lst (as.map V.ref))
 nd:(st::as).Nodup
 ow:∀ a∈st::as,own a=some r
 len:as.length=L.length
 row:∀ (j:Nat) (a:Addr) (ds:List D),as[j]?=some a->L[j]?=some ds->∃ vs,H a=some (.lst vs)/\Rps (fun _=>False) H vs ds
theorem RowsH.mono {own own':Addr->Option Nat}{r:Nat}{H H':Hp}{st:Addr}{as:List Addr}{L:List (List D)} (h:RowsH own r H st as L) (g:∀ a o,own a=some r->H a=some o->own' a=some r/\H' a=some o) (t:∀ a xs,H a=some (.tup xs)->H' a=some (.tup xs)):RowsH own' r H' st as L:=by
 have live:∀ a∈st::as,∃ o,H a=some o:=fun a ha=>by
  rcases Ù.mp ha with rfl | ha
  ·exact⟨_,h.top⟩
  ·obtain⟨j,hj⟩:=ē ha
   have hl:=(É.mp hj).1
   obtain⟨vs,e,_⟩:=h.row j a _ hj (Í (by rw [← h.len]; exact hl))
   exact⟨_,e⟩
 refine⟨(g st _ (h.ow st Ö) h.top).2,h.nd,fun a ha=>?_,h.len,fun j a ds e1 e2=>?_⟩
 ·obtain⟨o,e⟩:=live a ha
  exact (g a o (h.ow a ha) e).1
 ·obtain⟨vs,e,r'⟩:=h.row j a ds e1 e2
  exact⟨vs,(g a _ (h.ow a (Ó _ (Ñ e1))) e).2,r'.mono (fun _ o=>o) (fun _ _ o=>o.elim) t⟩
theorem kJ {ok:Addr->Prop}{H:Hp}:∀ (as:List Addr) (L:List (List D)),as.length=L.length->(∀ a∈as,ok a)->(∀ (j:Nat) (a:Addr) (ds:List D),as[j]?=some a->L[j]?=some ds->∃ vs,H a=some (.lst vs)/\Rps (fun _=>False) H vs ds)->Rps ok H (as.map V.ref) (L.map Ġ)
 | [],[],_,_,_=>.nil
 | a::as,d::L,hl,h,r=>by
  obtain⟨vs,e,rs⟩:=r 0 a d rfl rfl
  exact .cons (.lst (h a Ö) e (rs.mono (fun _ o=>o.elim) (fun _ _ o=>o.elim) fun _ _ e=>e)) (kJ as L (by simpa using hl) (fun b hb=>h b (Ó _ hb)) fun j b ds e1 e2=>r (j+1) b ds e1 e2)
 | [],_::_,hl,_,_=>by cases hl
 | _::_,[],hl,_,_=>by cases hl
theorem RowsH.rp {own:Addr->Option Nat}{r:Nat}{H:Hp}{st:Addr}{as:List Addr}{L:List (List D)} (h:RowsH own r H st as L):Rp (fun a=>own a=some r) H (.ref st) (.list (L.map Ġ)) :=
 .lst (h.ow st Ö) h.top (kJ as L h.len (fun a ha=>h.ow a (Ó _ ha)) h.row)
structure RowsT (own:Addr->Option Nat) (r:Nat) (H:Hp) (st:Addr) (as:List Addr) (L:List (List D)):Prop where
 top:H st=some (.tup (as.map V.ref))
 nd:as.Nodup
 ow:∀ a∈as,own a=some r
 len:as.length=L.length
 row:∀ (j:Nat) (a:Addr) (ds:List D),as[j]?=some a->L[j]?=some ds->∃ vs,H a=some (.lst vs)/\Rps (fun _=>False) H vs ds
theorem RowsT.mono {own own':Addr->Option Nat}{r:Nat}{H H':Hp}{st:Addr}{as:List Addr}{L:List (List D)} (h:RowsT own r H st as L) (g:∀ a o,own a=some r->H a=some o->own' a=some r/\H' a=some o) (t:∀ a xs,H a=some (.tup xs)->H' a=some (.tup xs)):RowsT own' r H' st as L:=by
 refine⟨t st _ h.top,h.nd,fun a ha=>?_,h.len,fun j a ds e1 e2=>?_⟩
 ·obtain⟨j,hj⟩:=ē ha
  have hl:=(É.mp hj).1
  obtain⟨vs,e,_⟩:=h.row j a _ hj (Í (by rw [← h.len]; exact hl))
  exact (g a _ (h.ow a ha) e).1
 ·obtain⟨vs,e,r'⟩:=h.row j a ds e1 e2
  exact⟨vs,(g a _ (h.ow a (Ñ e1)) e).2,r'.mono (fun _ o=>o) (fun _ _ o=>o.elim) t⟩
theorem RowsT.rp {own:Addr->Option Nat}{r:Nat}{H:Hp}{st:Addr}{as:List Addr}{L:List (List D)} (h:RowsT own r H st as L):Rp (fun a=>own a=some r) H (.ref st) (.tuple (L.map Ġ)) :=
 .tup h.top (kJ as L h.len h.ow h.row)
def okS (p:Pn) (H0:Hp) (own:Addr->Option Nat) (b:Bool) (a:Addr):Prop:=(b=true->H0 a=none)/\¬ p.fp a/\own a=none
def gM (p:Pn) (H0:Hp) (own:Addr->Option Nat) (σ:L2.St) (H:Hp) (i:Nat):Sl->Prop
 | .any=>True
 | .im d=>∃ v,σ[i]?=some (some v)/\Rp (fun _=>False) H v d
 | .sh d=>∃ v,σ[i]?=some (some v)/\Rp (fun a=>¬ p.fp a/\own a=none) H v d
 | .sn d=>∃ v,σ[i]?=some (some v)/\Rp (fun a=>H0 a=none/\¬ p.fp a/\own a=none) H v d
 | .dw r d=>∃ v,σ[i]?=some (some v)/\Rp (fun a=>own a=some r) H v d
 | .pen C=>σ[i]?=some (some p.pv)/\C p
 | .rw r L=>∃ st as,σ[i]?=some (some (.ref st))/\RowsH own r H st as L
 | .tw r L=>∃ st as,σ[i]?=some (some (.ref st))/\RowsT own r H st as L
 | .scr v b=>σ[i]?=some (some v)/\(b=true->p=lO)
 | .sp r b ds=>∃ l vs,σ[i]?=some (some (.ref l))/\own l=some r/\H l=some (.lst vs)/\Rps (okS p H0 own b) H vs ds
structure EnvD [Gr] (p:Pn) (H0:Hp) (own:Addr->Option Nat) (σ:L2.St) (H:Hp) (ρ:List Sl):Prop where
 k0:∀ b o,H0 b=some o->¬ p.fp b->H b=some o
 pen:p.PI H
 ow:∀ a r,own a=some r->H0 a=none/\¬ p.fp a/\H a≠none
 slot:∀ i s,ρ[i]?=some s->gM p H0 own σ H i s
 len:ρ.length=σ.length
 gr:Gr.G p H0
variable [Gr]
section
variable {p:Pn}{H0 H H':Hp}{own:Addr->Option Nat}{σ:L2.St}{ρ:List Sl}
theorem EnvD.at (E:EnvD p H0 own σ H ρ):At p H0 own H H:=⟨E.k0,Kp.refl,E.pen,E.pen,E.ow⟩
theorem EnvD.go (E:EnvD p H0 own σ H ρ) (k:Kp p H H') (i:p.PI H'):EnvD p H0 own σ H' ρ:=by
 have A:=E.at
 have tp:=gA A k
 refine⟨fun b o e n=>k b o (E.k0 b o e n) n,i,fun a r e=>?_,fun j s e=>?_,E.len,E.gr⟩
 ·obtain⟨h1,h2,h3⟩:=E.ow a r e
  refine⟨h1,h2,fun z=>?_⟩
  cases q:H a with
  | none=>exact h3 q
  | some o=>rw [k a o q h2] at z; cases z
 ·have q:=E.slot j s e
  cases s with
  | any=>trivial
  | im d=>exact let ⟨v,a,b⟩:=q; ⟨v,a,b.mono (fun _ o=>o) (fun _ _ o=>o.elim) tp⟩
  | sh d=>exact let ⟨v,a,b⟩:=q; ⟨v,a,b.mono (fun _ o=>o) (fun c u o e=>k c u e o.1) tp⟩
  | sn d=>exact let ⟨v,a,b⟩:=q; ⟨v,a,b.mono (fun _ o=>o) (fun c u o e=>k c u e o.2.1) tp⟩
  | dw r d=>exact let ⟨v,a,b⟩:=q; ⟨v,a,b.mono (fun _ o=>o) (fun c u o e=>k c u e (E.ow c r o).2.1) tp⟩
  | pen C=>exact q
  | rw r L=>exact let ⟨st,as,a,b⟩:=q; ⟨st,as,a,b.mono (fun c u o e=>⟨o,k c u e (E.ow c r o).2.1⟩) tp⟩
  | tw r L=>exact let ⟨st,as,a,b⟩:=q; ⟨st,as,a,b.mono (fun c u o e=>⟨o,k c u e (E.ow c r o).2.1⟩) tp⟩
  | scr v b=>exact q
  | sp r b ds=>exact let ⟨l,vs,a,o,h,z⟩:=q; ⟨l,vs,a,o,k l _ h (E.ow l r o).2.1,z.mono (fun _ o=>o) (fun c u o e=>k c u e o.2.1) tp⟩
end
abbrev DK:=Kd->D->Prop
abbrev DE:=List Sl->DK->Prop
def aW (t:DE):TE:=fun σ H Q=>∃ p H0 own ρ P,EnvD p H0 own σ H ρ/\t ρ P/\∀ k d v H',P k d->At p H0 own H H'->Rp (okK p H0 own H k) H' v d->Q v H'
abbrev PD (X:Cx) (e:Expr) (t:DE):Prop:=PE X e (aW t)
abbrev DA:=List Sl->(List (Kd×D)->Prop)->Prop
inductive RpK (p:Pn) (H0:Hp) (own:Addr->Option Nat) (Hb H:Hp):List V->List (Kd×D)->Prop
 | nil:RpK p H0 own Hb H [] []
 | cons {v:V}{kd:Kd×D}{vs:List V}{ks:List (Kd×D)} (h:Rp (okK p H0 own Hb kd.1) H v kd.2) (t:RpK p H0 own Hb H vs ks):RpK p H0 own Hb H (v::vs) (kd::ks)
def oM (t:DA):TA:=fun σ H Q=>∃ p H0 own ρ P,EnvD p H0 own σ H ρ/\t ρ P/\∀ ks vs H',P ks->At p H0 own H H'->RpK p H0 own H H' vs ks->Q vs H'
abbrev PDA (X:Cx) (es:List Expr) (t:DA):Prop:=PA X es (oM t)
abbrev DT:=List Sl->(Bool->Prop)->Prop
def liftT (t:DT):TT:=fun σ H Q=>∃ p H0 own ρ P,EnvD p H0 own σ H ρ/\t ρ P/\∀ b H',P b->At p H0 own H H'->Q b H'
abbrev PDT (X:Cx) (e:Expr) (t:DT):Prop:=PT X e (liftT t)
theorem PE.wk {X:Cx}{e:Expr}{t t':TE} (h:PE X e t) (w:∀ σ H Q,t' σ H Q->t σ H Q):PE X e t':=fun pins s σ H Q I q=>h pins s σ H Q I (w σ H Q q)
theorem PT.wk {X:Cx}{e:Expr}{t t':TT} (h:PT X e t) (w:∀ σ H Q,t' σ H Q->t σ H Q):PT X e t':=fun pins s σ H Q I q=>h pins s σ H Q I (w σ H Q q)
theorem PA.wk {X:Cx}{e:List Expr}{t t':TA} (h:PA X e t) (w:∀ σ H Q,t' σ H Q->t σ H Q):PA X e t':=fun pos pins s σ H Q I q=>h pos pins s σ H Q I (w σ H Q q)
section
variable {X:Cx}{pos:Pos}{a b:Expr}{ta tb:DE}
theorem RpK.go {p:Pn}{H0 Hb H H':Hp}{own:Addr->Option Nat} (A:At p H0 own Hb H) (k:Kp p H H'):∀ {vs:List V}{ks:List (Kd×D)},RpK p H0 own Hb H vs ks->RpK p H0 own Hb H' vs ks
 | _,_,.nil=>.nil
 | _,_,.cons h t=>.cons (fQ A k h) (RpK.go A k t)
theorem RpK.base {p:Pn}{H0 Hb H H':Hp}{own:Addr->Option Nat} (A:At p H0 own Hb H):∀ {vs:List V}{ks:List (Kd×D)},RpK p H0 own H H' vs ks->RpK p H0 own Hb H' vs ks
 | _,_,.nil=>.nil
 | _,_,.cons h t=>.cons (jt A h) (RpK.base A t)
def tV (i:Nat):DE:=fun ρ P=>match ρ[i]? with
 | some (.im d)=>P .imm d
 | some (.sh d)=>P .shr d
 | some (.sn d)=>P .snw d
 | some (.dw r d)=>P (.reg r) d
 | some (.rw r L)=>P (.reg r) (.list (L.map Ġ))
 | some (.tw r L)=>P (.reg r) (.tuple (L.map Ġ))
 | some (.sp r b ds)=>P (if b=true then .n0 else .wk) (.list ds)
 | _=>False
theorem LK {i:Nat}{x:Str}{ps:Pos} (h:PE X (.Name x ps) (lW i)):PD X (.Name x ps) (tV i):=PE.wk h (by
 rintro σ H Q ⟨p,H0,own,ρ,P,E,t,q⟩
 unfold tV at t
 split at t
 ·rename_i d e; obtain⟨v,e1,r⟩:=E.slot i _ e; exact⟨v,e1,q _ _ _ _ t E.at r⟩
 ·rename_i d e; obtain⟨v,e1,r⟩:=E.slot i _ e; exact⟨v,e1,q _ _ _ _ t E.at r⟩
 ·rename_i d e; obtain⟨v,e1,r⟩:=E.slot i _ e; exact⟨v,e1,q _ _ _ _ t E.at r⟩
 ·rename_i d e; obtain⟨v,e1,r⟩:=E.slot i _ e; exact⟨v,e1,q _ _ _ _ t E.at r⟩
 ·rename_i r L e; obtain⟨st,as,e1,h⟩:=E.slot i _ e; exact⟨_,e1,q _ _ _ _ t E.at h.rp⟩
 ·rename_i r L e; obtain⟨st,as,e1,h⟩:=E.slot i _ e; exact⟨_,e1,q _ _ _ _ t E.at h.rp⟩
 ·rename_i r b ds e
  obtain⟨l,vs,e1,o,h,z⟩:=E.slot i _ e
  refine⟨_,e1,q _ _ _ _ t E.at ?_⟩
  cases b with
  | true=>exact .lst ⟨(E.ow l r o).1,(E.ow l r o).2.1⟩ h (z.mono (fun c n=>⟨n.1 rfl,n.2.1⟩) (fun _ _ _ e=>e) fun _ _ e=>e)
  | false=>exact .lst (E.ow l r o).2.1 h (z.mono (fun c n=>n.2.1) (fun _ _ _ e=>e) fun _ _ e=>e)
 ·exact t.elim)
def tK (d:D):DE:=fun _ P=>P .imm d
theorem jD {e:Expr}{v:V}{d:D} (h:PE X e (tC v)) (r:∀ H,Rp (fun _=>False) H v d):PD X e (tK d):=PE.wk h (by
 rintro σ H Q ⟨p,H0,own,ρ,P,E,t,q⟩
 exact q _ _ _ _ t E.at (r H))
theorem kY {i:Int}{j:Nat}:PD X (.Constant (.int i) j pos) (tK (.int i)):=jD rA fun _=>.int i
theorem Et {i:Bool}{j:Nat}:PD X (.Constant (.bool i) j pos) (tK (.bool i)):=jD O2 fun _=>.bl i
theorem iW {j:Nat}:PD X (.Constant .none j pos) (tK .none):=jD Lx fun _=>.non
abbrev G2:=Kd->D->Kd->D->DK->Prop
def t2 (g:G2) (ta tb:DE):DE:=fun ρ P=>ta ρ fun k1 d1=>tb ρ fun k2 d2=>g k1 d1 k2 d2 P
def Ok2 (g:G2) (r:R2):Prop:=∀ p H0 own Hb H x y k1 d1 k2 d2 P Q,At p H0 own Hb H->Rp (okK p H0 own Hb k1) H x d1->Rp (okK p H0 own Hb k2) H y d2->g k1 d1 k2 d2 P ->
 (∀ k d v H',P k d->Kp p H H'->p.PI H'->Rp (okK p H0 own Hb k) H' v d->Q v H')->r x y H Q
theorem zu {g:G2}{r:R2} (ok:Ok2 g r):∀ σ H Q,aW (t2 g ta tb) σ H Q->tOp r (aW ta) (aW tb) σ H Q:=by
 rintro σ H Q ⟨p,H0,own,ρ,P,E,t,q⟩
 refine⟨p,H0,own,ρ,_,E,t,fun k1 d1 v1 H1 t1 A1 r1=>?_⟩
 have E1:=E.go A1.kp A1.pen
 refine⟨p,H0,own,ρ,_,E1,t1,fun k2 d2 v2 H2 t2 A2 r2=>?_⟩
 have A:At p H0 own H H2:=A1.base A2
 exact ok p H0 own H H2 v1 v2 k1 d1 k2 d2 P Q A (fQ A1 A2.kp r1) (jt A1 r2) t2 fun k d v H' h k3 i3 r3=>q k d v H' h (A.go k3 i3) r3
theorem yV {op:Operator}{r:R2}{g:G2} (ho:OpR X (binaryOp op) r) (ok:Ok2 g r) (ha:PD X a ta) (hb:PD X b tb):PD X (.BinOp a op b pos) (t2 g ta tb):=PE.wk (bJ ho ha hb) (zu ok)
theorem nR {op:CmpOp}{r:R2}{g:G2} (ho:OpR X (compareOp op) r) (ok:Ok2 g r) (ha:PD X a ta) (hb:PD X b tb) (hm:behindInMarks op b=false):PD X (.Compare a [op] [b] pos) (t2 g ta tb):=PE.wk (IV ho ha hb hm) (zu ok)
def cQ (t:DE):DT:=fun ρ P=>t ρ fun _ d=>match d with
 | .bool b=>P b
 | _=>False
theorem oG {t:DE}:∀ σ H Q,liftT (cQ t) σ H Q->(aW t) σ H (fun x H'=>∃ k,x=.bl k/\Q k H'):=by
 rintro σ H Q ⟨p,H0,own,ρ,P,E,t,q⟩
 refine⟨p,H0,own,ρ,_,E,t,fun k d v H' h A r=>?_⟩
 cases d with
 | bool b=>exact⟨b,r.bl',q b H' h A⟩
 | _=>exact h.elim
theorem dG {op:CmpOp}{r:R2}{g:G2} (ho:OpR X (compareOp op) r) (ok:Ok2 g r) (ha:PD X a ta) (hb:PD X b tb) (hm:behindInMarks op b=false):PDT X (.Compare a [op] [b] pos) (cQ (t2 g ta tb)) :=
 PT.wk (ju ho ha hb hm) fun σ H Q h=>zu ok σ H _ (oG σ H Q h)
theorem rD {e:Expr}{t:DE} (h:PD X e t) (he:∀ whole,isTrue e X.env whole=(do let v ← whole; standAt e.pos; holding [v] (truthy v)):=by intro _; rfl):PDT X e (cQ t) :=
 PT.wk (Ld h he) fun σ H Q q=>oG σ H Q q
def Qa (t:DT):DT:=fun ρ P=>t ρ fun b=>P (!b)
theorem rE {t:DT} (ha:PDT X a t):PDT X (.UnaryOp .Not a pos) (Qa t):=PT.wk (Le ha) (by
 rintro σ H Q ⟨p,H0,own,ρ,P,E,t,q⟩
 exact⟨p,H0,own,ρ,_,E,t,fun b H' h A=>q _ H' h A⟩)
abbrev PDW (X:Cx) (e:Expr) (t:DT):Prop:=PW X e (liftT t)
theorem PW.wk {X:Cx}{e:Expr}{t t':TT} (h:PW X e t) (w:∀ σ H Q,t' σ H Q->t σ H Q):PW X e t':=fun wh pins s σ H Q I q=>h wh pins s σ H Q I (w σ H Q q)
def Nr (t u:DT):DT:=fun ρ P=>t ρ fun b=>if b=true then u ρ P else P false
def dOr (t u:DT):DT:=fun ρ P=>t ρ fun b=>if b=true then P true else u ρ P
section
variable {rest:List Expr}{t u:DT}
theorem cZ (ha:PDT X a t):PDW X (.BoolOp .And [a] pos) t:=Ii ha
theorem rC (ha:PDT X a t):PDW X (.BoolOp .Or [a] pos) t:=DY ha
theorem Gb:∀ σ H Q,liftT (Nr t u) σ H Q->Ol (liftT t) (liftT u) σ H Q:=by
 rintro σ H Q ⟨p,H0,own,ρ,P,E,t,q⟩
 refine⟨p,H0,own,ρ,_,E,t,fun b H' h A=>?_⟩
 cases b with
 | true=>exact aH ⟨p,H0,own,ρ,P,E.go A.kp A.pen,by simpa using h,fun c H2 h2 A2=>q c H2 h2 (A.base A2)⟩
 | false=>exact aB (q false H' (by simpa using h) A)
theorem Jo:∀ σ H Q,liftT (dOr t u) σ H Q->tOr (liftT t) (liftT u) σ H Q:=by
 rintro σ H Q ⟨p,H0,own,ρ,P,E,t,q⟩
 refine⟨p,H0,own,ρ,_,E,t,fun b H' h A=>?_⟩
 cases b with
 | true=>exact aH (q true H' (by simpa using h) A)
 | false=>exact aB ⟨p,H0,own,ρ,P,E.go A.kp A.pen,by simpa using h,fun c H2 h2 A2=>q c H2 h2 (A.base A2)⟩
theorem eN (ha:PDT X a t) (hb:PDW X (.BoolOp .And (b::rest) pos) u):PDW X (.BoolOp .And (a::b::rest) pos) (Nr t u):=PW.wk (Lb ha hb) Gb
theorem wG (ha:PDT X a t) (hb:PDW X (.BoolOp .Or (b::rest) pos) u):PDW X (.BoolOp .Or (a::b::rest) pos) (dOr t u):=PW.wk (JX ha hb) Jo
theorem PDW.pt {e:Expr}{t:DT} (h:PDW X e t):PDT X e t:=PW.pt h
end
end
variable [Gr]
section
variable {X:Cx}{pos:Pos}{a b e:Expr}{es:List Expr}{ta tb te:DE}{t:DA}
def j7:DA:=fun _ P=>P []
def cC (te:DE) (t:DA):DA:=fun ρ P=>te ρ fun k d=>t ρ fun ks=>P ((k,d)::ks)
theorem jz:PDA X [] j7:=PA.wk bB (by
 rintro σ H Q ⟨p,H0,own,ρ,P,E,t,q⟩
 exact q [] [] H t E.at .nil)
theorem dO (ha:PD X e te) (hr:PDA X es t) (hs:zS X e es:=by rfl):PDA X (e::es) (cC te t):=PA.wk (aG ha hr hs) (by
 rintro σ H Q ⟨p,H0,own,ρ,P,E,t,q⟩
 refine⟨p,H0,own,ρ,_,E,t,fun k d v H1 h A r=>?_⟩
 refine⟨p,H0,own,ρ,_,E.go A.kp A.pen,h,fun ks vs H2 h2 A2 r2=>?_⟩
 exact q _ _ H2 h2 (A.base A2) (.cons (fQ A A2.kp r) (RpK.base A r2)))
def joins:List (Kd×D)->Kd
 | []=>.imm
 | kd::ks=>kd.1.join (joins ks)
theorem RpK.all {p:Pn}{H0 Hb H H2:Hp}{own:Addr->Option Nat} (A:At p H0 own Hb H):∀ {vs:List V}{ks:List (Kd×D)}{k:Kd},(joins ks).le k=true->RpK p H0 own Hb H2 vs ks->Rps (okK p H0 own Hb (joins ks)) H2 vs (ks.map (·.2))
 | _,_,_,_,.nil=>.nil
 | _,kd::ks,k,e,.cons h t=>by
  have j:=cJ kd.1 (joins ks)
  exact .cons (jr A j.1 h) ((RpK.all A (k:=joins ks) (by cases joins ks <;> simp [Kd.le]) t).mono (fun a o=>cj A j.2 o) (fun _ _ _ e=>e) fun _ _ e=>e)
theorem Kd.le_refl (k:Kd):k.le k=true:=by cases k <;> simp [Kd.le]
theorem RpK.length {p:Pn}{H0 Hb H2:Hp}{own:Addr->Option Nat}:∀ {vs:List V}{ks:List (Kd×D)},RpK p H0 own Hb H2 vs ks->vs.length=ks.length
 | _,_,.nil=>rfl
 | _,_,.cons _ t=>by rw [í,í,RpK.length t]
def CZ (t:DA):DE:=fun ρ P=>t ρ fun ks=>ks.length<=1000/\P ((joins ks).join .new) (.list (ks.map (·.2)))
def nq (t:DA):DE:=fun ρ P=>t ρ fun ks=>ks.length<=1000/\P (norm (joins ks) (.tuple (ks.map (·.2)))) (.tuple (ks.map (·.2)))
theorem rM (h:PDA X es t):PD X (.List es pos) (CZ t):=PE.wk (wC h) (by
 rintro σ H Q ⟨p,H0,own,ρ,P,E,t,q⟩
 refine⟨p,H0,own,ρ,_,E,t,fun ks vs H1 h A r=>?_⟩
 have h24:=ö
 have hl:=r.length
 refine⟨by have:=h.1; omega,fun l hl=>?_⟩
 obtain⟨k2,i2,nw⟩:=A.new hl (.lst vs)
 have j:=cJ (joins ks) .new
 refine q _ _ _ _ h.2 (A.go k2 i2) (.lst (cj A j.2 nw) ao ?_)
 exact (bR A k2 (RpK.all A (Kd.le_refl _) r)).mono (fun a o=>cj A j.1 o) (fun _ _ _ e=>e) fun _ _ e=>e)
theorem nO {x1} (h:PDA X es t):PD X (.Tuple es x1 pos) (nq t):=PE.wk (Ek h) (by
 rintro σ H Q ⟨p,H0,own,ρ,P,E,t,q⟩
 refine⟨p,H0,own,ρ,_,E,t,fun ks vs H1 h A r=>?_⟩
 have h24:=ö
 have hl:=r.length
 refine⟨by have:=h.1; omega,fun l hl=>?_⟩
 obtain⟨k2,i2,nw⟩:=A.new hl (.tup vs)
 exact q _ _ _ _ h.2 (A.go k2 i2) (bI (.tup ao (bR A k2 (RpK.all A (Kd.le_refl _) r)))))
abbrev GC:=List (Kd×D)->DK->Prop
def tCl (g:GC) (t:DA):DE:=fun ρ P=>t ρ fun ks=>g ks P
def OkC (g:GC) (r:List V->Hp->VK->Prop):Prop:=∀ p H0 own Hb H vs ks P Q,At p H0 own Hb H->RpK p H0 own Hb H vs ks->g ks P ->
 (∀ k d v H',P k d->Kp p H H'->p.PI H'->Rp (okK p H0 own Hb k) H' v d->Q v H')->r vs H Q
theorem Kc {g:GC}{r:List V->Hp->VK->Prop} (ok:OkC g r):∀ σ H Q,aW (tCl g t) σ H Q->tCB r (oM t) σ H Q:=by
 rintro σ H Q ⟨p,H0,own,ρ,P,E,t,q⟩
 refine⟨p,H0,own,ρ,_,E,t,fun ks vs H1 h A r=>?_⟩
 exact ok p H0 own H H1 vs ks P Q A r h fun k d v H' h2 k2 i2 r2=>q k d v H' h2 (A.go k2 i2) r2
theorem dg {r:List V->Hp->VK->Prop}{id:String}{x:Str}{ps:Pos}{g:GC} (hc:aU X (.builtin id) r) (ok:OkC g r) (hg:Gl X x) (hm:X.mg x=none) (hv:bootBuiltins x=some (.builtin id)) (ha:PDA X (e::es) t) (hn:x≠"__name__":=by decide) (hdb:zB x:=by decide)
  (he:zS X e es:=by rfl) (hpl:zP X pos es:=by rfl):PD X (.Call (.Name x ps) (e::es) [] pos) (tCl g t):=PE.wk (bT hc hg hm hv ha hn hdb he hpl) (Kc ok)
theorem nU {r:List V->Hp->VK->Prop}{id:String}{x:Str}{ps:Pos}{g:GC} (hc:aU X (.type id) r) (ok:OkC g r) (hg:Gl X x) (hm:X.mg x=none) (hv:bootBuiltins x=some (.type id)) (ha:PDA X (e::es) t) (hn:x≠"__name__":=by decide) (hdb:zB x:=by decide)
  (he:zS X e es:=by rfl) (hpl:zP X pos es:=by rfl):PD X (.Call (.Name x ps) (e::es) [] pos) (tCl g t):=PE.wk (cD hc hg hm hv ha hn hdb he hpl) (Kc ok)
def spD (t:List D->(D->Prop)->Prop):Sp:=fun vs H Q _=>∃ ds P,Rps (fun _=>True) H vs ds/\t ds P/\∀ d v H',P d->Same H H'->Rp (fun a=>H a=none) H' v d->Q v H'
def spP (C:Pn->Prop) (t:List D->(D->Prop)->Prop):Sp:=fun vs H Q _=>∃ p vs' ds P,C p/\vs=p.pv::vs'/\p.PI H/\Rps (fun a=>¬ p.fp a) H vs' ds/\t ds P/\∀ d v H',P d->Kp p H H'->p.PI H'->Rp (fun a=>H a=none) H' v d->Q v H'
def tFn (f:List D->(D->Prop)->Prop) (t:DA):DE:=fun ρ P=>t ρ fun ks=>f (ks.map (·.2)) fun d=>P (norm .new d) d
theorem RpK.rps {p:Pn}{H0 Hb H H2:Hp}{own:Addr->Option Nat} (A:At p H0 own Hb H):∀ {vs:List V}{ks:List (Kd×D)},RpK p H0 own Hb H2 vs ks->Rps (fun a=>¬ p.fp a) H2 vs (ks.map (·.2))
 | _,_,.nil=>.nil
 | _,_,.cons h t=>.cons (h.mono (fun a o=>jE A o) (fun _ _ _ e=>e) fun _ _ e=>e) (RpK.rps A t)
theorem Jp {f:List D->(D->Prop)->Prop}:∀ σ H Q,aW (tFn f t) σ H Q->ux (spD f) [] E0 (oM t) σ H Q:=by
 rintro σ H Q ⟨p,H0,own,ρ,P,E,t,q⟩
 refine⟨p,H0,own,ρ,_,E,t,fun ks vs H1 h A r=>?_⟩
 show spD f (vs++[]) H1 Q E0
 rw [Ĵ]
 refine⟨ks.map (·.2),_,(RpK.rps A r).mono (fun _ _=>trivial) (fun _ _ _ e=>e) fun _ _ e=>e,h,fun d v H' h2 s r2=>?_⟩
 have k2:Kp p H1 H':=Kp.of s
 refine q _ d v H' h2 (A.go k2 (p.mono H1 H' A.pen fun b o _ e=>s b o e)) (bI ?_)
 exact r2.mono (fun a o=>A.free o) (fun _ _ _ e=>e) fun _ _ e=>e
def HW (C:Pn->Prop) (f:List D->(D->Prop)->Prop) (i:Nat) (t:DA):DE:=fun ρ P=>ρ[i]?=some (.pen C)/\tFn f t ρ P
theorem Ga {C:Pn->Prop}{f:List D->(D->Prop)->Prop}{i:Nat}:∀ σ H Q,aW (HW C f i t) σ H Q->ux (spP C f) [] E0 (Dc (lW i) (oM t)) σ H Q:=by
 rintro σ H Q ⟨p,H0,own,ρ,P,E,⟨hp,t⟩,q⟩
 obtain⟨hs,c⟩:=E.slot i _ hp
 refine⟨p.pv,hs,p,H0,own,ρ,_,E,t,fun ks vs H1 h A r=>?_⟩
 show spP C f ((p.pv::vs)++[]) H1 Q E0
 rw [Ĵ]
 refine⟨p,vs,ks.map (·.2),_,c,rfl,A.pen,RpK.rps A r,h,fun d v H' h2 k2 i2 r2=>?_⟩
 exact q _ d v H' h2 (A.go k2 i2) (bI (r2.mono (fun a o=>A.free o) (fun _ _ _ e=>e) fun _ _ e=>e))
def gI (C:Int->Int->Prop) (f:Int->Int->D):G2:=fun _ d1 _ d2 P=>match d1,d2 with
 | .int i,.int j=>C i j/\P .imm (f i j)
 | _,_=>False
def gI0 (f:Int->Int->D):G2:=fun _ d1 _ d2 P=>match d1,d2 with
 | .int i,.int j=>P .imm (f i j)
 | _,_=>False
theorem okI {C:Int->Int->Prop}{f:Int->Int->D}{g:Int->Int->V} (h:∀ i j H,Rp (fun _=>False) H (g i j) (f i j)):Ok2 (gI C f) (rI C g):=by
 intro p H0 own Hb H x y k1 d1 k2 d2 P Q A r1 r2 t q
 unfold gI at t
 split at t
 ·rename_i i j
  exact⟨i,j,r1.int',r2.int',t.1,q _ _ _ _ t.2 Kp.refl A.pen (h i j H)⟩
 ·exact t.elim
theorem Fv {f:Int->Int->D}{g:Int->Int->V} (h:∀ i j H,Rp (fun _=>False) H (g i j) (f i j)):Ok2 (gI0 f) (rI0 g):=by
 intro p H0 own Hb H x y k1 d1 k2 d2 P Q A r1 r2 t q
 unfold gI0 at t
 split at t
 ·rename_i i j
  exact⟨i,j,r1.int',r2.int',q _ _ _ _ t Kp.refl A.pen (h i j H)⟩
 ·exact t.elim
theorem dJ (ha:PD X a ta) (hb:PD X b tb):PD X (.BinOp a .Sub b pos) (t2 (gI0 fun i j=>.int (i - j)) ta tb):=yV LR (Fv fun i j _=>.int _) ha hb
theorem wK (ha:PD X a ta) (hb:PD X b tb):PD X (.BinOp a .Mod b pos) (t2 (gI (fun _ j=>0<j) fun i j=>.int (i % j)) ta tb):=yV eY (okI fun i j _=>.int _) ha hb
theorem yW (ha:PD X a ta) (hb:PD X b tb):PD X (.Compare a [.Gt] [b] pos) (t2 (gI0 fun i j=>.bool (decide (j<i))) ta tb):=nR EY (Fv fun i j _=>.bl _) ha hb (bW _)
theorem nM (ha:PD X a ta) (hb:PD X b tb):PDT X (.Compare a [.Lt] [b] pos) (cQ (t2 (gI0 fun i j=>.bool (decide (i<j))) ta tb)):=dG Ey (Fv fun i j _=>.bl _) ha hb (bW _)
theorem wH (ha:PD X a ta) (hb:PD X b tb):PDT X (.Compare a [.Gt] [b] pos) (cQ (t2 (gI0 fun i j=>.bool (decide (j<i))) ta tb)):=dG EY (Fv fun i j _=>.bl _) ha hb (bW _)
theorem wI (ha:PD X a ta) (hb:PD X b tb):PDT X (.Compare a [.GtE] [b] pos) (cQ (t2 (gI0 fun i j=>.bool (decide (j<=i))) ta tb)):=dG J2 (Fv fun i j _=>.bl _) ha hb (bW _)
def scD:D->D->Option Bool
 | .int i,.int j=>some (decide (i=j))
 | .bool i,.bool j=>some (decide (i=j))
 | .str i,.str j=>some (decide (i=j))
 | _,_=>none
def gEq (neg:Bool):G2:=fun _ d1 _ d2 P=>match scD d1 d2 with
 | some b=>P .imm (.bool (if neg then !b else b))
 | none=>False
theorem Qw:Ok2 (gEq false) rEq:=by
 intro p H0 own Hb H x y k1 d1 k2 d2 P Q A r1 r2 t q
 unfold gEq scD at t
 split at t
 ·rename_i b e
  split at e <;> first | cases e | skip
  ·rw [r1.int',r2.int']
   refine⟨rfl,?_⟩
   have e2:∀ i j:Int,decide (V.int i=V.int j)=decide (i=j):=fun i j=>by simp
   rw [e2]; exact q _ _ _ _ t Kp.refl A.pen (.bl _)
  ·rw [r1.bl',r2.bl']
   refine⟨rfl,?_⟩
   have e2:∀ i j:Bool,decide (V.bl i=V.bl j)=decide (i=j):=fun i j=>by simp
   rw [e2]; exact q _ _ _ _ t Kp.refl A.pen (.bl _)
  ·rw [r1.str',r2.str']
   refine⟨rfl,?_⟩
   have e2:∀ i j:Str,decide (V.str i=V.str j)=decide (i=j):=fun i j=>by simp
   rw [e2]; exact q _ _ _ _ t Kp.refl A.pen (.bl _)
 ·exact t.elim
theorem Qv:Ok2 (gEq true) rNe:=by
 intro p H0 own Hb H x y k1 d1 k2 d2 P Q A r1 r2 t q
 unfold gEq scD at t
 split at t
 ·rename_i b e
  split at e <;> first | cases e | skip
  ·rw [r1.int',r2.int']
   refine⟨rfl,?_⟩
   have e2:∀ i j:Int,decide (V.int i=V.int j)=decide (i=j):=fun i j=>by simp
   rw [e2]; exact q _ _ _ _ t Kp.refl A.pen (.bl _)
  ·rw [r1.bl',r2.bl']
   refine⟨rfl,?_⟩
   have e2:∀ i j:Bool,decide (V.bl i=V.bl j)=decide (i=j):=fun i j=>by simp
   rw [e2]; exact q _ _ _ _ t Kp.refl A.pen (.bl _)
  ·rw [r1.str',r2.str']
   refine⟨rfl,?_⟩
   have e2:∀ i j:Str,decide (V.str i=V.str j)=decide (i=j):=fun i j=>by simp
   rw [e2]; exact q _ _ _ _ t Kp.refl A.pen (.bl _)
 ·exact t.elim
def gIx:G2:=fun k1 d1 _ d2 P=>match d1,d2 with
 | .list ds,.int i=>∃ d,atI ds i=some d/\P (norm k1 d) d
 | .tuple ds,.int i=>∃ d,atI ds i=some d/\P (norm k1 d) d
 | _,_=>False
theorem Rps.atI {ok:Addr->Prop}{H:Hp}{vs:List V}{ds:List D}{i:Int}{d:D} (r:Rps ok H vs ds) (h:L2.atI ds i=some d):∃ v,L2.atI vs i=some v/\Rp ok H v d:=by
 unfold L2.atI at h ⊢
 rw [r.length]
 cases e:ixN ds.length i with
 | none=>rw [e] at h; cases h
 | some j =>
  rw [e] at h
  obtain⟨v,h1,h2⟩:=r.getD (i:=j) (d:=d) h
  exact⟨v,h1,h2⟩
theorem cY {p:Pn}{H0 Hb H:Hp}{own:Addr->Option Nat}{vs:List V}{kd:Kd×D} (r:RpK p H0 own Hb H vs [kd]):∃ v,vs=[v]/\Rp (okK p H0 own Hb kd.1) H v kd.2:=by
 cases r with
 | cons h t=>cases t; exact⟨_,rfl,h⟩
theorem Dv {p:Pn}{H0 Hb H:Hp}{own:Addr->Option Nat}{vs:List V}{kd ke:Kd×D} (r:RpK p H0 own Hb H vs [kd,ke]):∃ v w,vs=[v,w]/\Rp (okK p H0 own Hb kd.1) H v kd.2/\Rp (okK p H0 own Hb ke.1) H w ke.2:=by
 cases r with
 | cons h t =>
  cases t with
  | cons h2 t2=>cases t2; exact⟨_,_,rfl,h,h2⟩
def Jw:GC:=fun ks P=>match ks with
 | [(_,.list ds)]=>P .imm (.int ds.length)
 | [(_,.tuple ds)]=>P .imm (.int ds.length)
 | _=>False
theorem O7 {K:Ý}:OkC Jw (fun xs H Q=>∃ p ys,xs=[.ref p]/\(SqL K H p ys\/SqT K H p ys)/\Q (.int ys.length) H):=by
 intro p H0 own Hb H vs ks P Q A r t q
 unfold Jw at t
 split at t
 ·obtain⟨v,rfl,r'⟩:=cY r
  obtain⟨c,vs,rfl,o,hc,rs⟩:=r'.bM
  exact⟨c,vs,rfl,.inl (SqL.of hc),by rw [rs.length]; exact q _ _ _ _ t Kp.refl A.pen (.int _)⟩
 ·obtain⟨v,rfl,r'⟩:=cY r
  obtain⟨c,vs,rfl,hc,rs⟩:=r'.cP
  exact⟨c,vs,rfl,.inr (SqT.of hc),by rw [rs.length]; exact q _ _ _ _ t Kp.refl A.pen (.int _)⟩
 ·exact t.elim
theorem wM {ps:Pos} (hm:X.mg "len"=none) (ha:PDA X [a] t) (hg:Gl X "len":=by rfl) (he:zS X a []:=by rfl) (hpl:zP X pos []:=by rfl):PD X (.Call (.Name "len" ps) [a] [] pos) (tCl Jw t) :=
 dg cB O7 hg hm PySem.boot_len ha (by decide) (by decide) he hpl
def M7:GC:=fun ks P=>match ks with
 | [(_,.int i)]=>P .imm (.int i)
 | [(_,.bool b)]=>P .imm (.int (if b then 1 else 0))
 | _=>False
theorem gU {ps:Pos} (hm:X.mg "int"=none) (hv:bootBuiltins "int"=some (.type "int")) (ha:PDA X [a] t) (hg:Gl X "int":=by rfl) (he:zS X a []:=by rfl) (hpl:zP X pos []:=by rfl):PD X (.Call (.Name "int" ps) [a] [] pos) (tCl M7 t) :=
 nU Cj (by
  intro p H0 own Hb H vs ks P Q A r t q
  unfold M7 at t
  split at t
  ·rename_i k i
   obtain⟨v,rfl,r'⟩:=cY r
   rw [r'.int']
   exact .inl ⟨i,rfl,q _ _ _ _ t Kp.refl A.pen (.int _)⟩
  ·rename_i k i
   obtain⟨v,rfl,r'⟩:=cY r
   rw [r'.bl']
   exact .inr ⟨i,rfl,q _ _ _ _ t Kp.refl A.pen (.int _)⟩
  ·exact t.elim) hg hm hv ha (by decide) (by decide) he hpl
end
variable [Gr]
section
variable {ok ok':Addr->Prop}{H H':Hp}
mutual
theorem Rp.bL (f:∀ a o,ok a->H a=some o->ok' a/\H' a=some o) (t:∀ a xs,H a=some (.tup xs)->H' a=some (.tup xs)):∀ {v:V}{d:D},Rp ok H v d->Rp ok' H' v d
 | _,_,.non=>.non
 | _,_,.bl b=>.bl b
 | _,_,.int i=>.int i
 | _,_,.str x=>.str x
 | _,_,.lst o h r=>.lst (f _ _ o h).1 (f _ _ o h).2 (Rps.bL f t r)
 | _,_,.tup h r=>.tup (t _ _ h) (Rps.bL f t r)
 | _,_,.dct o h r=>.dct (f _ _ o h).1 (f _ _ o h).2 (Rkv.bL f t r)
theorem Rps.bL (f:∀ a o,ok a->H a=some o->ok' a/\H' a=some o) (t:∀ a xs,H a=some (.tup xs)->H' a=some (.tup xs)):∀ {v:List V}{d:List D},Rps ok H v d->Rps ok' H' v d
 | _,_,.nil=>.nil
 | _,_,.cons h r=>.cons (Rp.bL f t h) (Rps.bL f t r)
theorem Rkv.bL (f:∀ a o,ok a->H a=some o->ok' a/\H' a=some o) (t:∀ a xs,H a=some (.tup xs)->H' a=some (.tup xs)):∀ {v:List (Key×V)}{d:List (D×D)},Rkv ok H v d->Rkv ok' H' v d
 | _,_,.nil=>.nil
 | _,_,.cons h r=>.cons (Rp.bL f t h) (Rkv.bL f t r)
end
end
structure DEnds where
 nx:List Sl->Prop
 rt:D->Prop
 bk:List Sl->Prop:=fun _=>False
 ct:List Sl->Prop:=fun _=>False
abbrev DS:=DEnds->List Sl->Prop
structure FrS (p:Pn) (own:Addr->Option Nat) (H:Hp) (own':Addr->Option Nat) (H':Hp):Prop where
 keep:∀ b o,H b=some o->¬ p.fp b->own b=none->H' b=some o/\own' b=none
 tup:∀ a xs,H a=some (.tup xs)->H' a=some (.tup xs)
theorem FrS.trans {p:Pn}{o1 o2 o3:Addr->Option Nat}{H1 H2 H3:Hp} (a:FrS p o1 H1 o2 H2) (b:FrS p o2 H2 o3 H3):FrS p o1 H1 o3 H3:=⟨fun c o h n e=>let ⟨x,y⟩:=a.keep c o h n e; b.keep c o x n y,fun c xs e=>b.tup c xs (a.tup c xs e)⟩
theorem FrS.refl {p:Pn}{o1:Addr->Option Nat}{H1:Hp}:FrS p o1 H1 o1 H1:=⟨fun _ _ h _ e=>⟨h,e⟩,fun _ _ e=>e⟩
theorem At.tups {p:Pn}{H0 H H':Hp}{own:Addr->Option Nat} (A:At p H0 own H H'):∀ a xs,H a=some (.tup xs)->H' a=some (.tup xs):=gA (⟨A.k0,Kp.refl,A.penb,A.penb,A.ow⟩:At p H0 own H H) A.kp
structure RPost (p:Pn) (H0 H':Hp) (v:V) (d:D):Prop where
 k0:∀ b o,H0 b=some o->¬ p.fp b->H' b=some o
 pen:p.PI H'
 rp:Rp (fun a=>H0 a=none/\¬ p.fp a) H' v d
structure Wish (p:Pn) (H0:Hp) (own:Addr->Option Nat) (H:Hp) (P:DEnds) (Q:Ends):Prop where
 nx:∀ own' σ' H' ρ',EnvD p H0 own' σ' H' ρ'->FrS p own H own' H'->P.nx ρ'->Q.nx σ' H'
 rt:∀ d v H',P.rt d->RPost p H0 H' v d->Q.rt v H'
 bk:∀ own' σ' H' ρ',EnvD p H0 own' σ' H' ρ'->FrS p own H own' H'->P.bk ρ'->Q.bk σ' H'
 ct:∀ own' σ' H' ρ',EnvD p H0 own' σ' H' ρ'->FrS p own H own' H'->P.ct ρ'->Q.ct σ' H'
theorem Wish.go {p:Pn}{H0 H H':Hp}{own own':Addr->Option Nat}{P:DEnds}{Q:Ends} (w:Wish p H0 own H P Q) (f:FrS p own H own' H'):Wish p H0 own' H' P Q :=
 ⟨fun o s h r e g n=>w.nx o s h r e (f.trans g) n,w.rt,fun o s h r e g n=>w.bk o s h r e (f.trans g) n,fun o s h r e g n=>w.ct o s h r e (f.trans g) n⟩
def jM (t:DS):TS:=fun Q σ H=>∃ p H0 own ρ P,EnvD p H0 own σ H ρ/\t P ρ/\Wish p H0 own H P Q
abbrev PDS (X:Cx) (st:Stmt) (t:DS):Prop:=PS X st (jM t)
abbrev je (X:Cx) (st:List Stmt) (t:DS):Prop:=PSs X st (jM t)
theorem PSs.wk' {X:Cx}{ss:List Stmt}{t t':TS} (h:PSs X ss t) (w:∀ D σ H,t' D σ H->t D σ H):PSs X ss t':=fun pins s σ H D I q=>h pins s σ H D I (w D σ H q)
theorem PS.wk' {X:Cx}{ss:Stmt}{t t':TS} (h:PS X ss t) (w:∀ D σ H,t' D σ H->t D σ H):PS X ss t':=fun pins s σ H D I q=>h pins s σ H D I (w D σ H q)
theorem At.frs {p:Pn}{H0 H H':Hp}{own:Addr->Option Nat} (A:At p H0 own H H'):FrS p own H own H':=⟨fun b o h n e=>⟨A.kp b o h n,e⟩,A.tups⟩
section
variable {X:Cx}{pos:Pos}{st:Stmt}{rest:List Stmt}{e:Expr}{te:DE}{t u:DS}
def Ho:DS:=fun P ρ=>P.nx ρ
def mD (t u:DS):DS:=fun P ρ=>t { P with nx:=u P } ρ
theorem xG:je X [] Ho:=PSs.wk' mK (by
 rintro Q σ H ⟨p,H0,own,ρ,P,E,t,w⟩
 exact w.nx own σ H ρ E FrS.refl t)
theorem tE (h1:PDS X st t) (h2:je X rest u):je X (st::rest) (mD t u):=PSs.wk' (aY h1 h2) (by
 rintro Q σ H ⟨p,H0,own,ρ,P,E,t,w⟩
 exact⟨p,H0,own,ρ,_,E,t,⟨fun o s h r e g n=>⟨p,H0,o,r,P,e,n,w.go g⟩,w.rt,w.bk,w.ct⟩⟩)
theorem lH (h1:PDS X st t):je X [st] t:=eG h1
theorem jY:PDS X st (fun _ _=>False):=PS.wk' Ed (by
 rintro Q σ H ⟨p,H0,own,ρ,P,E,t,w⟩
 exact t)
def Hj (te:DE):DS:=fun P ρ=>te ρ fun k d=>k.le .n0=true/\P.rt d
theorem lG (he:PD X e te):PDS X (.Return (some e) pos) (Hj te):=PS.wk' (nH he) (by
 rintro Q σ H ⟨p,H0,own,ρ,P,E,t,w⟩
 refine⟨p,H0,own,ρ,_,E,t,fun k d v H' h A r=>w.rt d v H' h.2 ⟨fun b o e n=>A.kp b o (A.k0 b o e n) n,A.pen,?_⟩⟩
 exact jr A h.1 r)
def dIf (c:DT) (t u:DS):DS:=fun P ρ=>c ρ fun b=>if b=true then t P ρ else u P ρ
theorem G6 {c:Expr}{a b:List Stmt}{tc:DT} (hc:PDT X c tc) (ha:je X a t) (hb:je X b u):PDS X (.If c a b pos) (dIf tc t u):=PS.wk' (yP hc ha hb) (by
 rintro Q σ H ⟨p,H0,own,ρ,P,E,t,w⟩
 refine⟨p,H0,own,ρ,_,E,t,fun b H' h A=>?_⟩
 cases b with
 | true=>exact aH ⟨p,H0,own,ρ,P,E.go A.kp A.pen,by simpa using h,w.go A.frs⟩
 | false=>exact aB ⟨p,H0,own,ρ,P,E.go A.kp A.pen,by simpa using h,w.go A.frs⟩)
def Kr (te:DE):DS:=fun P ρ=>te ρ fun _ _=>P.nx ρ
theorem bU (he:PD X e te) (hs:swapsWith e none pos.line X.env=pure false:=by rfl):PDS X (.Expr e pos) (Kr te):=PS.wk' (jw he hs) (by
 rintro Q σ H ⟨p,H0,own,ρ,P,E,t,w⟩
 exact⟨p,H0,own,ρ,_,E,t,fun k d v H' h A r=>w.nx own σ H' ρ (E.go A.kp A.pen) A.frs h⟩)
def Sl.region:Sl->Option Nat
 | .dw r _=>some r
 | .rw r _=>some r
 | .tw r _=>some r
 | .sp r _ _=>some r
 | _=>none
def oW (r:Nat) (ρ:List Sl) (i:Nat):Bool:=(ρ.set i .any).all fun s=>s.region != some r
def stK (rg:Option Nat) (ρ:List Sl) (i:Nat) (k:Kd) (d:D):Option Sl:=match k with
 | .imm=>some (.im d)
 | .new=>match rg with
  | some r=>if oW r ρ i=true then some (.dw r d) else none
  | none=>some (.sn d)
 | .reg r=>some (.dw r d)
 | .snw=>some (.sn d)
 | .shr=>some (.sh d)
 | _=>none
def xM (i:Nat) (rg:Option Nat) (te:DE):DS:=fun P ρ=>te ρ fun k d=>match stK rg ρ i (norm k d) d with
 | some s=>P.nx (ρ.set i s)
 | none=>False
section
variable {p:Pn}{H0 H H1:Hp}{own:Addr->Option Nat}{σ:L2.St}{ρ:List Sl}{i:Nat}
theorem EnvD.set {v:V}{s:Sl} (E:EnvD p H0 own σ H ρ) (hs:i<σ.length->gM p H0 own (σ.set i (some v)) H i s):EnvD p H0 own (σ.set i (some v)) H (ρ.set i s):=by
 refine⟨E.k0,E.pen,E.ow,fun j s' e=>?_,by simpa using E.len,E.gr⟩
 by_cases hj:j=i
 ·subst hj
  have hl:j<ρ.length:=by
   have:=(É.mp e).1
   simpa using this
  rw [ă hl] at e
  cases e
  exact hs (by rw [← E.len]; exact hl)
 ·rw [ī (ċ hj)] at e
  have q:=E.slot j s' e
  have eq:(σ.set i (some v))[j]?=σ[j]?:=ī (ċ hj)
  cases s' <;> simp only [gM,eq] at q ⊢ <;> exact q
def bY (r:Nat) (H H1:Hp) (own:Addr->Option Nat):Addr->Option Nat:=fun a=>match H a,H1 a with
 | none,some _=>some r
 | _,_=>own a
theorem bD {r:Nat}{a:Addr}{o:HO} (h:H a=some o):bY r H H1 own a=own a:=by unfold bY; rw [h]
theorem iz {r:Nat}{a:Addr}{o:HO} (h:H a=none) (h1:H1 a=some o):bY r H H1 own a=some r:=by unfold bY; rw [h,h1]
theorem EnvD.adopt (r:Nat) (E:EnvD p H0 own σ H ρ) (A:At p H0 own H H1):EnvD p H0 (bY r H H1 own) σ H1 ρ:=by
 have tp:=gA E.at A.kp
 refine⟨fun b o e n=>A.kp b o (E.k0 b o e n) n,A.pen,fun a q e=>?_,fun j s e=>?_,E.len,E.gr⟩
 ·cases h:H a with
  | some o =>
   rw [bD h] at e
   obtain⟨x,y,z⟩:=E.ow a q e
   refine⟨x,y,by rw [A.kp a o h y]; exact fun z=>nomatch z⟩
  | none =>
   cases h1:H1 a with
   | none =>
    have e':own a=some q:=by rw [← e]; unfold bY; rw [h,h1]
    exact absurd h (E.ow a q e').2.2
   | some o=>exact⟨E.at.h0 h,E.at.nfb h,fun z=>nomatch z⟩
 ·have q:=E.slot j s e
  cases s with
  | any=>trivial
  | im d=>exact let ⟨v,a,b⟩:=q; ⟨v,a,b.mono (fun _ o=>o) (fun _ _ o=>o.elim) tp⟩
  | sh d=>exact let ⟨v,a,b⟩:=q; ⟨v,a,b.bL (fun c o n h=>⟨⟨n.1,by rw [bD h]; exact n.2⟩,A.kp c o h n.1⟩) tp⟩
  | sn d=>exact let ⟨v,a,b⟩:=q; ⟨v,a,b.bL (fun c o n h=>⟨⟨n.1,n.2.1,by rw [bD h]; exact n.2.2⟩,A.kp c o h n.2.1⟩) tp⟩
  | dw r' d=>exact let ⟨v,a,b⟩:=q; ⟨v,a,b.bL (fun c o n h=>⟨by rw [bD h]; exact n,A.kp c o h (E.ow c r' n).2.1⟩) tp⟩
  | pen C=>exact q
  | rw r' L=>exact let ⟨st,as,a,b⟩:=q; ⟨st,as,a,b.mono (fun c o n h=>⟨by rw [bD h]; exact n,A.kp c o h (E.ow c r' n).2.1⟩) tp⟩
  | tw r' L=>exact let ⟨st,as,a,b⟩:=q; ⟨st,as,a,b.mono (fun c o n h=>⟨by rw [bD h]; exact n,A.kp c o h (E.ow c r' n).2.1⟩) tp⟩
  | scr v b=>exact q
  | sp r' b ds=>exact let ⟨l,vs,a,o,h,z⟩:=q; ⟨l,vs,a,by rw [bD h]; exact o,A.kp l _ h (E.ow l r' o).2.1,z.bL (fun c u n e=>⟨⟨n.1,n.2.1,by rw [bD e]; exact n.2.2⟩,A.kp c u e n.2.1⟩) tp⟩
theorem Hx {r:Nat}{k:Kd}{v:V}{d:D} (h:k.le .new=true) (A:At p H0 own H H1) (x:Rp (okK p H0 own H k) H1 v d):Rp (fun a=>bY r H H1 own a=some r) H1 v d :=
 (jr A h x).bL (fun a o n e=>⟨iz n e,e⟩) fun _ _ e=>e
theorem lK {r:Nat} (A:At p H0 own H H1):FrS p own H (bY r H H1 own) H1:=⟨fun b o h n e=>⟨A.kp b o h n,by rw [bD h]; exact e⟩,A.tups⟩
theorem EnvD.drop (E:EnvD p H0 own σ H ρ):EnvD p H0 own σ H (ρ.set i .any):=by
 refine⟨E.k0,E.pen,E.ow,fun j s' e=>?_,by simpa using E.len,E.gr⟩
 by_cases hj:j=i
 ·subst hj
  have hl:j<ρ.length:=by
   have:=(É.mp e).1
   simpa using this
  rw [ă hl] at e
  cases e
  trivial
 ·rw [ī (ċ hj)] at e
  exact E.slot j s' e
def aO (r:Nat) (own:Addr->Option Nat):Addr->Option Nat:=fun a=>if own a=some r then none else own a
theorem EnvD.clear {r:Nat} (E:EnvD p H0 own σ H ρ) (h:ρ.all (fun s=>s.region != some r)=true):EnvD p H0 (aO r own) σ H ρ:=by
 refine⟨E.k0,E.pen,fun a q e=>?_,fun j s e=>?_,E.len,E.gr⟩
 ·unfold aO at e
  split at e
  ·cases e
  ·exact E.ow a q e
 ·have q:=E.slot j s e
  have z:=Ĭ.mp h s (Ñ e)
  have c0:∀ a,own a=none->aO r own a=none:=fun a n=>by unfold aO; rw [n]; simp
  cases s with
  | any=>trivial
  | im d=>exact q
  | sh d=>exact let ⟨v,a,b⟩:=q; ⟨v,a,b.mono (fun c n=>⟨n.1,c0 c n.2⟩) (fun _ _ _ e=>e) fun _ _ e=>e⟩
  | sn d=>exact let ⟨v,a,b⟩:=q; ⟨v,a,b.mono (fun c n=>⟨n.1,n.2.1,c0 c n.2.2⟩) (fun _ _ _ e=>e) fun _ _ e=>e⟩
  | dw r' d =>
   have hne:r'≠r:=by simpa [Sl.region] using z
   exact let ⟨v,a,b⟩:=q; ⟨v,a,b.mono (fun c n=>by unfold aO; rw [n,if_neg (by simpa using hne)]) (fun _ _ _ e=>e) fun _ _ e=>e⟩
  | pen C=>exact q
  | rw r' L =>
   have hne:r'≠r:=by simpa [Sl.region] using z
   exact let ⟨st,as,a,b⟩:=q; ⟨st,as,a,b.mono (fun c o n e=>⟨by unfold aO; rw [n,if_neg (by simpa using hne)],e⟩) fun _ _ e=>e⟩
  | tw r' L =>
   have hne:r'≠r:=by simpa [Sl.region] using z
   exact let ⟨st,as,a,b⟩:=q; ⟨st,as,a,b.mono (fun c o n e=>⟨by unfold aO; rw [n,if_neg (by simpa using hne)],e⟩) fun _ _ e=>e⟩
  | scr v b=>exact q
  | sp r' b ds =>
   have hne:r'≠r:=by simpa [Sl.region] using z
   exact let ⟨l,vs,a,o,h,y⟩:=q; ⟨l,vs,a,by unfold aO; rw [o,if_neg (by simpa using hne)],h,y.mono (fun c n=>⟨n.1,n.2.1,c0 c n.2.2⟩) (fun _ _ _ e=>e) fun _ _ e=>e⟩
theorem eF {r:Nat}:FrS p own H (aO r own) H:=⟨fun b o h n e=>⟨h,by unfold aO; rw [e]; simp⟩,fun _ _ e=>e⟩
end
theorem tu {i:Nat} (rg:Option Nat) (h:PS X st (pL (aW te) (gF i))):PDS X st (xM i rg te):=PS.wk' h (by
 rintro Q σ H ⟨p,H0,own,ρ,P,E,t,w⟩
 refine⟨p,H0,own,ρ,_,E,t,fun k d v H1 h A r=>?_⟩
 have r:=bI r
 generalize norm k d=k' at h r
 show Q.nx (σ.set i (some v)) H1
 have E1:=E.go A.kp A.pen
 have fin:∀ s,gM p H0 own (σ.set i (some v)) H1 i s\/¬ i<σ.length->P.nx (ρ.set i s)->Q.nx (σ.set i (some v)) H1:=fun s hs hn =>
  w.nx own _ H1 _ (E1.set fun hl=>hs.elim id fun z=>absurd hl z) A.frs hn
 have here:i<σ.length->(σ.set i (some v))[i]?=some (some v):=fun hl=>ă hl
 by_cases hl:i<σ.length
 ·cases k' with
  | imm=>exact fin (.im d) (.inl ⟨v,here hl,r⟩) h
  | new =>
   cases rg with
   | none=>exact fin (.sn d) (.inl ⟨v,here hl,jr A (k:=.snw) rfl r⟩) h
   | some q =>
    simp only [stK] at h
    by_cases hf:oW q ρ i=true
    ·rw [if_pos hf] at h
     have E2:EnvD p H0 (aO q own) σ H (ρ.set i .any):=(E.drop (i:=i)).clear hf
     have A2:At p H0 (aO q own) H H1:=⟨A.k0,A.kp,A.penb,A.pen,E2.ow⟩
     have E3:=E2.adopt q A2
     have r2:Rp (okK p H0 (aO q own) H .new) H1 v d:=r
     have E4:EnvD p H0 (bY q H H1 (aO q own)) (σ.set i (some v)) H1 ((ρ.set i .any).set i (.dw q d)):=E3.set fun _=>⟨v,here hl,Hx (k:=.new) rfl A2 r2⟩
     rw [List.set_set] at E4
     exact w.nx _ _ H1 _ E4 (eF.trans (lK A2)) h
    ·rw [if_neg hf] at h
     exact h.elim
  | reg q=>exact fin (.dw q d) (.inl ⟨v,here hl,r⟩) h
  | n0=>exact h.elim
  | snw=>exact fin (.sn d) (.inl ⟨v,here hl,r⟩) h
  | shr=>exact fin (.sh d) (.inl ⟨v,here hl,r⟩) h
  | wk=>exact h.elim
 ·cases hs:stK rg ρ i k' d with
  | none=>rw [hs] at h; exact h.elim
  | some s=>rw [hs] at h; exact fin s (.inr hl) h)
end
variable [Gr]
section
variable {ok ok':Addr->Prop}{H:Hp}
mutual
theorem Rp.inj:∀ {v:V}{d d':D},Rp ok H v d->Rp ok' H v d'->d=d'
 | _,_,_,.non,.non=>rfl
 | _,_,_,.bl b,.bl _=>rfl
 | _,_,_,.int i,.int _=>rfl
 | _,_,_,.str x,.str _=>rfl
 | _,_,_,.lst o h r,.lst o' h' r'=>by
  rw [h] at h'; cases h'
  rw [Rps.inj r r']
 | _,_,_,.lst o h r,.tup h' r'=>by rw [h] at h'; cases h'
 | _,_,_,.lst o h r,.dct o' h' r'=>by rw [h] at h'; cases h'
 | _,_,_,.tup h r,.lst o' h' r'=>by rw [h] at h'; cases h'
 | _,_,_,.tup h r,.tup h' r'=>by
  rw [h] at h'; cases h'
  rw [Rps.inj r r']
 | _,_,_,.tup h r,.dct o' h' r'=>by rw [h] at h'; cases h'
 | _,_,_,.dct o h r,.lst o' h' r'=>by rw [h] at h'; cases h'
 | _,_,_,.dct o h r,.tup h' r'=>by rw [h] at h'; cases h'
 | _,_,_,.dct o h r,.dct o' h' r'=>by
  rw [h] at h'; cases h'
  rw [Rkv.inj r r']
theorem Rps.inj:∀ {v:List V}{d d':List D},Rps ok H v d->Rps ok' H v d'->d=d'
 | _,_,_,.nil,.nil=>rfl
 | _,_,_,.cons h t,.cons h' t'=>by rw [Rp.inj h h',Rps.inj t t']
theorem Rkv.inj:∀ {v:List (Key×V)}{d d':List (D×D)},Rkv ok H v d->Rkv ok' H v d'->d=d'
 | _,_,_,.nil,.nil=>rfl
 | _,_,_,.cons h t,.cons h' t'=>by rw [Rp.inj h h',Rkv.inj t t']
end
variable {l:Addr}{T:D}
mutual
theorem Rp.avoid (h0:Rp ok' H (.ref l) T):∀ {v:V}{d:D},Rp ok H v d->sizeOf d<sizeOf T->Rp (fun a=>ok a/\a≠l) H v d
 | _,_,.non,_=>.non
 | _,_,.bl b,_=>.bl b
 | _,_,.int i,_=>.int i
 | _,_,.str x,_=>.str x
 | _,_,.lst (ds:=ds) o h r,s=>.lst ⟨o,fun z=>by
   subst z
   have e:=Rp.inj (Rp.lst o h r) h0
   rw [e] at s
   exact absurd s (ą _)⟩ h (Rps.avoid h0 r (by simp only [PyData.list.sizeOf_spec] at s; omega))
 | _,_,.tup (ds:=ds) h r,s=>.tup h (Rps.avoid h0 r (by simp only [PyData.tuple.sizeOf_spec] at s; omega))
 | _,_,.dct (ds:=ds) o h r,s=>.dct ⟨o,fun z=>by
   subst z
   have e:=Rp.inj (Rp.dct o h r) h0
   rw [e] at s
   exact absurd s (ą _)⟩ h (Rkv.avoid h0 r (by simp only [PyData.dict.sizeOf_spec] at s; omega))
theorem Rps.avoid (h0:Rp ok' H (.ref l) T):∀ {v:List V}{d:List D},Rps ok H v d->sizeOf d<sizeOf T->Rps (fun a=>ok a/\a≠l) H v d
 | _,_,.nil,_=>.nil
 | _,_,.cons h t,s=>.cons (Rp.avoid h0 h (by simp only [List.cons.sizeOf_spec] at s; omega)) (Rps.avoid h0 t (by simp only [List.cons.sizeOf_spec] at s; omega))
theorem Rkv.avoid (h0:Rp ok' H (.ref l) T):∀ {v:List (Key×V)}{d:List (D×D)},Rkv ok H v d->sizeOf d<sizeOf T->Rkv (fun a=>ok a/\a≠l) H v d
 | _,_,.nil,_=>.nil
 | _,_,.cons h t,s=>.cons (Rp.avoid h0 h (by simp only [List.cons.sizeOf_spec,Prod.mk.sizeOf_spec] at s; omega)) (Rkv.avoid h0 t (by simp only [List.cons.sizeOf_spec] at s; omega))
end
end
def forget (r:Nat) (ρ:List Sl):List Sl:=ρ.map fun s=>if s.region=some r then .any else s
section
variable {p:Pn}{H0 H H1:Hp}{own:Addr->Option Nat}{σ:L2.St}{ρ:List Sl}{i:Nat}
theorem EnvD.write {r:Nat}{l:Addr}{u o':HO} (E:EnvD p H0 own σ H ρ) (hl:own l=some r) (ho:H l=some u) (hu:∀ xs,u≠.tup xs):EnvD p H0 own σ (upd H l o') (forget r ρ):=by
 have h0:=E.ow l r hl
 have tp:∀ a xs,H a=some (.tup xs)->upd H l o' a=some (.tup xs):=fun a xs e=>by
  rw [aj]; exact e
  intro z; subst z; rw [ho] at e; exact hu xs (Û e)
 refine⟨fun b o e n=>?_,p.mono H _ E.pen fun b o f e=>?_,fun a q e=>?_,fun j s e=>?_,by unfold forget; rw [Â]; exact E.len,E.gr⟩
 ·rw [aj]; exact E.k0 b o e n
  intro z; subst z; rw [h0.1] at e; cases e
 ·rw [aj]; exact e
  intro z; subst z; exact h0.2.1 f
 ·obtain⟨x,y,z⟩:=E.ow a q e
  refine⟨x,y,?_⟩
  by_cases hh:a=l
  ·subst hh; rw [ao]; exact fun z=>nomatch z
  ·rw [aj hh]; exact z
 ·unfold forget at e
  rw [Ø] at e
  cases hr:ρ[j]? with
  | none=>rw [hr] at e; cases e
  | some s0 =>
   rw [hr] at e
   have e:=Û e
   have q:=E.slot j s0 hr
   have ne:∀ c,own c≠some r->c≠l:=fun c n z=>by subst z; exact n hl
   cases s0 with
   | any=>simp only [Sl.region] at e; subst e; trivial
   | im d =>
    have e:Sl.im d=s:=e
    subst e
    exact let ⟨v,a,b⟩:=q; ⟨v,a,b.mono (fun _ o=>o) (fun _ _ o=>o.elim) tp⟩
   | sh d =>
    have e:Sl.sh d=s:=e
    subst e
    exact let ⟨v,a,b⟩:=q; ⟨v,a,b.mono (fun _ o=>o) (fun c o n e=>by rw [aj (ne c (by rw [n.2]; exact fun z=>nomatch z))]; exact e) tp⟩
   | sn d =>
    have e:Sl.sn d=s:=e
    subst e
    exact let ⟨v,a,b⟩:=q; ⟨v,a,b.mono (fun _ o=>o) (fun c o n e=>by rw [aj (ne c (by rw [n.2.2]; exact fun z=>nomatch z))]; exact e) tp⟩
   | dw r' d =>
    by_cases hrr:r'=r
    ·subst hrr
     have e:(if (some r':Option Nat)=some r' then Sl.any else Sl.dw r' d)=s:=e
     rw [if_pos rfl] at e
     subst e
     trivial
    ·have e:(if (some r':Option Nat)=some r then Sl.any else Sl.dw r' d)=s:=e
     rw [if_neg (by simpa using hrr)] at e
     subst e
     exact let ⟨v,a,b⟩:=q; ⟨v,a,b.mono (fun _ o=>o) (fun c o n e=>by rw [aj (ne c (by rw [n]; simpa using hrr))]; exact e) tp⟩
   | pen C =>
    have e:Sl.pen C=s:=e
    subst e
    exact q
   | scr v b =>
    have e:Sl.scr v b=s:=e
    subst e
    exact q
   | sp r' b ds =>
    by_cases hrr:r'=r
    ·subst hrr
     have e:(if (some r':Option Nat)=some r' then Sl.any else Sl.sp r' b ds)=s:=e
     rw [if_pos rfl] at e
     subst e
     trivial
    ·have e:(if (some r':Option Nat)=some r then Sl.any else Sl.sp r' b ds)=s:=e
     rw [if_neg (by simpa using hrr)] at e
     subst e
     exact let ⟨l',vs,a,o,h,y⟩:=q; ⟨l',vs,a,o,by rw [aj (ne l' (by rw [o]; simpa using hrr))]; exact h,y.mono (fun _ o=>o) (fun c o n e=>by rw [aj (ne c (by rw [n.2.2]; exact fun z=>nomatch z))]; exact e) tp⟩
   | rw r' L =>
    by_cases hrr:r'=r
    ·subst hrr
     have e:(if (some r':Option Nat)=some r' then Sl.any else Sl.rw r' L)=s:=e
     rw [if_pos rfl] at e
     subst e
     trivial
    ·have e:(if (some r':Option Nat)=some r then Sl.any else Sl.rw r' L)=s:=e
     rw [if_neg (by simpa using hrr)] at e
     subst e
     exact let ⟨st,as,a,b⟩:=q; ⟨st,as,a,b.mono (fun c o n e=>⟨n,by rw [aj (ne c (by rw [n]; simpa using hrr))]; exact e⟩) tp⟩
   | tw r' L =>
    by_cases hrr:r'=r
    ·subst hrr
     have e:(if (some r':Option Nat)=some r' then Sl.any else Sl.tw r' L)=s:=e
     rw [if_pos rfl] at e
     subst e
     trivial
    ·have e:(if (some r':Option Nat)=some r then Sl.any else Sl.tw r' L)=s:=e
     rw [if_neg (by simpa using hrr)] at e
     subst e
     exact let ⟨st,as,a,b⟩:=q; ⟨st,as,a,b.mono (fun c o n e=>⟨n,by rw [aj (ne c (by rw [n]; simpa using hrr))]; exact e⟩) tp⟩
theorem cU {r:Nat}{l:Addr}{u o':HO} (hl:own l=some r) (ho:H l=some u) (hu:∀ xs,u≠.tup xs):FrS p own H own (upd H l o'):=by
 refine⟨fun b o h n e=>⟨?_,e⟩,fun a xs e=>?_⟩
 ·rw [aj]; exact h
  intro z; subst z; rw [hl] at e; cases e
 ·rw [aj]; exact e
  intro z; subst z; rw [ho] at e; exact hu xs (Û e)
theorem EnvD.put {v:V}{s:Sl} (E:EnvD p H0 own σ H ρ) (hs:gM p H0 own σ H i s):EnvD p H0 own σ H (ρ.set i s):=by
 refine⟨E.k0,E.pen,E.ow,fun j s' e=>?_,by simpa using E.len,E.gr⟩
 by_cases hj:j=i
 ·subst hj
  have hl:j<ρ.length:=by
   have:=(É.mp e).1
   simpa using this
  rw [ă hl] at e
  cases e
  exact hs
 ·rw [ī (ċ hj)] at e
  exact E.slot j s' e
theorem EnvD.K6 {r:Nat}{l:Addr}{vs vs':List V}{ds ds':List D} (E:EnvD p H0 own σ H ρ) (A:At p H0 own H H1) (hv:σ[i]?=some (some (.ref l))) (hl:own l=some r) (ho:H l=some (.lst vs)) (rs:Rps (fun a=>own a=some r) H vs ds)
  (hs:∀ H2,(∀ {w:V}{d:D},Rp (fun a=>own a=some r) H w d->sizeOf d<sizeOf (Ġ ds)->Rp (fun a=>bY r H H1 own a=some r) H2 w d)->(∀ {w:V}{d:D},Rp (okK p H0 own H .new) H1 w d->Rp (fun a=>bY r H H1 own a=some r) H2 w d)->Rps (fun a=>bY r H H1 own a=some r) H2 vs' ds') :
  EnvD p H0 (bY r H H1 own) σ (upd H1 l (.lst vs')) ((forget r ρ).set i (.dw r (.list ds')))/\FrS p own H (bY r H H1 own) (upd H1 l (.lst vs')):=by
 have h1:H1 l=some (.lst vs):=A.kp l _ ho (E.ow l r hl).2.1
 have hl':bY r H H1 own l=some r:=by rw [bD ho]; exact hl
 have E1:=(E.adopt r A).write (o':=.lst vs') hl' h1 (fun xs z=>nomatch z)
 have tp:∀ a xs,H1 a=some (.tup xs)->upd H1 l (.lst vs') a=some (.tup xs):=fun a xs e=>by
  rw [aj]; exact e
  intro z; subst z; rw [h1] at e; cases e
 refine⟨E1.put (v:=.ref l) ⟨.ref l,hv,.lst hl' ao (hs _ ?_ ?_)⟩,(lK A).trans (cU hl' h1 fun xs z=>nomatch z)⟩
 ·intro w d x sz
  have x1:=Rp.avoid (Rp.lst (ok:=fun a=>own a=some r) hl ho rs) x sz
  exact x1.bL (fun a o n e=>⟨by rw [bD e]; exact n.1,by rw [aj n.2]; exact A.kp a o e (E.ow a r n.1).2.1⟩) fun a xs e=>tp a xs (gA E.at A.kp a xs e)
 ·intro w d x
  exact x.bL (fun a o n e=>⟨iz n e,by rw [aj (fun z=>by subst z; rw [ho] at n; cases n)]; exact e⟩) tp
end
section
variable {X:Cx}{pos:Pos}{st:Stmt}{e:Expr}{te:DE}{i:Nat}{ta:DA}
theorem Ah {d:D}{ds:List D} (h:d∈ds):sizeOf d<sizeOf (Ġ ds):=by
 have:=List.sizeOf_lt_of_mem h
 simp only [PyData.list.sizeOf_spec]
 omega
theorem yK {ok ok':Addr->Prop}{H H2:Hp}{T:D} (f:∀ {w:V}{d:D},Rp ok H w d->sizeOf d<sizeOf T->Rp ok' H2 w d):∀ {vs:List V}{ds:List D},Rps ok H vs ds->(∀ d∈ds,sizeOf d<sizeOf T)->Rps ok' H2 vs ds
 | _,_,.nil,_=>.nil
 | _,_,.cons h t,s=>.cons (f h (s _ Ö)) (yK f t fun d hd=>s d (Ó _ hd))
def Nq (i:Nat) (te:DE):DS:=fun P ρ=>match ρ[i]? with
 | some (.dw r (.list ds))=>te ρ fun k d=>(norm k d).le .new=true/\ds.length<1000/\P.nx ((forget r ρ).set i (.dw r (.list (ds++[d]))))
 | _=>False
theorem cG (h:PS X st (uw (tBM X.K "list" mJ (lW i) (oM (cC te j7))))):PDS X st (Nq i te):=PS.wk' h (by
 rintro Q σ H ⟨p,H0,own,ρ,P,E,t,w⟩
 unfold Nq at t
 split at t
 ·rename_i r ds hr
  obtain⟨v,hv,x⟩:=E.slot i _ hr
  obtain⟨l,vs,rfl,hl,ho,rs⟩:=x.bM
  refine⟨.ref l,hv,.inl ⟨rfl,vs,SqL.of ho⟩,p,H0,own,ρ,fun ks=>∃ k d,ks=[(k,d)]/\(norm k d).le .new=true/\ds.length<1000/\P.nx ((forget r ρ).set i (.dw r (.list (ds++[d])))),E,?_,?_⟩
  ·show te ρ fun k d=>∃ k' d',[(k,d)]=[(k',d')]/\_
   have e:(fun k d=>∃ k' d',[((k,d):Kd×D)]=[(k',d')]/\(norm k' d').le .new=true/\ds.length<1000/\P.nx ((forget r ρ).set i (.dw r (.list (ds++[d'])))))=fun k d=>(norm k d).le .new=true/\ds.length<1000/\P.nx ((forget r ρ).set i (.dw r (.list (ds++[d])))):=by
    funext k d
    apply propext
    constructor
    ·rintro ⟨k',d',e,h⟩
     cases e
     exact h
    ·exact fun h=>⟨k,d,rfl,h⟩
   rw [e]
   exact t
  ·rintro ks ws H1 ⟨k,d,rfl,hk,hlen,hn⟩ A rk
   obtain⟨y,rfl,ry⟩:=cY rk
   have ry:=jr A hk (bI ry)
   have h1:H1 l=some (.lst vs):=A.kp l _ ho (E.ow l r hl).2.1
   have h24:=ö
   have hln:=rs.length
   refine⟨l,vs,y,rfl,rfl,h1,by omega,?_⟩
   obtain⟨E2,F2⟩:=E.K6 (vs':=vs++[y]) (ds':=ds++[d]) A hv hl ho rs fun H2 f g=>(yK f rs fun d hd=>Ah hd).snoc (g ry)
   exact w.nx _ σ _ _ E2 F2 hn
 ·exact t.elim)
end
variable [Gr]
abbrev DG:=Kd->D->List Sl->(List Sl->Prop)->Prop
abbrev DGs:=Kd->List D->List Sl->(List Sl->Prop)->Prop
def JR (k:Kd) (d:D):Sl:=match k with
 | .imm=>.im d
 | .new=>.sn d
 | .reg r=>.dw r d
 | .snw=>.sn d
 | .shr=>.sh d
 | _=>.any
def okB (p:Pn) (H0:Hp) (own:Addr->Option Nat):Kd->Addr->Prop
 | .imm=>fun _=>False
 | .new=>fun a=>H0 a=none/\¬ p.fp a/\own a=none
 | .reg r=>fun a=>own a=some r
 | .snw=>fun a=>H0 a=none/\¬ p.fp a/\own a=none
 | .shr=>fun a=>¬ p.fp a/\own a=none
 | .n0=>fun _=>True
 | .wk=>fun _=>True
def zq (g:DG):TG:=fun v σ H Q=>∃ p H0 own ρ k d P,EnvD p H0 own σ H ρ/\Rp (okB p H0 own k) H v d/\g k d ρ P/\∀ σ' ρ',EnvD p H0 own σ' H ρ'->P ρ'->Q σ' H
def oK (g:DGs):TGs:=fun vs σ H Q=>∃ p H0 own ρ k ds P,EnvD p H0 own σ H ρ/\Rps (okB p H0 own k) H vs ds/\g k ds ρ P/\∀ σ' ρ',EnvD p H0 own σ' H ρ'->P ρ'->Q σ' H
abbrev PDG (X:Cx) (e:Expr) (g:DG):Prop:=PG X e (zq g)
theorem PG.wk {X:Cx}{e:Expr}{t t':TG} (h:PG X e t) (w:∀ v σ H Q,t' v σ H Q->t v σ H Q):PG X e t':=fun pins s σ H v u Q I r q=>h pins s σ H v u Q I r (w v σ H Q q)
theorem PGs.wk {X:Cx}{e:List Expr}{t t':TGs} (h:PGs X e t) (w:∀ v σ H Q,t' v σ H Q->t v σ H Q):PGs X e t':=fun pins s σ H v u Q I r q=>h pins s σ H v u Q I r (w v σ H Q q)
theorem dN {p:Pn}{H0 H:Hp}{own:Addr->Option Nat}{k:Kd}{v:V}{d:D} (r:Rp (okB p H0 own k) H v d):Rp (okB p H0 own (norm k d)) H v d:=by
 by_cases h:dF d=true
 ·rw [bG h]; exact r.imm h
 ·rw [jF h]; exact r
section
variable {X:Cx}{pos:Pos}{e:Expr}{es:List Expr}
def gNm (i:Nat):DG:=fun k d ρ P=>P (ρ.set i (JR (norm k d) d))
theorem Dh {p:Pn}{H0 H:Hp}{own:Addr->Option Nat}{σ:L2.St}{i:Nat}{k:Kd}{v:V}{d:D} (r:Rp (okB p H0 own k) H v d) (h:σ[i]?=some (some v)):gM p H0 own σ H i (JR k d):=by
 cases k with
 | imm=>exact⟨v,h,r⟩
 | new=>exact⟨v,h,r⟩
 | reg q=>exact⟨v,h,r⟩
 | n0=>trivial
 | snw=>exact⟨v,h,r⟩
 | shr=>exact⟨v,h,r⟩
 | wk=>trivial
theorem tH {i:Nat}{x:Str} (h:PG X (.Name x pos) (gF i)):PDG X (.Name x pos) (gNm i):=PG.wk h (by
 rintro v σ H Q ⟨p,H0,own,ρ,k,d,P,E,r,t,q⟩
 exact q _ _ (E.set fun hl=>Dh (dN r) (ă hl)) t)
def zH:DGs:=fun _ ds ρ P=>match ds with
 | []=>P ρ
 | _=>False
def lE (g:DG) (gs:DGs):DGs:=fun k ds ρ P=>match ds with
 | d::r=>g (norm k d) d ρ fun ρ'=>gs k r ρ' P
 | []=>False
theorem cA:PGs X [] (oK zH):=PGs.wk yR (by
 rintro v σ H Q ⟨p,H0,own,ρ,k,ds,P,E,r,t,q⟩
 cases ds with
 | nil=>cases r; exact⟨rfl,q _ _ E t⟩
 | cons d ds=>exact t.elim)
theorem o8 {g:DG}{gs:DGs} (h1:PDG X e g) (h2:PGs X es (oK gs)) (hs:(assignEach (e::es) X.env).map (·.2)=assign e X.env::(assignEach es X.env).map (·.2):=by rfl):PGs X (e::es) (oK (lE g gs)):=PGs.wk (jx h1 h2 hs) (by
 rintro v σ H Q ⟨p,H0,own,ρ,k,ds,P,E,r,t,q⟩
 cases r with
 | nil=>exact t.elim
 | cons r rs =>
  exact⟨_,_,rfl,p,H0,own,ρ,_,_,_,E,dN r,t,fun σ' ρ' E' t'=>⟨p,H0,own,ρ',k,_,P,E',rs,t',q⟩⟩)
def gTp (n:Nat) (gs:DGs):DG:=fun k d ρ P=>match d with
 | .tuple ds=>ds.length=n/\gs k ds ρ P
 | _=>False
theorem dB {gs:DGs}{k n:Nat} (hc:X.calm=true) (h:PGs X es (oK gs)) (hn:(assignEach es X.env).length=n:=by rfl) (hst:(assignEach es X.env).findIdx? (·.1)=none:=by rfl):PDG X (.Tuple es k pos) (gTp n gs):=PG.wk (Ln hc h hn hst) (by
 rintro v σ H Q ⟨p,H0,own,ρ,k,d,P,E,r,t,q⟩
 cases d with
 | tuple ds =>
  obtain⟨a,vs,rfl,ha,rs⟩:=r.cP
  exact⟨a,vs,rfl,SqT.of ha,by rw [rs.length]; exact t.1,p,H0,own,ρ,k,ds,P,E,rs,t.2,q⟩
 | _=>exact t.elim)
end
structure Wlk (Ok:Hp->Prop) (J:It) (ds:List D) (ok:Addr->Prop):Prop where
 go:∀ i H,Ok H->i<ds.length->J.go i H
 stop:∀ H,Ok H->J.stop ds.length H
 yld:∀ i H x H',Ok H->J.yld i H x H'->Same H H'/\∀ d,ds[i]?=some d->Rp ok H' x d
 stab:∀ H H',Ok H->(∀ b o,ok b->H b=some o->H' b=some o)->(∀ a xs,H a=some (.tup xs)->H' a=some (.tup xs))->Ok H'
abbrev DI:=List Sl->(Kd->List D->Prop)->Prop
def okA (p:Pn) (H0:Hp) (own:Addr->Option Nat) (Hb:Hp) (k:Kd) (H:Hp) (a:Addr):Prop:=okK p H0 own Hb k a/\∃ o,H a=some o
def Gd (t:DI):TI:=fun σ H R=>∃ p H0 own ρ P,EnvD p H0 own σ H ρ/\t ρ P/\∀ k ds J H1 Ok,P k ds->At p H0 own H H1->Wlk Ok J ds (okA p H0 own H k H1)->Ok H1->R J H1
abbrev PDI (X:Cx) (tg e:Expr) (t:DI):Prop:=PI X tg e (Gd t)
theorem PI.wk {X:Cx}{tg e:Expr}{t t':TI} (h:PI X tg e t) (w:∀ σ H R,t' σ H R->t σ H R):PI X tg e t':=fun pins s σ H R I q=>h pins s σ H R I (w σ H R q)
section
variable {X:Cx}{tg l:Expr}{tl:DE}{pos:Pos}{ta:DA}
theorem CK {K:Ý}{ok:Addr->Prop}{a:Addr}{ds:List D}:Wlk (fun H=>Rp ok H (.ref a) (.list ds)) (Itl K a) ds ok where
 go:=fun i H r hi=>by
  obtain⟨b,vs,e,o,h,rs⟩:=r.bM
  cases e
  have:i<vs.length:=by rw [rs.length]; exact hi
  exact⟨vs,vs[i],SqL.of h,by simp [this]⟩
 stop:=fun H r=>by
  obtain⟨b,vs,e,o,h,rs⟩:=r.bM
  cases e
  exact⟨vs,SqL.of h,by rw [rs.length]; exact Ï _⟩
 yld:=fun i H x H' r y=>by
  obtain⟨rfl,y⟩:=y
  obtain⟨b,vs,e,o,h,rs⟩:=r.bM
  cases e
  refine⟨Same.refl _,fun d hd=>?_⟩
  obtain⟨v,hv,rv⟩:=rs.getD hd
  have:=y vs (SqL.of h)
  rw [hv] at this
  cases this
  exact rv
 stab:=fun H H' r f t=>r.bL (fun a o n e=>⟨n,f a o n e⟩) t
theorem CG {K:Ý}{ok:Addr->Prop}{a:Addr}{ds:List D}:Wlk (fun H=>Rp ok H (.ref a) (.tuple ds)) (Itt K a) ds ok where
 go:=fun i H r hi=>by
  obtain⟨b,vs,e,h,rs⟩:=r.cP
  cases e
  have:i<vs.length:=by rw [rs.length]; exact hi
  exact⟨vs,vs[i],SqT.of h,by simp [this]⟩
 stop:=fun H r=>by
  obtain⟨b,vs,e,h,rs⟩:=r.cP
  cases e
  exact⟨vs,SqT.of h,by rw [rs.length]; exact Ï _⟩
 yld:=fun i H x H' r y=>by
  obtain⟨rfl,y⟩:=y
  obtain⟨b,vs,e,h,rs⟩:=r.cP
  cases e
  refine⟨Same.refl _,fun d hd=>?_⟩
  obtain⟨v,hv,rv⟩:=rs.getD hd
  have:=y vs (SqT.of h)
  rw [hv] at this
  cases this
  exact rv
 stab:=fun H H' r f t=>r.bL (fun a o n e=>⟨n,f a o n e⟩) t
theorem uh {ok:Addr->Prop}{lo:Int}{n:Nat}:Wlk (fun _=>True) (Itr lo n) ((ý n).map fun i=>Æ (lo+((i:Nat):Int))) ok where
 go:=fun i H r hi=>by
  have h:i<n:=by simpa using hi
  exact h
 stop:=fun H r=>by show n<=_; simp
 yld:=fun i H x H' r y=>by
  obtain⟨rfl,rfl⟩:=y
  refine⟨Same.refl _,fun d hd=>?_⟩
  rw [Ø] at hd
  cases h:(ý n)[i]? with
  | none=>rw [h] at hd; cases hd
  | some j =>
   rw [h] at hd
   have e:=Û hd
   have hj:j=i:=by
    have:=É.mp h
    obtain⟨h1,h2⟩:=this
    simpa using h2.symm
   subst e hj
   exact .int _
 stab:=fun _ _ _ _ _=>trivial
theorem rpA {p:Pn}{H0 Hb H:Hp}{own:Addr->Option Nat}{k:Kd}{v:V}{d:D} (r:Rp (okK p H0 own Hb k) H v d):Rp (okA p H0 own Hb k H) H v d:=r.bL (fun a o n e=>⟨⟨n,o,e⟩,e⟩) fun _ _ e=>e
def iSq (tl:DE):DI:=fun ρ P=>tl ρ fun k d=>match d with
 | .list ds=>P k ds
 | .tuple ds=>P k ds
 | _=>False
theorem xK (hl:PD X l tl):PDI X tg l (iSq tl):=PI.wk (Lk hl) (by
 rintro σ H R ⟨p,H0,own,ρ,P,E,t,q⟩
 refine⟨p,H0,own,ρ,_,E,t,fun k d v H1 h A r=>?_⟩
 cases d with
 | list ds =>
  obtain⟨a,vs,rfl,o,ha,rs⟩:=r.bM
  exact⟨a,rfl,.inl ⟨⟨vs,SqL.of ha⟩,q k ds _ H1 _ h A CK (rpA r)⟩⟩
 | tuple ds =>
  obtain⟨a,vs,rfl,ha,rs⟩:=r.cP
  exact⟨a,rfl,.inr ⟨⟨vs,SqT.of ha⟩,q k ds _ H1 _ h A CG (rpA r)⟩⟩
 | _=>exact h.elim)
def aQ (lo:Int) (n:Nat):List D:=(ý n).map fun i=>Æ (lo+((i:Nat):Int))
def iR1 (ta:DA):DI:=fun ρ P=>ta ρ fun ks=>match ks with
 | [(_,.int j)]=>(-(2 ^ 62)<=j/\j<2 ^ 62)/\P .imm (aQ 0 j.toNat)
 | _=>False
theorem bQ {a:Expr}{ps:Pos} (hm:X.mg "range"=none) (ha:PDA X [a] ta) (hg:Gl X "range":=by rfl) (hs:starEach [a] X.env=[(false,eval a X.env)]:=by rfl):PDI X tg (.Call (.Name "range" ps) [a] [] pos) (iR1 ta):=PI.wk (qp hg hm ha hs) (by
 rintro σ H R ⟨p,H0,own,ρ,P,E,t,q⟩
 refine⟨p,H0,own,ρ,_,E,t,fun ks vs H1 h A r=>?_⟩
 split at h
 ·rename_i k j
  obtain⟨v,rfl,r'⟩:=cY r
  exact⟨j,by rw [r'.int'],h.1.1,h.1.2,q _ _ _ H1 _ h.2 A uh trivial⟩
 ·exact h.elim)
def iR2 (ta:DA):DI:=fun ρ P=>ta ρ fun ks=>match ks with
 | [(_,.int i),(_,.int j)]=>(-(2 ^ 62)<=i/\i<2 ^ 62/\-(2 ^ 62)<=j/\j<2 ^ 62)/\P .imm (aQ i (j - i).toNat)
 | _=>False
theorem cH {a b:Expr}{ps:Pos} (hm:X.mg "range"=none) (ha:PDA X [a,b] ta) (hg:Gl X "range":=by rfl) (hs:starEach [a,b] X.env=[(false,eval a X.env),(false,eval b X.env)]:=by rfl) (hs2:starEach [b] X.env=[(false,eval b X.env)]:=by rfl):PDI X tg (.Call (.Name "range" ps) [a,b] [] pos) (iR2 ta):=PI.wk (Az hg hm ha hs hs2) (by
 rintro σ H R ⟨p,H0,own,ρ,P,E,t,q⟩
 refine⟨p,H0,own,ρ,_,E,t,fun ks vs H1 h A r=>?_⟩
 split at h
 ·rename_i k i k' j
  obtain⟨v,w,rfl,r',r2⟩:=Dv r
  exact⟨i,j,by rw [r'.int',r2.int'],h.1,q _ _ _ H1 _ h.2 A uh trivial⟩
 ·exact h.elim)
def qD (ds:List D):List D:=ds.zipIdx.map fun x=>Ĝ [.int ((x.2:Nat):Int),x.1]
theorem lF {ds:List D}{i:Nat}:(qD ds)[i]?=(ds[i]?).map fun d=>Ĝ [.int ((i:Nat):Int),d]:=by
 unfold qD
 rw [Ø,List.getElem?_zipIdx]
 cases ds[i]? with
 | none=>rfl
 | some d=>simp
theorem g8 {ds:List D}:(qD ds).length=ds.length:=by unfold qD; simp
theorem Ae {K:Ý}{ok:Addr->Prop}{a:Addr}{ds:List D}:Wlk (fun H=>Rp ok H (.ref a) (.tuple ds)) (Ite K a) (qD ds) ok where
 go:=fun i H r hi=>by
  obtain⟨b,vs,e,h,rs⟩:=r.cP
  cases e
  have:i<vs.length:=by rw [rs.length]; rw [g8] at hi; exact hi
  exact⟨vs,vs[i],SqT.of h,by simp [this]⟩
 stop:=fun H r=>by
  obtain⟨b,vs,e,h,rs⟩:=r.cP
  cases e
  exact⟨vs,SqT.of h,by rw [rs.length,g8]; exact Ï _⟩
 yld:=fun i H x H' r y=>by
  obtain⟨t,v,rfl,ht,rfl,y⟩:=y
  have sm:Same H (upd H t (.tup [.int i,v])):=fun b u q=>by rw [aj (aq q ht)]; exact q
  refine⟨sm,fun d hd=>?_⟩
  obtain⟨b,vs,e,h,rs⟩:=r.cP
  cases e
  rw [lF] at hd
  cases he:ds[i]? with
  | none=>rw [he] at hd; cases hd
  | some d0 =>
   rw [he] at hd
   have e:=Û hd
   subst e
   obtain⟨v',hv,rv⟩:=rs.getD he
   have:=y vs (SqT.of h)
   rw [hv] at this
   cases this
   exact .tup ao (.cons (.int _) (.cons (rv.mono (fun _ o=>o) (fun a o _ e=>sm a o e) fun a xs e=>sm a _ e) .nil))
 stab:=fun H H' r f t=>r.bL (fun a o n e=>⟨n,f a o n e⟩) t
def iEn (ta:DA):DI:=fun ρ P=>ta ρ fun ks=>match ks with
 | [(k,.tuple ds)]=>P k (qD ds)
 | _=>False
theorem mZ {elts:List Expr}{kk:Nat}{tpos:Pos}{a:Expr}{ps:Pos} (hm:X.mg "enumerate"=none) (ha:PDA X [a] ta) (hg:Gl X "enumerate":=by rfl) (hs:starEach [a] X.env=[(false,eval a X.env)]:=by rfl):PDI X (.Tuple elts kk tpos) (.Call (.Name "enumerate" ps) [a] [] pos) (iEn ta):=PI.wk (Ir hg hm ha hs) (by
 rintro σ H R ⟨p,H0,own,ρ,P,E,t,q⟩
 refine⟨p,H0,own,ρ,_,E,t,fun ks vs H1 h A r=>?_⟩
 split at h
 ·rename_i k ds
  obtain⟨v,rfl,r'⟩:=cY r
  obtain⟨a,vs,e,ha,rs⟩:=Rp.cP r'
  subst e
  exact⟨a,rfl,⟨vs,SqT.of ha⟩,q k _ _ H1 _ h A Ae (rpA r')⟩
 ·exact h.elim)
end
variable [Gr]
def elK:Kd->Kd
 | .new=>.snw
 | k=>k
section
variable {X:Cx}{tg iter:Expr}{pos:Pos}{body:List Stmt}{ti:DI}{g:DG}{tb:DS}
def Qc (ti:DI) (g:DG) (tb:DS):DS:=fun P ρ=>ti ρ fun k ds=>k.le .shr=true/\∃ Iv:Nat->List Sl->Prop,Iv 0 ρ /\
 (∀ i d ρ',ds[i]?=some d->Iv i ρ'->g (norm (elK k) d) d ρ' fun ρ2=>tb { nx:=Iv (i+1),ct:=Iv (i+1),bk:=P.nx,rt:=P.rt } ρ2)/\∀ ρ',Iv ds.length ρ'->P.nx ρ'
theorem Pb {p:Pn}{H0 Hb H1 H':Hp}{own own':Addr->Option Nat}{k:Kd} (hk:k.le .shr=true) (A:At p H0 own Hb H1) (F:FrS p own H1 own' H') {v:V}{d:D}{H2:Hp} (r:Rp (okA p H0 own Hb k H1) H2 v d):Rp (okB p H0 own' (elK k)) H2 v d:=by
 refine r.mono (fun a n=>?_) (fun _ _ _ e=>e) fun _ _ e=>e
 obtain⟨o,u,hu⟩:=n
 have o2:¬ p.fp a/\own a=none:=cj A (k:=.shr) hk o
 have f:=(F.keep a u hu o2.1 o2.2).2
 cases k with
 | imm=>exact o
 | new=>exact⟨A.h0 o,o2.1,f⟩
 | reg q=>cases hk
 | n0=>cases hk
 | snw=>exact⟨o.1,o2.1,f⟩
 | shr=>exact⟨o2.1,f⟩
 | wk=>cases hk
theorem dz (hp:PassesOwn (model X.prog X.w) X.A X.env X.xe) (hc:X.calm=true) (hi:PDI X tg iter ti) (hg:PDG X tg g) (hb:je X body tb) (hs:zF X iter:=by intro _; rfl):PDS X (.For tg iter body [] pos) (Qc ti g tb):=PS.wk' (Li hp hc hi hg hb hs) (by
 rintro Q σ H ⟨p,H0,own,ρ,P,E,t,w⟩
 refine⟨p,H0,own,ρ,_,E,t,fun k ds J H1 Ok h A W o1=>?_⟩
 obtain⟨hk,Iv,i0,step,done⟩:=h
 have w1:=w.go A.frs
 have okS:∀ own' H',FrS p own H1 own' H'->Ok H':=fun own' H' F=>W.stab H1 H' o1 (fun b o n e=>by
  have o2:¬ p.fp b/\own b=none:=cj A (k:=.shr) hk n.1
  exact (F.keep b o e o2.1 o2.2).1) F.tup
 refine⟨fun i m σ' H'=>m=ds.length - i/\i<=ds.length/\∃ own' ρ',EnvD p H0 own' σ' H' ρ'/\FrS p own H1 own' H'/\Iv i ρ',⟨_,rfl,ÿ _,own,ρ,E.go A.kp A.pen,FrS.refl,i0⟩,?_⟩
 rintro i m σ' H' ⟨rfl,hi,own',ρ',E',F',iv⟩
 have oH:=okS own' H' F'
 by_cases hlt:i<ds.length
 ·refine .inr ⟨W.go i H' oH hlt,fun σ2 H2=>∃ own' ρ',EnvD p H0 own' σ2 H2 ρ'/\FrS p own H1 own' H2/\Iv (i+1) ρ',fun σ2 H2 h=>⟨_,by omega,rfl,hlt,h⟩,fun x H2 y=>?_⟩
  obtain⟨sm,rx⟩:=W.yld i H' x H2 oH y
  have rx:=rx ds[i] (Í hlt)
  have E2:EnvD p H0 own' σ' H2 ρ':=E'.go (Kp.of sm) (p.mono H' H2 E'.pen fun b o _ e=>sm b o e)
  have F2:FrS p own H1 own' H2:=⟨fun b o e n z=>let ⟨x,y⟩:=F'.keep b o e n z; ⟨sm b o x,y⟩,fun a xs e=>sm a _ (F'.tup a xs e)⟩
  refine⟨p,H0,own',ρ',_,_,_,E2,dN (Pb hk A F2 rx),step i ds[i] ρ' (Í hlt) iv,fun σ3 ρ3 E3 t3=>?_⟩
  have nxt:∀ own4 σ4 H4 ρ4,EnvD p H0 own4 σ4 H4 ρ4->FrS p own' H2 own4 H4->Iv (i+1) ρ4->∃ own' ρ',EnvD p H0 own' σ4 H4 ρ'/\FrS p own H1 own' H4/\Iv (i+1) ρ':=fun own4 σ4 H4 ρ4 E4 F4 v4=>⟨own4,ρ4,E4,F2.trans F4,v4⟩
  exact⟨p,H0,own',ρ3,_,E3,t3,⟨nxt,w.rt,fun o s h r e f n=>w1.nx o s h r e (F2.trans f) n,nxt⟩⟩
 ·have e:i=ds.length:=by omega
  subst e
  exact .inl ⟨W.stop H' oH,w1.nx own' σ' H' ρ' E' F' (done ρ' iv)⟩)
def Hg (tc:DT) (tb:DS):DS:=fun P ρ=>∃ Iv:Nat->List Sl->Prop,(∃ m,Iv m ρ)/\∀ m ρ',Iv m ρ'->tc ρ' fun b =>
 if b=true then tb { nx:=fun ρ2=>∃ m',m'<m/\Iv m' ρ2,ct:=fun ρ2=>∃ m',m'<m/\Iv m' ρ2,bk:=P.nx,rt:=P.rt } ρ' else P.nx ρ'
theorem d8 {c:Expr}{tc:DT} (hp:PassesOwn (model X.prog X.w) X.A X.env X.xe) (hc:PDT X c tc) (hb:je X body tb):PDS X (.While c body [] pos) (Hg tc tb):=PS.wk' (Ec hp hc hb) (by
 rintro Q σ H ⟨p,H0,own,ρ,P,E,⟨Iv,⟨m,i0⟩,step⟩,w⟩
 refine⟨fun m σ' H'=>∃ own' ρ',EnvD p H0 own' σ' H' ρ'/\FrS p own H own' H'/\Iv m ρ',⟨m,own,ρ,E,FrS.refl,i0⟩,?_⟩
 rintro m σ1 H1 ⟨own1,ρ1,E1,F1,iv⟩
 refine⟨p,H0,own1,ρ1,_,E1,step m ρ1 iv,fun b H2 h A=>?_⟩
 have F2:=F1.trans A.frs
 cases b with
 | true =>
  refine aH ⟨fun σ' H'=>∃ m',m'<m/\∃ own' ρ',EnvD p H0 own' σ' H' ρ'/\FrS p own H own' H'/\Iv m' ρ',fun σ' H' h=>h,?_⟩
  have nxt:∀ own4 σ4 H4 ρ4,EnvD p H0 own4 σ4 H4 ρ4->FrS p own1 H2 own4 H4->(∃ m',m'<m/\Iv m' ρ4)->∃ m',m'<m/\∃ own' ρ',EnvD p H0 own' σ4 H4 ρ'/\FrS p own H own' H4/\Iv m' ρ':=fun own4 σ4 H4 ρ4 E4 F4 ⟨m',hm,v4⟩=>⟨m',hm,own4,ρ4,E4,F2.trans F4,v4⟩
  exact⟨p,H0,own1,ρ1,{ nx:=fun ρ2=>∃ m',m'<m/\Iv m' ρ2,ct:=fun ρ2=>∃ m',m'<m/\Iv m' ρ2,bk:=P.nx,rt:=P.rt },E1.go A.kp A.pen,by simpa using h,⟨nxt,w.rt,fun o s h r e f n=>w.nx o s h r e (F2.trans f) n,nxt⟩⟩
 | false=>exact aB (w.nx own1 σ1 H2 ρ1 (E1.go A.kp A.pen) F2 (by simpa using h)))
end
theorem EnvD.comp {p:Pn}{H0 H:Hp}{own:Addr->Option Nat}{σ:L2.St}{ρ:List Sl} (n:Nat) (E:EnvD p H0 own σ H ρ):EnvD p H0 own (Ð n none++σ) H (Ð n .any++ρ):=by
 refine⟨E.k0,E.pen,E.ow,fun j s e=>?_,by simp [E.len],E.gr⟩
 by_cases hj:j<n
 ·rw [ë (by simpa using hj)] at e
  have:s=.any:=by
   rw [Ŧ] at e
   rw [if_pos hj] at e
   exact (Û e).symm
  subst this
  trivial
 ·have e1:(Ð n Sl.any++ρ)[j]?=ρ[j - n]?:=by rw [î (by simpa using hj)]; simp
  have e2:(Ð n (none:Option V)++σ)[j]?=σ[j - n]?:=by rw [î (by simpa using hj)]; simp
  rw [e1] at e
  have q:=E.slot _ s e
  cases s <;> simp only [gM,e2] at q ⊢ <;> exact q
abbrev Hy (X:Cx) (es:List Expr) (t:DT):Prop:=PTs X es (liftT t)
theorem mY {X:Cx}:Hy X [] (fun _ P=>P true):=fun pins s σ H Q I h=>by
 obtain⟨p,H0,own,ρ,P,E,t,q⟩:=h
 exact yO pins s σ H Q I (q true H t E.at)
theorem iu {X:Cx}{c:Expr}{t:DT} (hc:PDT X c t):Hy X [c] t:=Ij hc
def elC (k:Kd):Kd:=elK k
def dLC (n:Nat) (ti:DI) (g:DG) (tt:DT) (te:DE):DE:=fun ρ P=>ti ρ fun k ds=>ds.length<=1000/\∃ (ke:Kd) (Iv:Nat->List D->Prop),Iv 0 [] /\
 (∀ i d ys,ds[i]?=some d->Iv i ys->g (norm (elC k) d) d (Ð n .any++ρ) fun ρ'=>tt ρ' fun b=>if b=true then te ρ' fun k' d'=>(norm k' d').le ke=true/\Iv (i+1) (ys++[d']) else Iv (i+1) ys) /\
 ∀ ys,Iv ds.length ys->P (ke.join .new) (.list ys)
theorem J7 {p:Pn}{H0 Hb H1:Hp}{own:Addr->Option Nat}{k:Kd} (A:At p H0 own Hb H1) {v:V}{d:D}{H2:Hp} (r:Rp (okA p H0 own Hb k H1) H2 v d):Rp (okB p H0 own (elC k)) H2 v d:=by
 refine r.mono (fun a n=>?_) (fun _ _ _ e=>e) fun _ _ e=>e
 obtain⟨o,u,hu⟩:=n
 cases k with
 | imm=>exact o
 | new=>exact⟨A.h0 o,A.nfb o,A.Ja o⟩
 | reg q=>exact o
 | n0=>trivial
 | snw=>exact o
 | shr=>exact o
 | wk=>trivial
section
variable {X:Cx}{own:List Str}{scope:Scope}{tg iter elt:Expr}{ifs:List Expr}{pos:Pos}{ti:DI}{g:DG}{tt:DT}{te:DE}
theorem zj {n:Nat}:∀ σ H Q,aW (dLC n ti g tt te) σ H Q->tLC n (Gd ti) (fun _=>zq g) (fun _=>liftT tt) (fun _=>aW te) σ H Q:=by
 rintro σ H Q ⟨p,H0,own,ρ,P,E,t,q⟩
 refine⟨p,H0,own,ρ,_,E,t,fun k ds J H1 Ok h A W o1=>?_⟩
 obtain⟨hlen,ke,Iv,i0,step,done⟩:=h
 have okS:∀ H',Kp p H1 H'->p.PI H'->Ok H':=fun H' K i=>W.stab H1 H' o1 (fun b o n e=>K b o e (jE A n.1)) (gA A K)
 refine⟨fun i m ys H'=>m=ds.length - i/\i<=ds.length/\Kp p H1 H'/\p.PI H'/\∃ es,Rps (okK p H0 own H ke) H' ys es/\es.length<=i/\Iv i es,⟨_,rfl,ÿ _,Kp.refl,A.pen,[],.nil,Ï _,i0⟩,?_⟩
 rintro c i m ys H' ⟨rfl,hi,K',I',es,rs,hl,iv⟩
 have oH:=okS H' K' I'
 have A':=A.go K' I'
 have h24:=ö
 by_cases hlt:i<ds.length
 ·refine .inr ⟨W.go i H' oH hlt,by have:=rs.length; omega,fun ys' H2=>Kp p H1 H2/\p.PI H2/\∃ es,Rps (okK p H0 own H ke) H2 ys' es/\es.length<=i+1/\Iv (i+1) es,fun ys' H2 h=>⟨_,by omega,rfl,hlt,h⟩,fun x H2 y=>?_⟩
  obtain⟨sm,rx⟩:=W.yld i H' x H2 oH y
  have rx:=rx ds[i] (Í hlt)
  have I2:p.PI H2:=p.mono H' H2 I' fun b o _ e=>sm b o e
  have K2:Kp p H1 H2:=K'.trans (Kp.of sm)
  have A2:=A.go K2 I2
  have E2:EnvD p H0 own σ H2 ρ:=E.go A2.kp A2.pen
  have rs2:=bR A' (Kp.of sm) rs
  refine⟨p,H0,own,_,_,_,_,E2.comp n,dN (J7 A rx),step i ds[i] es (Í hlt) iv,fun σ3 ρ3 E3 t3=>?_⟩
  refine⟨p,H0,own,ρ3,_,E3,t3,fun b H4 h4 A4=>?_⟩
  have A5:At p H0 own H H4:=A2.base A4
  have rs4:=bR A2 A4.kp rs2
  cases b with
  | true =>
   refine aH ⟨p,H0,own,ρ3,_,E3.go A4.kp A4.pen,by simpa using h4,fun k' d' v H6 h6 A6 r6=>?_⟩
   refine⟨(K2.trans A4.kp).trans A6.kp,A6.pen,es++[d'],(bR A5 A6.kp rs4).snoc (jr (A5.base A6) h6.1 (bI (jt A5 r6))),by simp; omega,h6.2⟩
  | false=>exact aB ⟨K2.trans A4.kp,A4.pen,es,rs4,by omega,by simpa using h4⟩
 ·have e:i=ds.length:=by omega
  subst e
  refine .inl ⟨W.stop H' oH,fun l hl'=>?_⟩
  obtain⟨k7,i7,nw⟩:=A'.new hl' (.lst ys)
  have j:=cJ ke .new
  refine q _ _ _ _ (done es iv) (A'.go k7 i7) (.lst (cj A' j.2 nw) ao ?_)
  exact (bR A' k7 rs).mono (fun a o=>cj A' j.1 o) (fun _ _ _ e=>e) fun _ _ e=>e
theorem Ep (own:List Str) (hc:X.calm=true) (hi:PDI X tg iter ti) (hg:∀ c,PDG (X.comp own scope c) tg g) (ht:∀ c,Hy (X.comp own scope c) ifs tt) (he:∀ c,PD (X.comp own scope c) elt te)
  (hk:dD X.env scope X.N=true:=by rfl) (hs:zF X iter:=by intro _; rfl) :
  PD X (.ListComp elt [⟨tg,iter,ifs,0⟩] scope pos) (dLC own.length ti g tt te):=PE.wk (J0 own hc hi hg ht he hk hs) zj
end
def bH (d:D):Sl:=if dF d then .im d else .sh d
theorem qC {p:Pn}{H:Hp}{N:List Str}{vs:List V}{ds:List D} (g:Gr.G p H) (hp:p.PI H) (r:Rps (fun a=>¬ p.fp a) H vs ds):EnvD p H (fun _=>none) (L2.start N vs) H (ds.map bH++Ð (N.length - vs.length) .any):=by
 refine⟨fun _ _ e _=>e,hp,(fun _ _ e=>nomatch e),fun j s e=>?_,by unfold L2.start; simp [r.length],g⟩
 by_cases hj:j<ds.length
 ·rw [ë (by simpa using hj),Ø] at e
  obtain⟨v,hv,rv⟩:=r.getD (Í hj)
  rw [Í hj] at e
  have e:=Û e
  have hs:(L2.start N vs)[j]?=some (some v):=by
   unfold L2.start
   rw [ë (by rw [Â,r.length]; exact hj),Ø,hv]
   rfl
  subst e
  unfold bH
  by_cases hi:dF ds[j]=true
  ·rw [if_pos hi]; exact⟨v,hs,rv.imm hi⟩
  ·rw [if_neg hi]; exact⟨v,hs,rv.mono (fun _ o=>⟨o,rfl⟩) (fun _ _ _ e=>e) fun _ _ e=>e⟩
 ·rw [î (by simpa using hj),Ŧ] at e
  split at e
  ·cases e; trivial
  ·cases e
theorem sY {f:List D->(D->Prop)->Prop}{T:DS}{N:List Str}{vs:List V}{H:Hp}{Q:VK}{E:XK} (h:spD f vs H Q E)
  (body:∀ ds P,f ds P->T { nx:=fun _=>P .none,rt:=P } (ds.map bH++Ð (N.length - ds.length) .any)) (g:Gr.G lO H:=by trivial):jM T { nx:=fun _ H'=>Q .non H',rt:=Q } (L2.start N vs) H:=by
 obtain⟨ds,P,r,t,q⟩:=h
 have E:=qC (p:=lO) (N:=N) g trivial (r.mono (ok':=fun a=>¬ lO.fp a) (fun _ _ z=>z) (fun _ _ _ e=>e) fun _ _ e=>e)
 rw [r.length] at E
 have sm:∀ H',(∀ b o,H b=some o->¬ lO.fp b->H' b=some o)->Same H H':=fun H' k b o e=>k b o e fun z=>z
 refine⟨lO,H,fun _=>none,_,_,E,body ds P t,⟨fun o s h' r' e' _ n=>q _ _ h' n (sm h' e'.k0) .non,fun d v h' n w=>q d v h' n (sm h' w.k0) (w.rp.mono (fun _ o=>o.1) (fun _ _ _ e=>e) fun _ _ e=>e),fun _ _ _ _ _ _ n=>n.elim,fun _ _ _ _ _ _ n=>n.elim⟩⟩
theorem Nj {C:Pn->Prop}{f:List D->(D->Prop)->Prop}{T:DS}{N:List Str}{vs:List V}{H:Hp}{Q:VK}{E:XK} (h:spP C f vs H Q E)
  (body:∀ ds P,f ds P->T { nx:=fun _=>P .none,rt:=P } (.pen C::(ds.map bH++Ð (N.length - (ds.length+1)) .any))) (g:∀ p,Gr.G p H:=by intro _; trivial):jM T { nx:=fun _ H'=>Q .non H',rt:=Q } (L2.start N vs) H:=by
 obtain⟨p,vs',ds,P,c,rfl,pi,r,t,q⟩:=h
 have E0:=qC (p:=p) (N:=N.drop 1) (g p) pi r
 have E:EnvD p H (fun _=>none) (L2.start N (p.pv::vs')) H (.pen C::(ds.map bH++Ð (N.length - (ds.length+1)) .any)):=by
  refine⟨fun _ _ e _=>e,pi,(fun _ _ e=>nomatch e),fun j s e=>?_,by unfold L2.start; simp [r.length],g p⟩
  cases j with
  | zero =>
   have e:=Û e
   subst e
   exact⟨rfl,c⟩
  | succ j =>
   rw [List.getElem?_cons_succ] at e
   have hl:N.length - (ds.length+1)=(N.drop 1).length - vs'.length:=by rw [r.length,List.length_drop]; omega
   rw [hl] at e
   have q:=E0.slot j s e
   have es:(L2.start N (p.pv::vs'))[j+1]?=(L2.start (N.drop 1) vs')[j]?:=by
    unfold L2.start
    have:N.length - (p.pv::vs').length=(N.drop 1).length - vs'.length:=by rw [List.length_drop,í]; omega
    rw [this]
    simp
   cases s <;> simp only [gM,es] at q ⊢ <;> exact q
 have nw:∀ {H' v d},RPost p H H' v d->Rp (fun a=>H a=none) H' v d:=fun w=>w.rp.mono (fun _ o=>o.1) (fun _ _ _ e=>e) fun _ _ e=>e
 exact⟨p,H,fun _=>none,_,_,E,body ds P t,⟨fun o s h' r' e' _ n=>q _ _ h' n e'.k0 e'.pen .non,fun d v h' n w=>q d v h' n w.k0 w.pen (nw w),fun _ _ _ _ _ _ n=>n.elim,fun _ _ _ _ _ _ n=>n.elim⟩⟩
end Dl
namespace PySem
open PyProof.Rows
abbrev j9 (f0:Value) (q:Bool) (TI TO:Addr):Obj:={ cls:=.type "zip",data:=.fields #[f0,.bool q,.bool false,.ref TI,.ref TO] }
section
variable {prog:Program}{w:World}{A:Around}{E:Value->Shared->Prop}{s:Shared}
theorem qP {z TI TO i1 i2 l1 l2 T:Addr}{q:Bool}{k:Nat}{xs ys:Array Value}{x y:Value}{oT:Obj}{Q:Value->Shared->Prop} (n1:i1≠z) (n2:i2≠z) (n12:i1≠i2) (m1:l1≠z) (m2:l2≠z) (m3:l2≠i1)
  (hZ:s.heap.get? z=some (j9 (rawInt T) q TI TO)) (hI:s.heap.get? TI=some { cls:=.type "tuple",data:=.seq #[.ref i1,.ref i2] }) (hT:s.heap.get? T=some oT)
  (j1:s.heap.IsListIter i1 l1 k) (j2:s.heap.IsListIter i2 l2 k) (e1:s.heap.IsList l1 xs) (e2:s.heap.IsList l2 ys) (hx:xs[k]?=some x) (hy:ys[k]?=some y)
  (hQ:∀ h',h'.get? z=some (j9 (rawInt T) true TI TO)->h'.IsListIter i1 l1 (k+1)->h'.IsListIter i2 l2 (k+1)->h'.get? s.heap.objs.size=some { cls:=.type "tuple",data:=.seq #[x,y] } ->
   (∀ c o,c≠z->c≠i1->c≠i2->s.heap.get? c=some o->h'.get? c=some o)->Q (.ref s.heap.objs.size) { s with heap:=h' }) :
  wpAny (model prog w) A (Builtin.«zip.__next__» ⟨[.ref z],[]⟩) (fun fin s'=>∃ v,fin=.done (.ret v)/\Q v s') E s:=by
 have fld:∀ {i:Nat}{v:Value}{R:Value->Shared->Prop},(#[rawInt T,Value.bool q,.bool false,.ref TI,.ref TO]:Array Value)[i]?=some v->R v s->wpAny (model prog w) A (field (.ref z) i) R E s:=fun h r=>Ű hZ rfl h r
 show wpAny _ _ (field (.ref z) 2 >>= _) _ _ _
 refine Á (fld (v:=.bool false) rfl ?_)
 show wpAny _ _ (field (.ref z) 3 >>= _) _ _ _
 refine Á (fld (v:=.ref TI) rfl ?_)
 refine Á (ũ hI rfl ?_)
 show wpAny _ _ (Ĺ (.ref z) >>= _) _ _ _
 refine Á ?_
 unfold Ĺ
 refine Á (fld (v:=rawInt T) rfl ?_)
 show wpAny _ _ (loadIfAlive ((T:Int).toNat) >>= _) _ _ _
 rw [ģ]
 refine Á (W.kdx_alive hT ?_)
 simp only [Option.isNone_some,ì,if_false]
 refine Á (fld (v:=.bool q) rfl ?_)
 refine L2.thn (Q:=fun a s'=>a=false/\∃ h1,s'={ s with heap:=h1 }/\h1.get? z=some (j9 (rawInt T) true TI TO)/\h1.objs.size=s.heap.objs.size/\∀ c o,c≠z->s.heap.get? c=some o->h1.get? c=some o) ?_ ?_
 ·cases q with
  | true=>exact Ä ⟨rfl,s.heap,rfl,hZ,rfl,fun c o _ e=>e⟩
  | false =>
   rw [if_pos (by decide)]
   refine Á (wpAny_setField_rec hZ (by simp) fun h1 z1 b1=>Ä ⟨rfl,h1,rfl,z1,b1.1,fun c o n e=>b1.extBut _ _ n e⟩)
 rintro a s' ⟨rfl,h1,rfl,z1,sz1,k1⟩
 simp only [ì,if_false]
 refine Á ?_
 simp only [← Array.forIn_toList,List.forIn_cons,List.forIn_nil]
 have at1:h1.IsListIter i1 l1 k:=j1.at fun o e=>k1 i1 o n1 e
 have at2:h1.IsListIter i2 l2 k:=j2.at fun o e=>k1 i2 o n2 e
 have f1:h1.IsList l1 xs:=e1.at fun o e=>k1 l1 o m1 e
 have f2:h1.IsList l2 ys:=e2.at fun o e=>k1 l2 o m2 e
 refine Á (Á (ú ?_))
 show wpAny _ _ (ė (.ref i1) >>= _) _ _ _
 refine Á (wpAny_nextOf_list_item at1 f1 hx fun h2 c1 b2=>Ä (Ä ?_))
 refine Á (Á (ú ?_))
 show wpAny _ _ (ė (.ref i2) >>= _) _ _ _
 refine Á (wpAny_nextOf_list_item (at2.extBut b2.extBut n12.symm) (f2.extBut b2.extBut m3) hy fun h3 c2 b3=>Ä (Ä (Ä ?_)))
 have sz3:h3.objs.size=s.heap.objs.size:=by rw [b3.1,b2.1,sz1]
 show wpAny _ _ (newTuple [x,y] >>= _) _ _ _
 refine Á (wpAny_newTuple (Ä ⟨_,rfl,?_⟩))
 show Q (.ref h3.objs.size) _
 rw [sz3]
 have up:∀ c o,c≠i1->c≠i2->h1.get? c=some o->(h3.push { cls:=.type "tuple",data:=.seq #[x,y] }).get? c=some o:=fun c o a b e=>Å _ (b3.extBut _ _ b (b2.extBut _ _ a e))
 refine hQ _ (up z _ n1.symm n2.symm z1) ((c1.extBut b3.extBut n12).at fun o e=>Å _ e) (c2.at fun o e=>Å _ e) ?_ fun c o a b d e=>up c o b d (k1 c o a e)
 rw [← sz3]
 exact Ò _ rfl
theorem uf {z TI TO i1 i2 l1 l2 T:Addr}{q:Bool}{k:Nat}{xs ys:Array Value}{oT:Obj}{Q:Fin->Shared->Prop} (hh:A.handled=none) (n1:i1≠z) (n2:i2≠z) (n12:i1≠i2) (m1:l1≠z) (m2:l2≠z) (m3:l2≠i1)
  (hZ:s.heap.get? z=some (j9 (rawInt T) q TI TO)) (hI:s.heap.get? TI=some { cls:=.type "tuple",data:=.seq #[.ref i1,.ref i2] }) (hT:s.heap.get? T=some oT)
  (j1:s.heap.IsListIter i1 l1 k) (j2:s.heap.IsListIter i2 l2 k) (e1:s.heap.IsList l1 xs) (e2:s.heap.IsList l2 ys) (hend:xs[k]?=none\/ys[k]?=none)
  (hE:∀ h' e,(∀ c o,c≠z->c≠i1->c≠i2->s.heap.get? c=some o->h'.get? c=some o)->(∃ o,h'.get? e=some o/\o.cls=.type "StopIteration")->E (.ref e) { s with heap:=h' }) :
  wpAny (model prog w) A (Builtin.«zip.__next__» ⟨[.ref z],[]⟩) Q E s:=by
 have fld:∀ {i:Nat}{v:Value}{R:Value->Shared->Prop},(#[rawInt T,Value.bool q,.bool false,.ref TI,.ref TO]:Array Value)[i]?=some v->R v s->wpAny (model prog w) A (field (.ref z) i) R E s:=fun h r=>Ű hZ rfl h r
 show wpAny _ _ (field (.ref z) 2 >>= _) _ _ _
 refine Á (fld (v:=.bool false) rfl ?_)
 show wpAny _ _ (field (.ref z) 3 >>= _) _ _ _
 refine Á (fld (v:=.ref TI) rfl ?_)
 refine Á (ũ hI rfl ?_)
 show wpAny _ _ (Ĺ (.ref z) >>= _) _ _ _
 refine Á ?_
 unfold Ĺ
 refine Á (fld (v:=rawInt T) rfl ?_)
 show wpAny _ _ (loadIfAlive ((T:Int).toNat) >>= _) _ _ _
 rw [ģ]
 refine Á (W.kdx_alive hT ?_)
 simp only [Option.isNone_some,ì,if_false]
 refine Á (fld (v:=.bool q) rfl ?_)
 refine L2.thn (Q:=fun a s'=>a=false/\∃ h1,s'={ s with heap:=h1 }/\h1.get? z=some (j9 (rawInt T) true TI TO)/\h1.objs.size=s.heap.objs.size/\∀ c o,c≠z->s.heap.get? c=some o->h1.get? c=some o) ?_ ?_
 ·cases q with
  | true=>exact Ä ⟨rfl,s.heap,rfl,hZ,rfl,fun c o _ e=>e⟩
  | false =>
   rw [if_pos (by decide)]
   refine Á (wpAny_setField_rec hZ (by simp) fun h1 z1 b1=>Ä ⟨rfl,h1,rfl,z1,b1.1,fun c o n e=>b1.extBut _ _ n e⟩)
 rintro a s' ⟨rfl,h1,rfl,z1,sz1,k1⟩
 simp only [ì,if_false]
 refine Á ?_
 simp only [← Array.forIn_toList,List.forIn_cons,List.forIn_nil]
 have at1:h1.IsListIter i1 l1 k:=j1.at fun o e=>k1 i1 o n1 e
 have at2:h1.IsListIter i2 l2 k:=j2.at fun o e=>k1 i2 o n2 e
 have f1:h1.IsList l1 xs:=e1.at fun o e=>k1 l1 o m1 e
 have f2:h1.IsList l2 ys:=e2.at fun o e=>k1 l2 o m2 e
 refine Á (Á (ú ?_))
 show wpAny _ _ (ė (.ref i1) >>= _) _ _ _
 cases hx:xs[k]? with
 | none=>exact Á (wpAny_nextOf_list_end hh at1 f1 hx fun h2 e b2 he=>hE h2 e (fun c o a b _ x=>b2 c o b (k1 c o a x)) he)
 | some x =>
  have hy:ys[k]?=none:=hend.elim (fun z=>by rw [hx] at z; cases z) id
  refine Á (wpAny_nextOf_list_item at1 f1 hx fun h2 c1 b2=>Ä (Ä ?_))
  refine Á (Á (ú ?_))
  show wpAny _ _ (ė (.ref i2) >>= _) _ _ _
  exact Á (wpAny_nextOf_list_end hh (at2.extBut b2.extBut n12.symm) (f2.extBut b2.extBut m3) hy fun h3 e b3 he=>hE h3 e (fun c o a b d x=>b3 c o d (b2.extBut _ _ b (k1 c o a x))) he)
structure ZSt (z TI TO i1 i2 l1 l2:Addr) (xs ys:Array Value) (i:Nat) (h:Heap):Prop where
 zip:(i=0/\h.get? z=some (j9 .none false TI TO))\/∃ (T:Addr) (q:Bool) (oT:Obj),h.get? z=some (j9 (rawInt T) q TI TO)/\h.get? T=some oT/\T≠z/\T≠i1/\T≠i2
 ti:h.get? TI=some { cls:=.type "tuple",data:=.seq #[.ref i1,.ref i2] }
 to:∃ a b,h.get? TO=some { cls:=.type "tuple",data:=.seq #[a,b] }
 j1:h.IsListIter i1 l1 i
 j2:h.IsListIter i2 l2 i
 e1:h.IsList l1 xs
 e2:h.IsList l2 ys
variable {z TI TO i1 i2 l1 l2:Addr}{xs ys:Array Value}
theorem ZSt.keeps {i:Nat}{h h':Heap} (Z:ZSt z TI TO i1 i2 l1 l2 xs ys i h) {S:Addr}{oS:Obj} (hS:h.get? S=some oS) (hc:oS.cls=.type "list") (n1:S≠l1) (n2:S≠l2) (nT:∀ (T:Addr) (q:Bool),h.get? z=some (j9 (rawInt T) q TI TO)->S≠T) (k:∀ b o,b≠S->h.get? b=some o->h'.get? b=some o):ZSt z TI TO i1 i2 l1 l2 xs ys i h':=by
 have ne:∀ {b:Addr}{o:Obj},h.get? b=some o->o.cls≠.type "list"->b≠S:=fun e n z=>by subst z; rw [hS] at e; cases e; exact n hc
 obtain⟨o1,a1,c1,d1⟩:=Z.j1
 obtain⟨o2,a2,c2,d2⟩:=Z.j2
 obtain⟨a,b,ab⟩:=Z.to
 have k1:=k i1 o1 (ne a1 (by rw [c1]; decide)) a1
 have k2:=k i2 o2 (ne a2 (by rw [c2]; decide)) a2
 refine⟨?_,k _ _ (ne Z.ti (show ï "tuple"≠_ by decide)) Z.ti,⟨a,b,k _ _ (ne ab (show ï "tuple"≠_ by decide)) ab⟩,⟨o1,k1,c1,d1⟩,⟨o2,k2,c2,d2⟩,Z.e1.at fun o e=>k _ o n1.symm e,Z.e2.at fun o e=>k _ o n2.symm e⟩
 rcases Z.zip with ⟨h0,hz⟩ | ⟨T,q,oT,hz,hT,r⟩
 ·exact .inl ⟨h0,k _ _ (ne hz (show ï "zip"≠_ by decide)) hz⟩
 ·exact .inr ⟨T,q,oT,k _ _ (ne hz (show ï "zip"≠_ by decide)) hz,k _ _ (nT T q hz).symm hT,r⟩
theorem Cw {i:Nat}{x y:Value}{Q:Option Value->Shared->Prop} (D:ZipApart z TI TO i1 i2 l1 l2) (Z:ZSt z TI TO i1 i2 l1 l2 xs ys i s.heap) (hx:xs[i]?=some x) (hy:ys[i]?=some y)
  (hQ:∀ h',ZSt z TI TO i1 i2 l1 l2 xs ys (i+1) h'->h'.get? s.heap.objs.size=some { cls:=.type "tuple",data:=.seq #[x,y] }->(∀ (T:Addr) (q:Bool),h'.get? z=some (j9 (rawInt T) q TI TO)->T=s.heap.objs.size\/∃ q',s.heap.get? z=some (j9 (rawInt T) q' TI TO)) ->
   (∀ c o,c≠z->c≠TO->c≠i1->c≠i2->s.heap.get? c=some o->h'.get? c=some o)->Q (some (.ref s.heap.objs.size)) { s with heap:=h' }):wpAny (model prog w) A (pyNext (.ref z)) Q E s:=by
 obtain⟨a,b,ab⟩:=Z.to
 have lt:∀ {c:Addr}{o:Obj},s.heap.get? c=some o->s.heap.objs.size≠c:=fun e=>ń (Ë e)
 obtain⟨o1,a1,_⟩:=id Z.j1
 obtain⟨o2,a2,_⟩:=id Z.j2
 rcases Z.zip with ⟨rfl,hz⟩ | ⟨T,q,oT,hz,hT,t1,t2,t3⟩
 ·refine wpAny_pyNext_zip_item D hz Z.ti ab Z.j1 Z.j2 Z.e1 Z.e2 hx hy fun h' b1 b2 b3 b4 b5 b6 b7=>hQ h' ⟨.inr ⟨_,false,_,b1,b5,lt hz,lt a1,lt a2⟩,b7 _ _ D.TIz D.TITO D.TIi1 D.TIi2 Z.ti,⟨_,_,b2⟩,b3,b4,Z.e1.at fun o e=>b7 _ o D.l1z D.l1TO D.l1i1 D.l1i2 e,Z.e2.at fun o e=>b7 _ o D.l2z D.l2TO D.l2i1 D.l2i2 e⟩ b5 (fun T q e=>?_) b7
  rw [b1] at e
  cases e
  exact .inl rfl
 ·have hTy:s.TypeIs (.ref z) "zip":=⟨_,hz,rfl⟩
  unfold pyNext
  refine Á (wpAny_attempt (č (name:=Ģ "__next__") hTy F.slot_zip_next (Ĉ F.slot_zip_next hTy F.entry_zip_next ?_ (F.args_zip_next_1 _))))
  refine qP D.i1z D.i2z D.i12 D.l1z D.l2z D.l2i1 hz Z.ti hT Z.j1 Z.j2 Z.e1 Z.e2 hx hy fun h' b1 b3 b4 b5 b7=>Ä (hQ h' ⟨.inr ⟨T,true,oT,b1,b7 _ _ t1 t2 t3 hT,t1,t2,t3⟩,b7 _ _ D.TIz D.TIi1 D.TIi2 Z.ti,⟨a,b,b7 _ _ D.TOz D.TOi1 D.TOi2 ab⟩,b3,b4,Z.e1.at fun o e=>b7 _ o D.l1z D.l1i1 D.l1i2 e,Z.e2.at fun o e=>b7 _ o D.l2z D.l2i1 D.l2i2 e⟩ b5 (fun T' q' e=>?_) fun c o n1 _ n3 n4 e=>b7 c o n1 n3 n4 e)
  rw [b1] at e
  cases e
  exact .inr ⟨_,hz⟩
theorem HD {i:Nat}{Q:Option Value->Shared->Prop} (hh:A.handled=none) (D:ZipApart z TI TO i1 i2 l1 l2) (Z:ZSt z TI TO i1 i2 l1 l2 xs ys i s.heap) (hend:xs[i]?=none\/ys[i]?=none)
  (hQ:∀ h',(∀ c o,c≠z->c≠TO->c≠i1->c≠i2->s.heap.get? c=some o->h'.get? c=some o)->Q none { s with heap:=h' }):wpAny (model prog w) A (pyNext (.ref z)) Q E s:=by
 obtain⟨a,b,ab⟩:=Z.to
 rcases Z.zip with ⟨rfl,hz⟩ | ⟨T,q,oT,hz,hT,t1,t2,t3⟩
 ·exact wpAny_pyNext_zip_end hh D hz Z.ti ab Z.j1 Z.j2 Z.e1 Z.e2 hend hQ
 ·have hTy:s.TypeIs (.ref z) "zip":=⟨_,hz,rfl⟩
  unfold pyNext
  refine Á (wpAny_attempt (č (name:=Ģ "__next__") hTy F.slot_zip_next (Ĉ F.slot_zip_next hTy F.entry_zip_next ?_ (F.args_zip_next_1 _))))
  refine uf hh D.i1z D.i2z D.i12 D.l1z D.l2z D.l2i1 hz Z.ti hT Z.j1 Z.j2 Z.e1 Z.e2 hend fun h' e k2 he=>?_
  obtain⟨o,ho,hc⟩:=he
  refine Á (wpAny_isInstance (T:="StopIteration") (b:=true) ⟨o,ho,hc⟩ isSubtype_stop ?_)
  exact Ä (hQ _ fun c o n1 _ n3 n4 e=>k2 c o n1 n3 n4 e)
def ItP (h:Heap):List Value->List (Value×Value)->Prop:=Paired fun v p=>∃ T,v=.ref T/\h.get? T=some { cls:=.type "tuple",data:=.seq #[p.1,p.2] }
theorem ItP.snoc {h:Heap}:∀ {vs:List Value}{ps:List (Value×Value)}{v:Value}{p:Value×Value},ItP h vs ps->(∃ T,v=.ref T/\h.get? T=some { cls:=.type "tuple",data:=.seq #[p.1,p.2] })->ItP h (vs++[v]) (ps++[p])
 | _,_,_,_,.nil,r=>.cons r .nil
 | _,_,_,_,.cons a t,r=>.cons a (ItP.snoc t r)
theorem ItP.keeps {h h':Heap}{vs:List Value}{ps:List (Value×Value)} (H:ItP h vs ps) (k:∀ T o,h.get? T=some o->o.cls=.type "tuple"->(∃ v∈vs,v=.ref T)->h'.get? T=some o):ItP h' vs ps:=by
 induction H with
 | nil=>exact .nil
 | cons a t ih =>
  obtain⟨T,e,hT⟩:=a
  exact .cons ⟨T,e,k T _ hT rfl ⟨_,Ö,e⟩⟩ (ih fun T o h c ⟨v,hv,e⟩=>k T o h c ⟨v,Ó _ hv,e⟩)
end
section
variable {prog:Program}{w:World}{A:Around}{z TI TO i1 i2 l1 l2:Addr}{xs ys:Array Value}{R:Result->Shared->Prop}
abbrev Jl (acc:Array Value) (c:Nat):Obj:={ cls:=.type "list",dict:=none,data:=.seq acc c,slots:=#[] }
theorem Cu (hh:A.in1.handled=none) (D:ZipApart z TI TO i1 i2 l1 l2) (hn:min xs.size ys.size<=1000) (S:Addr) (nS:S≠z/\S≠TO/\S≠i1/\S≠i2/\S≠l1/\S≠l2) (res:Value):∀ (m i:Nat) (s:Shared) (acc:Array Value) (c:Nat),min xs.size ys.size - i=m->i<=min xs.size ys.size ->
  ZSt z TI TO i1 i2 l1 l2 xs ys i s.heap->(∀ (T:Addr) (q:Bool),s.heap.get? z=some (j9 (rawInt T) q TI TO)->S≠T)->s.heap.get? S=some (Jl acc c)->ItP s.heap acc.toList ((xs.toList.zip ys.toList).take i)->(∀ v∈acc.toList,∀ T,v=.ref T->T≠z/\T≠TO/\T≠i1/\T≠i2/\T≠S) ->
  (∀ h' acc' c',(∀ b o,b≠S->b≠z->b≠TO->b≠i1->b≠i2->s.heap.get? b=some o->h'.get? b=some o)->h'.get? S=some (Jl acc' c')->ItP h' acc'.toList (xs.toList.zip ys.toList)->(∀ v∈acc'.toList,v∈acc.toList\/∃ T,v=.ref T/\s.heap.objs.size<=T)->R (.ok (.ret res)) { s with heap:=h' }) ->
  codeAny (model prog w) A (.builtin "list.extend.loop" ⟨[.ref S,.ref z,res],[]⟩) R s:=by
 obtain⟨s1,s2,s3,s4,s5,s6⟩:=nS
 intro m
 induction m with
 | zero =>
  intro i s acc c hm hi Z nT hS hP hv hR
  have e:i=min xs.size ys.size:=by omega
  refine Ļ F.entry_extend_loop ?_
  rw [Ł Ľ _]
  show wpAny _ A.in1 (pyNext (.ref z) >>= _) _ _ s
  refine Á (HD hh D Z ?_ fun h' k=>?_)
  ·rcases Nat.le_total xs.size ys.size with h | h
   ·exact .inl (Array.getElem?_eq_none (by omega))
   ·exact .inr (Array.getElem?_eq_none (by omega))
  ·have el:(xs.toList.zip ys.toList).take i=xs.toList.zip ys.toList:=ŧ (by simp; omega)
   rw [el] at hP
   exact Ä (hR h' acc c (fun b o n1 n2 n3 n4 n5 e=>k b o n2 n3 n4 n5 e) (k S _ s1 s2 s3 s4 hS) (hP.keeps fun T o h _ ⟨v,hv',e⟩=>let ⟨a1,a2,a3,a4,_⟩:=hv v hv' T e; k T o a1 a2 a3 a4 h) fun v hv=>.inl hv)
 | succ m ih =>
  intro i s acc c hm hi Z nT hS hP hv hR
  have hx:i<xs.size:=by omega
  have hy:i<ys.size:=by omega
  refine Ļ F.entry_extend_loop ?_
  rw [Ł Ľ _]
  show wpAny _ A.in1 (pyNext (.ref z) >>= _) _ _ s
  refine Á (Cw D Z (Ă hx) (Ă hy) fun h1 Z1 hT hz1 k1=>?_)
  have hS1:=k1 S _ s1 s2 s3 s4 hS
  have lt:∀ {b:Addr}{o:Obj},s.heap.get? b=some o->s.heap.objs.size≠b:=fun e=>ń (Ë e)
  have hsz:=hP.length
  have hsz2:acc.size=i:=by
   have:acc.toList.length=i:=by rw [hsz,Ī,ů]; simp; omega
   simpa using this
  show wpAny _ A.in1 (updateSeq S (·.push (.ref s.heap.objs.size)) >>= _) _ _ _
  refine Á ?_
  have h24:=ö
  have nT1:∀ (T:Addr) (q:Bool),h1.get? z=some (j9 (rawInt T) q TI TO)->S≠T:=fun T q e=>by
   rcases hz1 T q e with z' | ⟨q',e'⟩
   ·rw [z']; exact (lt hS).symm
   ·exact nT T q' e'
  have oth:∀ b o,b≠S->h1.get? b=some o->(h1.update S (æ (·.push (ü s.heap.objs.size)))).get? b=some o:=fun b o n e=>(õ _ _ (ċ n)).trans e
  obtain⟨o1,a1,_⟩:=Z.j1
  obtain⟨o2,a2,_⟩:=Z.j2
  have az:∃ o,s.heap.get? z=some o:=by
   rcases Z.zip with ⟨_,hz⟩ | ⟨_,_,_,hz,_⟩
   ·exact⟨_,hz⟩
   ·exact⟨_,hz⟩
  obtain⟨oz,az⟩:=az
  obtain⟨ta,tb,at'⟩:=Z.to
  have newT:s.heap.objs.size≠z/\s.heap.objs.size≠TO/\s.heap.objs.size≠i1/\s.heap.objs.size≠i2/\s.heap.objs.size≠S:=⟨lt az,lt at',lt a1,lt a2,lt hS⟩
  obtain⟨c2,hS2⟩:∃ c2,(h1.update S (æ (·.push (ü s.heap.objs.size)))).get? S=some (Jl (acc.push (.ref s.heap.objs.size)) c2):=⟨_,ù _ hS1 rfl⟩
  have tk:(xs.toList.zip ys.toList).take (i+1)=(xs.toList.zip ys.toList).take i++[(xs[i],ys[i])]:=by
   rw [Ŝ]
   congr 1
   have:(xs.toList.zip ys.toList)[i]?=some (xs[i],ys[i]):=by
    rw [List.getElem?_zip_eq_some]
    simp [hx,hy]
   rw [this]
   rfl
  refine Ż hS1 rfl (Ä ⟨ž Ľ _,ih (i+1) { s with heap:=h1.update S (æ (·.push (ü s.heap.objs.size))) } (acc.push (.ref s.heap.objs.size)) c2 (by omega) (by omega) (Z1.keeps hS1 rfl s5 s6 nT1 oth) (fun T q e=>nT1 T q ?_) hS2 ?_ ?_ ?_⟩) (by rw [hsz2]; omega) (by show (acc.push _).size<=sizeLine+1; rw [Array.size_push,hsz2]; omega)
  ·have zz:z≠S:=ċ s1
   rw [show (h1.update S (æ (·.push (ü s.heap.objs.size)))).get? z=h1.get? z from õ _ _ (ċ zz)] at e
   exact e
  ·rw [tk,Array.toList_push]
   refine ItP.snoc (hP.keeps fun T o h _ ⟨v,hv',e⟩=>?_) ⟨_,rfl,oth _ _ newT.2.2.2.2 hT⟩
   obtain⟨b1,b2,b3,b4,b5⟩:=hv v hv' T e
   exact oth _ _ b5 (k1 T o b1 b2 b3 b4 h)
  ·intro v hv' T e
   rw [Array.toList_push] at hv'
   rcases ä.mp hv' with q | q
   ·exact hv v q T e
   ·have q':v=.ref s.heap.objs.size:=by simpa using q
    rw [q'] at e
    cases e
    exact newT
  ·intro h' acc' c' kk hS' hP' hn'
   refine hR h' acc' c' (fun b o n1 n2 n3 n4 n5 e=>kk b o n1 n2 n3 n4 n5 (oth b o n1 (k1 b o n2 n3 n4 n5 e))) hS' hP' fun v hv'=>?_
   rcases hn' v hv' with q | ⟨T,e,hT'⟩
   ·rw [Array.toList_push] at q
    rcases ä.mp q with q | q
    ·exact .inl q
    ·have q':v=.ref s.heap.objs.size:=by simpa using q
     exact .inr ⟨_,q',Ï _⟩
   ·exact .inr ⟨T,e,Ĕ (Nat.le_of_lt (Ë (oth _ _ newT.2.2.2.2 hT))) hT'⟩
theorem vN:typeLookup (.type "zip") "__len__"=pure none:=by rw [typeLookup_type,ś]; kernel_rfl
theorem uc:typeLookup (.type "zip") "__length_hint__"=pure none:=by rw [typeLookup_type,ś]; kernel_rfl
theorem Cv {s:Shared}{E:Value->Shared->Prop}{Q:Value->Shared->Prop} (hh:A.handled=none) (D:ZipApart z TI TO i1 i2 l1 l2) (hn:min xs.size ys.size<=1000) (hz:s.heap.get? z=some (j9 .none false TI TO)) (Z:ZSt z TI TO i1 i2 l1 l2 xs ys 0 s.heap)
  (hQ:∀ h' acc' c',(∀ b o,b≠z->b≠TO->b≠i1->b≠i2->s.heap.get? b=some o->h'.get? b=some o)->h'.get? s.heap.objs.size=some (Jl acc' c')->ItP h' acc'.toList (xs.toList.zip ys.toList)->(∀ v∈acc'.toList,∃ T,v=.ref T/\s.heap.objs.size<T)->Q (.ref s.heap.objs.size) { s with heap:=h' }) :
  wpAny (model prog w) A (call (.type "list") [.ref z]) Q E s:=by
 have lt:∀ {b:Addr}{o:Obj},s.heap.get? b=some o->s.heap.objs.size≠b:=fun e=>ń (Ë e)
 obtain⟨o1,a1,_⟩:=id Z.j1
 obtain⟨o2,a2,_⟩:=id Z.j2
 obtain⟨p1,b1,_⟩:=id Z.e1
 obtain⟨p2,b2,_⟩:=id Z.e2
 obtain⟨ta,tb,at'⟩:=id Z.to
 refine callType_codes (Q₁:=fun obj s₁=>obj=.ref s.heap.objs.size/\s₁={ s with heap:=s.heap.push { cls:=.type "list",data:=.seq #[] } }) F.called_list (F.typeCall_list_1 _) F.entry_list_init (code_list_new _ ⟨rfl,rfl⟩) fun obj sx hx=>?_
 obtain⟨rfl,rfl⟩:=hx
 have hS:(s.heap.push { cls:=.type "list",data:=.seq #[] }).get? s.heap.objs.size=some { cls:=.type "list",data:=.seq #[] }:=Ò _ rfl
 refine⟨⟨_,hS,rfl⟩,F.args_list_init_2 _ _,?_⟩
 show wpAny _ _ (Builtin.List.listItems (.ref s.heap.objs.size) >>= fun old=>Builtin.List.listUpdate (.ref s.heap.objs.size) (fun _=>#[]) >>= fun _=>letGo old.toList.reverse >>= fun _=>Ď (.ref s.heap.objs.size) (.ref z) .none) _ _ _
 have old:∀ b o,s.heap.get? b=some o->(s.heap.push { cls:=.type "list",data:=.seq #[] }).get? b=some o:=fun b o e=>Å _ e
 refine Á ?_
 unfold Builtin.List.listItems
 refine Á (ũ hS rfl (Ä ?_))
 refine Á (m:=updateSeq s.heap.objs.size (fun _=>#[])) (Ż hS rfl ?_)
 have hS2:=ù (æ (fun _=>(#[]:Array Value))) hS rfl
 refine Á (wpAny_letGo ?_)
 generalize hg:(s.heap.push { cls:=.type "list",data:=.seq #[] }).update s.heap.objs.size (æ fun _=>(#[]:Array Value))=g at hS2
 have kg:∀ b o,s.heap.get? b=some o->g.get? b=some o:=fun b o e=>by rw [← hg]; exact (õ _ _ (lt e)).trans (old b o e)
 have sg:g.objs.size=s.heap.objs.size+1:=by rw [← hg,Ő,ħ]
 have Zg:∀ {h:Heap},(∀ b o,s.heap.get? b=some o->h.get? b=some o)->ZSt z TI TO i1 i2 l1 l2 xs ys 0 h:=fun {h} k=>⟨.inl ⟨rfl,k _ _ hz⟩,k _ _ Z.ti,⟨ta,tb,k _ _ at'⟩,Z.j1.at fun o e=>k _ o e,Z.j2.at fun o e=>k _ o e,Z.e1.at fun o e=>k _ o e,Z.e2.at fun o e=>k _ o e⟩
 have hT:∀ {h:Heap},(∀ b o,s.heap.get? b=some o->h.get? b=some o)->({ s with heap:=h }:Shared).TypeIs (.ref z) "zip":=fun k=>⟨_,k _ _ hz,rfl⟩
 unfold Ď
 refine Á (wpAny_typeOf (hT kg) ?_)
 have q1:Ĳ (.ref s.heap.objs.size) (.ref z)=false:=by simp [Ĳ,lt hz]
 have q2:(ï "zip" == ï "list")=false:=by decide
 have q3:(ï "zip" == ï "tuple")=false:=by decide
 simp only [q1,q2,q3,Bool.or_false,ì,if_false]
 refine Á (wpAny_pyIter_zip (kg _ _ hz) ?_)
 refine Á (ú ?_)
 unfold Ņ
 refine Á (ż (hT kg) vN ?_)
 show wpAny _ _ (specialOf (ü z) (Ģ "__length_hint__") >>= _) _ _ _
 refine Á (ż (hT kg) uc ?_)
 refine Ä ?_
 show wpAny _ _ (rule "list.extend.makes-room" >>= fun _=>Builtin.List.listTouch (.ref s.heap.objs.size) >>= fun _=>again (.builtin "list.extend.loop" ⟨[.ref s.heap.objs.size,.ref z,.none],[]⟩)) _ _ _
 refine Á (wpAny_rule (Á ?_))
 show wpAny _ _ (updateSeq s.heap.objs.size (·.push .none) >>= fun _=>updateSeq s.heap.objs.size (·.pop)) _ _ _
 refine Á (Ż hS2 rfl ?_)
 have hS3:=ù (æ (·.push Ě)) hS2 rfl
 refine Ż hS3 rfl ?_
 have hS4:=ù (æ (·.pop)) hS3 rfl
 generalize hk:(g.update s.heap.objs.size (æ (·.push Ě))).update s.heap.objs.size (æ (·.pop))=g' at hS4
 have kk:∀ b o,b≠s.heap.objs.size->g.get? b=some o->g'.get? b=some o:=fun b o n e=>by rw [← hk]; exact (õ _ _ (ċ n)).trans ((õ _ _ (ċ n)).trans e)
 have kk2:∀ b o,s.heap.get? b=some o->g'.get? b=some o:=fun b o e=>kk b o (ċ (lt e)) (kg b o e)
 have sk:g'.objs.size=s.heap.objs.size+1:=by rw [← hk,Ő,Ő,sg]
 refine Ä ⟨ž Ľ _,Cu (A:=A.in1) (xs:=xs) (ys:=ys) hh D hn s.heap.objs.size ⟨lt hz,lt at',lt a1,lt a2,lt b1,lt b2⟩ _ _ 0 { s with heap:=g' } #[] _ rfl (ÿ _) (Zg kk2) (fun T q e=>?_) hS4 .nil (fun v hv=>nomatch hv) fun h' acc' c' k' hS' hP' hn'=>?_⟩
 ·have e':=kk2 _ _ hz
  rw [e] at e'
  cases e'
 ·refine⟨rfl,hQ h' acc' c' (fun b o n1 n2 n3 n4 e=>k' b o (ċ (lt e)) n1 n2 n3 n4 (kk2 b o e)) hS' hP' fun v hv=>?_⟩
  rcases hn' v hv with q | ⟨T,e,hT'⟩
  ·exact nomatch q
  ·refine⟨T,e,?_⟩
   have:g'.objs.size<=T:=hT'
   omega
end
end PySem
namespace L2
open PySem PySem.Spec PyProof.Rows
section
variable {X:Cx}{pins:List (Addr×Obj)}{σ:L2.St}{H:Hp}{s:Shared}
theorem Inv.CV {a:Addr}{o:HO}{H0:Hp}{s0:Shared}{σ0:L2.St} (I:Inv X pins σ H s) (I0:Inv X pins σ0 H0 s0) (hle:s0.heap.objs.size<=a) (hn:H a=none) (new:aM X.prog X.w (upd H a o) s.heap a o):Inv X pins σ (upd H a o) s:=by
 have lt:∀ {b:Addr}{u:Obj},s0.heap.get? b=some u->b≠a:=fun e z=>absurd (â (Ë e) hle) (by rw [z]; exact ą _)
 refine I.track hn (fun ob e=>?_) (ċ (Ü (â I0.lt hle))) (fun x c e=>?_) (fun p hp=>lt (I0.pin p hp).1) new
 ·exact absurd (â (Ë e) (Ĕ I0.sz hle)) (ą _)
 ·obtain⟨v,u,hu,_⟩:=I0.cell x c e
  exact lt hu
theorem Inv.tuples {H0:Hp}{s0:Shared}{σ0:L2.St} (I0:Inv X pins σ0 H0 s0):∀ (vs:List Value) (ps:List (Value×Value)) (qs:List (V×V)) (H:Hp),Inv X pins σ H s->ItP s.heap vs ps->Paired (fun (q:V×V) (p:Value×Value)=>RelV q.1 p.1/\RelV q.2 p.2) qs ps->(∀ v∈vs,∃ T,v=.ref T/\s0.heap.objs.size<=T)->(∀ T,s0.heap.objs.size<=T->H T=none\/∃ xs,H T=some (.tup xs)) ->
  ∃ (H':Hp) (ws:List V),Inv X pins σ H' s/\Same H H'/\Vals ws vs/\Paired (fun w (q:V×V)=>∃ t,w=.ref t/\H' t=some (.tup [q.1,q.2])) ws qs/\(∀ T,s0.heap.objs.size<=T->H' T=none\/∃ xs,H' T=some (.tup xs))/\(∀ T,(∀ v∈vs,v≠.ref T)->H' T=H T)
 | _,_,_,H,I,.nil,.nil,_,hN=>⟨H,[],I,Same.refl _,.nil,.nil,hN,fun _ _=>rfl⟩
 | _,_,_,H,I,.cons (a:=v) (l₁:=vs) (b:=p) (l₂:=ps) r t,.cons (a:=q) (l₁:=qs) rq tq,hv,hN=>by
  obtain⟨T,e,hT⟩:=r
  subst e
  obtain⟨T',e',hle⟩:=hv _ Ö
  cases e'
  have vq:Vals [q.1,q.2] [p.1,p.2]:=.cons rq.1 (.cons rq.2 .nil)
  have okT:∀ H2:Hp,aM X.prog X.w H2 s.heap T (.tup [q.1,q.2]):=fun H2=>⟨by show 2<=sizeLine; decide,[p.1,p.2],vq,⟨_,hT,rfl,0,rfl⟩⟩
  have key:∃ H1,Inv X pins σ H1 s/\Same H H1/\H1 T=some (.tup [q.1,q.2])/\(∀ U,s0.heap.objs.size<=U->H1 U=none\/∃ xs,H1 U=some (.tup xs))/\∀ U,U≠T->H1 U=H U:=by
   rcases hN T hle with hn | ⟨xs,hx⟩
   ·refine⟨upd H T (.tup [q.1,q.2]),I.CV I0 hle hn (okT _),fun b u e=>by rw [aj (aq e hn)]; exact e,ao,fun U hU=>?_,fun U hU=>aj hU⟩
    by_cases z:U=T
    ·subst z; exact .inr ⟨_,ao⟩
    ·rw [aj z]; exact hN U hU
   ·refine⟨H,I,Same.refl _,?_,hN,fun _ _=>rfl⟩
    obtain⟨_,its,rv,o,ho,hc,n,hd⟩:=I.hok T _ hx
    rw [hT] at ho
    cases ho
    cases hd
    have:xs=[q.1,q.2]:=Vals.inj (by simpa using rv) vq
    rw [hx,this]
  obtain⟨H1,I1,s1,h1,N1,u1⟩:=key
  obtain⟨H2,ws,I2,s2,v2,p2,N2,u2⟩:=Inv.tuples I0 vs ps qs H1 I1 t tq (fun v hv'=>hv v (Ó _ hv')) N1
  refine⟨H2,.ref T::ws,I2,s1.trans s2,.cons rfl v2,.cons ⟨T,rfl,s2 _ _ h1⟩ p2,N2,fun U hU=>?_⟩
  rw [u2 U fun v hv'=>hU v (Ó _ hv'),u1 U fun z=>hU _ Ö (by rw [z])]
def tLZ (K:Ý) (ta:TA):TE:=fun σ H Q=>ta σ H fun vs H1=>∃ p q xs ys,vs=[.ref p,.ref q]/\SqL K H1 p xs/\SqL K H1 q ys/\xs.length<=1000 /\
 ∀ l ws H',Same H1 H'->H1 l=none->H' l=some (.lst ws)->Paired (fun w (q:V×V)=>∃ t,w=.ref t/\H' t=some (.tup [q.1,q.2])) ws (xs.zip ys)->Q (.ref l) H'
theorem uo:∀ {xs ys:List V}{us vs:List Value},Vals xs us->Vals ys vs->Paired (fun (q:V×V) (p:Value×Value)=>RelV q.1 p.1/\RelV q.2 p.2) (xs.zip ys) (us.zip vs)
 | _,_,_,_,.nil,_=>.nil
 | _,_,_,_,.cons _ _,.nil=>.nil
 | _,_,_,_,.cons a b,.cons c d=>.cons ⟨a,c⟩ (uo b d)
theorem wD {a b:Expr}{ta:TA}{p1 p2 pos1 pos2:Pos} (hc:X.calm=true) (hgl:Gl X "list") (hml:X.mg "list"=none) (hgz:Gl X "zip") (hmz:X.mg "zip"=none) (ha:PA X [a,b] ta)
  (e1:starEach [.Call (.Name "zip" p2) [a,b] [] pos2] X.env=[(false,eval (.Call (.Name "zip" p2) [a,b] [] pos2) X.env)]:=by rfl) (e2:starEach [a,b] X.env=(false,eval a X.env)::starEach [b] X.env:=by rfl) (e3:(backTo pos2 (starEach [b] X.env)).any (·.1)=false:=by rfl) :
  PE X (.Call (.Name "list" p1) [.Call (.Name "zip" p2) [a,b] [] pos2] [] pos1) (tLZ X.K ta):=by
 intro pins s σ H Q I h
 refine Ř (dh I hgl hml boot_list ?_)
 refine ā ?_ e1 rfl
 rw [e1]
 refine Calls.spliced_cons ?_
 refine Ř (dh I hgz hmz PyProof.Rows.boot_zip ?_)
 refine ā (thn (ha pos2 pins s σ H _ I h) fun us s1 ⟨vs,H1,I1,r1,q1⟩=>?_) e2 e3
 obtain⟨p,q,xs,ys,rfl,hp,hq,hlen,k⟩:=q1
 obtain⟨u,u2,rfl,rx,ry⟩:=vals2 r1
 cases rx
 cases ry
 obtain⟨its,rv,pl,_⟩:=I1.list hp
 obtain⟨its2,rv2,pl2,_⟩:=I1.list hq
 refine call_zip_2 pl.isList pl2.isList fun h' hz hTI hTO hi1 hi2 hsz hk=>?_
 refine Calls.spliced_nil ?_
 have lp:p<s1.heap.objs.size:=by obtain⟨o,e,_⟩:=pl.isList; exact Ë e
 have lq:q<s1.heap.objs.size:=by obtain⟨o,e,_⟩:=pl2.isList; exact Ë e
 have D:=zipApart_new lp lq
 have Z:ZSt (s1.heap.objs.size+4) (s1.heap.objs.size+2) (s1.heap.objs.size+3) s1.heap.objs.size (s1.heap.objs.size+1) p q its.toArray its2.toArray 0 h' :=
  ⟨.inl ⟨rfl,hz⟩,hTI,⟨_,_,hTO⟩,hi1,hi2,pl.isList.at fun o e=>hk _ o e,pl2.isList.at fun o e=>hk _ o e⟩
 have hl1:=rv.length
 refine Cv (s:={ s1 with heap:=h' }) (I1.ok.hd hc) D (by simp; omega) hz Z fun h2 acc c2 k2 hS hP hT=>?_
 have lt:∀ {b:Addr}{o:Obj},s1.heap.get? b=some o->b<s1.heap.objs.size:=fun e=>Ë e
 have kept:∀ b o,s1.heap.get? b=some o->h2.get? b=some o:=fun b o e=>by
  have l0:=lt e
  have l1:∀ j,b≠s1.heap.objs.size+j:=fun j=>Ü (â l0 (Nat.le_add_right _ _))
  exact k2 b o (l1 4) (l1 3) (l1 0) (l1 1) (hk b o e)
 have I2:Inv X pins σ H1 { s1 with heap:=h2 }:=I1.kept (t':=s1.toks) kept
 have hsz':h'.objs.size=s1.heap.objs.size+5:=hsz
 obtain⟨H3,ws,I3,s3,v3,p3,N3,u3⟩:=Inv.tuples I1 acc.toList _ _ H1 I2 hP (uo rv rv2) (fun v hv=>by
  obtain⟨T,e,hT'⟩:=hT v hv
  have hT'':h'.objs.size<T:=hT'
  exact⟨T,e,by omega⟩) fun T hT=>.inl (I1.hok.fresh hT)
 have hSn:H3 h'.objs.size=none:=by
  rw [u3 _ fun v hv z=>?_]
  ·exact I1.hok.fresh (by omega)
  ·obtain⟨T,e,hT'⟩:=hT v hv
   rw [z] at e
   cases e
   exact absurd hT' (ą _)
 have hwl:ws.length<=sizeLine:=by
  have:=v3.length
  have h24:=ö
  have l3:=p3.length
  rw [l3,ů]
  omega
 have I4:Inv X pins σ (upd H3 h'.objs.size (.lst ws)) { s1 with heap:=h2 }:=I3.CV I1 (by omega) hSn ⟨hwl,acc.toList,c2,v3,hS⟩
 refine⟨.ref h'.objs.size,_,I4,rfl,k h'.objs.size ws _ (s3.trans fun b u e=>by rw [aj (aq e hSn)]; exact e) (I1.hok.fresh (by omega)) ao (Paired.Bk p3 fun w q ⟨t,e,ht⟩=>⟨t,e,by rw [aj (aq ht hSn)]; exact ht⟩)⟩
end
end L2
namespace Dl
open PySem L2 PyProof.Rows
variable [Gr]
section
variable {X:Cx}{pos:Pos}{a b c e:Expr}{es:List Expr}{ta tb tc te:DE}{t:DA}
def newP (k:Kd) (ds:List D) (P:Kd->Prop):Prop:=(cu ds=true/\P .new)\/P (k.join .new)
theorem eZ {p:Pn}{H0 Hb H H2:Hp}{own:Addr->Option Nat} (A:At p H0 own Hb H) {k:Kd}{vs:List V}{ds:List D}{P:Kd->Prop}{l:Addr} (r:Rps (okK p H0 own Hb k) H2 vs ds) (nw:okK p H0 own Hb .new l) (hl:H2 l=some (.lst vs)) (h:newP k ds P):∃ k',P k'/\Rp (okK p H0 own Hb k') H2 (.ref l) (.list ds):=by
 rcases h with ⟨i,h⟩ | h
 ·exact⟨_,h,.lst nw hl ((Rps.imm r i).mono (fun _ o=>o.elim) (fun _ _ _ e=>e) fun _ _ e=>e)⟩
 ·exact⟨_,h,.lst (cj A (cJ k .new).2 nw) hl (r.mono (fun a o=>cj A (cJ k .new).1 o) (fun _ _ _ e=>e) fun _ _ e=>e)⟩
theorem gC:∀ l:List Int,cu (l.map Æ)=true
 | []=>rfl
 | x::l=>by
  show (dF (.int x)&&cu (l.map Æ))=true
  rw [gC l]
  rfl
theorem lC:∀ l:List Tie,cu (l.map pD)=true
 | []=>rfl
 | x::l=>by
  show (dF (pD x)&&cu (l.map pD))=true
  rw [lC l]
  rfl
def prD (p:D×D):D:=.tuple [p.1,p.2]
def Pz:GC:=fun ks P=>match ks with
 | [(k1,.list ds),(k2,.list es)]=>ds.length<=1000/\newP (k1.join k2) ((ds.zip es).map prD) fun k=>P k (.list ((ds.zip es).map prD))
 | _=>False
theorem Rps.zip {ok:Addr->Prop}{H H':Hp} (m:∀ {v:V}{d:D},Rp ok H v d->Rp ok H' v d):∀ {xs ys:List V}{ds es:List D}{ws:List V},Rps ok H xs ds->Rps ok H ys es->Paired (fun w (q:V×V)=>∃ t,w=.ref t/\H' t=some (.tup [q.1,q.2])) ws (xs.zip ys)->Rps ok H' ws ((ds.zip es).map prD)
 | _,_,_,_,_,.nil,_,p=>by cases p; exact .nil
 | _,_,_,_,_,.cons _ _,.nil,p=>by cases p; exact .nil
 | _,_,_,_,_,.cons h t,.cons h2 t2,p=>by
  cases p with
  | cons r q =>
   obtain⟨t',rfl,ht⟩:=r
   exact .cons (.tup ht (.cons (m h) (.cons (m h2) .nil))) (Rps.zip m t t2 q)
theorem wL {p1 p2 pos1 pos2:Pos} (hc:X.calm=true) (hml:X.mg "list"=none) (hmz:X.mg "zip"=none) (ha:PDA X [a,b] t) (hgl:Gl X "list":=by rfl) (hgz:Gl X "zip":=by rfl)
  (e1:starEach [.Call (.Name "zip" p2) [a,b] [] pos2] X.env=[(false,eval (.Call (.Name "zip" p2) [a,b] [] pos2) X.env)]:=by rfl) (e2:starEach [a,b] X.env=(false,eval a X.env)::starEach [b] X.env:=by rfl) (e3:(backTo pos2 (starEach [b] X.env)).any (·.1)=false:=by rfl) :
  PD X (.Call (.Name "list" p1) [.Call (.Name "zip" p2) [a,b] [] pos2] [] pos1) (tCl Pz t):=PE.wk (wD hc hgl hml hgz hmz ha e1 e2 e3) (by
 rintro σ H Q ⟨p,H0,own,ρ,P,E,t,q⟩
 refine⟨p,H0,own,ρ,_,E,t,fun ks vs H1 h A r=>?_⟩
 unfold Pz at h
 split at h
 ·rename_i k1 ds k2 es'
  obtain⟨v,w,rfl,r1,r2⟩:=Dv r
  obtain⟨x,xs,e1,o1,h1,rs1⟩:=Rp.bM r1
  obtain⟨y,ys,e2,o2,h2,rs2⟩:=Rp.bM r2
  subst e1 e2
  refine⟨x,y,xs,ys,rfl,SqL.of h1,SqL.of h2,by rw [rs1.length]; exact h.1,fun l ws H' sm hl hl' hp=>?_⟩
  have K:Kp p H1 H':=Kp.of sm
  have i2:p.PI H':=p.mono H1 H' A.pen fun b o _ e=>sm b o e
  have j2:=cJ k1 k2
  have m1:∀ {k:Kd},k.le (k1.join k2)=true->∀ {vs ds},Rps (okK p H0 own H k) H1 vs ds->Rps (okK p H0 own H (k1.join k2)) H1 vs ds:=fun hk _ _ z=>z.mono (fun a o=>cj A hk o) (fun _ _ _ e=>e) fun _ _ e=>e
  obtain⟨k',hk',rk'⟩:=eZ A (Rps.zip (fun z=>fQ A K z) (m1 j2.1 rs1) (m1 j2.2 rs2) hp) (A.free hl) hl' h.2
  exact q _ _ _ _ hk' (A.go K i2) rk'
 ·exact h.elim)
def tCh (f g:Int->Int->Bool) (ta tb tc:DE):DE:=fun ρ P=>ta ρ fun _ d1=>tb ρ fun _ d2=>match d1,d2 with
 | .int i,.int j=>if f i j=true then tc ρ fun _ d3=>(match d3 with
   | .int l=>P .imm (.bool (g j l))
   | _=>False) else P .imm (.bool false)
 | _,_=>False
theorem zm {f g:Int->Int->Bool}:∀ σ H Q,aW (tCh f g ta tb tc) σ H Q->nu (rI0 fun i j=>.bl (f i j)) (rI0 fun i j=>.bl (g i j)) (aW ta) (aW tb) (aW tc) σ H Q:=by
 rintro σ H Q ⟨p,H0,own,ρ,P,E,t,q⟩
 refine⟨p,H0,own,ρ,_,E,t,fun k1 d1 v1 H1 t1 A1 r1=>?_⟩
 refine⟨p,H0,own,ρ,_,E.go A1.kp A1.pen,t1,fun k2 d2 v2 H2 t2 A2 r2=>?_⟩
 have A:=A1.base A2
 split at t2
 ·rename_i i j
  refine⟨i,j,r1.int',r2.int',_,rfl,?_⟩
  cases hf:f i j with
  | true =>
   rw [hf,if_pos rfl] at t2
   refine aH ⟨p,H0,own,ρ,_,(E.go A1.kp A1.pen).go A2.kp A2.pen,t2,fun k3 d3 v3 H3 t3 A3 r3=>?_⟩
   cases d3 with
   | int l=>exact⟨j,l,r2.int',r3.int',q _ _ _ _ t3 (A.base A3) (.bl _)⟩
   | _=>exact t3.elim
  | false =>
   rw [hf,if_neg Ô] at t2
   exact aB (q _ _ _ _ t2 A (.bl _))
 ·exact t2.elim
theorem I9 (ha:PD X a ta) (hb:PD X b tb) (hc:PD X c tc) (hm:lastMarks [.LtE,.Lt] [b,c]=false:=by with_unfolding_all rfl):PD X (.Compare a [.LtE,.Lt] [b,c] pos) (tCh (fun i j=>decide (i<=j)) (fun i j=>decide (i<j)) ta tb tc):=PE.wk (Em Ez Ey ha hb hc hm) zm
theorem kW {op op':CmpOp}{r r':R2}{g:DE} (h:PT X (.Compare a [op,op'] [b,c] pos) (CW (nu r r' (aW ta) (aW tb) (aW tc)))) (w:∀ σ H Q,aW g σ H Q->nu r r' (aW ta) (aW tb) (aW tc) σ H Q):PDT X (.Compare a [op,op'] [b,c] pos) (cQ g) :=
 PT.wk h fun σ H Q q=>w σ H _ (oG σ H Q q)
def N6 (ta:DE):DE:=fun ρ P=>ta ρ fun _ d=>match d with
 | .bool b=>P .imm (.bool (!b))
 | _=>False
theorem LQ (ha:PD X a ta):PD X (.UnaryOp .Not a pos) (N6 ta):=PE.wk (Lw ha) (by
 rintro σ H Q ⟨p,H0,own,ρ,P,E,t,q⟩
 refine⟨p,H0,own,ρ,_,E,t,fun k d v H' h A r=>?_⟩
 cases d with
 | bool b=>exact⟨b,r.bl',q _ _ _ _ h A (.bl _)⟩
 | _=>exact h.elim)
def yq (ta tb:DE):DE:=fun ρ P=>ta ρ fun _ d=>match d with
 | .bool b=>if b=true then tb ρ P else P .imm (.bool false)
 | _=>False
theorem iV {op} (h:PD X a ta):PD X (.BoolOp op [a] pos) ta:=Ls h
theorem eX {rest:List Expr} (ha:PD X a ta) (hb:PD X (.BoolOp .And (b::rest) pos) tb):PD X (.BoolOp .And (a::b::rest) pos) (yq ta tb):=PE.wk (LC ha hb) (by
 rintro σ H Q ⟨p,H0,own,ρ,P,E,t,q⟩
 refine⟨p,H0,own,ρ,_,E,t,fun k d v H' h A r=>?_⟩
 cases d with
 | bool b =>
  refine⟨b,r.bl',?_⟩
  cases b with
  | true=>exact aH ⟨p,H0,own,ρ,P,E.go A.kp A.pen,by simpa using h,fun k d v H2 h2 A2 r2=>q k d v H2 h2 (A.base A2) (jt A r2)⟩
  | false=>exact aB (q _ _ _ _ (by simpa using h) A (.bl _))
 | _=>exact h.elim)
def Oe (tc:DT) (ta tb:DE):DE:=fun ρ P=>tc ρ fun b=>if b=true then ta ρ P else tb ρ P
theorem jB {u:DT} (hc:PDT X c u) (ha:PD X a ta) (hb:PD X b tb):PD X (.IfExp c a b pos) (Oe u ta tb):=PE.wk (El hc ha hb) (by
 rintro σ H Q ⟨p,H0,own,ρ,P,E,t,q⟩
 refine⟨p,H0,own,ρ,_,E,t,fun b H' h A=>?_⟩
 have nx:∀ k d v H2,P k d->At p H0 own H' H2->Rp (okK p H0 own H' k) H2 v d->Q v H2:=fun k d v H2 h2 A2 r2=>q k d v H2 h2 (A.base A2) (jt A r2)
 cases b with
 | true=>exact aH ⟨p,H0,own,ρ,P,E.go A.kp A.pen,by simpa using h,nx⟩
 | false=>exact aB ⟨p,H0,own,ρ,P,E.go A.kp A.pen,by simpa using h,nx⟩)
def tyD:D->String
 | .none=>"NoneType"
 | .bool _=>"bool"
 | .int _=>"int"
 | .str _=>"str"
 | .list _=>"list"
 | .tuple _=>"tuple"
 | .dict _=>"dict"
def isT (c:String) (d:D):Bool:=tyD d == c || (c == "int"&&tyD d == "bool")
def tIs (c:String) (te:DE):DE:=fun ρ P=>te ρ fun _ d=>P .imm (.bool (isT c d))
theorem dW {T:String}{x:Str}{ps pt:Pos} (hk:∀ t:Value,(t=.type "NoneType"\/t=.type "bool"\/t=.type "int"\/t=.type "str"\/t=.type "list"\/t=.type "tuple"\/t=.type "dict")->∃ n,t=.type n/\W.kitOne X.K t (.type T)=some (n == T || (T == "int"&&n == "bool")))
  (hm:X.mg "isinstance"=none) (he:PD X e te) (hT:PE X (.Name x pt) (tC (.ty T))) (hg:Gl X "isinstance":=by rfl) (h1:starEach [e,.Name x pt] X.env=(false,eval e X.env)::starEach [.Name x pt] X.env:=by rfl) (h2:starEach [.Name x pt] X.env=(false,eval (.Name x pt) X.env)::starEach [] X.env:=by rfl) (hpl:(backTo pos (starEach [.Name x pt] X.env)).any (·.1)=false:=by rfl) :
  PD X (.Call (.Name "isinstance" ps) [e,.Name x pt] [] pos) (tIs T te):=PE.wk (bT tW hg hm boot_isinstance (aG he (aG hT bB h2) h1) (by decide) (by decide) h1 hpl) (by
 rintro σ H Q ⟨p,H0,own,ρ,P,E,t,q⟩
 refine⟨p,H0,own,ρ,_,E,t,fun k d v H' h A r=>?_⟩
 have fin:∀ n,TyOf X.K H' v (.type n)->n=tyD d->∃ x' c' t' b,[v,V.ty T]=[x',.ty c']/\TyOf X.K H' x' t'/\W.kitOne X.K t' (.type c')=some b/\Q (.bl b) H':=fun n ty en=>by
  obtain⟨n',e,hk'⟩:=hk (.type n) (by rw [en]; cases d <;> simp [tyD])
  cases e
  refine⟨v,T,.type n,_,rfl,ty,hk',?_⟩
  rw [en]
  exact q _ _ _ _ h A (.bl _)
 show ∃ x' c' t' b,_/\_
 cases r with
 | non=>exact fin _ .non rfl
 | bl b=>exact fin _ (.bl b) rfl
 | int i=>exact fin _ (.int i) rfl
 | str x=>exact fin _ (.str x) rfl
 | lst o hh rr=>exact fin _ (.lst hh) rfl
 | tup hh rr=>exact fin _ (.tup hh) rfl
 | dct o hh rr=>exact fin _ (.dK hh) rfl)
theorem zE {K:Ý}:∀ t:Value,(t=.type "NoneType"\/t=.type "bool"\/t=.type "int"\/t=.type "str"\/t=.type "list"\/t=.type "tuple"\/t=.type "dict")->∃ n,t=.type n/\W.kitOne K t (.type "int")=some (n == "int" || ("int" == "int"&&n == "bool")):=by
 rintro t (rfl | rfl | rfl | rfl | rfl | rfl | rfl) <;> exact⟨_,rfl,rfl⟩
theorem vf {K:Ý}:∀ t:Value,(t=.type "NoneType"\/t=.type "bool"\/t=.type "int"\/t=.type "str"\/t=.type "list"\/t=.type "tuple"\/t=.type "dict")->∃ n,t=.type n/\W.kitOne K t (.type "bool")=some (n == "bool" || ("bool" == "int"&&n == "bool")):=by
 rintro t (rfl | rfl | rfl | rfl | rfl | rfl | rfl) <;> exact⟨_,rfl,rfl⟩
theorem jO {K:Ý}:∀ t:Value,(t=.type "NoneType"\/t=.type "bool"\/t=.type "int"\/t=.type "str"\/t=.type "list"\/t=.type "tuple"\/t=.type "dict")->∃ n,t=.type n/\W.kitOne K t (.type "list")=some (n == "list" || ("list" == "int"&&n == "bool")):=by
 rintro t (rfl | rfl | rfl | rfl | rfl | rfl | rfl) <;> exact⟨_,rfl,rfl⟩
theorem kit_tuple {K:Ý}:∀ t:Value,(t=.type "NoneType"\/t=.type "bool"\/t=.type "int"\/t=.type "str"\/t=.type "list"\/t=.type "tuple"\/t=.type "dict")->∃ n,t=.type n/\W.kitOne K t (.type "tuple")=some (n == "tuple" || ("tuple" == "int"&&n == "bool")):=by
 rintro t (rfl | rfl | rfl | rfl | rfl | rfl | rfl) <;> exact⟨_,rfl,rfl⟩
def M9:GC:=fun ks P=>match ks with
 | [(_,.list ds)]=>∃ bs:List Bool,ds=bs.map PyData.bool/\P .imm (.bool (bs.all id))
 | _=>False
theorem Rps.bools {ok:Addr->Prop}{H:Hp}:∀ {vs:List V}{bs:List Bool},Rps ok H vs (bs.map PyData.bool)->vs=bs.map V.bl
 | [],[],_=>rfl
 | _,b::bs,.cons h t=>by
  have e:=h.bl'
  subst e
  rw [Rps.bools t]
  rfl
theorem iZ {ps:Pos} (hc:X.calm=true) (hm:X.mg "all"=none) (hv:bootBuiltins "all"=some (.builtin "all")) (ha:PDA X [a] t) (hg:Gl X "all":=by rfl) (he:zS X a []:=by rfl) (hpl:zP X pos []:=by rfl):PD X (.Call (.Name "all" ps) [a] [] pos) (tCl M9 t) :=
 dg (Ck hc) (by
  intro p H0 own Hb H vs ks P Q A r t q
  unfold M9 at t
  split at t
  ·obtain⟨bs,rfl,t⟩:=t
   obtain⟨v,rfl,r'⟩:=cY r
   obtain⟨x,xs,e1,o1,h1,rs1⟩:=Rp.bM r'
   subst e1
   have e2:=Rps.bools rs1
   subst e2
   exact⟨x,bs,rfl,SqL.of h1,q _ _ _ _ t Kp.refl A.pen (.bl _)⟩
  ·exact t.elim) hg hm hv ha (by decide) (by decide) he hpl
def gMM (f:Int->Int->Int):GC:=fun ks P=>match ks with
 | [(_,.int i),(_,.int j)]=>P .imm (.int (f i j))
 | _=>False
theorem rJ {ps:Pos} (hc:X.calm=true) (hm:X.mg "min"=none) (ha:PDA X [a,b] t) (hg:Gl X "min":=by rfl) (he:starEach [a,b] X.env=(false,eval a X.env)::starEach [b] X.env:=by rfl) (hpl:(backTo pos (starEach [b] X.env)).any (·.1)=false:=by rfl):PD X (.Call (.Name "min" ps) [a,b] [] pos) (tCl (gMM fun i j=>if j<i then j else i) t) :=
 dg (Ce hc) (by
  intro p H0 own Hb H vs ks P Q A r t q
  unfold gMM at t
  split at t
  ·rename_i k i k' j
   obtain⟨v,w,rfl,r1,r2⟩:=Dv r
   rw [Rp.int' r1,Rp.int' r2]
   exact⟨i,j,rfl,q _ _ _ _ t Kp.refl A.pen (.int _)⟩
  ·exact t.elim) hg hm boot_min ha (by decide) (by decide) he hpl
def Gs:GC:=fun ks P=>match ks with
 | [(k,.list ds)]=>newP k ds fun k'=>P k' (.list ds)
 | [(k,.tuple ds)]=>newP k ds fun k'=>P k' (.list ds)
 | _=>False
theorem rK {ps:Pos} (hm:X.mg "list"=none) (ha:PDA X [a] t) (hg:Gl X "list":=by rfl) (he:zS X a []:=by rfl) (hpl:zP X pos []:=by rfl):PD X (.Call (.Name "list" ps) [a] [] pos) (tCl Gs t) :=
 nU tR (by
  intro p H0 own Hb H vs ks P Q A r t q
  have fin:∀ {k ds xs},Rps (okK p H0 own Hb k) H xs ds->newP k ds (fun k'=>P k' (.list ds))->∀ l,H l=none->Q (.ref l) (upd H l (.lst xs)):=fun {k ds xs} rs t l hl=>by
   obtain⟨k2,i2,nw⟩:=A.new hl (.lst xs)
   obtain⟨k',hk',rk'⟩:=eZ A (bR A k2 rs) nw ao t
   exact q _ _ _ _ hk' k2 i2 rk'
  unfold Gs at t
  split at t
  ·obtain⟨v,rfl,r'⟩:=cY r
   obtain⟨x,xs,e1,o1,h1,rs1⟩:=Rp.bM r'
   subst e1
   exact⟨x,xs,rfl,.inl (SqL.of h1),fin rs1 t⟩
  ·obtain⟨v,rfl,r'⟩:=cY r
   obtain⟨x,xs,e1,h1,rs1⟩:=Rp.cP r'
   subst e1
   exact⟨x,xs,rfl,.inr (SqT.of h1),fin rs1 t⟩
  ·exact t.elim) hg hm boot_list ha (by decide) (by decide) he hpl
def Gn:GC:=fun ks P=>match ks with
 | [(k,.list ds)]=>P (norm k (.tuple ds)) (.tuple ds)
 | [(k,.tuple ds)]=>P (norm k (.tuple ds)) (.tuple ds)
 | _=>False
theorem mQ {ps:Pos} (hm:X.mg "tuple"=none) (ha:PDA X [a] t) (hg:Gl X "tuple":=by rfl) (he:zS X a []:=by rfl) (hpl:zP X pos []:=by rfl):PD X (.Call (.Name "tuple" ps) [a] [] pos) (tCl Gn t) :=
 nU pU (by
  intro p H0 own Hb H vs ks P Q A r t q
  unfold Gn at t
  split at t
  ·rename_i k ds
   obtain⟨v,rfl,r'⟩:=cY r
   obtain⟨x,xs,e1,o1,h1,rs1⟩:=Rp.bM r'
   subst e1
   refine⟨x,xs,rfl,.inl ⟨SqL.of h1,fun l hl=>?_⟩⟩
   obtain⟨k2,i2,nw⟩:=A.new hl (.tup xs)
   exact q _ _ _ _ t k2 i2 (bI (.tup ao (bR A k2 rs1)))
  ·rename_i k ds
   obtain⟨v,rfl,r'⟩:=cY r
   obtain⟨x,xs,e1,h1,rs1⟩:=Rp.cP r'
   subst e1
   exact⟨x,xs,rfl,.inr ⟨SqT.of h1,q _ _ _ _ t Kp.refl A.pen (bI r')⟩⟩
  ·exact t.elim) hg hm boot_tuple ha (by decide) (by decide) he hpl
def w5:GC:=fun ks P=>match ks with
 | [(_,d)]=>∃ ts:List Tie,(d=.list (ts.map pD)\/d=.tuple (ts.map pD))/\ts.length<64/\(∀ t∈ts,pX t)/\∀ us:List Tie,us.Perm ts->us.Pairwise (fun a b=>bx a<=bx b)->P .new (.list (us.map pD))
 | _=>False
theorem Rps.prs {ok:Addr->Prop}{H:Hp}:∀ {vs:List V}{ts:List Tie},Rps ok H vs (ts.map pD)->Prs H vs ts
 | [],[],_=>.nil
 | _,t::ts,.cons h r=>by
  obtain⟨x,xs,e,hx,rs⟩:=Rp.cP h
  obtain⟨v1,v2,e2,q1,q2⟩:=Rps.two rs
  subst e e2
  rw [q1.int',q2.int'] at hx
  exact .cons ⟨x,rfl,hx⟩ (Rps.prs r)
theorem Prs.rps {ok:Addr->Prop}{H:Hp}:∀ {vs:List V}{ts:List Tie},Prs H vs ts->Rps ok H vs (ts.map pD)
 | _,_,.nil=>.nil
 | _,_,.cons r t=>by
  obtain⟨x,e,hx⟩:=r
  subst e
  exact .cons (.tup hx (.cons (.int _) (.cons (.int _) .nil))) (Prs.rps t)
theorem jA {ps:Pos} (hm:X.mg "sorted"=none) (ha:PDA X [a] t) (hg:Gl X "sorted":=by rfl) (he:zS X a []:=by rfl) (hpl:zP X pos []:=by rfl):PD X (.Call (.Name "sorted" ps) [a] [] pos) (tCl w5 t) :=
 dg tQ (by
  intro p H0 own Hb H vs ks P Q A r t q
  unfold w5 at t
  split at t
  ·obtain⟨ts,hd,hl,hn,t⟩:=t
   obtain⟨v,rfl,r'⟩:=cY r
   have fin:∀ l ws us,H l=none->Prs H ws us->us.Perm ts->us.Pairwise (fun a b=>bx a<=bx b)->Q (.ref l) (upd H l (.lst ws)):=fun l ws us hl' pr hp hs=>by
    obtain⟨k2,i2,nw⟩:=A.new hl' (.lst ws)
    exact q _ _ _ _ (t us hp hs) k2 i2 (.lst nw ao (bR A k2 (Prs.rps pr)))
   rcases hd with rfl | rfl
   ·obtain⟨x,xs,e1,o1,h1,rs1⟩:=Rp.bM r'
    subst e1
    exact⟨x,xs,ts,rfl,.inl (SqL.of h1),Rps.prs rs1,hn,hl,fin⟩
   ·obtain⟨x,xs,e1,h1,rs1⟩:=Rp.cP r'
    subst e1
    exact⟨x,xs,ts,rfl,.inr (SqT.of h1),Rps.prs rs1,hn,hl,fin⟩
  ·exact t.elim) hg hm boot_sorted ha (by decide) (by decide) he hpl
end
variable [Gr]
section
variable {X:Cx}{pins:List (Addr×Obj)}{σ:L2.St}{H:Hp}{s:Shared}{ok:Addr->Prop}
mutual
theorem Rp.reads (I:Inv X pins σ H s):∀ {v:V}{d:D}{u:Value},Rp ok H v d->RelV v u->d.canLay0=true->∃ as,Reads s.heap u d as
 | _,_,_,.non,r,_=>by cases r; exact⟨_,.none⟩
 | _,_,_,.bl b,r,_=>by cases r; exact⟨_,.bool b⟩
 | _,_,_,.int i,r,_=>by obtain⟨t,rfl⟩:=r; exact⟨_,.int i t⟩
 | _,_,_,.str x,r,_=>by obtain⟨t,rfl⟩:=r; exact⟨_,.str x t⟩
 | _,_,_,.lst o h rs,r,c=>by
  cases r
  obtain⟨its,rv,pl,_⟩:=I.list (SqL.of h)
  obtain⟨as,ra⟩:=Rps.reads I rs rv (by simpa [PyData.canLay0] using c)
  obtain⟨ob,ho,hc,n,hd⟩:=pl.isList
  exact⟨_,.list ho hc hd (by simpa using ra)⟩
 | _,_,_,.tup h rs,r,c=>by
  cases r
  obtain⟨its,rv,pl,_⟩:=I.tuple (SqT.of h)
  obtain⟨as,ra⟩:=Rps.reads I rs rv (by simpa [PyData.canLay0] using c)
  obtain⟨ob,ho,hc,n,hd⟩:=pl
  exact⟨_,.tuple ho hc hd (by simpa using ra)⟩
 | _,_,_,.dct o h rs,r,c=>by simp [PyData.canLay0] at c
theorem Rps.reads (I:Inv X pins σ H s):∀ {v:List V}{d:List D}{u:List Value},Rps ok H v d->Vals v u->ŗ d=true->∃ as,ReadsAll s.heap u d as
 | _,_,_,.nil,r,_=>by cases r; exact⟨[],.nil⟩
 | _,_,_,.cons h t,r,c=>by
  cases r with
  | cons a b =>
   simp only [ŗ,à] at c
   obtain⟨as,ra⟩:=Rp.reads I h a c.1
   obtain⟨bs,rb⟩:=Rps.reads I t b c.2
   exact⟨_,.cons ra rb⟩
end
end
def okD (d:D):Bool:=d.canLay0&&decide (d.depth<=60)
section
variable {X:Cx}{pos:Pos}{a b e:Expr}{ta tb te:DE}
def DW (K:Ý) (neg:Bool):R2:=fun x y H Q=>∃ ok ok' d e,Rp ok H x d/\Rp ok' H y e/\okD d=true/\okD e=true/\Q (.bl (if neg then !(ô d e) else ô d e)) H
theorem Fb (hu:X.A.units+64<cLine):OpR X (compareOp .Eq) (DW X.K false):=by
 intro pins s σ H x y v u Q I rx ry h
 obtain⟨ok,ok',d,e,hd,he,cd,ce,q⟩:=h
 simp only [okD,à,decide_eq_true_eq] at cd ce
 obtain⟨as,ra⟩:=hd.reads I rx cd.1
 obtain⟨bs,rb⟩:=he.reads I ry ce.1
 exact SeqAt.compareEq_reads ra rb cd.1 ce.1 (by omega) ⟨.bl _,H,I,rfl,q⟩
theorem Ew (hu:X.A.units+64<cLine):OpR X (compareOp .NotEq) (DW X.K true):=by
 intro pins s σ H x y v u Q I rx ry h
 obtain⟨ok,ok',d,e,hd,he,cd,ce,q⟩:=h
 simp only [okD,à,decide_eq_true_eq] at cd ce
 obtain⟨as,ra⟩:=hd.reads I rx cd.1
 obtain⟨bs,rb⟩:=he.reads I ry ce.1
 exact SeqAt.compareNe_reads ra rb cd.1 ce.1 (by omega) ⟨.bl _,H,I,rfl,q⟩
def PB (neg:Bool):G2:=fun _ d1 _ d2 P=>okD d1=true/\okD d2=true/\P .imm (.bool (if neg then !(ô d1 d2) else ô d1 d2))
theorem J5 {K:Ý} (neg:Bool):Ok2 (PB neg) (DW K neg):=by
 intro p H0 own Hb H x y k1 d1 k2 d2 P Q A r1 r2 t q
 exact⟨_,_,d1,d2,r1,r2,t.1,t.2.1,q _ _ _ _ t.2.2 Kp.refl A.pen (.bl _)⟩
def eqP (x:D) (h:Heap) (u:Value):Bool:=by
 classical
 exact decide (∃ d as,Reads h u d as/\ô d x=true)
def La (neg:Bool):R2:=fun x y H Q=>∃ ok ok' d es,Rp ok H x d/\(Rp ok' H y (.list es)\/Rp ok' H y (.tuple es))/\okD d=true/\(es.all okD)=true/\Q (.bl (if neg then !(es.any fun e=>ô e d) else es.any fun e=>ô e d)) H
theorem G4 {x:D}{h:Heap}{u:Value}{d:D}{as:List Addr} (r:Reads h u d as):eqP x h u=ô d x:=by
 classical
 unfold eqP
 rw [ĵ,decide_eq_true_eq]
 constructor
 ·rintro ⟨d',as',r',e⟩
  rw [(r.unique d' as' r').1]
  exact e
 ·exact fun e=>⟨d,as,r,e⟩
theorem j6 {x:D}{h:Heap}:∀ {us:List Value}{ds:List D}{as:List Addr},ReadsAll h us ds as->us.any (eqP x h)=ds.any fun e=>ô e x
 | _,_,_,.nil=>rfl
 | _,_,_,.cons a b=>by
  rw [List.any_cons,List.any_cons,G4 a,j6 b]
theorem jK {A:Around}{s:Shared}{x:D}{v:Value}{bs:List Addr} (rx:Reads s.heap v x bs) (cx:okD x=true) (hu:A.units+60<cLine):∀ {us:List Value}{ds:List D}{as:List Addr},ReadsAll s.heap us ds as->ds.all okD=true->∀ u∈us,SeqAt.EqAt A s u v (eqP x s.heap u)
 | _,_,_,.nil,_,u,hu'=>nomatch hu'
 | _,d::ds,_,.cons a b,c,u,hu'=>by
  simp only [List.all_cons,à] at c
  rcases Ù.mp hu' with rfl | hu'
  ·rw [G4 a]
   have c1:=c.1
   simp only [okD,à,decide_eq_true_eq] at c1 cx
   exact SeqAt.eqAt_reads _ _ A s _ _ _ _ a rx c1.1 cx.1 (by omega)
  ·exact jK rx cx hu b c.2 u hu'
theorem jP {A:Around} (hu:A.units+64<cLine):A.in1.units+60<cLine:=by
 have:A.in1.units<=A.units+1:=by first | exact Ï _ | exact Ķ _ | (unfold Around.in1; simp)
 omega
theorem jN:∀ {es:List D},es.all okD=true->ŗ es=true
 | [],_=>rfl
 | e::es,h=>by
  simp only [List.all_cons,à,okD] at h
  simp only [ŗ,à]
  exact⟨h.1.1,jN h.2⟩
theorem Mh (hu:X.A.units+64<cLine):OpR X (compareOp .In) (La false):=by
 intro pins s σ H x y v u Q I rx ry h
 obtain⟨ok,ok',d,es,hd,hs,cd,ce,q⟩:=h
 have cd':=cd
 simp only [okD,à,decide_eq_true_eq] at cd'
 obtain⟨bs,rb⟩:=hd.reads I rx cd'.1
 rcases hs with hs | hs
 ·obtain⟨c,vs,rfl,o,hc,rs⟩:=hs.bM
  cases ry
  obtain⟨its,r,pl,hz⟩:=I.list (SqL.of hc)
  obtain⟨as,ra⟩:=rs.reads I r (jN ce)
  refine SeqAt.in_listAt (eqP d s.heap) pl.isList (fun w hw=>jK rb cd (jP hu) ra ce w (by simpa using hw)) ⟨.bl _,H,I,rfl,?_⟩
  rw [show its.toArray.any (eqP d s.heap)=its.any (eqP d s.heap) by simp,j6 ra]
  exact q
 ·obtain⟨c,vs,rfl,hc,rs⟩:=hs.cP
  cases ry
  obtain⟨its,r,pl,hz⟩:=I.tuple (SqT.of hc)
  obtain⟨as,ra⟩:=rs.reads I r (jN ce)
  refine SeqAt.in_tupleAt (eqP d s.heap) pl (fun w hw=>jK rb cd (jP hu) ra ce w (by simpa using hw)) ⟨.bl _,H,I,rfl,?_⟩
  rw [show its.toArray.any (eqP d s.heap)=its.any (eqP d s.heap) by simp,j6 ra]
  exact q
theorem Bd (hu:X.A.units+64<cLine):OpR X (compareOp .NotIn) (La true):=by
 intro pins s σ H x y v u Q I rx ry h
 obtain⟨ok,ok',d,es,hd,hs,cd,ce,q⟩:=h
 have cd':=cd
 simp only [okD,à,decide_eq_true_eq] at cd'
 obtain⟨bs,rb⟩:=hd.reads I rx cd'.1
 rcases hs with hs | hs
 ·obtain⟨c,vs,rfl,o,hc,rs⟩:=hs.bM
  cases ry
  obtain⟨its,r,pl,hz⟩:=I.list (SqL.of hc)
  obtain⟨as,ra⟩:=rs.reads I r (jN ce)
  refine SeqAt.notIn_listAt (eqP d s.heap) pl.isList (fun w hw=>jK rb cd (jP hu) ra ce w (by simpa using hw)) ⟨.bl _,H,I,rfl,?_⟩
  rw [show its.toArray.any (eqP d s.heap)=its.any (eqP d s.heap) by simp,j6 ra]
  exact q
 ·obtain⟨c,vs,rfl,hc,rs⟩:=hs.cP
  cases ry
  obtain⟨its,r,pl,hz⟩:=I.tuple (SqT.of hc)
  obtain⟨as,ra⟩:=rs.reads I r (jN ce)
  refine SeqAt.notIn_tupleAt (eqP d s.heap) pl (fun w hw=>jK rb cd (jP hu) ra ce w (by simpa using hw)) ⟨.bl _,H,I,rfl,?_⟩
  rw [show its.toArray.any (eqP d s.heap)=its.any (eqP d s.heap) by simp,j6 ra]
  exact q
def gIn (neg:Bool):G2:=fun _ d1 _ d2 P=>match d2 with
 | .list es=>okD d1=true/\es.all okD=true/\P .imm (.bool (if neg then !(es.any fun e=>ô e d1) else es.any fun e=>ô e d1))
 | .tuple es=>okD d1=true/\es.all okD=true/\P .imm (.bool (if neg then !(es.any fun e=>ô e d1) else es.any fun e=>ô e d1))
 | _=>False
theorem okIn (neg:Bool):Ok2 (gIn neg) (La neg):=by
 intro p H0 own Hb H x y k1 d1 k2 d2 P Q A r1 r2 t q
 cases d2 with
 | list es=>exact⟨_,_,d1,es,r1,.inl r2,t.1,t.2.1,q _ _ _ _ t.2.2 Kp.refl A.pen (.bl _)⟩
 | tuple es=>exact⟨_,_,d1,es,r1,.inr r2,t.1,t.2.1,q _ _ _ _ t.2.2 Kp.refl A.pen (.bl _)⟩
 | _=>exact t.elim
theorem Es (hu:X.A.units+64<cLine) (ha:PD X a ta) (hb:PD X b tb) (hm:behindInMarks .In b=false:=by rfl):PD X (.Compare a [.In] [b] pos) (t2 (gIn false) ta tb):=nR (Mh hu) (okIn false) ha hb hm
theorem gQ (hu:X.A.units+64<cLine) (ha:PD X a ta) (hb:PD X b tb) (hm:behindInMarks .NotIn b=false:=by rfl):PDT X (.Compare a [.NotIn] [b] pos) (cQ (t2 (gIn true) ta tb)):=dG (Bd hu) (okIn true) ha hb hm
end
variable [Gr]
section
variable {X:Cx}{pos p2:Pos}{a b c e:Expr}{es:List Expr}{ta tb tc te:DE}{t:DA}{st:Stmt}
abbrev DO:=List Sl->(Option Int->Prop)->Prop
def oJ (t:DO):TO:=fun σ H Q=>∃ p H0 own ρ P,EnvD p H0 own σ H ρ/\t ρ P/\∀ o H',P o->At p H0 own H H'->Q o H'
theorem PO.wk {e:Option Expr}{t t':TO} (h:PO X e t) (w:∀ σ H Q,t' σ H Q->t σ H Q):PO X e t':=fun pins s σ H Q I q=>h pins s σ H Q I (w σ H Q q)
def Fz:DO:=fun _ P=>P none
def Fy (te:DE):DO:=fun ρ P=>te ρ fun _ d=>match d with
 | .int i=>P (some i)
 | _=>False
theorem j4:PO X none (oJ Fz):=PO.wk Ip (by
 rintro σ H Q ⟨p,H0,own,ρ,P,E,t,q⟩
 exact q _ _ t E.at)
theorem jZ (h:PD X e te):PO X (some e) (oJ (Fy te)):=PO.wk (Io h) (by
 rintro σ H Q ⟨p,H0,own,ρ,P,E,t,q⟩
 refine⟨p,H0,own,ρ,_,E,t,fun k d v H' h A r=>?_⟩
 cases d with
 | int i=>exact⟨i,r.int',q _ _ h A⟩
 | _=>exact h.elim)
def gG {α:Type} (ds:List α) (lo hi:Option Int):List α:=(ds.drop (HT.sIx ds.length 0 lo)).take (HT.sIx ds.length ds.length hi - HT.sIx ds.length 0 lo)
theorem Rps.cut {ok:Addr->Prop}{H:Hp}{vs:List V}{ds:List D} (r:Rps ok H vs ds) (lo hi:Option Int):Rps ok H (pA vs lo hi) (gG ds lo hi):=by
 unfold pA gG
 rw [r.length]
 exact (r.drop _).take _
def Ql (te:DE) (tl th:DO):DE:=fun ρ P=>te ρ fun k d=>tl ρ fun lo=>th ρ fun hi=>match d with
 | .list ds=>newP k (gG ds lo hi) fun k'=>P k' (.list (gG ds lo hi))
 | _=>False
theorem En {lo hi:Option Expr}{tl th:DO} (he:PD X e te) (hl:PO X lo (oJ tl)) (hh:PO X hi (oJ th)):PD X (.Subscript e (.Slice lo hi none p2) pos) (Ql te tl th):=PE.wk (uQ yD he hl hh) (by
 rintro σ H Q ⟨p,H0,own,ρ,P,E,t,q⟩
 refine⟨p,H0,own,ρ,_,E,t,fun k d v H1 h A r=>?_⟩
 refine⟨p,H0,own,ρ,_,E.go A.kp A.pen,h,fun o1 H2 h2 A2=>?_⟩
 refine⟨p,H0,own,ρ,_,(E.go A.kp A.pen).go A2.kp A2.pen,h2,fun o2 H3 h3 A3=>?_⟩
 have A4:=(A.base A2).base A3
 have r3:=fQ (A.base A2) A3.kp (fQ A A2.kp r)
 cases d with
 | list ds =>
  obtain⟨x,xs,e1,o,h1,rs⟩:=Rp.bM r3
  subst e1
  refine⟨x,xs,rfl,SqL.of h1,fun l hl=>?_⟩
  obtain⟨k2,i2,nw⟩:=A4.new hl (.lst (pA xs o1 o2))
  obtain⟨k',hk',rk'⟩:=eZ A4 (bR A4 k2 (rs.cut o1 o2)) nw ao h3
  exact q _ _ _ _ hk' (A4.go k2 i2) rk'
 | _=>exact h3.elim)
def M8:G2:=fun k1 d1 k2 d2 P=>match d1,d2 with
 | .list ds,.list es=>ds.length+es.length<=1000/\newP (k1.join k2) (ds++es) fun k=>P k (.list (ds++es))
 | _,_=>False
theorem Pa:Ok2 M8 OD:=by
 intro p H0 own Hb H x y k1 d1 k2 d2 P Q A r1 r2 t q
 unfold M8 at t
 split at t
 ·obtain⟨c1,xs,e1,o1,h1,rs1⟩:=r1.bM
  obtain⟨c2,ys,e2,o2,h2,rs2⟩:=r2.bM
  subst e1 e2
  have h24:=ö
  refine⟨c1,c2,xs,ys,rfl,rfl,h1,h2,by rw [rs1.length,rs2.length]; omega,fun l hl=>?_⟩
  obtain⟨k3,i3,nw⟩:=A.new hl (.lst (xs++ys))
  have j:=cJ k1 k2
  have m:∀ {k vs ds},k.le (k1.join k2)=true->Rps (okK p H0 own Hb k) H vs ds->Rps (okK p H0 own Hb (k1.join k2)) H vs ds:=fun hk z=>z.mono (fun a o=>cj A hk o) (fun _ _ _ e=>e) fun _ _ e=>e
  obtain⟨k',hk',rk'⟩:=eZ A (bR A k3 ((m j.1 rs1).app (m j.2 rs2))) nw ao t.2
  exact q _ _ _ _ hk' k3 i3 rk'
 ·exact t.elim
def Gv:G2:=fun k1 d1 k2 d2 P=>match d1,d2 with
 | .tuple ds,.tuple es=>ds.length+es.length<=1000/\P (norm (k1.join k2) (.tuple (ds++es))) (.tuple (ds++es))
 | _,_=>False
theorem Mt:Ok2 Gv JW:=by
 intro p H0 own Hb H x y k1 d1 k2 d2 P Q A r1 r2 t q
 unfold Gv at t
 split at t
 ·obtain⟨c1,xs,e1,h1,rs1⟩:=r1.cP
  obtain⟨c2,ys,e2,h2,rs2⟩:=r2.cP
  subst e1 e2
  have h24:=ö
  refine⟨c1,c2,xs,ys,rfl,rfl,h1,h2,by rw [rs1.length,rs2.length]; omega,fun l H' sm hl=>?_⟩
  have K:Kp p H H':=Kp.of sm
  have j:=cJ k1 k2
  have m:∀ {k vs ds},k.le (k1.join k2)=true->Rps (okK p H0 own Hb k) H vs ds->Rps (okK p H0 own Hb (k1.join k2)) H vs ds:=fun hk z=>z.mono (fun a o=>cj A hk o) (fun _ _ _ e=>e) fun _ _ e=>e
  exact q _ _ _ _ t.2 K (p.mono H H' A.pen fun b o _ e=>sm b o e) (bI (.tup hl (bR A K ((m j.1 rs1).app (m j.2 rs2)))))
 ·exact t.elim
def N8 (ta:DE):DE:=fun ρ P=>ta ρ fun _ d=>match d with
 | .int i=>P .imm (.int (-i))
 | _=>False
theorem nP (ha:PD X a ta):PD X (.UnaryOp .USub a pos) (N8 ta):=PE.wk (O1 Kv ha) (by
 rintro σ H Q ⟨p,H0,own,ρ,P,E,t,q⟩
 refine⟨p,H0,own,ρ,_,E,t,fun k d v H' h A r=>?_⟩
 cases d with
 | int i=>exact⟨i,r.int',q _ _ _ _ h A (.int _)⟩
 | _=>exact h.elim)
def Qd (te:DE) (g:DG):DS:=fun P ρ=>te ρ fun k d=>g (norm (elK k) d) d ρ P.nx
theorem O8 {p:Pn}{H0 Hb H:Hp}{own:Addr->Option Nat} (A:At p H0 own Hb H) {k:Kd}{v:V}{d:D} (r:Rp (okK p H0 own Hb k) H v d):Rp (okB p H0 own (norm (elK k) d)) H v d:=by
 refine dN (r.mono (fun a o=>?_) (fun _ _ _ e=>e) fun _ _ e=>e)
 cases k with
 | imm=>exact o
 | new=>exact⟨A.h0 o,A.nfb o,A.Ja o⟩
 | reg q=>exact o
 | n0=>trivial
 | snw=>exact o
 | shr=>exact o
 | wk=>trivial
theorem xJ {g:DG} (h:PS X st (pL (aW te) (zq g))):PDS X st (Qd te g):=PS.wk' h (by
 rintro Q σ H ⟨p,H0,own,ρ,P,E,t,w⟩
 refine⟨p,H0,own,ρ,_,E,t,fun k d v H1 h A r=>?_⟩
 exact⟨p,H0,own,ρ,_,d,P.nx,E.go A.kp A.pen,O8 A r,h,fun σ' ρ' E' n=>w.nx own σ' H1 ρ' E' A.frs n⟩)
theorem yZ {te:DE}{ρ:List Sl}{R:Kd->D->Prop} (t:te ρ R):cC te j7 ρ (fun ks=>∃ k d,ks=[(k,d)]/\R k d):=by
 show te ρ fun k d=>∃ k' d',[((k,d):Kd×D)]=[(k',d')]/\R k' d'
 have e:(fun k d=>∃ k' d',[((k,d):Kd×D)]=[(k',d')]/\R k' d')=R:=by
  funext k d
  apply propext
  constructor
  ·rintro ⟨k',d',e,h⟩
   cases e
   exact h
  ·exact fun h=>⟨k,d,rfl,h⟩
 rw [e]
 exact t
end
variable [Gr]
structure Cal (P:Program) (w:World) (K:Ý) (mg:Str->Option Value) (base:Heap) (k:Nat) (x:Str) (ps:List Str) (sp:Sp):Prop where
 ex:∃ f fd,FnOk P w K mg base CX0 k f fd ps sp/\Binds K fd ps []/\W.keepIn K (.ref f)=true/\mg x=some (.ref f)
section
variable {X:Cx}{k j:Nat}{x:Str}{ps:List Str}{e:Expr}{es:List Expr}{t:DA}{p pos pq:Pos}
theorem pcS {sp:Sp}{ta:TA} (C:Cal X.prog X.w X.K X.mg X.base k x ps sp) (hr:Room j X.A) (ha:PA X (e::es) ta) (hk:k<=j) (hg:Gl X x)
  (hdb:zB x) (he:zS X e es) (hpl:zP X pos es) :
  PE X (.Call (.Name x p) (e::es) [] pos) (ux sp [] E0 ta):=by
 obtain⟨f,fd,F,b,kp,m⟩:=C.ex
 exact IW F (hr.mono hk) hg m kp b .nil O4 ha hdb he hpl
theorem dc {f:List D->(D->Prop)->Prop} (C:Cal X.prog X.w X.K X.mg X.base k x ps (spD f)) (hr:Room j X.A) (ha:PDA X (e::es) t) (hk:k<=j:=by decide) (hg:Gl X x:=by rfl)
  (hdb:zB x:=by decide) (he:zS X e es:=by rfl) (hpl:zP X pos es:=by rfl) :
  PD X (.Call (.Name x p) (e::es) [] pos) (tFn f t):=PE.wk (pcS C hr ha hk hg hdb he hpl) Jp
theorem dcP {C:Pn->Prop}{i:Nat}{f:List D->(D->Prop)->Prop}{y:Str}{py:Pos} (CC:Cal X.prog X.w X.K X.mg X.base k x ps (spP C f)) (hr:Room j X.A) (hi:PE X (.Name y py) (lW i)) (ha:PDA X es t) (hk:k<=j:=by decide) (hg:Gl X x:=by rfl)
  (hdb:zB x:=by decide) (he:starEach (.Name y py::es) X.env=(false,eval (.Name y py) X.env)::starEach es X.env:=by rfl) (hpl:zP X pos es:=by rfl) :
  PD X (.Call (.Name x p) (.Name y py::es) [] pos) (HW C f i t):=PE.wk (pcS CC hr (aG hi ha) hk hg hdb he hpl) Ga
theorem dv (i:Nat) {x:Str}{pos:Pos} (hN:X.N[i]?=some x:=by rfl) (hv:Vis X.env.scope x:=by first | exact Or.inl rfl | exact Or.inr (Or.inl rfl) | exact Or.inr (Or.inr rfl)) (hd:zB x:=by decide)
  (hcd:(x == ("__classdict__":Str))=false:=by decide):PD X (.Name x pos) (tV i):=LK (pv i hN hv hd hcd)
end
structure Bn (mg:Str->Option Value):Prop where
 isinstance:mg "isinstance"=none
 int:mg "int"=none
 bool:mg "bool"=none
 tuple:mg "tuple"=none
 list:mg "list"=none
 len:mg "len"=none
 all:mg "all"=none
 min:mg "min"=none
 max:mg "max"=none
 sorted:mg "sorted"=none
 range:mg "range"=none
 abs:mg "abs"=none
theorem boot_all:bootBuiltins "all"=some (.builtin "all"):=by decide +kernel
theorem boot_abs:bootBuiltins "abs"=some (.builtin "abs"):=by decide +kernel
theorem vV {i:Nat}{ρ:List Sl}{d:D}{P:DK} (h:ρ[i]?=some (bH d)) (q:∀ k,P k d):tV i ρ P:=by
 unfold tV
 rw [h]
 unfold bH
 by_cases hi:dF d=true
 ·rw [if_pos hi]; exact q _
 ·rw [if_neg hi]; exact q _
theorem Jq {f:List D->(D->Prop)->Prop}{n:Nat} (hn:∀ ds P,f ds P->ds.length=n:=by intro _ _ h; repeat (first | (obtain⟨rfl,_⟩:=h; rfl) | obtain⟨_,h⟩:=h)):∀ vs H Q E,spD f vs H Q E->vs.length=n:=fun vs H Q E h=>by
 obtain⟨ds,P,r,t,_⟩:=h
 rw [r.length]
 exact hn ds P t
theorem bf {f:List D->(D->Prop)->Prop}{T:DS}{N:List Str}{vs:List V}{H:Hp}{Q:VK}{E:XK} (h:spD f vs H Q E)
  (body:∀ ds P,f ds P->∃ ρ,ds.map bH++Ð (N.length - ds.length) .any=ρ/\T { nx:=fun _=>P .none,rt:=P } ρ) (g:Gr.G lO H:=by trivial):jM T { nx:=fun _ H'=>Q .non H',rt:=Q } (L2.start N vs) H :=
 sY h (fun ds P t=>by
  obtain⟨ρ,e,q⟩:=body ds P t
  rw [e]
  exact q) g
def aF (n:Int) (us:List Tie):D:=.tuple [.int n,.tuple (us.map pD)]
theorem jQ (n:Int) (us:List Tie):dF (aF n us)=true:=by
 show (dF (.int n)&&(cu (us.map pD)&&true))=true
 rw [lC]
 rfl
theorem bV (n:Int) (us:List Tie):bH (aF n us)=.im (aF n us):=if_pos (jQ n us)
def isW:D->Bool
 | .int _=>true
 | _=>false
def xg (ds:List D) (P:D->Prop):Prop:=∃ d,ds=[d]/\P (.bool (isW d))
def bw (m:Int):D->Bool
 | .int i=>decide (0<=i/\i<m)
 | _=>false
def sV (ds:List D) (P:D->Prop):Prop:=∃ m d,ds=[.int m,d]/\P (.bool (bw m d))
theorem enterQ {C:Pn->Prop}{f:List D->(D->Prop)->Prop}{T:DS}{N:List Str}{vs:List V}{H:Hp}{Q:VK}{E:XK} (h:spP C f vs H Q E)
  (body:∀ ds P,f ds P->∃ ρ,ds.map bH++Ð (N.length - (ds.length+1)) .any=ρ/\T { nx:=fun _=>P .none,rt:=P } (.pen C::ρ)) (g:∀ p,Gr.G p H:=by intro _; trivial):jM T { nx:=fun _ H'=>Q .non H',rt:=Q } (L2.start N vs) H :=
 Nj h (fun ds P t=>by
  obtain⟨ρ,e,q⟩:=body ds P t
  rw [e]
  exact q) g
variable [Gr]
theorem gY {α β:Type}{l:List α}{g:α->β}{i:Nat}{d:β} (h:(l.map g)[i]?=some d):∃ x,l[i]?=some x/\g x=d:=by
 rw [Ø] at h
 cases e:l[i]? with
 | none=>rw [e] at h; cases h
 | some x=>rw [e] at h; exact⟨x,rfl,Û h⟩
theorem rY:∀ l:List Int,(l.map Æ).all okD=true
 | []=>rfl
 | x::l=>by
  rw [Ą,List.all_cons,rY l]
  rfl
theorem any_ints (x:Int):∀ l:List Int,((l.map Æ).any fun e=>ô e (.int x))=decide (x∈l)
 | []=>rfl
 | y::l=>by
  rw [Ą,List.any_cons,any_ints x l]
  have e:ô (.int y) (.int x)=(y == x):=rfl
  rw [e,ĵ,Bool.or_eq_true,beq_iff_eq,decide_eq_true_eq,decide_eq_true_eq,Ù]
  constructor
  ·rintro (h | h)
   ·exact .inl h.symm
   ·exact .inr h
  ·rintro (h | h)
   ·exact .inl h.symm
   ·exact .inr h
theorem cF (lo:Int) (n:Nat):(aQ lo n).length=n:=by unfold aQ; simp
theorem Bt {lo:Int}{n i:Nat}{d:D} (h:(aQ lo n)[i]?=some d):i<n/\d=.int (lo+((i:Nat):Int)):=by
 unfold aQ at h
 obtain⟨x,hx,e⟩:=gY h
 obtain⟨h1,h2⟩:=É.mp hx
 have h3:i<n:=by simpa using h1
 have h4:x=i:=by simpa using h2.symm
 subst h4
 exact⟨h3,e.symm⟩
variable [Gr]
section
variable {X:Cx}{pos p2:Pos}{a b e:Expr}{ta tb te:DE}
theorem Rps.rep {ok:Addr->Prop}{H:Hp}{vs:List V}{ds:List D} (r:Rps ok H vs ds):∀ k:Nat,Rps ok H (Ð k vs).flatten (Ð k ds).flatten
 | 0=>.nil
 | k+1=>by
  rw [Ŏ,Ŏ,Ÿ,Ÿ]
  exact r.app (Rps.rep r k)
def M6:G2:=fun k1 d1 _ d2 P=>match d1,d2 with
 | .list ds,.int k=>0<=k/\k<1000/\ds.length * k.toNat<=1000/\newP k1 (Ð k.toNat ds).flatten fun k'=>P k' (.list (Ð k.toNat ds).flatten)
 | _,_=>False
theorem O6:Ok2 M6 Ow:=by
 intro p H0 own Hb H x y k1 d1 k2 d2 P Q A r1 r2 t q
 unfold M6 at t
 split at t
 ·rename_i ds k
  obtain⟨c1,xs,e1,o1,h1,rs1⟩:=r1.bM
  subst e1
  have h24:=ö
  refine⟨c1,k,xs,rfl,r2.int',h1,by omega,by omega,by rw [rs1.length]; omega,fun l hl=>?_⟩
  obtain⟨k3,i3,nw⟩:=A.new hl (.lst (Ð k.toNat xs).flatten)
  obtain⟨k',hk',rk'⟩:=eZ A (bR A k3 (rs1.rep k.toNat)) nw ao t.2.2.2
  exact q _ _ _ _ hk' k3 i3 rk'
 ·exact t.elim
end
section
variable {X:Cx}{pos:Pos}{a:Expr}{t:DA}
variable [Gr]
end
variable [Gr]
section
variable {X:Cx}{pos:Pos}{a b e:Expr}{ta tb te:DE}
theorem jC {x:Str}{i:Int}{u:Value}{ps:Pos} (hg:Gl X x) (hm:X.mg x=some u) (r:RelV (.int i) u) (hd:zB x:=by decide):PD X (.Name x ps) (tK (.int i)):=jD (Iw hg hm r hd) fun _=>.int i
def Od (te:DE):DE:=fun ρ P=>te ρ fun _ d=>P .imm (.bool (tyD d == "list" || tyD d == "tuple"))
theorem MF {K:Ý} (d:D):W.kitAny K (.type (tyD d)) [.type "list",.type "tuple"]=some (tyD d == "list" || tyD d == "tuple"):=by
 cases d <;> rfl
theorem rN {x y:Str}{ps pt pt' pp:Pos}{kk:Nat} (hm:X.mg "isinstance"=none) (he:PD X e te) (hT:PE X (.Name x pt) (tC (.ty "list"))) (hT':PE X (.Name y pt') (tC (.ty "tuple"))) (hg:Gl X "isinstance":=by rfl)
  (h1:starEach [e,.Tuple [.Name x pt,.Name y pt'] kk pp] X.env=(false,eval e X.env)::starEach [.Tuple [.Name x pt,.Name y pt'] kk pp] X.env:=by rfl) (h2:starEach [.Tuple [.Name x pt,.Name y pt'] kk pp] X.env=(false,eval (.Tuple [.Name x pt,.Name y pt'] kk pp) X.env)::starEach [] X.env:=by rfl)
  (h3:starEach [.Name x pt,.Name y pt'] X.env=(false,eval (.Name x pt) X.env)::starEach [.Name y pt'] X.env:=by rfl) (h4:starEach [.Name y pt'] X.env=(false,eval (.Name y pt') X.env)::starEach [] X.env:=by rfl) (hpl:(backTo pos (starEach [.Tuple [.Name x pt,.Name y pt'] kk pp] X.env)).any (·.1)=false:=by rfl) :
  PD X (.Call (.Name "isinstance" ps) [e,.Tuple [.Name x pt,.Name y pt'] kk pp] [] pos) (Od te):=PE.wk (bT tU hg hm boot_isinstance (aG he (aG (Ek (aG hT (aG hT' bB h4) h3)) bB h2) h1) (by decide) (by decide) h1 hpl) (by
 rintro σ H Q ⟨p,H0,own,ρ,P,E,t,q⟩
 refine⟨p,H0,own,ρ,_,E,t,fun k d v H' h A r=>?_⟩
 refine⟨by show 2<=sizeLine; decide,fun l hl=>?_⟩
 obtain⟨k2,i2,nw⟩:=A.new hl (.tup [.ty "list",.ty "tuple"])
 have r2:=fQ A k2 r
 have fin:TyOf X.K (upd H' l (.tup [.ty "list",.ty "tuple"])) v (.type (tyD d))->∃ x p c1 c2 t b,[v,V.ref l]=[x,.ref p]/\TyOf X.K (upd H' l (.tup [.ty "list",.ty "tuple"])) x t/\SqT X.K (upd H' l (.tup [.ty "list",.ty "tuple"])) p [.ty c1,.ty c2]/\W.kitAny X.K t [.type c1,.type c2]=some b/\Q (.bl b) (upd H' l (.tup [.ty "list",.ty "tuple"])):=fun ty =>
  ⟨v,l,"list","tuple",_,_,rfl,ty,SqT.of ao,MF d,q _ _ _ _ h (A.go k2 i2) (.bl _)⟩
 show ∃ x p c1 c2 t b,_/\_
 cases r2 with
 | non=>exact fin .non
 | bl b=>exact fin (.bl b)
 | int i=>exact fin (.int i)
 | str x=>exact fin (.str x)
 | lst o hh rr=>exact fin (.lst hh)
 | tup hh rr=>exact fin (.tup hh)
 | dct o hh rr=>exact fin (.dK hh))
def zM:G2:=fun _ d1 _ d2 P=>match d1,d2 with
 | .bool i,.bool j=>P .imm (.bool (!decide (i=j)))
 | _,_=>False
theorem Ms:Ok2 zM (fun x y H Q=>∃ a b,x=.bl a/\y=.bl b/\Q (.bl (!decide (a=b))) H):=by
 intro p H0 own Hb H x y k1 d1 k2 d2 P Q A r1 r2 t q
 unfold zM at t
 split at t
 ·cases r1
  cases r2
  exact⟨_,_,rfl,rfl,q _ _ _ _ t Kp.refl A.pen (.bl _)⟩
 ·exact t.elim
theorem iT (ha:PD X a ta) (hb:PD X b tb):PDT X (.Compare a [.IsNot] [b] pos) (cQ (t2 zM ta tb)):=dG uT Ms ha hb (bW _)
end
variable [Gr]
section
variable {X:Cx}{pos:Pos}{a b e:Expr}{ta tb te:DE}
def Ji:D->Bool
 | .none=>true
 | _=>false
def Jx:G2:=fun _ d1 _ d2 P=>match d2 with
 | .none=>P .imm (.bool (Ji d1))
 | _=>False
theorem yL {ok:Addr->Prop}{H:Hp}{v:V}{d:D} (r:Rp ok H v d):decide (v=.non)=Ji d:=by
 cases r <;> simp [Ji]
theorem O9:Ok2 Jx (fun x y H Q=>y=.non/\Q (.bl (decide (x=.non))) H):=by
 intro p H0 own Hb H x y k1 d1 k2 d2 P Q A r1 r2 t q
 unfold Jx at t
 split at t
 ·cases r2
  rw [yL r1]
  exact⟨rfl,q _ _ _ _ t Kp.refl A.pen (.bl _)⟩
 ·exact t.elim
theorem wN (ha:PD X a ta) (hb:PD X b tb):PD X (.Compare a [.Is] [b] pos) (t2 Jx ta tb):=nR Mg O9 ha hb (bW _)
end
variable [Gr]
section
variable {X:Cx}{pos:Pos}{st:Stmt}
end
@[reducible] def grX (H:Hp):Gr:=⟨fun p H0=>p=lO/\H0=H⟩
structure Cal1 (P:Program) (w:World) (K:Ý) (mg:Str->Option Value) (base:Heap) (k:Nat) (x:Str) (ps:List Str) (sp:Sp):Prop where
 ex:∃ f fd,FnOk P w K mg base (CX1 P w) k f fd ps sp/\Binds K fd ps []/\W.keepIn K (.ref f)=true/\mg x=some (.ref f)
section
variable {X:Cx}{E:XK}{k j:Nat}{x:Str}{ps:List Str}{e:Expr}{es:List Expr}{p pos:Pos}
end
variable [Gr]
theorem boot_repr:bootBuiltins "repr"=some (.builtin "repr"):=by decide +kernel
section
variable {X:Cx}{pos:Pos}{a b e:Expr}{ta tb te:DE}{t:DA}
end
end Dl
namespace L2
open PySem PyProof.Rows
theorem oR:∀ {ns:List Int}{us:List Value},Vals (ns.map V.int) us->IntsAre us ns
 | [],_,.nil=>.nil
 | n::ns,_,.cons r t=>by
  obtain⟨k,rfl⟩:=r
  exact .cons n k (oR t)
def once (ns:List Int):List Int:=ns.foldl ķ []
theorem oX (ns:List Int) {m:Nat} (hm:m=ns.length):firstMet (fun i=>ns.getD i 0) m=once ns:=by
 subst hm
 unfold firstMet once
 congr 1
 refine List.ext_getElem (by simp) fun i h1 h2=>?_
 simp at h1
 simp [œ,h1]
section
variable {X:Cx}
theorem vI (hc:X.calm=true):aU X (.type "set") (fun xs H Q=>∃ p ns,xs=[.ref p]/\SqL X.K H p (ns.map V.int)/\ns.length<=1000/\∀ l S,H l=none->Q (.ref l) (upd H l (.set S (once ns).length))):=by
 intro pins s σ H xs us Q I r h
 obtain⟨p,ns,rfl,hq,hl,q⟩:=h
 obtain⟨u,rfl,rx⟩:=vals1 r
 cases rx
 obtain⟨its,r',pl,hz⟩:=I.list hq
 have hlen:=r'.length
 rw [Â] at hlen
 refine call_set_list (items:=its.toArray) (ns:=ns) (I.ok.hd hc) pl.isList (by simpa using oR r') ?_ fun h' tk st k=>?_
 ·show its.toArray.size+1<scanBound
  rw [Î,← hlen]
  exact Nat.lt_of_le_of_lt (Nat.add_le_add_right hl 1) (by decide)
 ·rw [oX ns (by rw [Î,← hlen])] at st
  refine⟨.ref s.heap.objs.size,_,I.laid (t':=tk) (fun b o e=>k b o (Ë e) e) (Ï _) (show aM X.prog X.w _ h' _ (.set _ (once ns).length) from st),rfl,q _ _ (I.hok.fresh (Ï _))⟩
theorem pW:aU X (.builtin "len") (fun xs H Q=>∃ p S n,xs=[.ref p]/\H p=some (.set S n)/\n<=1000/\Q (.int (n:Int)) H):=by
 intro pins s σ H xs us Q I r h
 obtain⟨p,S,n,rfl,hq,hl,q⟩:=h
 obtain⟨u,rfl,rx⟩:=vals1 r
 cases rx
 obtain⟨o,es,ep,t,e1,e2,e3,_,_,_,e6,e7⟩:=I.hok p _ hq
 refine call_len_set e1 e2 e3 e6 (by rw [e7]; omega) ?_
 rw [e7]
 exact⟨.int n,H,I.tok _,⟨_,rfl⟩,q⟩
end
theorem fX:∀ (ns acc:List Int),(ns.foldl ķ acc).length<=acc.length+ns.length
 | [],acc=>Ï _
 | n::ns,acc=>by
  rw [List.foldl_cons]
  have h:=fX ns (ķ acc n)
  have:(ķ acc n).length<=acc.length+1:=by
   unfold ķ
   split
   ·omega
   ·rw [È]; exact Ï _
  rw [í]
  omega
theorem uU:∀ (ns acc:List Int),((ns.foldl ķ acc).length=acc.length+ns.length)↔(ns.Nodup/\∀ x∈ns,x∉acc)
 | [],acc=>by simp
 | n::ns,acc=>by
  rw [List.foldl_cons,í,ř]
  by_cases hn:n∈acc
  ·have e:ķ acc n=acc:=by
    unfold ķ
    rw [if_pos (List.any_eq_true.mpr ⟨n,hn,by simp⟩)]
   rw [e]
   have:=fX ns acc
   constructor
   ·intro h; omega
   ·rintro ⟨_,h⟩
    exact absurd hn (h n Ö)
  ·have e:ķ acc n=acc++[n]:=by
    unfold ķ
    rw [if_neg (fun z=>by
     obtain⟨x,hx,ex⟩:=List.any_eq_true.mp z
     have:x=n:=by simpa using ex
     exact hn (this ▸ hx))]
   rw [e]
   have ih:=uU ns (acc++[n])
   rw [È,Ú] at ih
   constructor
   ·intro h
    obtain⟨a,b⟩:=ih.mp (by omega)
    refine⟨⟨fun z=>b n z (ã _ (Õ.mpr rfl)),a⟩,fun x hx=>?_⟩
    rcases Ù.mp hx with z | z
    ·rw [z]; exact hn
    ·exact fun y=>b x z (þ _ y)
   ·rintro ⟨⟨a,b⟩,c⟩
    have:=ih.mpr ⟨b,fun x hx z=>by
     rcases ä.mp z with y | y
     ·exact c x (Ó _ hx) y
     ·rw [Õ.mp y] at hx; exact a hx⟩
    omega
theorem nW (ns:List Int):(once ns).length=ns.length↔ns.Nodup:=by
 have:=uU ns []
 simp at this
 exact this
end L2
namespace Dl
open PySem L2 PyProof.Rows
variable [Gr]
section
variable {X:Cx}{pos pos':Pos}{a:Expr}{t:DA}
theorem boot_set:bootBuiltins "set"=some (.type "set"):=by decide +kernel
def zN:GC:=fun ks P=>∃ k ns,ks=[(k,.list (ns.map Æ))]/\ns.length<=1000/\P .imm (.int ((once ns).length:Nat))
theorem gR {ps ps':Pos} (hc:X.calm=true) (hs:X.mg "set"=none) (hl:X.mg "len"=none) (ha:PDA X [a] t) (hgs:Gl X "set":=by rfl) (hgl:Gl X "len":=by rfl)
  (he:zS X a []:=by rfl) (hpl:zP X pos []:=by rfl)
  (he':starEach [Expr.Call (.Name "set" ps) [a] [] pos] X.env=(false,eval (Expr.Call (.Name "set" ps) [a] [] pos) X.env)::starEach [] X.env:=by rfl) (hpl':(backTo pos' (starEach [] X.env)).any (·.1)=false:=by rfl) :
  PD X (.Call (.Name "len" ps') [.Call (.Name "set" ps) [a] [] pos] [] pos') (tCl zN t) :=
 PE.wk (bT pW hgl hl PySem.boot_len (aG (cD (vI hc) hgs hs boot_set ha (by decide) (by decide) he hpl) bB he') (by decide) (by decide) he' hpl') (by
  rintro σ H Q ⟨p,H0,own,ρ,P,E,t,q⟩
  refine⟨p,H0,own,ρ,_,E,t,fun ks vs H1 h A r=>?_⟩
  obtain⟨k,ns,rfl,hn,h⟩:=h
  obtain⟨v,rfl,r'⟩:=cY r
  obtain⟨c,ws,rfl,o,hc',rs⟩:=r'.bM
  have ew:=rs.ints
  subst ew
  refine⟨c,ns,rfl,SqL.of hc',hn,fun l S hl'=>?_⟩
  obtain⟨k2,i2,nw⟩:=A.new hl' (.set S (once ns).length)
  have h1:=fX ns []
  exact⟨l,S,_,rfl,ao,by unfold once; simp at h1; omega,q _ _ _ _ h (A.go k2 i2) (.int _)⟩)
end
variable [Gr]
section
variable {X:Cx}{pos p2:Pos}{a b c e:Expr}{es:List Expr}{ta tb tc te:DE}{t:DA}{st:Stmt}
theorem OpR.or {f:Value->Value->Sem Value}{r r':R2} (h:OpR X f r) (h':OpR X f r'):OpR X f (fun x y H Q=>r x y H Q\/r' x y H Q):=by
 intro pins s σ H x y v u Q I rx ry q
 rcases q with q | q
 ·exact h pins s σ H x y v u Q I rx ry q
 ·exact h' pins s σ H x y v u Q I rx ry q
theorem aU.or {f:Value}{r r':List V->Hp->VK->Prop} (h:aU X f r) (h':aU X f r'):aU X f (fun x H Q=>r x H Q\/r' x H Q):=by
 intro pins s σ H x v Q I rx q
 rcases q with q | q
 ·exact h pins s σ H x v Q I rx q
 ·exact h' pins s σ H x v Q I rx q
theorem Er (ha:PD X a ta) (hb:PD X b tb) (hs:ni b:=by exact fun _ _=>rfl):PD X (.Subscript a b pos) (t2 gIx ta tb):=PE.wk (uR (IxR.or sJ wX) ha hb hs) (zu (by
 intro p H0 own Hb H x y k1 d1 k2 d2 P Q A r1 r2 t q
 unfold gIx at t
 split at t
 ·rename_i ds i
  obtain⟨d,hd,t⟩:=t
  obtain⟨c,vs,rfl,o,hc,rs⟩:=r1.bM
  obtain⟨v,hv,rv⟩:=rs.atI hd
  exact .inl ⟨c,vs,i,v,rfl,r2.int',SqL.of hc,hv,q _ _ _ _ t Kp.refl A.pen (bI rv)⟩
 ·rename_i ds i
  obtain⟨d,hd,t⟩:=t
  obtain⟨c,vs,rfl,hc,rs⟩:=r1.cP
  obtain⟨v,hv,rv⟩:=rs.atI hd
  exact .inr ⟨c,vs,i,v,rfl,r2.int',SqT.of hc,hv,q _ _ _ _ t Kp.refl A.pen (bI rv)⟩
 ·exact t.elim))
def Kg:G2:=fun k1 d1 k2 d2 P=>match d1 with
 | .int i=>(match d2 with
  | .int j=>P .imm (.int (i+j))
  | _=>False)
 | .list ds=>M8 k1 (.list ds) k2 d2 P
 | .tuple ds=>Gv k1 (.tuple ds) k2 d2 P
 | _=>False
theorem rH (ha:PD X a ta) (hb:PD X b tb):PD X (.BinOp a .Add b pos) (t2 Kg ta tb):=yV (OpR.or fW (OpR.or Mi Jd)) (by
 intro p H0 own Hb H x y k1 d1 k2 d2 P Q A r1 r2 t q
 cases d1 with
 | int i =>
  cases d2 with
  | int j=>exact .inl ⟨i,j,r1.int',r2.int',q _ _ _ _ t Kp.refl A.pen (.int _)⟩
  | _=>exact t.elim
 | list ds=>exact .inr (.inl (Pa p H0 own Hb H x y k1 _ k2 d2 P Q A r1 r2 t q))
 | tuple ds=>exact .inr (.inr (Mt p H0 own Hb H x y k1 _ k2 d2 P Q A r1 r2 t q))
 | _=>exact t.elim) ha hb
def Gp:G2:=fun k1 d1 k2 d2 P=>match d1 with
 | .int i=>(match d2 with
  | .int j=>JN i j/\P .imm (.int (i * j))
  | _=>False)
 | .list ds=>M6 k1 (.list ds) k2 d2 P
 | _=>False
theorem dR (ha:PD X a ta) (hb:PD X b tb):PD X (.BinOp a .Mult b pos) (t2 Gp ta tb):=yV (OpR.or kZ Ma) (by
 intro p H0 own Hb H x y k1 d1 k2 d2 P Q A r1 r2 t q
 cases d1 with
 | int i =>
  cases d2 with
  | int j=>exact .inl ⟨i,j,r1.int',r2.int',t.1,q _ _ _ _ t.2 Kp.refl A.pen (.int _)⟩
  | _=>exact t.elim
 | list ds=>exact .inr (O6 p H0 own Hb H x y k1 _ k2 d2 P Q A r1 r2 t q)
 | _=>exact t.elim) ha hb
def jV (neg:Bool):G2:=fun k1 d1 k2 d2 P=>match scD d1 d2 with
 | some b=>P .imm (.bool (if neg then !b else b))
 | none=>PB neg k1 d1 k2 d2 P
theorem J6 {K:Ý}:Ok2 (jV false) (fun x y H Q=>rEq x y H Q\/DW K false x y H Q):=by
 intro p H0 own Hb H x y k1 d1 k2 d2 P Q A r1 r2 t q
 cases e:scD d1 d2 with
 | some b =>
  have t':gEq false k1 d1 k2 d2 P:=by
   unfold jV at t
   unfold gEq
   rw [e] at t ⊢
   exact t
  exact .inl (Qw p H0 own Hb H x y k1 d1 k2 d2 P Q A r1 r2 t' q)
 | none =>
  unfold jV at t
  rw [e] at t
  exact .inr (J5 false p H0 own Hb H x y k1 d1 k2 d2 P Q A r1 r2 t q)
theorem J3 {K:Ý}:Ok2 (jV true) (fun x y H Q=>rNe x y H Q\/DW K true x y H Q):=by
 intro p H0 own Hb H x y k1 d1 k2 d2 P Q A r1 r2 t q
 cases e:scD d1 d2 with
 | some b =>
  have t':gEq true k1 d1 k2 d2 P:=by
   unfold jV at t
   unfold gEq
   rw [e] at t ⊢
   exact t
  exact .inl (Qv p H0 own Hb H x y k1 d1 k2 d2 P Q A r1 r2 t' q)
 | none =>
  unfold jV at t
  rw [e] at t
  exact .inr (J5 true p H0 own Hb H x y k1 d1 k2 d2 P Q A r1 r2 t q)
theorem eV (hu:X.A.units+64<cLine) (ha:PD X a ta) (hb:PD X b tb):PD X (.Compare a [.Eq] [b] pos) (t2 (jV false) ta tb):=nR (OpR.or Fe (Fb hu)) J6 ha hb (bW _)
theorem wJ (hu:X.A.units+64<cLine) (ha:PD X a ta) (hb:PD X b tb):PD X (.Compare a [.NotEq] [b] pos) (t2 (jV true) ta tb):=nR (OpR.or J1 (Ew hu)) J3 ha hb (bW _)
theorem rG (hu:X.A.units+64<cLine) (ha:PD X a ta) (hb:PD X b tb):PDT X (.Compare a [.Eq] [b] pos) (cQ (t2 (jV false) ta tb)):=dG (OpR.or Fe (Fb hu)) J6 ha hb (bW _)
theorem rF (hu:X.A.units+64<cLine) (ha:PD X a ta) (hb:PD X b tb):PDT X (.Compare a [.NotEq] [b] pos) (cQ (t2 (jV true) ta tb)):=dG (OpR.or J1 (Ew hu)) J3 ha hb (bW _)
end
section
variable {n:Nat}{g:DG}{tt:DT}{te:DE}{ρ:List Sl}{k:Kd}{ds:List D}{R:Kd->List D->Prop}
theorem Jk {α β:Type} (f:α->β) {l:List α}{i:Nat}{x:α} (h:l[i]?=some x):(l.take (i+1)).map f=(l.take i).map f++[f x]:=by
 rw [Ŝ,h]
 simp
theorem sE {α:Type} (xs:List α) (e f:α->D) (ke:Kd) (hd:ds=xs.map e) (hl:xs.length<=1000)
  (step:∀ x∈xs,∀ (A:D->Prop) (B:Prop),A (f x)->g (norm (elC k) (e x)) (e x) (Ð n .any++ρ) fun ρ'=>if true=true then te ρ' fun k' d'=>(norm k' d').le ke=true/\A d' else B)
  (q:R ke (xs.map f)) :
  ds.length<=1000/\∃ (ke:Kd) (Iv:Nat->List D->Prop),Iv 0 [] /\
   (∀ i d ys,ds[i]?=some d->Iv i ys->g (norm (elC k) d) d (Ð n .any++ρ) fun ρ'=>if true=true then te ρ' fun k' d'=>(norm k' d').le ke=true/\Iv (i+1) (ys++[d']) else Iv (i+1) ys) /\
   ∀ ys,Iv ds.length ys->R ke ys:=by
 subst hd
 refine⟨by rw [Â]; exact hl,ke,fun i ys=>ys=(xs.take i).map f,rfl,?_,?_⟩
 ·rintro i d ys hd rfl
  rw [Ø] at hd
  cases hx:xs[i]? with
  | none=>rw [hx] at hd; cases hd
  | some x =>
   rw [hx] at hd
   have hd:=Û hd
   subst hd
   exact step x (Ñ hx) (fun d'=>(xs.take i).map f++[d']=(xs.take (i+1)).map f) _ (Jk f hx).symm
 ·rintro ys rfl
  rw [Â,Ť]
  exact q
theorem Kf {α:Type} (xs:List α) (e:α->D) (p:α->Bool) (f:α->D) (ke:Kd) (hd:ds=xs.map e) (hl:xs.length<=1000)
  (step:∀ x∈xs,∀ (A:D->Prop) (B:Prop),(p x=true->A (f x))->(p x=false->B)->g (norm (elC k) (e x)) (e x) (Ð n .any++ρ) fun ρ'=>tt ρ' fun b=>if b=true then te ρ' fun k' d'=>(norm k' d').le ke=true/\A d' else B)
  (q:R ke ((xs.filter p).map f)) :
  ds.length<=1000/\∃ (ke:Kd) (Iv:Nat->List D->Prop),Iv 0 [] /\
   (∀ i d ys,ds[i]?=some d->Iv i ys->g (norm (elC k) d) d (Ð n .any++ρ) fun ρ'=>tt ρ' fun b=>if b=true then te ρ' fun k' d'=>(norm k' d').le ke=true/\Iv (i+1) (ys++[d']) else Iv (i+1) ys) /\
   ∀ ys,Iv ds.length ys->R ke ys:=by
 subst hd
 refine⟨by rw [Â]; exact hl,ke,fun i ys=>ys=((xs.take i).filter p).map f,rfl,?_,?_⟩
 ·rintro i d ys hd rfl
  rw [Ø] at hd
  cases hx:xs[i]? with
  | none=>rw [hx] at hd; cases hd
  | some x =>
   rw [hx] at hd
   have hd:=Û hd
   subst hd
   have sn:((xs.take (i+1)).filter p).map f=((xs.take i).filter p).map f++if p x=true then [f x] else []:=by
    rw [Ŝ,hx,List.filter_append,Þ]
    cases hp:p x <;> simp [hp]
   refine step x (Ñ hx) (fun d'=>((xs.take i).filter p).map f++[d']=((xs.take (i+1)).filter p).map f) _ (fun h=>?_) (fun h=>?_)
   ·rw [sn,if_pos h]
   ·show _=_
    rw [sn,h,if_neg Ô,Ĵ]
 ·rintro ys rfl
  rw [Â,Ť]
  exact q
end
section
variable {g:DG}{tb:DS}{k:Kd}{ds:List D}{ρ:List Sl}{P:DEnds}
end
variable [Gr]
section
variable {X:Cx}{scope:Scope}{tg iter elt:Expr}{ifs:List Expr}{pos:Pos}{ti:DI}{g:DG}{tt:DT}{te:DE}
theorem Lh (own:List Str) {i:Nat}{y:Str}{py spos:Pos} (hc:X.calm=true) (hN:X.N.Nodup) (hiN:X.N[i]?=some y) (hx:Loc X.env.scope y) (hi:PDI X tg iter ti) (hg:∀ c,PDG (X.comp own scope c) tg g) (ht:∀ c,Hy (X.comp own scope c) ifs tt) (he:∀ c,PD (X.comp own scope c) elt te)
  (hsw:swapsWith (.ListComp elt [⟨tg,iter,ifs,0⟩] scope pos) (some (.Name y py)) spos.line X.env=pure true:=by rfl)
  (hk:dD X.env scope X.N=true:=by rfl) (hs:zF X iter:=by intro _; rfl) (hf:zL X y:=by first | exact .inl rfl | exact .inr rfl | assumption) :
  PS X (.Assign [.Name y py] (.ListComp elt [⟨tg,iter,ifs,0⟩] scope pos) spos) (pL (aW (dLC own.length ti g tt te)) (gF i)):=PS.wk' (JZ own hc hN hiN hx hi hg ht he hsw hk hs hf) fun D σ H q=>zj σ H _ q
end
section
variable {n:Nat}{g:DG}{tt:DT}{te:DE}{ρ:List Sl}{k:Kd}{ds:List D}{R:Kd->List D->Prop}
end
variable [Gr]
section
variable {X:Cx}{pos:Pos}{st:Stmt}{rest:List Stmt}{te tj:DE}{ti:DI}{t:DS}
def Np (i:Nat) (t:DS):DS:=fun P ρ=>match ρ[i]? with
 | some (.dw r d)=>oW r ρ i=true/\t P (ρ.set i (.sn d))
 | some (.rw r L)=>oW r ρ i=true/\t P (ρ.set i (.sn (.list (L.map Ġ))))
 | some (.sp r b ds)=>oW r ρ i=true/\t P (ρ.set i (if b=true then .sn (.list ds) else .sh (.list ds)))
 | _=>False
theorem EnvD.freeze {p:Pn}{H0 H:Hp}{own:Addr->Option Nat}{σ:L2.St}{ρ:List Sl}{i r:Nat}{d:D}{v:V} (E:EnvD p H0 own σ H ρ) (hf:oW r ρ i=true) (hv:σ[i]?=some (some v)) (x:Rp (fun a=>own a=some r) H v d) :
  EnvD p H0 (aO r own) σ H (ρ.set i (.sn d)):=by
 have E2:EnvD p H0 (aO r own) σ H (ρ.set i .any):=(E.drop (i:=i)).clear hf
 have E3:=E2.put (v:=v) (i:=i) (s:=.sn d) ⟨v,hv,x.mono (fun a o=>⟨(E.ow a r o).1,(E.ow a r o).2.1,by unfold aO; rw [if_pos o]⟩) (fun _ _ _ e=>e) fun _ _ e=>e⟩
 rw [List.set_set] at E3
 exact E3
theorem xH (i:Nat) (h:je X rest t):je X rest (Np i t):=PSs.wk' h (by
 rintro Q σ H ⟨p,H0,own,ρ,P,E,q,w⟩
 unfold Np at q
 split at q
 ·rename_i r d e
  obtain⟨v,hv,x⟩:=E.slot i _ e
  exact⟨p,H0,_,_,P,E.freeze q.1 hv x,q.2,w.go eF⟩
 ·rename_i r L e
  obtain⟨st,as,hv,x⟩:=E.slot i _ e
  exact⟨p,H0,_,_,P,E.freeze q.1 hv x.rp,q.2,w.go eF⟩
 ·rename_i r b ds e
  obtain⟨l,vs,hv,o,h,z⟩:=E.slot i _ e
  have E2:EnvD p H0 (aO r own) σ H (ρ.set i .any):=(E.drop (i:=i)).clear q.1
  have c0:∀ a,own a=none->aO r own a=none:=fun a n=>by unfold aO; rw [n]; simp
  have cl:aO r own l=none:=by unfold aO; rw [if_pos o]
  have E3:EnvD p H0 (aO r own) σ H ((ρ.set i .any).set i (if b=true then .sn (.list ds) else .sh (.list ds))):=E2.put (v:=.ref l) (by
   cases b with
   | true=>exact⟨_,hv,.lst ⟨(E.ow l r o).1,(E.ow l r o).2.1,cl⟩ h (z.mono (fun c n=>⟨n.1 rfl,n.2.1,c0 c n.2.2⟩) (fun _ _ _ e=>e) fun _ _ e=>e)⟩
   | false=>exact⟨_,hv,.lst ⟨(E.ow l r o).2.1,cl⟩ h (z.mono (fun c n=>⟨n.2.1,c0 c n.2.2⟩) (fun _ _ _ e=>e) fun _ _ e=>e)⟩)
  rw [List.set_set] at E3
  exact⟨p,H0,_,_,P,E3,q.2,w.go eF⟩
 ·exact q.elim)
def spK (b:Bool):Kd:=if b=true then .snw else .shr
theorem EnvD.Qi {p:Pn}{H0 H:Hp}{own:Addr->Option Nat}{σ:L2.St}{ρ:List Sl}{i r:Nat}{b:Bool}{l:Addr}{vs vs':List V}{ds':List D} (E:EnvD p H0 own σ H ρ) (hv:σ[i]?=some (some (.ref l))) (o:own l=some r) (h:H l=some (.lst vs)) (z:Rps (okS p H0 own b) H vs' ds') :
  EnvD p H0 own σ (upd H l (.lst vs')) ((forget r ρ).set i (.sp r b ds'))/\FrS p own H own (upd H l (.lst vs')):=by
 refine⟨(E.write (o':=.lst vs') o h fun xs z=>nomatch z).put (v:=.ref l) ⟨l,vs',hv,o,ao,z.mono (fun _ o=>o) (fun c u n e=>?_) fun a xs e=>?_⟩,cU o h fun xs z=>nomatch z⟩
 ·rw [aj]; exact e
  intro y; subst y; rw [n.2.2] at o; cases o
 ·rw [aj]; exact e
  intro y; subst y; rw [h] at e; cases e
def QZ (i:Nat) (te:DE):DS:=fun P ρ=>match ρ[i]? with
 | some (.sp r b ds)=>te ρ fun k d=>(norm k d).le (spK b)=true/\ds.length<1000/\P.nx ((forget r ρ).set i (.sp r b (ds++[d])))
 | _=>False
def QX (i:Nat) (tj te:DE):DS:=fun P ρ=>match ρ[i]? with
 | some (.sp r b ds)=>tj ρ fun _ dj=>te ρ fun k d=>match dj with
  | .int j=>(norm k d).le (spK b)=true/\0<=j/\j.toNat<=ds.length/\ds.length<1000/\P.nx ((forget r ρ).set i (.sp r b (ds.take j.toNat++d::ds.drop j.toNat)))
  | _=>False
 | _=>False
theorem uJ:∀ {as bs:List Addr},as.map V.ref=bs.map V.ref->as=bs
 | [],[],_=>rfl
 | a::as,b::bs,e=>by
  rw [Ą,Ą] at e
  injection e with e1 e2
  rw [V.ref.inj e1,uJ e2]
 | [],_::_,e=>by cases e
 | _::_,[],e=>by cases e
def Hq (js:List Nat) (t:DS):DS:=fun P ρ=>t P (js.foldl (fun ρ j=>ρ.set j .any) ρ)
theorem EnvD.drops {p:Pn}{H0 H:Hp}{own:Addr->Option Nat}{σ:L2.St}:∀ (js:List Nat) {ρ:List Sl},EnvD p H0 own σ H ρ->EnvD p H0 own σ H (js.foldl (fun ρ j=>ρ.set j .any) ρ)
 | [],_,E=>E
 | _::js,_,E=>EnvD.drops js E.drop
theorem oZ (js:List Nat) (h:je X rest t):je X rest (Hq js t):=PSs.wk' h (by
 rintro Q σ H ⟨p,H0,own,ρ,P,E,q,w⟩
 exact⟨p,H0,own,_,P,E.drops js,q,w⟩)
def tM (i:Nat) (tj te:DE):DS:=fun P ρ=>match ρ[i]? with
 | some (.rw r L)=>tj ρ fun _ dj=>match dj with
  | .int j=>∃ n l,ixN L.length j=some n/\L[n]?=some l/\te ρ fun _ d=>dF d=true/\l.length<1000/\P.nx ((forget r ρ).set i (.rw r (L.set n (l++[d]))))
  | _=>False
 | _=>False
theorem d9 {i:Nat} (h:PS X st (uw (tBM X.K "list" mJ (tOp (Ox X.K) (lW i) (aW tj)) (oM (cC te j7))))):PDS X st (tM i tj te):=PS.wk' h (by
 rintro Q σ H ⟨p,H0,own,ρ,P,E,q,w⟩
 unfold tM at q
 split at q
 ·rename_i r L hr
  obtain⟨st,as,hv,R0⟩:=E.slot i _ hr
  refine⟨.ref st,hv,p,H0,own,ρ,_,E,q,fun kj dj vj H1 q1 A1 rj=>?_⟩
  cases dj with
  | int j =>
   have E1:=E.go A1.kp A1.pen
   obtain⟨st',as',hv',R1⟩:=E1.slot i _ hr
   rw [hv] at hv'
   cases hv'
   have ej:=Rp.int' rj
   subst ej
   obtain⟨n,l,hn,hl,q1⟩:=q1
   have hnl:=(É.mp hl).1
   rw [Í hnl] at hl
   cases hl
   have hna:n<as'.length:=by rw [R1.len]; exact hnl
   have eat:atI (as'.map V.ref) j=some (.ref as'[n]):=by
    unfold L2.atI
    rw [Â,R1.len,hn]
    show (as'.map V.ref)[n]?=_
    rw [Ø,Í hna]
    rfl
   obtain⟨vs,hav,rv⟩:=R1.row n as'[n] L[n] (Í hna) (Í hnl)
   refine⟨st,_,j,.ref as'[n],rfl,rfl,SqL.of R1.top,eat,.inl ⟨rfl,vs,SqL.of hav⟩,p,H0,own,ρ,_,E1,yZ q1,?_⟩
   rintro ks ws H2 ⟨k,d,rfl,im,len,nx⟩ A2 rk
   obtain⟨y,rfl,ry⟩:=cY rk
   have ry:Rp (fun _=>False) H2 y d:=Rp.imm ry im
   have E2:=E1.go A2.kp A2.pen
   obtain⟨st',as2,hv',R2⟩:=E2.slot i _ hr
   rw [hv] at hv'
   cases hv'
   -- the rows are those of before
   have eas:as2=as':=by
    have e1:=A2.kp st _ R1.top (E1.ow st r (R1.ow st Ö)).2.1
    rw [R2.top] at e1
    have e2:=(HO.lst.inj (Û e1))
    exact uJ e2
   subst eas
   obtain⟨vs2,hav2,rv2⟩:=R2.row n as2[n] L[n] (Í hna) (Í hnl)
   have oa:=R2.ow as2[n] (Ó _ (ť hna))
   have h24:=ö
   have ln:=rv2.length
   refine⟨as2[n],vs2,y,rfl,rfl,hav2,by omega,?_⟩
   have tp:∀ a xs,H2 a=some (.tup xs)->upd H2 as2[n] (.lst (vs2++[y])) a=some (.tup xs):=fun a xs e=>by
    rw [aj]; exact e
    intro z; subst z; rw [hav2] at e; cases e
   have E3:=E2.write (o':=.lst (vs2++[y])) oa hav2 (fun xs z=>nomatch z)
   have nd1:=ř.mp R2.nd
   have E4:=E3.put (v:=.ref st) (i:=i) (s:=.rw r (L.set n (L[n]++[d]))) ⟨st,as2,hv,⟨?_,R2.nd,R2.ow,by rw [List.length_set]; exact R2.len,fun m a ds e1 e2=>?_⟩⟩
   ·exact w.nx _ σ _ _ E4 ((A1.frs.trans A2.frs).trans (cU oa hav2 fun xs z=>nomatch z)) nx
   ·rw [aj]; exact R2.top
    intro z
    exact nd1.1 (by rw [z]; exact ť hna)
   ·by_cases em:m=n
    ·subst em
     rw [ă hnl] at e2
     rw [Í hna] at e1
     cases e1
     cases e2
     exact⟨_,ao,(rv2.mono (fun _ o=>o) (fun _ _ o=>o.elim) tp).snoc (ry.mono (fun _ o=>o) (fun _ _ o=>o.elim) tp)⟩
    ·rw [ī (ċ em)] at e2
     obtain⟨vs3,h3,r3⟩:=R2.row m a ds e1 e2
     refine⟨vs3,?_,r3.mono (fun _ o=>o) (fun _ _ o=>o.elim) tp⟩
     rw [aj]; exact h3
     intro z
     have hm:=(É.mp e1).1
     have hz:as2[m]=as2[n]:=by rw [(É.mp e1).2]; exact z
     exact em ((List.getElem_inj nd1.2).mp hz)
  | _=>exact q1.elim
 ·exact q.elim)
def Hi (i r:Nat) (ti:DI):DS:=fun P ρ=>ti ρ fun k ds=>ds.length<=1000/\oW r ρ i=true/\P.nx (ρ.set i (.rw r (Ð ds.length [])))
theorem jX {i n j:Nat} (r:Nat) (h:PS X st (pL (tLC n (Gd ti) (fun _=>zq (gNm j)) (fun _=>liftT fun _ P=>P true) (fun _=>Oa KD)) (gF i))):PDS X st (Hi i r ti):=PS.wk' h (by
 rintro Q σ H ⟨p,H0,own,ρ,P,E,q,w⟩
 refine⟨p,H0,own,ρ,_,E,q,fun k ds J H1 Ok h A W o1=>?_⟩
 obtain⟨hlen,hf,nx⟩:=h
 have okS:∀ H',Kp p H1 H'->p.PI H'->Ok H':=fun H' K i=>W.stab H1 H' o1 (fun b o n e=>K b o e (jE A n.1)) (gA A K)
 refine⟨fun i m ys H'=>m=ds.length - i/\i<=ds.length/\Kp p H1 H'/\p.PI H'/\∃ as:List Addr,ys=as.map V.ref/\as.Nodup/\as.length=i/\∀ a∈as,H a=none/\H' a=some (.lst []),⟨_,rfl,ÿ _,Kp.refl,A.pen,[],rfl,.nil,rfl,fun a ha=>nomatch ha⟩,?_⟩
 rintro c i' m ys H' ⟨rfl,hi,K',I',as,rfl,nd,la,hn⟩
 have oH:=okS H' K' I'
 have A':=A.go K' I'
 have h24:=ö
 by_cases hlt:i'<ds.length
 ·refine .inr ⟨W.go i' H' oH hlt,by rw [Â]; omega,fun ys' H2=>Kp p H1 H2/\p.PI H2/\∃ as:List Addr,ys'=as.map V.ref/\as.Nodup/\as.length=i'+1/\∀ a∈as,H a=none/\H2 a=some (.lst []),fun ys' H2 h=>⟨_,by omega,rfl,hlt,h⟩,fun x H2 y=>?_⟩
  obtain⟨sm,rx⟩:=W.yld i' H' x H2 oH y
  have rx:=rx ds[i'] (Í hlt)
  have I2:p.PI H2:=p.mono H' H2 I' fun b o _ e=>sm b o e
  have K2:Kp p H1 H2:=K'.trans (Kp.of sm)
  have A2:=A.go K2 I2
  have E2:EnvD p H0 own σ H2 ρ:=E.go A2.kp A2.pen
  refine⟨p,H0,own,_,_,_,fun _=>True,E2.comp n,dN (J7 A rx),trivial,fun σ3 ρ3 E3 t3=>?_⟩
  refine⟨p,H0,own,ρ3,fun b=>b=true,E3,rfl,fun b H4 h4 A4=>?_⟩
  subst h4
  refine aH ⟨(by show 0<=sizeLine; omega),fun l hl=>?_⟩
  have A5:At p H0 own H H4:=A2.base A4
  obtain⟨k7,i7,nw⟩:=A5.new hl (.lst [])
  refine⟨(K2.trans A4.kp).trans k7,i7,as++[l],by rw [Þ]; rfl,?_,by rw [È,la]; rfl,fun a ha=>?_⟩
  ·refine List.nodup_append.mpr ⟨nd,by simp,fun a ha b hb=>?_⟩
   rw [Õ.mp hb]
   intro z
   subst z
   have e:=A4.kp a _ (sm a _ (hn a ha).2) (A.nfb (hn a ha).1)
   rw [hl] at e
   cases e
  ·rcases ä.mp ha with z | z
   ·refine⟨(hn a z).1,?_⟩
    have e:=A4.kp a _ (sm a _ (hn a z).2) (A.nfb (hn a z).1)
    exact k7 a _ e (A.nfb (hn a z).1)
   ·rw [Õ.mp z]
    exact⟨nw,ao⟩
 ·have e:i'=ds.length:=by omega
  subst e
  refine .inl ⟨W.stop H' oH,fun l hl=>?_⟩
  obtain⟨k7,i7,nw⟩:=A'.new hl (.lst (as.map V.ref))
  have A7:=A'.go k7 i7
  show Q.nx (σ.set i (some (.ref l))) (upd H' l (.lst (as.map V.ref)))
  have E2:EnvD p H0 (aO r own) σ H (ρ.set i .any):=(E.drop (i:=i)).clear hf
  have A8:At p H0 (aO r own) H (upd H' l (.lst (as.map V.ref))):=⟨A7.k0,A7.kp,A7.penb,A7.pen,E2.ow⟩
  have E3:=E2.adopt r A8
  have lna:l∉as:=fun z=>by rw [(hn l z).2] at hl; cases hl
  have E4:=E3.set (i:=i) (v:=.ref l) (s:=.rw r (Ð ds.length [])) fun hli=>⟨l,as,ă hli,⟨ao,List.nodup_cons.mpr ⟨lna,nd⟩,fun a ha=>?_,by rw [la,Ų],fun m a es e1 e2=>?_⟩⟩
  ·rw [List.set_set] at E4
   exact w.nx _ _ _ _ E4 (eF.trans (lK A8)) nx
  ·rcases Ù.mp ha with rfl | ha
   ·exact iz nw ao
   ·exact iz (hn a ha).1 (by rw [aj (fun z:a=l=>lna (by rw [← z]; exact ha))]; exact (hn a ha).2)
  ·have ha:=Ñ e1
   have ees:es=[]:=by
    have:=Ñ e2
    exact (List.mem_replicate.mp this).2
   subst ees
   exact⟨[],by rw [aj (fun z:a=l=>lna (by rw [← z]; exact ha))]; exact (hn a ha).2,.nil⟩)
end
@[reducible] def grL (K:Ý) (sc:Addr) (ns:List Int):Gr:=⟨fun p H0=>SqL K H0 sc (ns.map V.int)/\∀ b,p.fp b->H0 b=none⟩
def yw (K:Ý):Sp:=fun vs H Q _=>∃ (a:Addr) (ns:List Int),vs=[.ref a]/\SqL K H a (ns.map V.int)/\∀ H',Q (.bl true) H'
section
variable {X:Cx}{k1 k2 j:Nat}{x y z:Str}{ps1 ps2:List Str}{e:Expr}{es1 es2:List Expr}{p1 p2 p3 pos pos1:Pos}{K:Ý}{sc:Addr}{ns:List Int}{C:Pn->Prop}{pre:List D->Prop}{g:List D->(D->Prop)->Prop}{i:Nat}
end
variable [Gr]
section
variable {X:Cx}{pos pos':Pos}{a b:Expr}{t:DA}
theorem Ie {ok:Addr->Prop}{H:Hp} (lo hi:Int):Rps ok H (lX lo hi) (aQ lo (hi - lo).toNat):=by
 unfold lX aQ
 exact Rps.ofMap (fun x=>.int _) _
theorem Jz {p:Pn}{H0 H H1:Hp}{own:Addr->Option Nat}{P:DK}{Q:VK}{lo hi:Int} (A:At p H0 own H H1) (h:P .new (.list (aQ lo (hi - lo).toNat))) (b:-1000<=lo/\lo<=1000/\-1000<=hi/\hi<=1000)
  (q:∀ k d v H',P k d->At p H0 own H H'->Rp (okK p H0 own H k) H' v d->Q v H') (r:Addr) (hr:H1 r=none) :
  ∃ p' lo' hi',[V.ref r]=[.ref p']/\upd H1 r (.rng lo hi) p'=some (.rng lo' hi')/\(-1000<=lo'/\lo'<=1000/\-1000<=hi'/\hi'<=1000)/\∀ l,upd H1 r (.rng lo hi) l=none->Q (.ref l) (upd (upd H1 r (.rng lo hi)) l (.lst (lX lo' hi'))):=by
 refine⟨r,lo,hi,rfl,ao,b,fun l hl=>?_⟩
 obtain⟨k2,i2,_⟩:=A.new hr (.rng lo hi)
 have A2:=A.go k2 i2
 obtain⟨k3,i3,nw⟩:=A2.new hl (.lst (lX lo hi))
 exact q _ _ _ _ h (A2.go k3 i3) (.lst nw ao (Ie lo hi))
def Q5 (t:DA):DE:=fun ρ P=>t ρ fun ks=>match ks with
 | [(_,.int j)]=>(-1000<=j/\j<=1000)/\P .new (.list (aQ 0 (j - 0).toNat))
 | _=>False
def Oc (t:DA):DE:=fun ρ P=>t ρ fun ks=>match ks with
 | [(_,.int i),(_,.int j)]=>(-1000<=i/\i<=1000/\-1000<=j/\j<=1000)/\P .new (.list (aQ i (j - i).toNat))
 | _=>False
theorem iY {ps ps':Pos} (hc:X.calm=true) (hml:X.mg "list"=none) (hmr:X.mg "range"=none) (ha:PDA X [a,b] t) (hgl:Gl X "list":=by rfl) (hgr:Gl X "range":=by rfl)
  (he:starEach [a,b] X.env=(false,eval a X.env)::starEach [b] X.env:=by rfl) (hpl:(backTo pos' (starEach [b] X.env)).any (·.1)=false:=by rfl)
  (he2:starEach [.Call (.Name "range" ps') [a,b] [] pos'] X.env=(false,eval (.Call (.Name "range" ps') [a,b] [] pos') X.env)::starEach [] X.env:=by rfl) (hpl2:zP X pos []:=by rfl) :
  PD X (.Call (.Name "list" ps) [.Call (.Name "range" ps') [a,b] [] pos'] [] pos) (Oc t):=PE.wk (cD (iK hc) hgl hml boot_list (aG (cD BX hgr hmr boot_range ha (by decide) (by decide) he hpl) bB he2) (by decide) (by decide) he2 hpl2) (by
 rintro σ H Q ⟨p,H0,own,ρ,P,E,t,q⟩
 refine⟨p,H0,own,ρ,_,E,t,fun ks vs H1 h A rk=>?_⟩
 split at h
 ·rename_i k i k' j
  obtain⟨v,v',rfl,r1,r2⟩:=Dv rk
  have e:=Rp.int' r1
  have e':=Rp.int' r2
  subst e e'
  exact⟨i,j,rfl,Jz A h.2 h.1 q⟩
 ·exact h.elim)
end
variable [Gr]
mutual
inductive Tm where
 | int (i:Int)
 | neg (i:Int)
 | bl (b:Bool)
 | non
 | str (s:Str)
 | var (i:Nat)
 | lst (ts:Tms)
 | tup (ts:Tms)
 | dct
inductive Tms where
 | nil
 | cons (t:Tm) (ts:Tms)
end
def Qj (sc:Scope) (x:Str):Bool:=sc.names.lookup x == some .local || sc.names.lookup x == some .cell || sc.names.lookup x == some .free
mutual
def okT (N:List Str) (sc:Scope):Tm->Expr->Bool
 | .int i,.Constant (.int j) _ _=>i == j
 | .neg i,.UnaryOp .USub (.Constant (.int j) _ _) _=>i == j
 | .bl b,.Constant (.bool c) _ _=>b == c
 | .non,.Constant .none _ _=>true
 | .str s,.Constant (.str u) _ _=>s == u
 | .var i,.Name x _=>N[i]? == some x&&(Qj sc x&&(!(x == ("__debug__":Str))&&!(x == ("__classdict__":Str))))
 | .lst ts,.List es _=>Mq N sc ts es
 | .tup ts,.Tuple es _ _=>Mq N sc ts es
 | .dct,.Dict [] [] _=>true
 | _,_=>false
def Mq (N:List Str) (sc:Scope):Tms->List Expr->Bool
 | .nil,[]=>true
 | .cons t ts,e::es=>okT N sc t e&&Mq N sc ts es
 | _,_=>false
end
mutual
def evT (ρ:List Sl):Tm->Option (Kd×D)
 | .int i=>some (.imm,.int i)
 | .neg i=>some (.imm,.int (-i))
 | .bl b=>some (.imm,.bool b)
 | .non=>some (.imm,.none)
 | .str s=>some (.imm,.str s)
 | .var i=>match ρ[i]? with
  | some (.im d)=>some (.imm,d)
  | some (.sh d)=>some (.shr,d)
  | some (.sn d)=>some (.snw,d)
  | some (.dw r d)=>some (.reg r,d)
  | _=>none
 | .lst ts=>match Ni ρ ts with
  | some ks=>some ((joins ks).join .new,.list (ks.map (·.2)))
  | none=>none
 | .tup ts=>match Ni ρ ts with
  | some ks=>some (norm (joins ks) (.tuple (ks.map (·.2))),.tuple (ks.map (·.2)))
  | none=>none
 | .dct=>some (.new,.dict [])
def Ni (ρ:List Sl):Tms->Option (List (Kd×D))
 | .nil=>some []
 | .cons t ts=>match evT ρ t,Ni ρ ts with
  | some k,some ks=>some (k::ks)
  | _,_=>none
end
mutual
def smT:Tm->Bool
 | .lst ts=>KJ 1000 ts
 | .tup ts=>KJ 1000 ts
 | _=>true
def KJ:Nat->Tms->Bool
 | _,.nil=>true
 | n+1,.cons t ts=>smT t&&KJ n ts
 | 0,.cons _ _=>false
end
section
variable {X:Cx}{e:Expr}{es:List Expr}
section
variable {N:List Str}{sc:Scope}
end
end
end Dl
namespace L2
open PySem PySem.Spec PyProof.Rows HT
section
variable {X:Cx}{e:Expr}{te:TE}{p1 p2 p3 pos:Pos}
end
end L2
namespace Dl
open PySem L2 PyProof.Rows
variable [Gr]
section
variable {X:Cx}{pos p1 p2 p3:Pos}{a b e:Expr}{es:List Expr}{ta tb te:DE}{t:DA}
theorem Rps.rev {ok:Addr->Prop}{H:Hp}:∀ {vs:List V}{ds:List D},Rps ok H vs ds->Rps ok H vs.reverse ds.reverse
 | _,_,.nil=>.nil
 | _,_,.cons h t=>by
  rw [ŷ,ŷ]
  exact (Rps.rev t).snoc h
def KC (te:DE) (tl th:DO):DE:=fun ρ P=>te ρ fun k d=>tl ρ fun lo=>th ρ fun hi=>match d with
 | .list ds=>newP k (gG ds lo hi) fun k'=>P k' (.list (gG ds lo hi))
 | .tuple ds=>¬ (HT.sIx ds.length 0 lo=0/\HT.sIx ds.length ds.length hi=ds.length)/\P (norm k (.tuple (gG ds lo hi))) (.tuple (gG ds lo hi))
 | _=>False
theorem Eo {lo hi:Option Expr}{tl th:DO} (he:PD X e te) (hl:PO X lo (oJ tl)) (hh:PO X hi (oJ th)):PD X (.Subscript e (.Slice lo hi none p2) pos) (KC te tl th):=PE.wk (uQ (SlR.or yD KN) he hl hh) (by
 rintro σ H Q ⟨p,H0,own,ρ,P,E,t,q⟩
 refine⟨p,H0,own,ρ,_,E,t,fun k d v H1 h A r=>?_⟩
 refine⟨p,H0,own,ρ,_,E.go A.kp A.pen,h,fun o1 H2 h2 A2=>?_⟩
 refine⟨p,H0,own,ρ,_,(E.go A.kp A.pen).go A2.kp A2.pen,h2,fun o2 H3 h3 A3=>?_⟩
 have A4:=(A.base A2).base A3
 have r3:=fQ (A.base A2) A3.kp (fQ A A2.kp r)
 cases d with
 | list ds =>
  obtain⟨x,xs,e1,o,h1,rs⟩:=Rp.bM r3
  subst e1
  refine .inl ⟨x,xs,rfl,SqL.of h1,fun l hl=>?_⟩
  obtain⟨k2,i2,nw⟩:=A4.new hl (.lst (pA xs o1 o2))
  obtain⟨k',hk',rk'⟩:=eZ A4 (bR A4 k2 (rs.cut o1 o2)) nw ao h3
  exact q _ _ _ _ hk' (A4.go k2 i2) rk'
 | tuple ds =>
  obtain⟨x,xs,e1,h1,rs⟩:=Rp.cP r3
  subst e1
  refine .inr ⟨x,xs,rfl,SqT.of h1,by rw [rs.length]; exact h3.1,fun l hl=>?_⟩
  obtain⟨k2,i2,nw⟩:=A4.new hl (.tup (pA xs o1 o2))
  exact q _ _ _ _ h3.2 (A4.go k2 i2) (bI (.tup ao (bR A4 k2 (rs.cut o1 o2))))
 | _=>exact h3.elim)
end
variable [Gr]
abbrev IM:=List (Int×D)
def kvD (m:IM):List (D×D):=m.map fun p=>(Æ p.1,p.2)
def fB (m:IM) (k:Int):Bool:=m.any fun p=>decide (p.1=k)
def jU (m:IM) (k:Int):Option D:=(m.find? fun p=>decide (p.1=k)).map (·.2)
def nG (m:IM) (k:Int) (d:D):IM:=if fB m k=true then m.map (fun p=>if p.1=k then (p.1,d) else p) else m++[(k,d)]
def Gh (m:IM):Bool:=m.all fun p=>dF p.2
theorem M4 {k:Key}{i:Int} (h:kD k=.int i):k=.inl i:=by
 cases k with
 | inl j=>cases h; rfl
 | inr x=>cases h
theorem Rkv.kv:∀ {ok:Addr->Prop}{H:Hp}{kvs:List (Key×V)}{m:IM},Rkv ok H kvs (kvD m)->∃ vs:List V,kvs=(m.map (·.1)).zipWith (fun i v=>(ò i,v)) vs/\Rps ok H vs (m.map (·.2))
 | _,_,_,[],h=>by cases h; exact⟨[],rfl,.nil⟩
 | _,_,_,p::m,h=>by
  unfold kvD at h
  rw [Ą] at h
  generalize hk:Æ p.1=kk at h
  cases h with
  | cons h t =>
   rename_i k v vs0
   obtain⟨vs,rfl,r⟩:=Rkv.kv (m:=m) t
   have e:=M4 hk.symm
   subst e
   exact⟨v::vs,rfl,.cons h r⟩
theorem sG:∀ {m:IM}{vs:List V} (k:Int),vs.length=m.length->(((m.map (·.1)).zipWith (fun i v=>((ò i:Key),v)) vs).any fun kv=>decide (kv.1=ò k))=fB m k
 | [],[],_,_=>rfl
 | p::m,v::vs,k,h=>by
  have ih:=sG (m:=m) (vs:=vs) k (by simpa using h)
  have e:decide ((ò p.1:Key)=ò k)=decide (p.1=k):=by
   by_cases c:p.1=k <;> simp [c]
  show (decide ((ò p.1:Key)=ò k) || _)=(decide (p.1=k) || _)
  rw [e]
  exact congrArg _ ih
 | [],_::_,_,h=>by cases h
 | _::_,[],_,h=>by cases h
theorem CN {kvs:List (Key×V)}{k:Key}:(fM kvs k).isSome=kvs.any fun kv=>decide (kv.1=k):=by
 induction kvs with
 | nil=>rfl
 | cons p r ih =>
  unfold fM at ih ⊢
  rw [ň,List.any_cons]
  cases h:decide (p.1=k) with
  | true=>rfl
  | false=>exact ih
theorem zA:∀ {ok:Addr->Prop}{H:Hp}{m:IM}{vs:List V}{k:Int}{d:D},Rps ok H vs (m.map (·.2))->jU m k=some d->∃ v,fM ((m.map (·.1)).zipWith (fun i v=>((ò i:Key),v)) vs) (ò k)=some v/\Rp ok H v d
 | _,_,[],_,_,_,_,h=>by cases h
 | _,_,p::m,_,k,d,.cons r t,h=>by
  unfold jU at h
  rw [ň] at h
  by_cases c:p.1=k
  ·rw [decide_eq_true c] at h
   cases h
   refine⟨_,?_,r⟩
   show fM ((ò p.1,_)::_) (ò k)=_
   rw [jg (by rw [c])]
  ·rw [decide_eq_false c] at h
   obtain⟨v,e,rv⟩:=zA (m:=m) (k:=k) (d:=d) t h
   refine⟨v,?_,rv⟩
   show fM ((ò p.1,_)::_) (ò k)=_
   unfold fM at e ⊢
   rw [ň,decide_eq_false (fun z=>c (Sum.inl.inj z))]
   exact e
theorem Jt:∀ {m:IM}{vs:List V}{k:Int}{v:V}{ok:Addr->Prop}{H:Hp}{d:D},Rps ok H vs (m.map (·.2))->Rp ok H v d->Rkv ok H (putK ((m.map (·.1)).zipWith (fun i v=>((ò i:Key),v)) vs) (ò k) v) (kvD (nG m k d)):=by
 intro m vs k v ok H d rs rv
 have hl:vs.length=m.length:=by rw [rs.length,Â]
 have all:∀ {m:IM}{vs:List V},Rps ok H vs (m.map (·.2))->Rkv ok H ((m.map (·.1)).zipWith (fun i v=>((ò i:Key),v)) vs) (kvD m):=by
  intro m
  induction m with
  | nil=>intro vs r; cases r; exact .nil
  | cons p m ih =>
   intro vs r
   cases r with
   | cons h t=>exact .cons (k:=ò p.1) h (ih t)
 unfold putK nG
 rw [sG k hl]
 by_cases c:fB m k=true
 ·rw [if_pos c,if_pos c]
  clear c hl
  induction m generalizing vs with
  | nil=>cases rs; exact .nil
  | cons p m ih =>
   cases rs with
   | cons h t =>
    have:=ih t
    by_cases cp:p.1=k
    ·have e1:(ò p.1:Key)=ò k:=by rw [cp]
     show Rkv ok H ((if (ò p.1:Key)=ò k then ((ò p.1:Key),v) else (ò p.1,_))::_) (kvD ((if p.1=k then (p.1,d) else p)::_))
     rw [if_pos e1,if_pos cp]
     exact .cons (k:=ò p.1) rv this
    ·have e1:¬ ((ò p.1:Key)=ò k):=fun z=>cp (Sum.inl.inj z)
     show Rkv ok H ((if (ò p.1:Key)=ò k then ((ò p.1:Key),v) else (ò p.1,_))::_) (kvD ((if p.1=k then (p.1,d) else p)::_))
     rw [if_neg e1,if_neg cp]
     exact .cons (k:=ò p.1) h this
 ·rw [if_neg c,if_neg c]
  have app:∀ {a b:List (Key×V)}{x y:List (D×D)},Rkv ok H a x->Rkv ok H b y->Rkv ok H (a++b) (x++y):=by
   intro a b x y h1 h2
   induction a generalizing x with
   | nil=>cases h1; exact h2
   | cons p a ih=>cases h1 with | cons h t=>exact .cons h (ih t)
  unfold kvD
  rw [Þ]
  exact app (all rs) (.cons (k:=ò k) rv .nil)
section
variable {X:Cx}{pos pos' p2:Pos}{a b e:Expr}{ta tb te tj tm:DE}{st st2:Stmt}{rest:List Stmt}{ti:DI}{g:DG}{t:DS}
def tD1 (ta tb:DE):DE:=fun ρ P=>ta ρ fun _ d1=>tb ρ fun k2 d2=>match d1 with
 | .int i=>(norm k2 d2).le .new=true/\P .new (.dict (kvD [(i,d2)]))
 | _=>False
theorem nQ (ha:PD X a ta) (hb:PD X b tb):PD X (.Dict [some a] [b] pos) (tD1 ta tb):=PE.wk (Iz (Ef ha hb Im) rfl rfl (by intro z; cases z) (by show 1<=15; decide)) (by
 rintro σ H Q ⟨p,H0,own,ρ,P,E,t,q⟩
 intro c hc
 have A0:=E.at
 obtain⟨k0,i0,nw⟩:=A0.new hc (.dK [])
 have nf:=A0.nfb hc
 refine⟨p,H0,own,ρ,_,E.go k0 i0,t,fun k1 d1 v1 H1 t1 A1 r1=>?_⟩
 refine⟨p,H0,own,ρ,_,(E.go k0 i0).go A1.kp A1.pen,t1,fun k2 d2 v2 H2 t2 A2 r2=>?_⟩
 have h1:H1 c=some (.dK []):=A1.kp c _ ao nf
 have h2:H2 c=some (.dK []):=A2.kp c _ h1 nf
 refine⟨h2,?_⟩
 cases d1 with
 | int i =>
  have e1:=Rp.int' r1
  subst e1
  refine⟨[(ò i,v2)],rfl,(by show 1<=15; decide),?_⟩
  show Q (.ref c) (upd H2 c (.dK [(ò i,v2)]))
  have K:Kp p H (upd H2 c (.dK [(ò i,v2)])):=fun x o ex nx=>by
   rw [aj (aq ex hc)]
   exact A2.kp x o (A1.kp x o (by rw [aj (aq ex hc)]; exact ex) nx) nx
  have PIf:p.PI (upd H2 c (.dK [(ò i,v2)])):=p.mono H2 _ A2.pen fun x o fx ex=>by
   rw [aj (fun z:x=c=>nf (by rw [← z]; exact fx))]; exact ex
  refine q _ _ _ _ t2.2 ⟨A0.k0,K,A0.penb,PIf,A0.ow⟩ (.dct nw ao (.cons (k:=ò i) ?_ .nil))
  have rn:Rp (okK p H0 own H1 .new) H2 v2 d2:=jr A2 t2.1 (bI r2)
  refine rn.bL (fun x o n ex=>⟨?_,?_⟩) fun x xs ex=>?_
  ·have n:H1 x=none:=n
   cases hx:H x with
   | none=>exact hx
   | some u =>
    have:=A1.kp x u (by rw [aj (aq hx hc)]; exact hx) (A2.nfb n)
    rw [n] at this
    cases this
  ·have n:H1 x=none:=n
   rw [aj (fun z=>by rw [z,h1] at n; cases n)]
   exact ex
  ·rw [aj (fun z=>by rw [z,h2] at ex; cases ex)]
   exact ex
 | _=>exact t2.elim)
def Jy (neg:Bool):G2:=fun _ d1 _ d2 P=>match d1,d2 with
 | .int k,.dict ds=>∃ m:IM,ds=kvD m/\P .imm (.bool (if neg then !(fB m k) else fB m k))
 | _,_=>False
theorem Rp.Nm {ok:Addr->Prop}{H:Hp}{v:V}{ds:List (D×D)} (r:Rp ok H v (.dict ds)):∃ a kvs,v=.ref a/\ok a/\H a=some (.dK kvs)/\Rkv ok H kvs ds:=by
 cases r with
 | dct o h r=>exact⟨_,_,rfl,o,h,r⟩
theorem vd:∀ σ H Q,aW (t2 (Jy true) ta tb) σ H Q->yp (aW ta) (aW tb) σ H Q:=by
 rintro σ H Q ⟨p,H0,own,ρ,P,E,t,q⟩
 refine⟨p,H0,own,ρ,_,E,t,fun k1 d1 v1 H1 t1 A1 r1=>?_⟩
 refine⟨p,H0,own,ρ,_,E.go A1.kp A1.pen,t1,fun k2 d2 v2 H2 t2 A2 r2=>?_⟩
 have A:=A1.base A2
 unfold Jy at t2
 split at t2
 ·rename_i k ds
  obtain⟨m,rfl,t2⟩:=t2
  have e1:=Rp.int' r1
  subst e1
  obtain⟨c,kvs,rfl,o,hc,rk⟩:=Rp.Nm r2
  obtain⟨vs,rfl,rs⟩:=rk.kv
  refine⟨c,_,rfl,tZ.k (k:=ò k) hc,?_⟩
  rw [CN,sG k (by rw [rs.length,Â])]
  exact q _ _ _ _ t2 A (.bl _)
 ·exact t2.elim
theorem hu1 (hu:X.A.units+64<cLine):X.A.units+1<cLine:=by omega
theorem eO (hu:X.A.units+64<cLine) (ha:PD X a ta) (hb:PD X b tb) (hm:behindInMarks .NotIn b=false:=by rfl):PDT X (.Compare a [.NotIn] [b] pos) (cQ (t2 (Jy true) ta tb)):=PT.wk (Lf (Ba (hu1 hu) ha hb) hm) fun σ H Q q=>vd σ H _ (by
 obtain⟨p,H0,own,ρ,P,E,t,q⟩:=q
 refine⟨p,H0,own,ρ,_,E,t,fun k d v H' h A r=>?_⟩
 cases d with
 | bool b=>exact⟨b,Rp.bl' r,q b H' h A⟩
 | _=>exact h.elim)
def Gu:G2:=fun k1 d1 _ d2 P=>match d1,d2 with
 | .dict ds,.int k=>∃ (m:IM) (d:D),ds=kvD m/\jU m k=some d/\P (norm k1 d) d
 | _,_=>False
theorem mV (hu:X.A.units+64<cLine) (ha:PD X a ta) (hb:PD X b tb) (hs:JM b:=by exact fun _ _=>rfl):PD X (.Subscript a b pos) (t2 Gu ta tb):=PE.wk (IK (hu1 hu) ha hb hs) (by
 rintro σ H Q ⟨p,H0,own,ρ,P,E,t,q⟩
 refine⟨p,H0,own,ρ,_,E,t,fun k1 d1 v1 H1 t1 A1 r1=>?_⟩
 refine⟨p,H0,own,ρ,_,E.go A1.kp A1.pen,t1,fun k2 d2 v2 H2 t2 A2 r2=>?_⟩
 have A:=A1.base A2
 unfold Gu at t2
 split at t2
 ·rename_i ds k
  obtain⟨m,d,rfl,hg,t2⟩:=t2
  have e2:=Rp.int' r2
  subst e2
  obtain⟨c,kvs,rfl,o,hc,rk⟩:=Rp.Nm (fQ A1 A2.kp r1)
  obtain⟨vs,rfl,rs⟩:=rk.kv
  obtain⟨v,ev,rv⟩:=zA rs hg
  refine⟨c,v,rfl,?_,q _ _ _ _ t2 A (bI rv)⟩
  rw [← ev]
  exact tZ.k (k:=ò k) hc
 ·exact t2.elim)
def Hl (i:Nat) (tk tv:DE):DS:=fun P ρ=>match ρ[i]? with
 | some (.dw r (.dict ds))=>tv ρ fun _ dv=>tk ρ fun _ dk=>match dk with
  | .int k=>∃ m:IM,ds=kvD m/\dF dv=true/\Gh m=true/\m.length<1000/\P.nx ((forget r ρ).set i (.dw r (.dict (kvD (nG m k dv)))))
  | _=>False
 | _=>False
theorem vh {ok:Addr->Prop}{H:Hp}:∀ {m:IM}{vs:List V},Gh m=true->Rps ok H vs (m.map (·.2))->Rps (fun _=>False) H vs (m.map (·.2))
 | [],_,_,.nil=>.nil
 | p::m,_,h,.cons r t=>by
  unfold Gh at h
  rw [List.all_cons,à] at h
  exact .cons (r.imm h.1) (vh (m:=m) h.2 t)
theorem tD {i:Nat}{tk tv:DE} (h:PS X st (JT (lW i) (aW tk) (aW tv))):PDS X st (Hl i tk tv):=PS.wk' h (by
 rintro Q σ H ⟨p,H0,own,ρ,P,E,t,w⟩
 unfold Hl at t
 split at t
 ·rename_i r ds hr
  obtain⟨v,hv,_⟩:=E.slot i _ hr
  refine⟨p,H0,own,ρ,_,E,t,fun kv dv vv H1 t1 A1 r1=>?_⟩
  have E1:=E.go A1.kp A1.pen
  refine⟨v,hv,p,H0,own,ρ,_,E1,t1,fun kk dk vk H2 t2 A2 r2=>?_⟩
  have E2:=E1.go A2.kp A2.pen
  cases dk with
  | int k =>
   obtain⟨m,rfl,im,imm,hlen,nx⟩:=t2
   obtain⟨v',hv',x⟩:=E2.slot i _ hr
   rw [hv] at hv'
   cases hv'
   obtain⟨l,kvs,rfl,o,hl,rk⟩:=Rp.Nm x
   obtain⟨vs,rfl,rs⟩:=rk.kv
   have ek:=Rp.int' r2
   subst ek
   have h24:=ö
   have rs0:=vh imm rs
   have rv0:Rp (fun _=>False) H2 vv dv:=(fQ A1 A2.kp r1).imm im
   have ln:((m.map (·.1)).zipWith (fun i v=>((ò i:Key),v)) vs).length=m.length:=by
    rw [List.length_zipWith,Â,rs.length,Â,Nat.min_self]
   refine⟨l,_,rfl,HB.k (k:=ò k) hl (by rw [ln]; omega),?_⟩
   have rp:=Jt (k:=k) rs0 rv0
   generalize putK ((m.map (·.1)).zipWith (fun i v=>((ò i:Key),v)) vs) (ò k) vv=kvs' at rp
   have tp:∀ a xs,H2 a=some (.tup xs)->upd H2 l (.dK kvs') a=some (.tup xs):=fun a xs e=>by
    rw [aj (fun z=>by rw [z,hl] at e; cases e)]; exact e
   have E3:=(E2.write (o':=.dK kvs') o hl fun xs z=>nomatch z).put (v:=.ref l) (i:=i) (s:=.dw r (.dict (kvD (nG m k dv)))) ⟨_,hv,.dct o ao (rp.mono (fun _ o=>o.elim) (fun _ _ o=>o.elim) tp)⟩
   exact w.nx _ σ _ _ E3 ((A1.frs.trans A2.frs).trans (cU o hl fun xs z=>nomatch z)) nx
  | _=>exact t2.elim
 ·exact t.elim)
def NQ (te:DE):DT:=fun ρ P=>te ρ fun _ d=>match d with
 | .list ds=>P (!ds.isEmpty)
 | .tuple ds=>P (!ds.isEmpty)
 | .bool b=>P b
 | _=>False
theorem G5 {ok:Addr->Prop}{H:Hp}{vs:List V}{ds:List D} (r:Rps ok H vs ds):(!vs.isEmpty)=!ds.isEmpty:=by
 cases r <;> rfl
theorem mO (h:PD X e te) (he:∀ whole,isTrue e X.env whole=(do let v ← whole; standAt e.pos; holding [v] (truthy v)):=by intro _; rfl):PDT X e (NQ te):=PT.wk (Ea h he) (by
 rintro σ H Q ⟨p,H0,own,ρ,P,E,t,q⟩
 refine⟨p,H0,own,ρ,_,E,t,fun k d v H' h A r=>?_⟩
 cases d with
 | list ds =>
  obtain⟨c,vs,rfl,o,hc,rs⟩:=Rp.bM r
  exact⟨_,.inl ⟨vs,SqL.of hc,rfl⟩,by rw [G5 rs]; exact q _ _ h A⟩
 | tuple ds =>
  obtain⟨c,vs,rfl,hc,rs⟩:=Rp.cP r
  exact⟨_,.inr (.inl ⟨vs,SqT.of hc,rfl⟩),by rw [G5 rs]; exact q _ _ h A⟩
 | bool b =>
  have e:=Rp.bl' r
  subst e
  exact⟨b,rfl,q _ _ h A⟩
 | _=>exact h.elim)
end
variable [Gr]
theorem w6 (r:Nat) (ρ:List Sl):forget r (forget r ρ)=forget r ρ:=by
 unfold forget
 rw [Ē]
 refine List.map_congr_left fun s _=>?_
 show (if (if s.region=some r then Sl.any else s).region=some r then Sl.any else (if s.region=some r then Sl.any else s))=_
 by_cases h:s.region=some r
 ·rw [if_pos h]; rfl
 ·rw [if_neg h,if_neg h]
section
variable {X:Cx}{te te1 te2 tj tm:DE}{st st2:Stmt}{rest:List Stmt}{t:DS}
end
variable [Gr]
section
variable {X:Cx}{te tj:DE}{st:Stmt}{t:DS}
end
end Dl
namespace L2
open PySem PySem.Spec PyProof.Rows
end L2
namespace Dl
open PySem L2 PyProof.Rows
variable [Gr]
section
variable {X:Cx}{tg:Expr}{pos:Pos}{ta:DA}
end
section
variable {X:Cx}
theorem Cd (hc:X.calm=true):aU X (.builtin "min") (fun xs H Q=>∃ (p:Addr) (ns:List Int),xs=[.ref p]/\SqL X.K H p (ns.map V.int)/\ns≠[]/\∀ M,M∈ns->(∀ a∈ns,M<=a)->Q (.int M) H):=by
 intro pins s σ H xs us Q I r h
 obtain⟨p,ns,rfl,hp,hne,q⟩:=h
 obtain⟨u,rfl,rx⟩:=vals1 r
 cases rx
 obtain⟨its,rv,pl,hz⟩:=I.list hp
 have hi:IntsAre its ns:=intsAre_of rv
 obtain⟨zs,e⟩:=hi.allInts.items
 have hns:ns=zs.toList.map (·.1):=by rw [← hi.numsOf,← nums_intItems,← e]
 have hsz:0<zs.size:=by
  have h3:=List.length_pos_iff.mpr hne
  rw [hns,Â,è] at h3; exact h3
 have hl:=pl.isList
 rw [e] at hl
 refine min_intList (I.ok.hd hc) hl hsz fun v h' tk hv hk=>?_
 obtain⟨t,rfl⟩:=intItems_at hv
 obtain⟨h1,h2⟩:=argBest_lt (numAt zs) (zs.size - 1)
 refine⟨.int _,H,I.kept fun b o eb=>hk b o eb,⟨_,rfl⟩,q _ ?_ fun a ha=>?_⟩
 ·rw [hns,numAt_eq]; refine getD_mem ?_; rw [Â,è]; omega
 ·rw [hns] at ha
  obtain⟨j,hj,rfl⟩:=mem_getD ha
  rw [Â,è] at hj
  have h3:=h2 j (by omega)
  rw [← numAt_eq]; exact h3
theorem Ci (hc:X.calm=true):aU X (.builtin "max") (fun xs H Q=>∃ (p:Addr) (ns:List Int),xs=[.ref p]/\SqL X.K H p (ns.map V.int)/\ns≠[]/\∀ M,M∈ns->(∀ a∈ns,a<=M)->Q (.int M) H):=by
 intro pins s σ H xs us Q I r h
 obtain⟨p,ns,rfl,hp,hne,q⟩:=h
 obtain⟨u,rfl,rx⟩:=vals1 r
 cases rx
 obtain⟨its,rv,pl,hz⟩:=I.list hp
 have hi:IntsAre its ns:=intsAre_of rv
 obtain⟨zs,e⟩:=hi.allInts.items
 have hns:ns=zs.toList.map (·.1):=by rw [← hi.numsOf,← nums_intItems,← e]
 have hsz:0<zs.size:=by
  have h3:=List.length_pos_iff.mpr hne
  rw [hns,Â,è] at h3; exact h3
 have hl:=pl.isList
 rw [e] at hl
 refine max_intList (I.ok.hd hc) hl hsz fun v h' tk hv hk=>?_
 obtain⟨t,rfl⟩:=intItems_at hv
 obtain⟨h1,h2⟩:=argBest_gt (numAt zs) (zs.size - 1)
 refine⟨.int _,H,I.kept fun b o eb=>hk b o eb,⟨_,rfl⟩,q _ ?_ fun a ha=>?_⟩
 ·rw [hns,numAt_eq]; refine getD_mem ?_; rw [Â,è]; omega
 ·rw [hns] at ha
  obtain⟨j,hj,rfl⟩:=mem_getD ha
  rw [Â,è] at hj
  have h3:=h2 j (by omega)
  rw [← numAt_eq]; exact h3
end
section
variable {prog:Program}{w:World}{A:Around}{E:Value->Shared->Prop}
end
section
variable {X:Cx}{pos:Pos}
variable [Gr]
end
section
variable {X:Cx}{pos:Pos}{a:Expr}{t:DA} [Gr]
def Bv (f:Int->Int->Int) (le:Int->Int->Prop):GC:=fun ks P=>match ks with
 | [(_,.tuple [.int i,.int j])]=>P .imm (.int (f i j))
 | [(_,.list ds)]=>∃ ns:List Int,ds=ns.map Æ/\ns≠[]/\∀ M,M∈ns->(∀ a∈ns,le M a)->P .imm (.int M)
 | _=>False
theorem mR {ps:Pos} (hc:X.calm=true) (hm:X.mg "min"=none) (ha:PDA X [a] t) (hg:Gl X "min":=by rfl) (he:zS X a []:=by rfl) (hpl:zP X pos []:=by rfl):PD X (.Call (.Name "min" ps) [a] [] pos) (tCl (Bv (fun i j=>if j<i then j else i) (fun M a=>M<=a)) t) :=
 dg (aU.or (Ca hc) (Cd hc)) (by
  intro p H0 own Hb H vs ks P Q A r t q
  unfold Bv at t
  split at t
  ·rename_i k i j
   obtain⟨v,rfl,r'⟩:=cY r
   obtain⟨x,xs,e1,h1,rs1⟩:=Rp.cP r'
   obtain⟨v1,v2,e2,q1,q2⟩:=Rps.two rs1
   subst e1 e2
   rw [q1.int',q2.int'] at h1
   exact .inl ⟨x,i,j,rfl,SqT.of h1,q _ _ _ _ t Kp.refl A.pen (.int _)⟩
  ·obtain⟨ns,rfl,hne,t⟩:=t
   obtain⟨v,rfl,r'⟩:=cY r
   obtain⟨x,xs,e1,o1,h1,rs1⟩:=Rp.bM r'
   subst e1
   have e2:=Rps.ints rs1
   subst e2
   exact .inr ⟨x,ns,rfl,SqL.of h1,hne,fun M h1 h2=>q _ _ _ _ (t M h1 h2) Kp.refl A.pen (.int _)⟩
  ·exact t.elim) hg hm boot_min ha (by decide) (by decide) he hpl
theorem mU {ps:Pos} (hc:X.calm=true) (hm:X.mg "max"=none) (ha:PDA X [a] t) (hg:Gl X "max":=by rfl) (he:zS X a []:=by rfl) (hpl:zP X pos []:=by rfl):PD X (.Call (.Name "max" ps) [a] [] pos) (tCl (Bv (fun i j=>if j > i then j else i) (fun M a=>a<=M)) t) :=
 dg (aU.or (Cg hc) (Ci hc)) (by
  intro p H0 own Hb H vs ks P Q A r t q
  unfold Bv at t
  split at t
  ·rename_i k i j
   obtain⟨v,rfl,r'⟩:=cY r
   obtain⟨x,xs,e1,h1,rs1⟩:=Rp.cP r'
   obtain⟨v1,v2,e2,q1,q2⟩:=Rps.two rs1
   subst e1 e2
   rw [q1.int',q2.int'] at h1
   exact .inl ⟨x,i,j,rfl,SqT.of h1,q _ _ _ _ t Kp.refl A.pen (.int _)⟩
  ·obtain⟨ns,rfl,hne,t⟩:=t
   obtain⟨v,rfl,r'⟩:=cY r
   obtain⟨x,xs,e1,o1,h1,rs1⟩:=Rp.bM r'
   subst e1
   have e2:=Rps.ints rs1
   subst e2
   exact .inr ⟨x,ns,rfl,SqL.of h1,hne,fun M h1 h2=>q _ _ _ _ (t M h1 h2) Kp.refl A.pen (.int _)⟩
  ·exact t.elim) hg hm boot_max ha (by decide) (by decide) he hpl
def zJ:G2:=fun _ d1 _ d2 P=>match d2 with
 | .none=>P .imm (.bool (!Ji d1))
 | _=>False
theorem Mr:Ok2 zJ (fun x y H Q=>y=.non/\Q (.bl (!decide (x=.non))) H):=by
 intro p H0 own Hb H x y k1 d1 k2 d2 P Q A r1 r2 t q
 unfold zJ at t
 split at t
 ·cases r2
  rw [yL r1]
  exact⟨rfl,q _ _ _ _ t Kp.refl A.pen (.bl _)⟩
 ·exact t.elim
variable {b:Expr}{ta tb:DE}
theorem iR (ha:PD X a ta) (hb:PD X b tb):PDT X (.Compare a [.IsNot] [b] pos) (cQ (t2 zJ ta tb)):=dG Jb Mr ha hb (bW _)
end
section
variable {X:Cx}
end
section
variable {X:Cx}{pos:Pos}{a e:Expr}{te ta:DE}{t:DA}{st st2:Stmt}{rest:List Stmt} [Gr]
theorem EnvD.Ph {p:Pn}{H0 H:Hp}{own:Addr->Option Nat}{σ:L2.St}{ρ:List Sl}{i r:Nat}{ds:List D} (E:EnvD p H0 own σ H ρ) (hr:ρ[i]?=some (.dw r (.tuple ds))):∃ a vs,σ[i]?=some (some (.ref a))/\H a=some (.tup vs)/\∀ (j:Nat) es,ds[j]?=some (.list es)->∃ b ws,vs[j]?=some (.ref b)/\own b=some r/\H b=some (.lst ws)/\ws.length=es.length:=by
 obtain⟨v,hv,x⟩:=E.slot i _ hr
 obtain⟨a,vs,rfl,ha,rs⟩:=Rp.cP x
 refine⟨a,vs,hv,ha,fun j es h=>?_⟩
 obtain⟨y,hy,ry⟩:=rs.getD h
 obtain⟨b,ws,rfl,ob,hb,rws⟩:=Rp.bM ry
 exact⟨b,ws,hy,ob,hb,rws.length⟩
end
section
variable {X:Cx}{tg iter c:Expr}{pos pos1:Pos}{ret:Stmt}{ti:DI}{g:DG}{tc:DT} [Gr]
end
end Dl
namespace L2
open PySem PySem.Spec PyProof.Rows
theorem Bm {P:Program}{w:World}{K:Ý}{mg mb:Str->Option Value}{CX:CXT}{k:Nat}{fa a:Addr}{fd:FuncData}{x:Str}{sp:Sp}{s₁:Shared}{vs:List Value}{ns:List Int}
  (KX:K.In s₁.heap) (hns:s₁.heap.Ns mainGlobals mg) (hb:s₁.heap.Ns builtinsNs mb) (hbb:∀ x:Str,x≠"__name__"->mb x=bootBuiltins x) (hlim:s₁.heap.NoLimit) (hg:s₁.gens=#[])
  (ha:s₁.heap.get? a=some { cls:=.type "list",data:=.seq vs.toArray }) (hi:IntsAre vs ns) (hl:ns.length<=sizeLine) (hr:Room k callerA)
  (F:∀ base:Heap,K.In base->base.Ns mainGlobals mg->(∀ b m,s₁.heap.Ns b m->base.Ns b m)->FnOk P w K mg base CX k fa fd [x] sp) (hbind:∀ (s:Shared) (u:Value),BindsTo s fd ⟨[u],[]⟩ [(x,u)])
  (hsp:∀ H:Hp,Only H->SqL K H a (ns.map V.int)->sp [.ref a] H (fun v _=>v=.bl true) fun _ _ _=>False)
  (hCX:∀ H e s',CX [] H s₁ (fun _ _ _=>False) e s'->False) :
  codeAny (model P w) callerA (.call (.ref fa) ⟨[.ref a],[]⟩) (fun r s'=>r=.ok (.ret (.bool true))/\OldK s₁.heap s'.heap/\s'.os=s₁.os/\AllBare s'.gens) s₁:=by
 have rv:=kh hi
 have lenV:=hi.length
 -- from an abstract heap in which nothing but the script may be tracked
 have core:∀ H:Hp,Only H->SqL K H a (ns.map V.int)->HOk P w H s₁.heap->(∀ b,H b≠none->b=a)->(H a≠none->K.lookup a=none) ->
   codeAny (model P w) callerA (.call (.ref fa) ⟨[.ref a],[]⟩) (fun r s'=>r=.ok (.ret (.bool true))/\OldK s₁.heap s'.heap/\s'.os=s₁.os/\AllBare s'.gens) s₁:=by
  intro H hO hS hok hA hK
  have base_of:∀ {b:Addr}{o:Obj},s₁.heap.get? b=some o->H b=none->(sS s₁.heap H).get? b=some o:=fun e n=>Gj e n
  have noA:∀ {b:Addr}{o:Obj}{es:Array DictEntry}{ep:Nat},s₁.heap.get? b=some o->o.data=.dict es ep->H b=none:=fun {b o es ep} e d=>by
   cases q:H b with
   | none=>rfl
   | some u =>
    have e':b=a:=hA b (by rw [q]; simp)
    subst e'
    rw [ha] at e; cases e
    have d':Data.seq vs.toArray _=Data.dict es ep:=d
    cases d'
  have nsK:∀ {b:Addr}{m:Str->Option Value},s₁.heap.Ns b m->(sS s₁.heap H).Ns b m:=fun {b m} ⟨o,es,ep,e,d,r⟩=>⟨o,es,ep,base_of e (noA e d),d,r⟩
  have hKb:K.In (sS s₁.heap H):=fun b o e=>base_of (KX b o e) (by
   cases q:H b with
   | none=>rfl
   | some u =>
    have e':b=a:=hA b (by rw [q]; simp)
    subst e'
    rw [hK (by rw [q]; simp)] at e; cases e)
  have hM:Mod K mg (sS s₁.heap H):=⟨hKb,nsK hns,⟨mb,nsK hb,hbb⟩,let ⟨mc,h1,h2⟩:=hlim; ⟨mc,nsK h1,h2⟩⟩
  have e0:Env0 P w K mg (sS s₁.heap H) callerA [] s₁ H:=⟨rfl,hM,fun b o e=>Jh e,Nat.le_of_eq (Bu _ _),trivial,fun b hb=>absurd (show b∈([]:List Addr) from hb) (by simp),hok,.of_eq hg⟩
  refine codeAny_mono ((F _ hKb (nsK hns) fun _ _ h=>nsK h).run callerA [] s₁ H ⟨[.ref a],[]⟩ [.ref a] [.ref a] _ _ hr e0 (hbind s₁ (.ref a)) (.cons rfl .nil) (hsp H hO hS)) fun r s' h=>?_
  cases r with
  | error e=>exact (hCX H e s' h).elim
  | ok fl =>
   cases fl with
   | next=>exact ş h
   | brk=>exact ş h
   | cont=>exact ş h
   | ret u =>
    obtain⟨v,H',os,bare,un,hok',r',q⟩:=h
    have q':v=.bl true:=q
    subst q'
    obtain rfl:u=Value.bool true:=r'
    refine⟨rfl,OldK.of_keep fun b o e=>?_,os,bare⟩
    cases q:H b with
    | none=>exact un.keep b o e q (by intro z; exact absurd (show b∈([]:List Addr) from z) (by simp)) (by simp)
    | some u =>
     rcases hO b with z | ⟨ob,xs,z⟩
     ·rw [q] at z; cases z
     ·have z2:=un.frzs b ob _ z
      obtain⟨e1,_⟩:=hok b _ z
      obtain⟨e2,_⟩:=hok' b _ z2
      rw [e] at e1; cases e1
      exact e2
 cases hk:K.lookup a with
 | some o =>
  -- the script is one of the module's own objects
  have e:=KX a o hk
  rw [ha] at e
  cases e
  refine core (fun _=>none) (fun _=>.inl rfl) (.inr ⟨_,vs.toArray,_,hk,rfl,rfl,rfl,by rw [Î,lenV]; exact hl,by simpa using rv⟩) (fun b u z=>by have z':(none:Option HO)=some u:=z; cases z') (fun b z=>absurd rfl z) fun z=>absurd rfl z
 | none =>
  refine core (fun b=>if b=a then some (.frz { cls:=.type "list",data:=.seq vs.toArray } (.lst (ns.map V.int))) else none) (fun b=>?_) (.inl (.inr ⟨{ cls:=.type "list",data:=.seq vs.toArray },if_pos rfl⟩)) (fun b u z=>?_) (fun b z=>?_) fun _=>hk
  ·by_cases hb:b=a
   ·exact .inr ⟨_,_,if_pos hb⟩
   ·exact .inl (if_neg hb)
  ·by_cases hb:b=a
   ·have z':=(if_pos hb).symm.trans z
    cases z'
    subst hb
    exact⟨ha,by rw [Â]; exact hl,vs,_,rv,ha⟩
   ·have z':=(if_neg hb).symm.trans z
    cases z'
  ·by_cases hb:b=a
   ·exact hb
   ·exact absurd (if_neg hb) z
theorem CJ {l:W.OpenLaw}{n k:Nat}{q:Program}{loose:List Str}{XP:(Str->Option Value)->Heap->Prop}{YP:World->Heap->Prop}{d:DefRec}{K:Params->Ý}{CX:World->CXT}{sp:World->Sp}{x:Str}
  (hi:importsNone q=true) (hn:l.most=some n) (hn2:n<=sizeLine) (hdf:d.params.defaults=[]) (hr:Room k callerA)
  (hY:∀ (w:World) (h:Heap),YP w h->(K w.params).In h)
  (F:∀ (w:World) (mg:Str->Option Value) (fa:Addr) (h:Heap),(K w.params).In h->h.Ns mainGlobals mg->mg d.name=some (.ref fa) ->
   ∃ fd:FuncData,(∀ (s:Shared) (u:Value),BindsTo s fd ⟨[u],[]⟩ [(x,u)]) /\
    ∀ base:Heap,(K w.params).In base->base.Ns mainGlobals mg->(∃ o,base.get? sysModules=some o)->FnOk l.prog w (K w.params) mg base (CX w) k fa fd [x] (sp w))
  (hsp:∀ (w:World) (H:Hp) (a:Addr) (ns:List Int),ns.length<=n->Only H->SqL (K w.params) H a (ns.map V.int)->sp w [.ref a] H (fun v _=>v=.bl true) fun _ _ _=>False)
  (hCX:∀ (w:World) (H:Hp) (s:Shared) (e:Value) (s':Shared),CX w [] H s (fun _ _ _=>False) e s'->False) :
  W.WalkO q loose XP YP l.row.toRowW d [] (fun f vs=>PySem.call f vs):=by
 refine Att.vM hn hdf fun w s₀ s₁ mg mb fa o pm cd doc a vs ns G Y ho hd hcd hmg hobj hints hlen hg=>?_
 have KX:=hY w _ Y
 obtain⟨fd,hb,hF⟩:=F w mg fa _ KX G.T.g hmg
 obtain⟨mm,hm,_⟩:=(G.T.seer hi).mods
 exact Bm KX G.T.g G.T.b G.T.builtins G.T.nolimit hg hobj hints (Ĕ hlen hn2) hr (fun base h1 h2 h3=>hF base h1 h2 (let ⟨o,_,_,e,_⟩:=h3 _ _ hm; ⟨o,e⟩)) hb (fun H hO hS=>hsp w H a ns hlen hO hS) fun H e s'=>hCX w H s₁ e s'
end L2
set_option autoImplicit true
set_option relaxedAutoImplicit true
namespace Wr
open PySem L2 PyProof.Rows Dl
structure WD [Gr] (X:Cx) (e:Expr) (t:DE):Prop where
 h:PD X e t
structure WDT [Gr] (X:Cx) (e:Expr) (t:DT):Prop where
 h:PDT X e t
structure WDW [Gr] (X:Cx) (e:Expr) (t:DT):Prop where
 h:PDW X e t
structure WDA [Gr] (X:Cx) (e:List Expr) (t:DA):Prop where
 h:PDA X e t
structure WDS [Gr] (X:Cx) (e:Stmt) (t:DS):Prop where
 h:PDS X e t
structure WDSs [Gr] (X:Cx) (e:List Stmt) (t:DS):Prop where
 h:je X e t
structure WDI [Gr] (X:Cx) (tg e:Expr) (t:DI):Prop where
 h:PDI X tg e t
structure WDG [Gr] (X:Cx) (e:Expr) (t:DG):Prop where
 h:PDG X e t
structure WDGs [Gr] (X:Cx) (e:List Expr) (t:DGs):Prop where
 h:PGs X e (oK t)
structure WDTs [Gr] (X:Cx) (e:List Expr) (t:DT):Prop where
 h:Hy X e t
structure WDO [Gr] (X:Cx) (e:Option Expr) (t:DO):Prop where
 h:PO X e (oJ t)
structure WV (X:Cx) (e:Expr) (i:Nat):Prop where
 h:PE X e (lW i)
structure WC (X:Cx) (e:Expr) (v:V):Prop where
 h:PE X e (tC v)
section
variable [Gr]
theorem wv (i:Nat) {x:Str}{pos:Pos} (hN:X.N[i]?=some x:=by rfl) (hv:Vis X.env.scope x:=by first | exact Or.inl rfl | exact Or.inr (Or.inl rfl) | exact Or.inr (Or.inr rfl)) (hd:zB x:=by decide)
  (hcd:(x == ("__classdict__":Str))=false:=by decide):WV X (.Name x pos) i:=⟨pv i hN hv hd hcd⟩
theorem wpt {t:DT} (h:WDW X e t):WDT X e t:=⟨PDW.pt h.h⟩
theorem kW {op op':CmpOp}{f f':Int->Int->Bool} (ho:OpR X (compareOp op) (rI0 fun i j=>.bl (f i j))) (ho':OpR X (compareOp op') (rI0 fun i j=>.bl (f' i j))) (ha:WD X a ta) (hb:WD X b tb) (hc:WD X c tc) (hm:lastMarks [op,op'] [b,c]=false:=by with_unfolding_all rfl):WDT X (.Compare a [op,op'] [b,c] pos) (cQ (tCh f f' ta tb tc)):=⟨Dl.kW (Eb ho ho' ha.h hb.h hc.h hm) zm⟩
theorem wty {x:Str}{T:String} (hg:Gl X x) (hm:X.mg x=none) (hv:bootBuiltins x=some (.type T)) (hn:x≠"__name__":=by decide) (hd:zB x:=by decide):WC X (.Name x ps) (.ty T):=⟨rB hg hm hv rfl hn hd⟩
theorem tu {i:Nat}{x:Str}{e:Expr}{te:DE}{pos' pos:Pos} (rg:Option Nat) (hN:X.N.Nodup) (hi:X.N[i]?=some x) (hx:Loc X.env.scope x) (he:WD X e te) (hs:swapsWith e (some (.Name x pos')) pos.line X.env=pure false:=by rfl) (hf:zL X x:=by first | exact .inl rfl | exact .inr rfl | assumption) :
  WDS X (.Assign [.Name x pos'] e pos) (xM i rg te):=⟨Dl.tu rg (fU hN hi hx he.h hs hf)⟩
theorem vB (rg:Option Nat) (own:List Str) {i:Nat}{y:Str}{py spos:Pos} (hc:X.calm=true) (hN:X.N.Nodup) (hiN:X.N[i]?=some y) (hx:Loc X.env.scope y) (hi:WDI X tg iter ti) (hg:∀ c,WDG (X.comp own scope c) tg g) (ht:∀ c,WDTs (X.comp own scope c) ifs tt) (he:∀ c,WD (X.comp own scope c) elt te)
  (hsw:swapsWith (.ListComp elt [⟨tg,iter,ifs,0⟩] scope pos) (some (.Name y py)) spos.line X.env=pure true:=by rfl)
  (hk:dD X.env scope X.N=true:=by rfl) (hs:zF X iter:=by intro _; rfl) (hf:zL X y:=by first | exact .inl rfl | exact .inr rfl | assumption) :
  WDS X (.Assign [.Name y py] (.ListComp elt [⟨tg,iter,ifs,0⟩] scope pos) spos) (xM i rg (dLC own.length ti g tt te)):=⟨Dl.tu rg (Lh own hc hN hiN hx hi.h (fun c=>(hg c).h) (fun c=>(ht c).h) (fun c=>(he c).h) hsw hk hs hf)⟩
theorem jX (r:Nat) (own:List Str) {i j:Nat}{y z:Str}{py spos zp lp:Pos} (hc:X.calm=true) (hN:X.N.Nodup) (hiN:X.N[i]?=some y) (hx:Loc X.env.scope y) (hi:WDI X (.Name z zp) iter ti) (hg:∀ c,WDG (X.comp own scope c) (.Name z zp) (gNm j))
  (hsw:swapsWith (.ListComp (.List [] lp) [⟨.Name z zp,iter,[],0⟩] scope pos) (some (.Name y py)) spos.line X.env=pure true:=by rfl)
  (hk:dD X.env scope X.N=true:=by rfl) (hs:zF X iter:=by intro _; rfl) (hf:zL X y:=by first | exact .inl rfl | exact .inr rfl | assumption) :
  WDS X (.Assign [.Name y py] (.ListComp (.List [] lp) [⟨.Name z zp,iter,[],0⟩] scope pos) spos) (Hi i r ti):=⟨Dl.jX r (JZ own hc hN hiN hx hi.h (fun c=>(hg c).h) (fun c=>mY) (fun c=>wC bB) hsw hk hs hf)⟩
theorem xJ {tg e:Expr}{te:DE}{g:DG} (he:WD X e te) (hg:WDG X tg g) (hs:swapsWithSole [tg] e pos.line X.env=pure false:=by rfl) (hw:swappedStores [tg] e X.env=pure none:=by rfl)
  (h1:(assignEach [tg] X.env).map (·.2)=[assign tg X.env]:=by rfl):WDS X (.Assign [tg] e pos) (Qd te g):=⟨Dl.xJ (rm he.h hg.h hs hw h1)⟩
theorem cG {i:Nat}{x:Str}{e:Expr}{es:List Expr}{apos cpos np pos:Pos} (hv:WV X (.Name x np) i) (ha:WDA X (e::es) (cC te j7))
  (hbase:attributeBase (.Name x np) "append" X.env (eval (.Name x np) X.env)=eval (.Name x np) X.env:=by rfl)
  (hfew:zW X cpos (e::es):=by rfl)
  (hline:(apos.endLine == cpos.line)=true:=by rfl) (hst:zS X e es:=by rfl) (hplain:zP X cpos es:=by rfl)
  (hs:swapsWith (.Call (.Attribute (.Name x np) "append" apos) (e::es) [] cpos) none pos.line X.env=pure false:=by rfl) :
  WDS X (.Expr (.Call (.Attribute (.Name x np) "append" apos) (e::es) [] cpos) pos) (Nq i te):=⟨Dl.cG (jw (yU š PySem.F.slot_list_append PySem.F.type_list_append lA hv.h ha.h hbase hfew hline hst hplain) hs)⟩
theorem d9 {i:Nat}{x:Str}{e ej:Expr}{es:List Expr}{apos cpos np sp pos:Pos} (hv:WV X (.Name x np) i) (hj:WD X ej tj) (ha:WDA X (e::es) (cC te j7)) (hpx:ni ej:=by exact fun _ _=>rfl)
  (hbase:attributeBase (.Subscript (.Name x np) ej sp) "append" X.env (eval (.Subscript (.Name x np) ej sp) X.env)=eval (.Subscript (.Name x np) ej sp) X.env:=by rfl)
  (hfew:zW X cpos (e::es):=by rfl)
  (hline:(apos.endLine == cpos.line)=true:=by rfl) (hst:zS X e es:=by rfl) (hplain:zP X cpos es:=by rfl)
  (hs:swapsWith (.Call (.Attribute (.Subscript (.Name x np) ej sp) "append" apos) (e::es) [] cpos) none pos.line X.env=pure false:=by rfl) :
  WDS X (.Expr (.Call (.Attribute (.Subscript (.Name x np) ej sp) "append" apos) (e::es) [] cpos) pos) (tM i tj te):=⟨Dl.d9 (jw (yU š PySem.F.slot_list_append PySem.F.type_list_append lA (uR sJ hv.h hj.h hpx) ha.h hbase hfew hline hst hplain) hs)⟩
theorem tD {i:Nat}{x:Str}{ek e:Expr}{np pos' pos:Pos} (hu:X.A.units+64<cLine) (hv:WV X (.Name x np) i) (hk:WD X ek tk) (he:WD X e tv) (hs:swapsWith e (some (.Subscript (.Name x np) ek pos')) pos.line X.env=pure false:=by rfl) :
  WDS X (.Assign [.Subscript (.Name x np) ek pos'] e pos) (Hl i tk tv):=⟨Dl.tD (Il (hu1 hu) hv.h hk.h he.h hs)⟩
theorem jC {x:Str}{i:Int}{u:Value}{ps:Pos} (hg:Gl X x) (hm:X.mg x=some u) (r:RelV (.int i) u) (hd:zB x:=by decide):WD X (.Name x ps) (tK (.int i)):=⟨Dl.jC hg hm r hd⟩
theorem tH {i:Nat}{x:Str} (hN:X.N.Nodup) (hi:X.N[i]?=some x) (hx:Loc X.env.scope x) (hf:zL X x:=by first | exact .inl rfl | exact .inr rfl | assumption):WDG X (.Name x pos) (gNm i):=⟨Dl.tH (jy hN hi hx hf)⟩
theorem kY {i:Int}{j:Nat}:WD X (.Constant (.int i) j pos) (tK (.int i)):=⟨Dl.kY ⟩
theorem Et {i:Bool}{j:Nat}:WD X (.Constant (.bool i) j pos) (tK (.bool i)):=⟨Dl.Et ⟩
theorem iW {j:Nat}:WD X (.Constant .none j pos) (tK .none):=⟨Dl.iW ⟩
theorem rD {e:Expr}{t:DE} (h:WD X e t) (he:∀ whole,isTrue e X.env whole=(do let v ← whole; standAt e.pos; holding [v] (truthy v)):=by intro _; rfl):WDT X e (cQ t):=⟨Dl.rD (h:=h.h) (he:=he)⟩
theorem rE {t:DT} (ha:WDT X a t):WDT X (.UnaryOp .Not a pos) (Qa t):=⟨Dl.rE (ha:=ha.h)⟩
theorem cZ (ha:WDT X a t):WDW X (.BoolOp .And [a] pos) t:=⟨Dl.cZ (ha:=ha.h)⟩
theorem rC (ha:WDT X a t):WDW X (.BoolOp .Or [a] pos) t:=⟨Dl.rC (ha:=ha.h)⟩
theorem eN {rest:List Expr} (ha:WDT X a t) (hb:WDW X (.BoolOp .And (b::rest) pos) u):WDW X (.BoolOp .And (a::b::rest) pos) (Nr t u):=⟨Dl.eN (ha:=ha.h) (hb:=hb.h)⟩
theorem wG {rest:List Expr} (ha:WDT X a t) (hb:WDW X (.BoolOp .Or (b::rest) pos) u):WDW X (.BoolOp .Or (a::b::rest) pos) (dOr t u):=⟨Dl.wG (ha:=ha.h) (hb:=hb.h)⟩
theorem jz :WDA X [] j7:=⟨Dl.jz ⟩
theorem dO (ha:WD X e te) (hr:WDA X es t) (hs:zS X e es:=by rfl):WDA X (e::es) (cC te t):=⟨Dl.dO (ha:=ha.h) (hr:=hr.h) (hs:=hs)⟩
theorem rM (h:WDA X es t):WD X (.List es pos) (CZ t):=⟨Dl.rM (h:=h.h)⟩
theorem nO {x1} (h:WDA X es t):WD X (.Tuple es x1 pos) (nq t):=⟨Dl.nO (h:=h.h)⟩
theorem dJ (ha:WD X a ta) (hb:WD X b tb):WD X (.BinOp a .Sub b pos) (t2 (gI0 fun i j=>.int (i - j)) ta tb):=⟨Dl.dJ (ha:=ha.h) (hb:=hb.h)⟩
theorem wK (ha:WD X a ta) (hb:WD X b tb):WD X (.BinOp a .Mod b pos) (t2 (gI (fun _ j=>0<j) fun i j=>.int (i % j)) ta tb):=⟨Dl.wK (ha:=ha.h) (hb:=hb.h)⟩
theorem yW (ha:WD X a ta) (hb:WD X b tb):WD X (.Compare a [.Gt] [b] pos) (t2 (gI0 fun i j=>.bool (decide (j<i))) ta tb):=⟨Dl.yW (ha:=ha.h) (hb:=hb.h)⟩
theorem nM (ha:WD X a ta) (hb:WD X b tb):WDT X (.Compare a [.Lt] [b] pos) (cQ (t2 (gI0 fun i j=>.bool (decide (i<j))) ta tb)):=⟨Dl.nM (ha:=ha.h) (hb:=hb.h)⟩
theorem wH (ha:WD X a ta) (hb:WD X b tb):WDT X (.Compare a [.Gt] [b] pos) (cQ (t2 (gI0 fun i j=>.bool (decide (j<i))) ta tb)):=⟨Dl.wH (ha:=ha.h) (hb:=hb.h)⟩
theorem wI (ha:WD X a ta) (hb:WD X b tb):WDT X (.Compare a [.GtE] [b] pos) (cQ (t2 (gI0 fun i j=>.bool (decide (j<=i))) ta tb)):=⟨Dl.wI (ha:=ha.h) (hb:=hb.h)⟩
theorem wM {ps:Pos} (hm:X.mg "len"=none) (ha:WDA X [a] t) (hg:Gl X "len":=by rfl) (he:zS X a []:=by rfl) (hpl:zP X pos []:=by rfl):WD X (.Call (.Name "len" ps) [a] [] pos) (tCl Jw t):=⟨Dl.wM (hm:=hm) (ha:=ha.h) (hg:=hg) (he:=he) (hpl:=hpl)⟩
theorem gU {ps:Pos} (hm:X.mg "int"=none) (hv:bootBuiltins "int"=some (.type "int")) (ha:WDA X [a] t) (hg:Gl X "int":=by rfl) (he:zS X a []:=by rfl) (hpl:zP X pos []:=by rfl):WD X (.Call (.Name "int" ps) [a] [] pos) (tCl M7 t):=⟨Dl.gU (hm:=hm) (hv:=hv) (ha:=ha.h) (hg:=hg) (he:=he) (hpl:=hpl)⟩
theorem xG :WDSs X [] Ho:=⟨Dl.xG ⟩
theorem tE {st:Stmt}{rest:List Stmt} (h1:WDS X st t) (h2:WDSs X rest u):WDSs X (st::rest) (mD t u):=⟨Dl.tE (h1:=h1.h) (h2:=h2.h)⟩
theorem lH {st:Stmt} (h1:WDS X st t):WDSs X [st] t:=⟨Dl.lH (h1:=h1.h)⟩
theorem jY {st:Stmt}:WDS X st (fun _ _=>False):=⟨Dl.jY ⟩
theorem lG (he:WD X e te):WDS X (.Return (some e) pos) (Hj te):=⟨Dl.lG (he:=he.h)⟩
theorem G6 {c:Expr}{a b:List Stmt}{tc:DT} (hc:WDT X c tc) (ha:WDSs X a t) (hb:WDSs X b u):WDS X (.If c a b pos) (dIf tc t u):=⟨Dl.G6 (hc:=hc.h) (ha:=ha.h) (hb:=hb.h)⟩
theorem bU (he:WD X e te) (hs:swapsWith e none pos.line X.env=pure false:=by rfl):WDS X (.Expr e pos) (Kr te):=⟨Dl.bU (he:=he.h) (hs:=hs)⟩
theorem cA :WDGs X [] zH:=⟨Dl.cA ⟩
theorem o8 {g:DG}{gs:DGs} (h1:WDG X e g) (h2:WDGs X es gs) (hs:(assignEach (e::es) X.env).map (·.2)=assign e X.env::(assignEach es X.env).map (·.2):=by rfl):WDGs X (e::es) (lE g gs):=⟨Dl.o8 (h1:=h1.h) (h2:=h2.h) (hs:=hs)⟩
theorem dB {gs:DGs}{k n:Nat} (hc:X.calm=true) (h:WDGs X es gs) (hn:(assignEach es X.env).length=n:=by rfl) (hst:(assignEach es X.env).findIdx? (·.1)=none:=by rfl):WDG X (.Tuple es k pos) (gTp n gs):=⟨Dl.dB (hc:=hc) (h:=h.h) (hn:=hn) (hst:=hst)⟩
theorem xK (hl:WD X l tl):WDI X tg l (iSq tl):=⟨Dl.xK (hl:=hl.h)⟩
theorem bQ {a:Expr}{ps:Pos} (hm:X.mg "range"=none) (ha:WDA X [a] ta) (hg:Gl X "range":=by rfl) (hs:starEach [a] X.env=[(false,eval a X.env)]:=by rfl):WDI X tg (.Call (.Name "range" ps) [a] [] pos) (iR1 ta):=⟨Dl.bQ (hm:=hm) (ha:=ha.h) (hg:=hg) (hs:=hs)⟩
theorem cH {a b:Expr}{ps:Pos} (hm:X.mg "range"=none) (ha:WDA X [a,b] ta) (hg:Gl X "range":=by rfl) (hs:starEach [a,b] X.env=[(false,eval a X.env),(false,eval b X.env)]:=by rfl) (hs2:starEach [b] X.env=[(false,eval b X.env)]:=by rfl):WDI X tg (.Call (.Name "range" ps) [a,b] [] pos) (iR2 ta):=⟨Dl.cH (hm:=hm) (ha:=ha.h) (hg:=hg) (hs:=hs) (hs2:=hs2)⟩
theorem mZ {elts:List Expr}{kk:Nat}{tpos:Pos}{a:Expr}{ps:Pos} (hm:X.mg "enumerate"=none) (ha:WDA X [a] ta) (hg:Gl X "enumerate":=by rfl) (hs:starEach [a] X.env=[(false,eval a X.env)]:=by rfl):WDI X (.Tuple elts kk tpos) (.Call (.Name "enumerate" ps) [a] [] pos) (iEn ta):=⟨Dl.mZ (hm:=hm) (ha:=ha.h) (hg:=hg) (hs:=hs)⟩
theorem dz {body:List Stmt} (hp:PassesOwn (model X.prog X.w) X.A X.env X.xe) (hc:X.calm=true) (hi:WDI X tg iter ti) (hg:WDG X tg g) (hb:WDSs X body tb) (hs:zF X iter:=by intro _; rfl):WDS X (.For tg iter body [] pos) (Qc ti g tb):=⟨Dl.dz (hp:=hp) (hc:=hc) (hi:=hi.h) (hg:=hg.h) (hb:=hb.h) (hs:=hs)⟩
theorem d8 {body:List Stmt}{c:Expr}{tc:DT} (hp:PassesOwn (model X.prog X.w) X.A X.env X.xe) (hc:WDT X c tc) (hb:WDSs X body tb):WDS X (.While c body [] pos) (Hg tc tb):=⟨Dl.d8 (hp:=hp) (hc:=hc.h) (hb:=hb.h)⟩
theorem mY {X:Cx}:WDTs X [] (fun _ P=>P true):=⟨Dl.mY ⟩
theorem iu {X:Cx}{c:Expr}{t:DT} (hc:WDT X c t):WDTs X [c] t:=⟨Dl.iu (hc:=hc.h)⟩
theorem Ep (own:List Str) (hc:X.calm=true) (hi:WDI X tg iter ti) (hg:∀ c,WDG (X.comp own scope c) tg g) (ht:∀ c,WDTs (X.comp own scope c) ifs tt) (he:∀ c,WD (X.comp own scope c) elt te) (hk:dD X.env scope X.N=true:=by rfl) (hs:zF X iter:=by intro _; rfl):WD X (.ListComp elt [⟨tg,iter,ifs,0⟩] scope pos) (dLC own.length ti g tt te):=⟨Dl.Ep (own:=own) (hc:=hc) (hi:=hi.h) (hg:=fun c=>(hg c).h) (ht:=fun c=>(ht c).h) (he:=fun c=>(he c).h) (hk:=hk) (hs:=hs)⟩
theorem iV {op} (h:WD X a ta):WD X (.BoolOp op [a] pos) ta:=⟨Dl.iV (h:=h.h)⟩
theorem eX {rest:List Expr} (ha:WD X a ta) (hb:WD X (.BoolOp .And (b::rest) pos) tb):WD X (.BoolOp .And (a::b::rest) pos) (yq ta tb):=⟨Dl.eX (ha:=ha.h) (hb:=hb.h)⟩
theorem jB {u:DT} (hc:WDT X c u) (ha:WD X a ta) (hb:WD X b tb):WD X (.IfExp c a b pos) (Oe u ta tb):=⟨Dl.jB (hc:=hc.h) (ha:=ha.h) (hb:=hb.h)⟩
theorem iZ {ps:Pos} (hc:X.calm=true) (hm:X.mg "all"=none) (hv:bootBuiltins "all"=some (.builtin "all")) (ha:WDA X [a] t) (hg:Gl X "all":=by rfl) (he:zS X a []:=by rfl) (hpl:zP X pos []:=by rfl):WD X (.Call (.Name "all" ps) [a] [] pos) (tCl M9 t):=⟨Dl.iZ (hc:=hc) (hm:=hm) (hv:=hv) (ha:=ha.h) (hg:=hg) (he:=he) (hpl:=hpl)⟩
theorem rJ {ps:Pos} (hc:X.calm=true) (hm:X.mg "min"=none) (ha:WDA X [a,b] t) (hg:Gl X "min":=by rfl) (he:starEach [a,b] X.env=(false,eval a X.env)::starEach [b] X.env:=by rfl) (hpl:(backTo pos (starEach [b] X.env)).any (·.1)=false:=by rfl):WD X (.Call (.Name "min" ps) [a,b] [] pos) (tCl (gMM fun i j=>if j<i then j else i) t):=⟨Dl.rJ (hc:=hc) (hm:=hm) (ha:=ha.h) (hg:=hg) (he:=he) (hpl:=hpl)⟩
theorem rK {ps:Pos} (hm:X.mg "list"=none) (ha:WDA X [a] t) (hg:Gl X "list":=by rfl) (he:zS X a []:=by rfl) (hpl:zP X pos []:=by rfl):WD X (.Call (.Name "list" ps) [a] [] pos) (tCl Gs t):=⟨Dl.rK (hm:=hm) (ha:=ha.h) (hg:=hg) (he:=he) (hpl:=hpl)⟩
theorem mQ {ps:Pos} (hm:X.mg "tuple"=none) (ha:WDA X [a] t) (hg:Gl X "tuple":=by rfl) (he:zS X a []:=by rfl) (hpl:zP X pos []:=by rfl):WD X (.Call (.Name "tuple" ps) [a] [] pos) (tCl Gn t):=⟨Dl.mQ (hm:=hm) (ha:=ha.h) (hg:=hg) (he:=he) (hpl:=hpl)⟩
theorem jA {ps:Pos} (hm:X.mg "sorted"=none) (ha:WDA X [a] t) (hg:Gl X "sorted":=by rfl) (he:zS X a []:=by rfl) (hpl:zP X pos []:=by rfl):WD X (.Call (.Name "sorted" ps) [a] [] pos) (tCl w5 t):=⟨Dl.jA (hm:=hm) (ha:=ha.h) (hg:=hg) (he:=he) (hpl:=hpl)⟩
theorem Es (hu:X.A.units+64<cLine) (ha:WD X a ta) (hb:WD X b tb) (hm:behindInMarks .In b=false:=by rfl):WD X (.Compare a [.In] [b] pos) (t2 (gIn false) ta tb):=⟨Dl.Es (hu:=hu) (ha:=ha.h) (hb:=hb.h) (hm:=hm)⟩
theorem gQ (hu:X.A.units+64<cLine) (ha:WD X a ta) (hb:WD X b tb) (hm:behindInMarks .NotIn b=false:=by rfl):WDT X (.Compare a [.NotIn] [b] pos) (cQ (t2 (gIn true) ta tb)):=⟨Dl.gQ (hu:=hu) (ha:=ha.h) (hb:=hb.h) (hm:=hm)⟩
theorem j4 :WDO X none Fz:=⟨Dl.j4 ⟩
theorem jZ (h:WD X e te):WDO X (some e) (Fy te):=⟨Dl.jZ (h:=h.h)⟩
theorem nP (ha:WD X a ta):WD X (.UnaryOp .USub a pos) (N8 ta):=⟨Dl.nP (ha:=ha.h)⟩
theorem dc {f:List D->(D->Prop)->Prop} (C:Cal X.prog X.w X.K X.mg X.base k x ps (spD f)) (hr:Room j X.A) (ha:WDA X (e::es) t) (hk:k<=j:=by decide) (hg:Gl X x:=by rfl) (hdb:zB x:=by decide) (he:zS X e es:=by rfl) (hpl:zP X pos es:=by rfl):WD X (.Call (.Name x p) (e::es) [] pos) (tFn f t):=⟨Dl.dc (C:=C) (hr:=hr) (ha:=ha.h) (hk:=hk) (hg:=hg) (hdb:=hdb) (he:=he) (hpl:=hpl)⟩
theorem dcP {C:Pn->Prop}{i:Nat}{f:List D->(D->Prop)->Prop}{y:Str}{py:Pos} (CC:Cal X.prog X.w X.K X.mg X.base k x ps (spP C f)) (hr:Room j X.A) (hi:WV X (.Name y py) i) (ha:WDA X es t) (hk:k<=j:=by decide) (hg:Gl X x:=by rfl) (hdb:zB x:=by decide) (he:starEach (.Name y py::es) X.env=(false,eval (.Name y py) X.env)::starEach es X.env:=by rfl) (hpl:zP X pos es:=by rfl):WD X (.Call (.Name x p) (.Name y py::es) [] pos) (HW C f i t):=⟨Dl.dcP (CC:=CC) (hr:=hr) (hi:=hi.h) (ha:=ha.h) (hk:=hk) (hg:=hg) (hdb:=hdb) (he:=he) (hpl:=hpl)⟩
theorem dv (i:Nat) {x:Str}{pos:Pos} (hN:X.N[i]?=some x:=by rfl) (hv:Vis X.env.scope x:=by first | exact Or.inl rfl | exact Or.inr (Or.inl rfl) | exact Or.inr (Or.inr rfl)) (hd:zB x:=by decide) (hcd:(x == ("__classdict__":Str))=false:=by decide):WD X (.Name x pos) (tV i):=⟨Dl.dv (i:=i) (hN:=hN) (hv:=hv) (hd:=hd) (hcd:=hcd)⟩
theorem iT (ha:WD X a ta) (hb:WD X b tb):WDT X (.Compare a [.IsNot] [b] pos) (cQ (t2 zM ta tb)):=⟨Dl.iT (ha:=ha.h) (hb:=hb.h)⟩
theorem wN (ha:WD X a ta) (hb:WD X b tb):WD X (.Compare a [.Is] [b] pos) (t2 Jx ta tb):=⟨Dl.wN (ha:=ha.h) (hb:=hb.h)⟩
theorem gR {ps ps':Pos} (hc:X.calm=true) (hs:X.mg "set"=none) (hl:X.mg "len"=none) (ha:WDA X [a] t) (hgs:Gl X "set":=by rfl) (hgl:Gl X "len":=by rfl) (he:zS X a []:=by rfl) (hpl:zP X pos []:=by rfl) (he':starEach [Expr.Call (.Name "set" ps) [a] [] pos] X.env=(false,eval (Expr.Call (.Name "set" ps) [a] [] pos) X.env)::starEach [] X.env:=by rfl) (hpl':(backTo pos' (starEach [] X.env)).any (·.1)=false:=by rfl):WD X (.Call (.Name "len" ps') [.Call (.Name "set" ps) [a] [] pos] [] pos') (tCl zN t):=⟨Dl.gR (hc:=hc) (hs:=hs) (hl:=hl) (ha:=ha.h) (hgs:=hgs) (hgl:=hgl) (he:=he) (hpl:=hpl) (he':=he') (hpl':=hpl')⟩
theorem Er (ha:WD X a ta) (hb:WD X b tb) (hs:ni b:=by exact fun _ _=>rfl):WD X (.Subscript a b pos) (t2 gIx ta tb):=⟨Dl.Er (ha:=ha.h) (hb:=hb.h) (hs:=hs)⟩
theorem rH (ha:WD X a ta) (hb:WD X b tb):WD X (.BinOp a .Add b pos) (t2 Kg ta tb):=⟨Dl.rH (ha:=ha.h) (hb:=hb.h)⟩
theorem dR (ha:WD X a ta) (hb:WD X b tb):WD X (.BinOp a .Mult b pos) (t2 Gp ta tb):=⟨Dl.dR (ha:=ha.h) (hb:=hb.h)⟩
theorem eV (hu:X.A.units+64<cLine) (ha:WD X a ta) (hb:WD X b tb):WD X (.Compare a [.Eq] [b] pos) (t2 (jV false) ta tb):=⟨Dl.eV (hu:=hu) (ha:=ha.h) (hb:=hb.h)⟩
theorem wJ (hu:X.A.units+64<cLine) (ha:WD X a ta) (hb:WD X b tb):WD X (.Compare a [.NotEq] [b] pos) (t2 (jV true) ta tb):=⟨Dl.wJ (hu:=hu) (ha:=ha.h) (hb:=hb.h)⟩
theorem rG (hu:X.A.units+64<cLine) (ha:WD X a ta) (hb:WD X b tb):WDT X (.Compare a [.Eq] [b] pos) (cQ (t2 (jV false) ta tb)):=⟨Dl.rG (hu:=hu) (ha:=ha.h) (hb:=hb.h)⟩
theorem rF (hu:X.A.units+64<cLine) (ha:WD X a ta) (hb:WD X b tb):WDT X (.Compare a [.NotEq] [b] pos) (cQ (t2 (jV true) ta tb)):=⟨Dl.rF (hu:=hu) (ha:=ha.h) (hb:=hb.h)⟩
theorem xH {rest:List Stmt} (i:Nat) (h:WDSs X rest t):WDSs X rest (Np i t):=⟨Dl.xH (i:=i) (h:=h.h)⟩
theorem oZ {rest:List Stmt} (js:List Nat) (h:WDSs X rest t):WDSs X rest (Hq js t):=⟨Dl.oZ (js:=js) (h:=h.h)⟩
theorem iY {ps ps':Pos} (hc:X.calm=true) (hml:X.mg "list"=none) (hmr:X.mg "range"=none) (ha:WDA X [a,b] t) (hgl:Gl X "list":=by rfl) (hgr:Gl X "range":=by rfl) (he:starEach [a,b] X.env=(false,eval a X.env)::starEach [b] X.env:=by rfl) (hpl:(backTo pos' (starEach [b] X.env)).any (·.1)=false:=by rfl) (he2:starEach [.Call (.Name "range" ps') [a,b] [] pos'] X.env=(false,eval (.Call (.Name "range" ps') [a,b] [] pos') X.env)::starEach [] X.env:=by rfl) (hpl2:zP X pos []:=by rfl):WD X (.Call (.Name "list" ps) [.Call (.Name "range" ps') [a,b] [] pos'] [] pos) (Oc t):=⟨Dl.iY (hc:=hc) (hml:=hml) (hmr:=hmr) (ha:=ha.h) (hgl:=hgl) (hgr:=hgr) (he:=he) (hpl:=hpl) (he2:=he2) (hpl2:=hpl2)⟩
theorem Eo {lo hi:Option Expr}{tl th:DO} (he:WD X e te) (hl:WDO X lo tl) (hh:WDO X hi th):WD X (.Subscript e (.Slice lo hi none p2) pos) (KC te tl th):=⟨Dl.Eo (he:=he.h) (hl:=hl.h) (hh:=hh.h)⟩
theorem nQ (ha:WD X a ta) (hb:WD X b tb):WD X (.Dict [some a] [b] pos) (tD1 ta tb):=⟨Dl.nQ (ha:=ha.h) (hb:=hb.h)⟩
theorem eO (hu:X.A.units+64<cLine) (ha:WD X a ta) (hb:WD X b tb) (hm:behindInMarks .NotIn b=false:=by rfl):WDT X (.Compare a [.NotIn] [b] pos) (cQ (t2 (Jy true) ta tb)):=⟨Dl.eO (hu:=hu) (ha:=ha.h) (hb:=hb.h) (hm:=hm)⟩
theorem mV (hu:X.A.units+64<cLine) (ha:WD X a ta) (hb:WD X b tb) (hs:JM b:=by exact fun _ _=>rfl):WD X (.Subscript a b pos) (t2 Gu ta tb):=⟨Dl.mV (hu:=hu) (ha:=ha.h) (hb:=hb.h) (hs:=hs)⟩
theorem mO (h:WD X e te) (he:∀ whole,isTrue e X.env whole=(do let v ← whole; standAt e.pos; holding [v] (truthy v)):=by intro _; rfl):WDT X e (NQ te):=⟨Dl.mO (h:=h.h) (he:=he)⟩
theorem mR {ps:Pos} (hc:X.calm=true) (hm:X.mg "min"=none) (ha:WDA X [a] t) (hg:Gl X "min":=by rfl) (he:zS X a []:=by rfl) (hpl:zP X pos []:=by rfl):WD X (.Call (.Name "min" ps) [a] [] pos) (tCl (Bv (fun i j=>if j<i then j else i) (fun M a=>M<=a)) t):=⟨Dl.mR (hc:=hc) (hm:=hm) (ha:=ha.h) (hg:=hg) (he:=he) (hpl:=hpl)⟩
theorem mU {ps:Pos} (hc:X.calm=true) (hm:X.mg "max"=none) (ha:WDA X [a] t) (hg:Gl X "max":=by rfl) (he:zS X a []:=by rfl) (hpl:zP X pos []:=by rfl):WD X (.Call (.Name "max" ps) [a] [] pos) (tCl (Bv (fun i j=>if j > i then j else i) (fun M a=>a<=M)) t):=⟨Dl.mU (hc:=hc) (hm:=hm) (ha:=ha.h) (hg:=hg) (he:=he) (hpl:=hpl)⟩
theorem iR (ha:WD X a ta) (hb:WD X b tb):WDT X (.Compare a [.IsNot] [b] pos) (cQ (t2 zJ ta tb)):=⟨Dl.iR (ha:=ha.h) (hb:=hb.h)⟩
end
section
theorem dW [Gr] {T:String}{x:Str}{e:Expr}{te:DE}{ps pt pos:Pos} (hk:∀ t:Value,(t=.type "NoneType"\/t=.type "bool"\/t=.type "int"\/t=.type "str"\/t=.type "list"\/t=.type "tuple"\/t=.type "dict")->∃ n,t=.type n/\W.kitOne X.K t (.type T)=some (n == T || (T == "int"&&n == "bool")))
  (hm:X.mg "isinstance"=none) (he:WD X e te) (hT:WC X (.Name x pt) (.ty T)) (hg:Gl X "isinstance":=by rfl) (h1:starEach [e,.Name x pt] X.env=(false,eval e X.env)::starEach [.Name x pt] X.env:=by rfl) (h2:starEach [.Name x pt] X.env=(false,eval (.Name x pt) X.env)::starEach [] X.env:=by rfl) (hpl:(backTo pos (starEach [.Name x pt] X.env)).any (·.1)=false:=by rfl) :
  WD X (.Call (.Name "isinstance" ps) [e,.Name x pt] [] pos) (tIs T te):=⟨Dl.dW hk hm he.h hT.h hg h1 h2 hpl⟩
theorem rN [Gr] {x y:Str}{ps pt pt' pp pos:Pos}{kk:Nat}{e:Expr}{te:DE} (hm:X.mg "isinstance"=none) (he:WD X e te) (hT:WC X (.Name x pt) (.ty "list")) (hT':WC X (.Name y pt') (.ty "tuple")) (hg:Gl X "isinstance":=by rfl)
  (h1:starEach [e,.Tuple [.Name x pt,.Name y pt'] kk pp] X.env=(false,eval e X.env)::starEach [.Tuple [.Name x pt,.Name y pt'] kk pp] X.env:=by rfl) (h2:starEach [.Tuple [.Name x pt,.Name y pt'] kk pp] X.env=(false,eval (.Tuple [.Name x pt,.Name y pt'] kk pp) X.env)::starEach [] X.env:=by rfl)
  (h3:starEach [.Name x pt,.Name y pt'] X.env=(false,eval (.Name x pt) X.env)::starEach [.Name y pt'] X.env:=by rfl) (h4:starEach [.Name y pt'] X.env=(false,eval (.Name y pt') X.env)::starEach [] X.env:=by rfl) (hpl:(backTo pos (starEach [.Tuple [.Name x pt,.Name y pt'] kk pp] X.env)).any (·.1)=false:=by rfl) :
  WD X (.Call (.Name "isinstance" ps) [e,.Tuple [.Name x pt,.Name y pt'] kk pp] [] pos) (Od te):=⟨Dl.rN hm he.h hT.h hT'.h hg h1 h2 h3 h4 hpl⟩
end
end Wr
set_option autoImplicit false
set_option autoImplicit true
namespace Wr
open PySem L2 PyProof.Rows Dl
section
variable [Gr] {X:Cx}{tj te:DE}
end
section
variable [Gr] {X:Cx}{tj te te1 te2 ta:DE}{t:DS}
end
end Wr
namespace Dl
open PySem L2 PyProof.Rows
section
variable {X:Cx}{pins:List (Addr×Obj)}{σ:L2.St}{H:Hp}{s:Shared}{ok ok':Addr->Prop}
mutual
theorem Rp.dI (I:Inv X pins σ H s):∀ {v:V}{d:D}{u:Value},Rp ok H v d->RelV v u->∃ as,Reads s.heap u d as/\∀ a∈as,H a≠none
 | _,_,_,.non,r=>by cases r; exact⟨_,.none,fun _ h=>nomatch h⟩
 | _,_,_,.bl b,r=>by cases r; exact⟨_,.bool b,fun _ h=>nomatch h⟩
 | _,_,_,.int i,r=>by obtain⟨t,rfl⟩:=r; exact⟨_,.int i t,fun _ h=>nomatch h⟩
 | _,_,_,.str x,r=>by obtain⟨t,rfl⟩:=r; exact⟨_,.str x t,fun _ h=>nomatch h⟩
 | _,_,_,.lst o h rs,r=>by
  cases r
  obtain⟨its,rv,pl,_⟩:=I.list (SqL.of h)
  obtain⟨as,ra,na⟩:=Rps.dI I rs rv
  obtain⟨ob,ho,hc,n,hd⟩:=pl.isList
  refine⟨_,.list ho hc hd (by simpa using ra),fun b hb=>?_⟩
  rcases Ù.mp hb with rfl | hb
  ·rw [h]; exact fun z=>nomatch z
  ·exact na b hb
 | _,_,_,.tup h rs,r=>by
  cases r
  obtain⟨its,rv,pl,_⟩:=I.tuple (SqT.of h)
  obtain⟨as,ra,na⟩:=Rps.dI I rs rv
  obtain⟨ob,ho,hc,n,hd⟩:=pl
  exact⟨_,.tuple ho hc hd (by simpa using ra),na⟩
 | _,_,_,.dct (a:=a) (kvs:=kvs) (ds:=ds) o h rs,r=>by
  cases r
  obtain⟨_,_,vs,rel,ob,es,ep,ho,hc,hd,_,hp,_⟩:=G7 I.hok h
  obtain⟨as,bs,ra,rb,na⟩:=Rkv.dI I rs rel hp
  refine⟨_,.dict ho hc.1 hd ra rb,fun b hb=>?_⟩
  rcases ä.mp hb with hb | hb
  ·rcases Ù.mp hb with rfl | hb
   ·rw [h]; exact fun z=>nomatch z
   ·exact na b (.inl hb)
  ·exact na b (.inr hb)
theorem Rps.dI (I:Inv X pins σ H s):∀ {v:List V}{d:List D}{u:List Value},Rps ok H v d->Vals v u->∃ as,ReadsAll s.heap u d as/\∀ a∈as,H a≠none
 | _,_,_,.nil,r=>by cases r; exact⟨[],.nil,fun _ h=>nomatch h⟩
 | _,_,_,.cons h t,r=>by
  cases r with
  | cons a b =>
   obtain⟨as,ra,na⟩:=Rp.dI I h a
   obtain⟨bs,rb,nb⟩:=Rps.dI I t b
   exact⟨_,.cons ra rb,fun c hc=>(ä.mp hc).elim (na c) (nb c)⟩
theorem Rkv.dI (I:Inv X pins σ H s):∀ {kvs:List (Key×V)}{ds:List (D×D)}{vs:List (Key×Value)}{es:List DictEntry},Rkv ok H kvs ds->KV kvs vs->Pairs (aZ X.prog X.w) es vs->∃ as bs,ReadsAll s.heap (es.map (·.key)) (ds.map (·.1)) as/\ReadsAll s.heap (es.map (·.val)) (ds.map (·.2)) bs/\∀ a,a∈as\/a∈bs->H a≠none
 | _,_,_,_,.nil,r,p=>by
  cases r
  cases p
  exact⟨[],[],.nil,.nil,fun _ h=>h.elim (fun h=>nomatch h) fun h=>nomatch h⟩
 | _,_,_,_,.cons h t,r,p=>by
  cases r with
  | cons a b =>
   cases p with
   | cons p1 p2 p3 =>
    obtain⟨a1,a2⟩:=a
    obtain⟨as,bs,ra,rb,nb⟩:=Rkv.dI I t b p3
    obtain⟨cs,rc,nc⟩:=Rp.dI I h a2
    have p1':oN _ _=true:=p1
    rw [← a1] at p1'
    rw [← p2] at rc
    rcases aP p1' with ⟨i,tk,e1,e2⟩ | ⟨x,tk,e1,e2⟩
    ·refine⟨_,_,.cons (as:=[]) ?_ ra,.cons rc rb,fun c hc=>?_⟩
     ·dsimp only at e1 ⊢; rw [e2,e1]
      exact .int i tk
     ·rcases hc with hc | hc
      ·exact nb c (.inl hc)
      ·exact (ä.mp hc).elim (nc c) fun z=>nb c (.inr z)
    ·refine⟨_,_,.cons (as:=[]) ?_ ra,.cons rc rb,fun c hc=>?_⟩
     ·dsimp only at e1 ⊢; rw [e2,e1]
      exact .str x tk
     ·rcases hc with hc | hc
      ·exact nb c (.inl hc)
      ·exact (ä.mp hc).elim (nc c) fun z=>nb c (.inr z)
end
end
def Fq (d:D):Prop:=d.showable=true/\d.depth<=50/\d.shown.length<=sizeLine
def pJ (base:Heap):Prop:=∃ o,base.get? sysModules=some o
section
variable {X:Cx}{pos:Pos}{a e:Expr}{te:DE}{t:DA} [Gr]
theorem xR (hS:pJ X.base) (hg:X.A.guards=some []) (hu:X.A.units+64<cLine):aU X (.builtin "repr") (fun xs H Q=>∃ ok v d,xs=[v]/\Rp ok H v d/\Fq d/\Q (.str d.shown) H):=by
 intro pins s σ H xs us Q I r h
 obtain⟨ok,v,d,rfl,rd,⟨o2,o3,o4⟩,q⟩:=h
 obtain⟨u,rfl,r1⟩:=vals1 r
 have fin:∀ (x:Str) (tk:Tok),x=d.shown->EP X pins σ Q (.str x tk) { s with toks:=s.toks+1 }:=fun x tk e=>by subst e; exact⟨.str d.shown,H,I.tok _,⟨tk,rfl⟩,q⟩
 have big:∀ a,v=.ref a->wpAny (model X.prog X.w) X.A (call (.builtin "repr") [u]) (EP X pins σ Q) X.xe s:=fun a ea=>by
  subst ea
  obtain⟨as,ra,na⟩:=rd.dI I r1
  cases r1
  obtain⟨o,ho⟩:=hS
  refine repr_of_reads' (h₀:=s.heap) ra o2 (fun _ hm=>na _ hm (I.bs _ _ ho).2) hg (by omega) (fun _ _ e=>e) (fun h' u tk k=>?_) o4
  exact⟨.str d.shown,H,I.kept k,⟨_,rfl⟩,q⟩
 cases rd with
 | non=>cases r1; exact PySem.P.repr_of_none (fin _ _ rfl)
 | bl b=>cases r1; exact PySem.P.repr_of_bool (fin _ _ (by cases b <;> rfl))
 | int i =>
  obtain⟨t,rfl⟩:=r1
  exact PySem.P.repr_of_int (of_decide_eq_true o2) (fin _ _ rfl)
 | str x =>
  obtain⟨t,rfl⟩:=r1
  exact PySem.P.repr_of_str (fin _ _ rfl) o4
 | lst o h rs=>exact big _ rfl
 | tup h rs=>exact big _ rfl
 | dct o h rs=>exact big _ rfl
def Gq:GC:=fun ks P=>∃ k d,ks=[(k,d)]/\Fq d/\P .imm (.str d.shown)
theorem dU {ps:Pos} (hS:pJ X.base) (hgd:X.A.guards=some []) (hu:X.A.units+64<cLine) (hm:X.mg "repr"=none) (ha:PDA X [a] t) (hg:Gl X "repr":=by rfl) (he:zS X a []:=by rfl) (hpl:zP X pos []:=by rfl):PD X (.Call (.Name "repr" ps) [a] [] pos) (tCl Gq t) :=
 dg (xR hS hgd hu) (by
  intro p H0 own Hb H vs ks P Q A r t q
  obtain⟨k,d,rfl,o,t⟩:=t
  obtain⟨v,rfl,r'⟩:=cY r
  exact⟨_,v,d,rfl,r',o,q _ _ _ _ t Kp.refl A.pen (.str _)⟩) hg hm boot_repr ha (by decide) (by decide) he hpl
end
section
variable [Gr]
abbrev DR:=(D->Prop)->List Sl->Prop
structure WishR (p:Pn) (own:Addr->Option Nat) (H:Hp) (P:D->Prop) (Q:Ends):Prop where
 rt:∀ d v H',P d->p.PI H'->(∀ b o,H b=some o->¬ p.fp b->own b=none->H' b=some o)->Rp (fun a=>¬ p.fp a) H' v d->Q.rt v H'
def Pk (t:DR):TS:=fun Q σ H=>∃ p H0 own ρ P,EnvD p H0 own σ H ρ/\t P ρ/\WishR p own H P Q
structure WR (X:Cx) (ss:List Stmt) (t:DR):Prop where
 h:PSs X ss (Pk t)
variable {X:Cx}{pos:Pos}{e:Expr}{te:DE}{st:Stmt}{rest:List Stmt}{t:DS}{u:DR}
variable {k j:Nat}{x:Str}{ps:List Str}{es:List Expr}{ta:DA}{p:Pos}
end
end Dl
namespace Wr
open PySem L2 PyProof.Rows Dl
variable [Gr] {X:Cx}{pos:Pos}{a:Expr}{t:DA}
theorem dU {ps:Pos} (hS:pJ X.base) (hgd:X.A.guards=some []) (hu:X.A.units+64<cLine) (hm:X.mg "repr"=none) (ha:WDA X [a] t) (hg:Gl X "repr":=by rfl) (he:zS X a []:=by rfl) (hpl:zP X pos []:=by rfl):WD X (.Call (.Name "repr" ps) [a] [] pos) (tCl Gq t):=⟨Dl.dU hS hgd hu hm ha.h hg he hpl⟩
end Wr
namespace L2
open PySem PySem.Spec PyProof.Rows
def Nz (K:Ý) (a b:Addr):It :=
 ⟨fun i H=>∃ xs ys x y,SqL K H a xs/\SqL K H b ys/\xs[i]?=some x/\ys[i]?=some y,fun i H v H'=>∃ t x y,v=.ref t/\H t=none/\H'=upd H t (.tup [x,y])/\(∀ xs,SqL K H a xs->xs[i]?=some x)/\∀ ys,SqL K H b ys->ys[i]?=some y,fun i H=>∃ xs ys,SqL K H a xs/\SqL K H b ys/\(xs.length<=i\/ys.length<=i)⟩
theorem CT {P:Program}{w:World}{K:Ý}{elts:List Expr}{kk:Nat}{pos:Pos}{a b z TI TO i1 i2:Addr} (D:ZipApart z TI TO i1 i2 a b) :
  Turn P w K (.Tuple elts kk pos) (Nz K a b) [z,TI,TO,i1,i2] z (fun i h=>IsZip h z TI TO .none/\IsPair h TI (.ref i1) (.ref i2)/\(∃ u v,IsPair h TO u v)/\h.IsListIter i1 a i/\h.IsListIter i2 b i) where
 mem:=by simp
 obj:=fun i h st c hc=>by
  obtain⟨hz,hTI,⟨u,v,hTO⟩,⟨o1,j1,c1,d1⟩,⟨o2,j2,c2,d2⟩⟩:=st
  simp only [Ù,ê,or_false] at hc
  rcases hc with rfl | rfl | rfl | rfl | rfl
  ·exact⟨_,hz,fun v z=>nomatch z⟩
  ·exact⟨_,hTI,fun v z=>nomatch z⟩
  ·exact⟨_,hTO,fun v z=>nomatch z⟩
  ·exact⟨o1,j1,fun v z=>by rw [d1] at z; cases z⟩
  ·exact⟨o2,j2,fun v z=>by rw [d2] at z; cases z⟩
 keep:=fun i h h' st k=>by
  obtain⟨hz,hTI,⟨u,v,hTO⟩,⟨o1,j1,r1⟩,⟨o2,j2,r2⟩⟩:=st
  exact⟨k z (by simp) _ hz,k TI (by simp) _ hTI,⟨u,v,k TO (by simp) _ hTO⟩,⟨o1,k i1 (by simp) _ j1,r1⟩,⟨o2,k i2 (by simp) _ j2,r2⟩⟩
 item:=by
  intro X hP hw hK hc i pins s σ H E I hf st hg
  subst hP hw hK
  obtain⟨xs,ys,x,y,hq,hq2,hx,hy⟩:=hg
  obtain⟨its,rv,pl,hz1⟩:=I.list hq
  obtain⟨its2,rv2,pl2,hz2⟩:=I.list hq2
  obtain⟨u,hu,ru⟩:=rv.get hx
  obtain⟨u2,hu2,ru2⟩:=rv2.get hy
  obtain⟨hz,hTI,hTO,h1,h2⟩:=st
  have W:=WalksT.zip2 (prog:=X.prog) (w:=X.w) (A:=X.A) (I.ok.hd hc) z TI TO i1 i2 a b D its.toArray its2.toArray
  have l1:=(É.mp hu).1
  have l2:=(É.mp hu2).1
  refine W.item i s _ _ (by simp; omega) ⟨hz,hTI,hTO,h1,h2,pl.isList,pl2.isList⟩ fun T vals h' tk hP hTs hTup hMid hk=>⟨_,rfl,?_⟩
  obtain⟨x',y',e1,e2,rfl⟩:=hP
  have ex:x'=u:=by
   have:its[i]?=some x':=by simpa using e1
   rw [hu] at this
   exact (Û this).symm
  have ey:y'=u2:=by
   have:its2[i]?=some y':=by simpa using e2
   rw [hu2] at this
   exact (Û this).symm
  subst ex ey
  have ap:=W.apart i T h' hMid
  refine W.go elts kk pos i T _ _ _ hMid fun h3 hst3 hk3=>?_
  have hTn:H T=none:=I.hok.fresh hTs
  have keep2:∀ c o,c∉[z,TO,i1,i2]->s.heap.get? c=some o->h3.get? c=some o:=fun c o hc q=>hk3 c o hc (hk c o hc q)
  have fz:∀ c∈[z,TO,i1,i2],j8 X pins H c:=fun c hc=>hf c (by
   simp only [Ù,ê,or_false] at hc ⊢
   rcases hc with h | h | h | h <;> simp [h])
  have nT:∀ {c:Addr}{y:HO},H c=some y->c∉[z,TO,i1,i2]:=fun {c y} q hc=>by
   have:=(fz c hc).1
   rw [this] at q
   cases q
  obtain⟨oT,hT1,hT2,nn,hT3⟩:=hTup
  have hTup3:IsTup h3 T #[x',y']:=⟨oT,hk3 T oT ap hT1,hT2,nn,hT3⟩
  have J:Inv X pins σ (upd H T (.tup [x,y])) { s with heap:=h3,toks:=tk }:=by
   refine I.step (g':=s.gens) (d':=s.drawn) (t':=tk) (ch:=[z,TO,i1,i2]) (fun c hc=>?_) (fun c o _ _ hcb q _=>keep2 c o hcb q)
    (fun c o _ _ hcb q _=>⟨o.slots,keep2 c o hcb q⟩) (fun c o _ q n=>by rw [aj (Ü (â (Ë q) hTs))]; exact n)
    (fun c o hcb q=>⟨o,keep2 c o hcb q⟩) (fun c ys q=>by rw [aj (aq q hTn)]; exact q) (fun c o y q=>by rw [aj (aq q hTn)]; exact q)
    (fun c ps q=>⟨#[],by rw [aj (aq q hTn),q]; simp⟩) (fun m hm=>?_) ?_ I.bare
   ·obtain⟨e0,e1,e2,e3,e4,e5⟩:=fz c hc
    exact⟨e3,e1,e4,e5⟩
   ·obtain⟨o,es,ep,ho',r⟩:=hm
    refine⟨o,es,ep,keep2 _ o (fun hc=>?_) ho',r⟩
    exact (fz _ hc).2.1 rfl
   ·intro c u' q
    by_cases hb:c=T
    ·subst hb
     rw [ao] at q
     cases q
     exact⟨(by show 2<=sizeLine; decide),[x',y'],.cons ru (.cons ru2 .nil),hTup3⟩
    ·rw [aj hb] at q
     refine (I.hok c u' q).stay (fun d v hcv y=>keep2 d v ?_ y) (fun d y=>by rw [aj (aq y hTn)]; exact y) fun d ys y=>by rw [aj (aq y hTn)]; exact y
     rcases hcv with rfl | z
     ·exact nT q
     ·exact nT z
  obtain⟨a1,a2,a3,a4,a5,_,_⟩:=hst3
  refine⟨.ref T,_,J,rfl,⟨T,x,y,rfl,hTn,rfl,fun xs' hy'=>by rw [I.oE hy' hq]; exact hx,fun ys' hy'=>by rw [I.oE hy' hq2]; exact hy⟩,⟨a1,a2,a3,a4,a5⟩,fun c hc=>?_⟩
  rw [aj]
  ·exact (hf c hc).1
  ·rintro rfl
   simp only [Ù,ê,or_false] at hc
   have lt:∀ {d:Addr}{o:Obj},s.heap.get? d=some o->c≠d:=fun e=>ń (â (Ë e) hTs)
   obtain⟨w1,w2,hTO'⟩:=hTO
   obtain⟨o1,j1,_⟩:=h1
   obtain⟨o2,j2,_⟩:=h2
   rcases hc with h | h | h | h | h
   ·exact lt hz h
   ·exact lt hTI h
   ·exact lt hTO' h
   ·exact lt j1 h
   ·exact lt j2 h
 done:=by
  intro X hP hw hK hc i pins s σ H E I hf st hg
  subst hP hw hK
  obtain⟨xs,ys,hq,hq2,he⟩:=hg
  obtain⟨its,rv,pl,hz1⟩:=I.list hq
  obtain⟨its2,rv2,pl2,hz2⟩:=I.list hq2
  obtain⟨hz,hTI,⟨u,v,hTO⟩,h1,h2⟩:=st
  have r1:=rv.length
  have r2:=rv2.length
  refine wpAny_pyNext_zip_end (I.ok.hd hc) D hz hTI hTO h1 h2 pl.isList pl2.isList (xs:=its.toArray) (ys:=its2.toArray) ?_ fun h' hk=>⟨rfl,?_⟩
  ·rcases he with he | he
   ·left; simp; omega
   ·right; simp; omega
  have fz:∀ c∈[z,TO,i1,i2],j8 X pins H c:=fun c hc=>hf c (by
   simp only [Ù,ê,or_false] at hc ⊢
   rcases hc with h | h | h | h <;> simp [h])
  have keep2:∀ c o,c∉[z,TO,i1,i2]->s.heap.get? c=some o->h'.get? c=some o:=fun c o hc q=>hk c o (fun e=>hc (by simp [e])) (fun e=>hc (by simp [e])) (fun e=>hc (by simp [e])) (fun e=>hc (by simp [e])) q
  have nT:∀ {c:Addr}{y:HO},H c=some y->c∉[z,TO,i1,i2]:=fun {c y} q hc=>by
   have:=(fz c hc).1
   rw [this] at q
   cases q
  refine I.step (g':=s.gens) (d':=s.drawn) (t':=s.toks) (ch:=[z,TO,i1,i2]) (fun c hc=>?_) (fun c o _ _ hcb q _=>keep2 c o hcb q)
    (fun c o _ _ hcb q _=>⟨o.slots,keep2 c o hcb q⟩) (fun c o _ q n=>n)
    (fun c o hcb q=>⟨o,keep2 c o hcb q⟩) (fun c ys q=>q) (fun c o y q=>q)
    (fun c ps q=>⟨#[],by rw [q]; simp⟩) (fun m hm=>?_) ?_ I.bare
  ·obtain⟨e0,e1,e2,e3,e4,e5⟩:=fz c hc
   exact⟨e3,e1,e4,e5⟩
  ·obtain⟨o,es,ep,ho',r⟩:=hm
   refine⟨o,es,ep,keep2 _ o (fun hc=>?_) ho',r⟩
   exact (fz _ hc).2.1 rfl
  ·intro c u' q
   refine (I.hok c u' q).stay (fun d v hcv y=>keep2 d v ?_ y) (fun d y=>y) fun d ys y=>y
   rcases hcv with rfl | z
   ·exact nT q
   ·exact nT z
 self:=fun A i s Q E st h=>by
  obtain⟨hz,_⟩:=st
  exact wpAny_pyIter_zip hz h
def Pq (K:Ý) (ta:TA):TI:=fun σ H R=>ta σ H fun vs H1=>∃ a b xs ys,vs=[.ref a,.ref b]/\SqL K H1 a xs/\SqL K H1 b ys/\R (Nz K a b) H1
theorem Lj {X:Cx}{elts:List Expr}{kk:Nat}{tpos:Pos}{a b:Expr}{ta:TA}{p pos:Pos} (hg:Gl X "zip") (hm:X.mg "zip"=none) (ha:PA X [a,b] ta) (e2:starEach [a,b] X.env=(false,eval a X.env)::starEach [b] X.env:=by rfl) (e3:(backTo pos (starEach [b] X.env)).any (·.1)=false:=by rfl):PI X (.Tuple elts kk tpos) (.Call (.Name "zip" p) [a,b] [] pos) (Pq X.K ta):=by
 intro pins s σ H R I h
 refine Call_ (dh I hg hm PyProof.Rows.boot_zip (ā (thn (ha pos pins s σ H _ I h) fun us s1 ⟨vs,H1,I1,r1,q1⟩=>?_) e2 e3))
 obtain⟨a,b,xs,ys,rfl,hp,hq,k⟩:=q1
 obtain⟨u,u2,rfl,rx,ry⟩:=vals2 r1
 cases rx
 cases ry
 obtain⟨its,rv,pl,_⟩:=I1.list hp
 obtain⟨its2,rv2,pl2,_⟩:=I1.list hq
 refine call_zip_2 pl.isList pl2.isList fun h' hz hTI hTO hi1 hi2 hsz hk=>?_
 have lp:a<s1.heap.objs.size:=by obtain⟨o,e,_⟩:=pl.isList; exact Ë e
 have lq:b<s1.heap.objs.size:=by obtain⟨o,e,_⟩:=pl2.isList; exact Ë e
 have D:=zipApart_new lp lq
 have I2:Inv X pins σ H1 { s1 with heap:=h' }:=I1.kept (t':=s1.toks) hk
 have T:=CT (P:=X.prog) (w:=X.w) (K:=X.K) (elts:=elts) (kk:=kk) (pos:=tpos) D
 refine T.self _ 0 _ _ _ ⟨hz,hTI,⟨_,_,hTO⟩,hi1,hi2⟩ ⟨_,_,_,_,H1,rfl,I2,T,⟨hz,hTI,⟨_,_,hTO⟩,hi1,hi2⟩,fun c hc=>?_,k⟩
 have fr:∀ j,j8 X pins H1 (s1.heap.objs.size+j):=fun j=>I1.Bw (Nat.le_add_right _ _) (I1.hok.fresh (Nat.le_add_right _ _))
 simp only [Ù,ê,or_false] at hc
 rcases hc with h | h | h | h | h
 ·rw [h]; exact fr 4
 ·rw [h]; exact fr 2
 ·rw [h]; exact fr 3
 ·rw [h]; exact fr 0
 ·rw [h]; exact fr 1
end L2
namespace Dl
open PySem L2 PyProof.Rows
variable [Gr]
section
variable {X:Cx}{tg:Expr}{pos:Pos}{ta:DA}
theorem Cz {K:Ý}{ok:Addr->Prop}{a b:Addr}{ds es:List D}:Wlk (fun H=>Rp ok H (.ref a) (.list ds)/\Rp ok H (.ref b) (.list es)) (Nz K a b) ((ds.zip es).map prD) ok where
 go:=fun i H r hi=>by
  obtain⟨b,vs,e,_,h,rs⟩:=r.1.bM
  cases e
  obtain⟨b2,vs2,e,_,h2,rs2⟩:=r.2.bM
  cases e
  rw [Â,ů] at hi
  have l1:i<vs.length:=by rw [rs.length]; omega
  have l2:i<vs2.length:=by rw [rs2.length]; omega
  exact⟨vs,vs2,vs[i],vs2[i],SqL.of h,SqL.of h2,by simp [l1],by simp [l2]⟩
 stop:=fun H r=>by
  obtain⟨b,vs,e,_,h,rs⟩:=r.1.bM
  cases e
  obtain⟨b2,vs2,e,_,h2,rs2⟩:=r.2.bM
  cases e
  refine⟨vs,vs2,SqL.of h,SqL.of h2,?_⟩
  rw [Â,ů,rs.length,rs2.length]
  omega
 yld:=fun i H x H' r y=>by
  obtain⟨t,v,v2,rfl,ht,rfl,y1,y2⟩:=y
  have sm:Same H (upd H t (.tup [v,v2])):=fun b u q=>by rw [aj (aq q ht)]; exact q
  refine⟨sm,fun d hd=>?_⟩
  obtain⟨b,vs,e,_,h,rs⟩:=r.1.bM
  cases e
  obtain⟨b2,vs2,e,_,h2,rs2⟩:=r.2.bM
  cases e
  rw [Ø] at hd
  cases he:(ds.zip es)[i]? with
  | none=>rw [he] at hd; cases hd
  | some pq =>
   rw [he] at hd
   have e:=Û hd
   subst e
   obtain⟨g1,g2⟩:=List.getElem?_zip_eq_some.mp he
   obtain⟨w1,hw1,rw1⟩:=rs.getD g1
   obtain⟨w2,hw2,rw2⟩:=rs2.getD g2
   have z1:=y1 vs (SqL.of h)
   rw [hw1] at z1
   cases z1
   have z2:=y2 vs2 (SqL.of h2)
   rw [hw2] at z2
   cases z2
   exact .tup ao (.cons (rw1.mono (fun _ o=>o) (fun a o _ e=>sm a o e) fun a xs e=>sm a _ e) (.cons (rw2.mono (fun _ o=>o) (fun a o _ e=>sm a o e) fun a xs e=>sm a _ e) .nil))
 stab:=fun H H' r f t=>⟨r.1.bL (fun a o n e=>⟨n,f a o n e⟩) t,r.2.bL (fun a o n e=>⟨n,f a o n e⟩) t⟩
def iZp (ta:DA):DI:=fun ρ P=>ta ρ fun ks=>match ks with
 | [(k1,.list ds),(k2,.list es)]=>P (k1.join k2) ((ds.zip es).map prD)
 | _=>False
theorem tG {elts:List Expr}{kk:Nat}{tpos:Pos}{a b:Expr}{ps:Pos} (hm:X.mg "zip"=none) (ha:PDA X [a,b] ta) (hg:Gl X "zip":=by rfl) (e2:starEach [a,b] X.env=(false,eval a X.env)::starEach [b] X.env:=by rfl) (e3:(backTo pos (starEach [b] X.env)).any (·.1)=false:=by rfl):PDI X (.Tuple elts kk tpos) (.Call (.Name "zip" ps) [a,b] [] pos) (iZp ta):=PI.wk (Lj hg hm ha e2 e3) (by
 rintro σ H R ⟨p,H0,own,ρ,P,E,t,q⟩
 refine⟨p,H0,own,ρ,_,E,t,fun ks vs H1 h A r=>?_⟩
 split at h
 ·rename_i k1 ds k2 es
  obtain⟨v1,v2,rfl,r1,r2⟩:=Dv r
  have r1:=jr A (cJ k1 k2).1 r1
  have r2:=jr A (cJ k1 k2).2 r2
  obtain⟨a,vs,e,_,ha,rs⟩:=Rp.bM (id r1)
  subst e
  obtain⟨b,vs2,e,_,hb,rs2⟩:=Rp.bM (id r2)
  subst e
  exact⟨a,b,vs,vs2,rfl,SqL.of ha,SqL.of hb,q (k1.join k2) _ _ H1 _ h A Cz ⟨rpA r1,rpA r2⟩⟩
 ·exact h.elim)
end
end Dl
namespace Wr
open PySem L2 PyProof.Rows Dl
variable [Gr] {X:Cx}{pos:Pos}{ta:DA}
theorem tG {elts:List Expr}{kk:Nat}{tpos:Pos}{a b:Expr}{ps:Pos} (hm:X.mg "zip"=none) (ha:WDA X [a,b] ta) (hg:Gl X "zip":=by rfl) (e2:starEach [a,b] X.env=(false,eval a X.env)::starEach [b] X.env:=by rfl) (e3:(backTo pos (starEach [b] X.env)).any (·.1)=false:=by rfl):WDI X (.Tuple elts kk tpos) (.Call (.Name "zip" ps) [a,b] [] pos) (iZp ta):=⟨Dl.tG hm ha.h hg e2 e3⟩
end Wr
namespace Dl
open PySem L2 PyProof.Rows
variable [Gr]
section
variable {X:Cx}{pos:Pos}{st:Stmt}{rest:List Stmt}{t u:DS}{te tj t1 t2:DE}
end
end Dl
namespace Wr
open PySem L2 PyProof.Rows Dl
section
variable [Gr] {X:Cx}{tj te t1 t2:DE}{t u:DS}
end
end Wr
set_option autoImplicit false
namespace L2
open PySem PySem.Spec PyProof.Rows
section
variable {X:Cx}{k:Nat}{f CF:Addr}{fd:FuncData}{ps:List Str}{sp:Sp}{E:XK}{x hx n:Str}{p np cpos epos hpos pos:Pos}{e:Expr}{es:List Expr}{t:TA}{b₀:Stmt}{suite:List Stmt}{ts:TS}{j:Nat}
end
section
variable {X:Cx}{k:Nat}{f CF:Addr}{fd:FuncData}{ps:List Str}{sp:Sp}{E:XK}{x hx n:Str}{p np cpos epos hpos pos:Pos}{e:Expr}{es:List Expr}{t:TA}{b₀:Stmt}{suite:List Stmt}{ts:TS}{j:Nat}
end
end L2
namespace Dl
open PySem L2 PyProof.Rows
section
variable [Gr] {X:Cx}{pos:Pos}{a:Expr}{t:DA}
end
end Dl
namespace Wr
open PySem L2 PyProof.Rows Dl
section
variable [Gr] {X:Cx}{pos:Pos}{a:Expr}{t:DA}
end
end Wr
namespace Dl
open PySem L2 PyProof.Rows
structure Ext (p q:Pn):Prop where
 pv:q.pv=p.pv
 fp:∀ a,p.fp a->q.fp a
 pi:∀ H,q.PI H->p.PI H
 go:∀ H H',q.PI H->Kp p H H'->p.PI H'->q.PI H'
def CE (C:Pn->Prop) (q:Pn):Prop:=∃ p,C p/\Ext p q
section
variable [Gr]
variable {X:Cx}{pos:Pos}{c:Expr}{a rest:List Stmt}{tc:DT}{t u:DR}
variable {k j i:Nat}{x y:Str}{ps:List Str}{es:List Expr}{ta:DA}{pp py:Pos}
end
end Dl
namespace L2
open PySem PySem.Spec PyProof.Rows Builtin
section
variable {X:Cx}
end
end L2
namespace Dl
open PySem L2 PyProof.Rows
section
variable [Gr]
variable {X:Cx}{pos:Pos}{a b e:Expr}{ta tb te:DE}{p1 p2 p3:Pos}
end
end Dl
namespace Wr
open PySem L2 PyProof.Rows Dl
section
variable [Gr] {X:Cx}{pos:Pos}{a b e:Expr}{ta tb te:DE}{p1 p2 p3:Pos}
end
end Wr
namespace L2
open PySem PySem.Spec PyProof.Rows Builtin
section
variable {X:Cx}
end
end L2
namespace Dl
open PySem L2 PyProof.Rows
section
variable [Gr] {X:Cx}{pos p2:Pos}{a b e:Expr}{t:DA}{ta tb te:DE}
end
end Dl
namespace Wr
open PySem L2 PyProof.Rows Dl
section
variable [Gr] {X:Cx}{pos p2:Pos}{a b e:Expr}{t:DA}{ta tb te:DE}
end
end Wr
namespace Dl
open PySem L2 PyProof.Rows
variable [Gr]
section
variable {X:Cx}{st st2:Stmt}{rest:List Stmt}{te1 te2:DE}{tt:DT}{tr:TS}{t:DS}
end
section
variable {X:Cx}{own:List Str}{scope:Scope}{tg iter elt:Expr}{ifs:List Expr}{pos:Pos}{g:DG}{tt:DT}{te:DE}
end
end Dl
namespace Wr
open PySem L2 PyProof.Rows Dl
variable [Gr]
section
variable {X:Cx}{te1 te2:DE}{tt:DT}{tr:TS}{t:DS}
end
end Wr
namespace PySem
open PySem.W PyProof.Rows PySem.Spec
theorem wj:typeLookup (.type "list_reverseiterator") "__len__"=pure none:=by rw [typeLookup_type,ś]; kernel_rfl
theorem Dt:typeLookup (.type "list_reverseiterator") "__length_hint__"=pure (some (.builtin "list_reverseiterator.__length_hint__")):=by rw [typeLookup_type,ś]; kernel_rfl
section
variable {prog:Program}{w:World}{A:Around}{E:Value->Shared->Prop}{s:Shared}{it l:Addr}{items:Array Value}
theorem Av {Q:Bool->Shared->Prop} (hT:s.TypeIs (.ref it) "list_reverseiterator") (h:Q false s):wpAny (model prog w) A (Ņ (.ref it)) Q E s:=by
 unfold Ņ
 refine Á (ż hT wj ?_)
 show wpAny _ _ (specialOf (ü it) (Ģ "__length_hint__") >>= _) _ _ _
 refine Á (ż hT Dt ?_)
 generalize hid:("list_reverseiterator.__length_hint__":String)=nm
 wp_delta
 rw [show splitId nm=some ("list_reverseiterator","__length_hint__") from by subst hid; decide +kernel]
 subst hid
 refine Á (wpAny_isInstance (T:="list_reverseiterator") (b:=true) hT (by rw [isSubtype_type]; kernel_rfl) ?_)
 refine ĺ (fun z=>absurd z (by decide)) (fun _=>?_)
 refine ĺ (fun _=>?_) (fun z=>absurd (by decide +kernel) z)
 refine ĺ (fun z=>absurd z (by decide +kernel)) (fun _=>?_)
 exact Ä h
theorem Ds {Q:Value->Shared->Prop} (hh:A.handled=none) (hne:l≠it) (hit:s.heap.IsRevIter it l ((items.size:Int) - 1)) (hl:s.heap.IsList l items) (hn:items.size<=sizeLine)
  (hQ:∀ h' tk acc c,(∀ b o,b≠it->s.heap.get? b=some o->h'.get? b=some o)->h'.get? s.heap.objs.size=some { cls:=.type "list",dict:=none,data:=.seq acc c,slots:=#[] }->ItemsOf (fun i v=>items[items.size - 1 - i]?=some v) acc items.size->Q (.ref s.heap.objs.size) { s with heap:=h',toks:=tk }) :
  wpAny (model prog w) A (call (.type "list") [.ref it]) Q E s:=by
 obtain⟨oi,ei,_⟩:=id hit
 obtain⟨ol,el,_⟩:=id hl
 have lt:∀ {b:Addr}{o:Obj},s.heap.get? b=some o->s.heap.objs.size≠b:=fun e=>ń (Ë e)
 refine callType_codes (Q₁:=fun obj s₁=>obj=.ref s.heap.objs.size/\s₁={ s with heap:=s.heap.push { cls:=.type "list",data:=.seq #[] } }) F.called_list (F.typeCall_list_1 _) F.entry_list_init (code_list_new _ ⟨rfl,rfl⟩) fun obj s₁ hx=>?_
 obtain⟨rfl,rfl⟩:=hx
 have hS:(s.heap.push { cls:=.type "list",data:=.seq #[] }).get? s.heap.objs.size=some { cls:=.type "list",data:=.seq #[] }:=Ò _ rfl
 refine⟨⟨_,hS,rfl⟩,F.args_list_init_2 _ _,?_⟩
 show wpAny _ _ (Builtin.List.listItems (.ref s.heap.objs.size) >>= fun old=>Builtin.List.listUpdate (.ref s.heap.objs.size) (fun _=>#[]) >>= fun _=>letGo old.toList.reverse >>= fun _=>Ď (.ref s.heap.objs.size) (.ref it) .none) _ _ _
 have old:∀ b o,s.heap.get? b=some o->(s.heap.push { cls:=.type "list",data:=.seq #[] }).get? b=some o:=fun b o e=>Å _ e
 refine Á ?_
 unfold Builtin.List.listItems
 refine Á (ũ hS rfl (Ä ?_))
 refine Á (m:=updateSeq s.heap.objs.size (fun _=>#[])) (Ż hS rfl ?_)
 have hS2:=ù (æ (fun _=>(#[]:Array Value))) hS rfl
 refine Á (wpAny_letGo ?_)
 generalize hg:(s.heap.push { cls:=.type "list",data:=.seq #[] }).update s.heap.objs.size (æ fun _=>(#[]:Array Value))=g at hS2
 have kg:∀ b o,s.heap.get? b=some o->g.get? b=some o:=fun b o e=>by rw [← hg]; exact (õ _ _ (lt e)).trans (old b o e)
 have hit2:g.IsRevIter it l ((items.size:Int) - 1):=hit.at fun o e=>kg _ o e
 have hl2:g.IsList l items:=hl.at fun o e=>kg _ o e
 have hT:({ s with heap:=g }:Shared).TypeIs (.ref it) "list_reverseiterator":=⟨oi,kg _ _ ei,(id hit:_).elim fun o x=>by rw [ei] at x; cases x.1; exact x.2.1⟩
 unfold Ď
 refine Á (wpAny_typeOf hT ?_)
 have q1:Ĳ (.ref s.heap.objs.size) (.ref it)=false:=by simp [Ĳ,lt ei]
 have q2:(ï "list_reverseiterator" == ï "list")=false:=by decide
 have q3:(ï "list_reverseiterator" == ï "tuple")=false:=by decide
 simp only [q1,q2,q3,Bool.or_false,ì,if_false]
 refine Á (wpAny_pyIter_revIter hit2 ?_)
 refine Á (ú (Av hT ?_))
 refine ĺ (fun z=>absurd z (by decide)) (fun _=>?_)
 have W:=Walks.listRev (prog:=prog) (w:=w) (A:=A.in1.in1) hh it l hne items
 have hSf:s.heap.objs.size∉[it,l]:=by simp only [Ù,ê,or_false,not_or]; exact⟨lt ei,lt el⟩
 refine Ä ⟨ž Ľ _,codeAny_extend_loopS (A:=A.in1) W.toS hn s.heap.objs.size hSf .none items.size 0 _ #[] _ rfl (ÿ _) ⟨ÿ _,by simpa using hit2,hl2⟩ hS2 (ItemsOf.nil _) fun s' acc c hm hS' hacc=>?_⟩
 rw [Moved.eq_with hm]
 refine⟨rfl,hQ s'.heap s'.toks acc c (fun b o hb e=>hm.heap b o (fun z=>?_) (kg b o e)) hS' hacc⟩
 rcases Ù.mp z with z | z
 ·exact lt e z.symm
 ·exact hb (Õ.mp z)
end
end PySem
namespace L2
open PySem PySem.Spec PyProof.Rows
section
variable {X:Cx}
def tLR (K:Ý) (ta:TA):TE:=fun σ H Q=>ta σ H fun vs H1=>∃ p xs,vs=[.ref p]/\SqL K H1 p xs/\∀ l,H1 l=none->Q (.ref l) (upd H1 l (.lst xs.reverse))
theorem Bq {its:List Value}{acc:Array Value} (h:ItemsOf (fun i v=>its.toArray[its.toArray.size - 1 - i]?=some v) acc its.toArray.size):acc.toList=its.reverse:=by
 have hs:acc.size=its.length:=by have:=h.1; simpa using this
 refine List.ext_getElem? fun i=>?_
 by_cases hi:i<acc.size
 ·have e:acc.toList[i]?=some acc[i]:=by rw [ĸ]; exact Ă hi
  have q:=h.2 i acc[i] (Ă hi)
  rw [e,List.getElem?_reverse (by omega)]
  simpa using q.symm
 ·rw [Ŕ (by rw [è]; omega),Ŕ (by rw [List.length_reverse]; omega)]
theorem wF {a:Expr}{ta:TA}{p1 p2 pos1 pos2:Pos} (hc:X.calm=true) (hgl:Gl X "list") (hml:X.mg "list"=none) (hgr:Gl X "reversed") (hmr:X.mg "reversed"=none) (ha:PA X [a] ta)
  (e1:starEach [.Call (.Name "reversed" p2) [a] [] pos2] X.env=[(false,eval (.Call (.Name "reversed" p2) [a] [] pos2) X.env)]:=by rfl) (e2:zS X a []:=by rfl) (e3:zP X pos2 []:=by rfl) :
  PE X (.Call (.Name "list" p1) [.Call (.Name "reversed" p2) [a] [] pos2] [] pos1) (tLR X.K ta):=by
 intro pins s σ H Q I h
 refine Ř (dh I hgl hml boot_list ?_)
 refine ā ?_ e1 rfl
 rw [e1]
 refine Calls.spliced_cons ?_
 refine Ř (dh I hgr hmr PyProof.Rows.boot_reversed ?_)
 refine ā (thn (ha pos2 pins s σ H _ I h) fun us s1 ⟨vs,H1,I1,r1,q1⟩=>?_) e2 e3
 obtain⟨p,xs,rfl,hp,k⟩:=q1
 obtain⟨u,rfl,rx⟩:=vals1 r1
 cases rx
 obtain⟨its,rv,pl,hz⟩:=I1.list hp
 refine call_reversed_list pl.isList ?_
 refine Calls.spliced_nil ?_
 have hl1:=rv.length
 have lp:p<s1.heap.objs.size:=by obtain⟨o,e,_⟩:=pl.isList; exact Ë e
 refine Ds (items:=its.toArray) (l:=p) (it:=s1.heap.objs.size) (s:={ s1 with heap:=s1.heap.push (revObj p ((its.toArray.size:Int) - 1)) }) (I1.ok.hd hc) (Ü lp) ⟨_,Ò _ rfl,rfl,rfl⟩ (pl.isList.at fun o e=>Å _ e) (by rw [Î]; omega) fun h' tk acc c hk hS hacc=>?_
 have kept:∀ b o,s1.heap.get? b=some o->h'.get? b=some o:=fun b o e=>hk b o (Ü (Ë e)) (Å _ e)
 have ea:=Bq hacc
 have sz:(s1.heap.push (revObj p ((its.toArray.size:Int) - 1))).objs.size=s1.heap.objs.size+1:=ħ ..
 have hle:s1.heap.objs.size<=(s1.heap.push (revObj p ((its.toArray.size:Int) - 1))).objs.size:=by omega
 refine⟨.ref (s1.heap.push (revObj p ((its.toArray.size:Int) - 1))).objs.size,_,I1.laid (t':=tk) (o:=.lst xs.reverse) kept hle ⟨by rw [List.length_reverse]; omega,its.reverse,c,rv.reverse,?_⟩,rfl,k _ (I1.hok.fresh hle)⟩
 rw [← ea,Array.toArray_toList]
 exact hS
end
end L2
namespace Dl
open PySem L2 PyProof.Rows
section
variable [Gr] {X:Cx}{a:Expr}{t:DA}
def M5:GC:=fun ks P=>match ks with
 | [(k,.list ds)]=>newP k ds.reverse fun k'=>P k' (.list ds.reverse)
 | _=>False
theorem eU {p1 p2 pos1 pos2:Pos} (hc:X.calm=true) (hml:X.mg "list"=none) (hmr:X.mg "reversed"=none) (ha:PDA X [a] t) (hgl:Gl X "list":=by rfl) (hgr:Gl X "reversed":=by rfl)
  (e1:starEach [.Call (.Name "reversed" p2) [a] [] pos2] X.env=[(false,eval (.Call (.Name "reversed" p2) [a] [] pos2) X.env)]:=by rfl) (e2:zS X a []:=by rfl) (e3:zP X pos2 []:=by rfl) :
  PD X (.Call (.Name "list" p1) [.Call (.Name "reversed" p2) [a] [] pos2] [] pos1) (tCl M5 t):=PE.wk (wF hc hgl hml hgr hmr ha e1 e2 e3) (by
 rintro σ H Q ⟨p,H0,own,ρ,P,E,t,q⟩
 refine⟨p,H0,own,ρ,_,E,t,fun ks vs H1 h A r=>?_⟩
 unfold M5 at h
 split at h
 ·rename_i k ds
  obtain⟨v,rfl,r'⟩:=cY r
  obtain⟨x,xs,rfl,o,h1,rs⟩:=r'.bM
  refine⟨x,xs,rfl,SqL.of h1,fun l hl=>?_⟩
  obtain⟨k2,i2,nw⟩:=A.new hl (.lst xs.reverse)
  obtain⟨k',hk',rk'⟩:=eZ A (bR A k2 rs.rev) nw ao h
  exact q _ _ _ _ hk' (A.go k2 i2) rk'
 ·exact h.elim)
end
end Dl
namespace Wr
open PySem L2 PyProof.Rows Dl
section
variable [Gr] {X:Cx}{a:Expr}{t:DA}
theorem eU {p1 p2 pos1 pos2:Pos} (hc:X.calm=true) (hml:X.mg "list"=none) (hmr:X.mg "reversed"=none) (ha:WDA X [a] t) (hgl:Gl X "list":=by rfl) (hgr:Gl X "reversed":=by rfl)
  (e1:starEach [.Call (.Name "reversed" p2) [a] [] pos2] X.env=[(false,eval (.Call (.Name "reversed" p2) [a] [] pos2) X.env)]:=by rfl) (e2:zS X a []:=by rfl) (e3:zP X pos2 []:=by rfl) :
  WD X (.Call (.Name "list" p1) [.Call (.Name "reversed" p2) [a] [] pos2] [] pos1) (tCl M5 t):=⟨Dl.eU hc hml hmr ha.h hgl hgr e1 e2 e3⟩
end
end Wr
namespace L2
open PySem PyProof.Rows
def Asc (xs:Array Nat):Prop:=xs.toList.Pairwise (·<·)
theorem Asc.lt {xs:Array Nat} (h:Asc xs) {i j:Nat} (hi:i<xs.size) (hj:j<xs.size) (e:i<j):xs[i]<xs[j]:=by
 have:=List.pairwise_iff_getElem.mp h i j (by simpa using hi) (by simpa using hj) e
 simpa using this
theorem pI {xs:Array Nat} (h:Asc xs) (j:Nat):∀ (f lo hi:Nat),hi - lo<=f->lo<=hi->hi<=xs.size->(∀ i (q:i<xs.size),i<lo->xs[i]<j)->(∀ i (q:i<xs.size),hi<=i->j<=xs[i]) ->
  SetTable.below.go xs j f lo hi<=xs.size/\(∀ i (q:i<xs.size),i<SetTable.below.go xs j f lo hi->xs[i]<j)/\(∀ i (q:i<xs.size),SetTable.below.go xs j f lo hi<=i->j<=xs[i])
 | 0,lo,hi,h1,h2,h3,a,b=>by
  unfold SetTable.below.go
  exact⟨by omega,a,fun i q z=>b i q (by omega)⟩
 | f+1,lo,hi,h1,h2,h3,a,b=>by
  unfold SetTable.below.go
  by_cases c:lo<hi
  ·have hm:(lo+hi) / 2<xs.size:=by omega
   have e:xs.getD ((lo+hi) / 2) j=xs[(lo+hi) / 2]:=by simp [hm]
   rw [if_pos c]
   dsimp only
   rw [e]
   by_cases d:xs[(lo+hi) / 2]<j
   ·rw [if_pos d]
    refine pI h j f _ _ (by omega) (by omega) h3 (fun i q z=>?_) b
    by_cases k:i=(lo+hi) / 2
    ·subst k; exact d
    ·have:=h.lt q hm (by omega); omega
   ·rw [if_neg d]
    refine pI h j f _ _ (by omega) (by omega) (by omega) a fun i q z=>?_
    by_cases k:i=(lo+hi) / 2
    ·subst k; omega
    ·have:=h.lt hm q (by omega); omega
  ·rw [if_neg c]
   exact⟨by omega,a,fun i q z=>b i q (by omega)⟩
theorem pH {xs:Array Nat} (h:Asc xs) (j:Nat):ę xs j<=xs.size/\(∀ i (q:i<xs.size),i<ę xs j->xs[i]<j)/\(∀ i (q:i<xs.size),ę xs j<=i->j<=xs[i]) :=
 pI h j xs.size 0 xs.size (by omega) (by omega) (by omega) (fun i q z=>by omega) fun i q z=>by omega
theorem xT {xs:Array Nat} (h:Asc xs):ę xs 0=0:=by
 obtain⟨h1,h2,h3⟩:=pH h 0
 by_cases c:ę xs 0=0
 ·exact c
 ·have:=h2 0 (by omega) (by omega); omega
theorem xU {xs:Array Nat} (h:Asc xs) {i:Nat} (hi:i<xs.size):ę xs (xs[i]+1)=i+1:=by
 obtain⟨h1,h2,h3⟩:=pH h (xs[i]+1)
 rcases Nat.lt_trichotomy (ę xs (xs[i]+1)) (i+1) with c | c | c
 ·have:=h3 i hi (by omega); omega
 ·exact c
 ·have q:i+1<xs.size:=by omega
  have:=h2 (i+1) q c
  have:=h.lt hi q (by omega)
  omega
theorem Cr {xs:Array Nat} (h:Asc xs) {j:Nat} (n:xs[ę xs j]?≠some j):Asc (SetTable.insertAt xs (ę xs j) j):=by
 obtain⟨h1,h2,h3⟩:=pH h j
 generalize ę xs j=p at *
 unfold Asc
 rw [SetTable.toList_insertAt]
 have ha:∀ a∈xs.toList.take p,a<j:=fun a ha=>by
  obtain⟨i,hi,rfl⟩:=List.getElem_of_mem ha
  rw [Ī] at hi
  rw [List.getElem_take]
  have:=h2 i (by simp at hi; omega) (by omega)
  simpa using this
 have hb:∀ b∈xs.toList.drop p,j<b:=fun b hb=>by
  obtain⟨i,hi,rfl⟩:=List.getElem_of_mem hb
  rw [List.length_drop] at hi
  rw [List.getElem_drop]
  have q:p+i<xs.size:=by simp at hi; omega
  have k:=h3 (p+i) q (by omega)
  have m:j≠xs[p+i]:=fun e=>by
   by_cases z:i=0
   ·subst z
    exact n (by rw [Ă (by omega)]; simp only [Nat.add_zero] at e; rw [← e])
   ·have:=h.lt (i:=p) (j:=p+i) (by omega) q (by omega)
    have:=h3 p (by omega) (Ï _)
    omega
  have:j<xs[p+i]:=by omega
  simpa using this
 have pw:(xs.toList.take p++xs.toList.drop p).Pairwise (·<·):=by rw [List.take_append_drop]; exact h
 rw [List.pairwise_append] at pw ⊢
 refine⟨pw.1,List.pairwise_cons.mpr ⟨fun b z=>hb b z,pw.2.1⟩,fun a z b y=>?_⟩
 rcases Ù.mp y with rfl | y
 ·exact ha a z
 ·exact pw.2.2 a z b y
structure Good (w:World) (t:SetTable):Prop where
 asc:Asc t.place
 dum:t.dummies=#[]
 led:t.led=!w.params.followText "set-order"
section
variable {w:World}{t:SetTable}
theorem Good.plain (h:Good w t):Good w { t with plain:=false }:=⟨h.asc,h.dum,h.led⟩
theorem Good.stand (h:Good w t) (n:Nat):Good w (t.standIn n):=⟨by
 show Asc (Array.range n)
 unfold Asc
 rw [Array.toList_range]
 exact List.pairwise_lt_range,rfl,h.led⟩
theorem Al {t:SetTable}{j:Nat} (h:t.slot j=.empty):t.place[ę t.place j]?≠some j:=fun e=>by
 unfold SetTable.slot at h
 dsimp only at h
 rw [e] at h
 simp at h
theorem Dg {t:SetTable} (hd:t.dummies=#[]) {j:Nat}:t.slot j≠.dummy:=fun h=>by
 unfold SetTable.slot SetTable.has at h
 rw [hd] at h
 dsimp only at h
 split at h
 ·cases h
 ·simp at h
theorem uO {t:SetTable} (hd:t.dummies=#[]) (f:Nat->Int) (h:Int):∀ (n:Nat) (p:SetTable.Probe) {m:SetTable.Met},p.dummy=none->SetTable.probe.go t f h n p=some m->∀ j d,m=.empty j d->d=none/\t.slot j=.empty
 | 0,p,m,hp,e,j,d,em=>by
  unfold SetTable.probe.go at e
  cases e
 | n+1,p,m,hp,e,j,d,em=>by
  have adv:(t.advance p).dummy=none:=by
   unfold SetTable.advance
   split
   ·exact hp
   ·exact hp
  unfold SetTable.probe.go at e
  cases hs:t.slot p.j with
  | empty =>
   rw [hs] at e
   cases e
   cases em
   exact⟨hp,hs⟩
  | dummy=>exact absurd hs (Dg hd)
  | live i =>
   rw [hs] at e
   dsimp only at e
   by_cases c:(f i == h)=true
   ·rw [if_pos c] at e
    cases e
    cases em
   ·rw [if_neg c] at e
    exact uO hd f h n _ adv e j d em
theorem Good.new (h:Good w t) (es:Array (Int×Value)) (k:Int) (x:Value):Good w (layNew t es k x).2.1:=by
 unfold layNew
 cases e:t.freeSlot k with
 | none=>exact h.stand _
 | some q =>
  obtain⟨j,b⟩:=q
  dsimp only
  have fr:t.place[ę t.place j]?≠some j:=by
   unfold SetTable.freeSlot SetTable.probe at e
   cases e2:SetTable.probe.go t (fun _=>k+1) k (10 * SetTable.turns t.mask) (t.probeStart k) with
   | none=>rw [e2] at e; cases e
   | some m =>
    rw [e2] at e
    cases m with
    | candidate a b c=>cases e
    | empty a d =>
     obtain⟨rfl,hs⟩:=uO h.dum _ _ _ _ rfl e2 a d rfl
     cases e
     exact Al hs
  have g:Good w (t.put j).1:=by
   refine⟨Cr h.asc fr,?_,h.led⟩
   show (if SetTable.has t.dummies j=true then _ else t.dummies)=#[]
   rw [h.dum]
   rfl
  unfold SetTable.orStandIn
  split
  ·exact g
  ·exact g.stand _
theorem Good.Ou (h:Good w t) (es:Array (Int×Value)) (n:Nat):Good w (relayAll t es n).2.1:=by
 unfold relayAll
 cases e:t.relaid (es.map (·.1)) n with
 | none=>exact h.stand _
 | some q =>
  obtain⟨t',o⟩:=q
  dsimp only
  split
  ·unfold SetTable.relaid SetTable.laid at e
   cases ec:SetTable.layClean (SetTable.sizeAbove n - 1) (es.map (·.1)) with
   | none=>rw [ec] at e; cases e
   | some ow =>
    rw [ec] at e
    cases e
    refine⟨?_,rfl,h.led⟩
    show Asc (List.map _ _).toArray
    unfold Asc
    rw [List.toList_toArray,List.map_filterMap]
    refine List.Pairwise.filterMap _ (fun a b hab a' ha b' hb=>?_) List.pairwise_lt_range
    cases ea:ow.getD a none with
    | none=>rw [ea] at ha; cases ha
    | some x =>
     cases eb:ow.getD b none with
     | none=>rw [eb] at hb; cases hb
     | some y =>
      rw [ea] at ha
      rw [eb] at hb
      cases ha
      cases hb
      exact hab
  ·exact h.stand _
end
def cM (P:Program) (w:World) (h:Heap) (a:Addr) (S:Int->Bool) (n:Nat):Prop :=
 ∃ o es ep t,h.get? a=some o/\o.ExactSet/\o.data=.set es ep t/\ElemsOf (intKind P w) es.toList/\(∀ k,S k=true↔∃ e∈es.toList,(intKind P w).is k e.2=true)/\es.size<scanBound/\t.fits es.size=true/\es.size=n/\Good w t
section
variable {P:Program}{w:World}{A:Around}{E:Value->Shared->Prop}{s:Shared}
theorem cM.at {h h':Heap}{a:Addr}{S:Int->Bool}{n:Nat} (x:cM P w h a S n) (k:∀ o,h.get? a=some o->h'.get? a=some o):cM P w h' a S n :=
 let ⟨o,es,ep,t,ho,r⟩:=x; ⟨o,es,ep,t,k o ho,r⟩
theorem cM.put {h:Heap}{a:Addr}{o:Obj}{es:Array (Int×Value)}{ep:Nat}{t:SetTable} (ho:h.get? a=some o) (hx:o.ExactSet) (hd:o.data=.set es ep t) {es':Array (Int×Value)}{t':SetTable}{S:Int->Bool}
  (hel:ElemsOf (intKind P w) es'.toList) (hm:∀ k,S k=true↔∃ e∈es'.toList,(intKind P w).is k e.2=true) (hb:es'.size<scanBound) (hf:t'.fits es'.size=true) (g:Good w t') :
  (h.update a (Obj.putSet es' t')).get? a=some { o with data:=.set es' (ep+1) t' }/\cM P w (h.update a (Obj.putSet es' t')) a S es'.size:=by
 have q:=(SetOf_store (knd:=intKind P w) ho hx hd hel hm hb hf).1
 exact⟨q,_,es',ep+1,t',q,hx,rfl,hel,hm,hb,hf,rfl,g⟩
theorem qb {gv:Bool->Sem Unit} (hg:∀ (b:Bool) (s₁:Shared) (Q':Unit->Shared->Prop),Q' () s₁->wpAny (model P w) A (gv b) Q' E s₁) {a:Addr}{o:Obj}{es:Array (Int×Value)}{ep:Nat}{t:SetTable}
  (ho:s.heap.get? a=some o) (hx:o.ExactSet) (hd:o.data=.set es ep t) {es1:Array (Int×Value)}{t2:SetTable}{S:Int->Bool} (hel:ElemsOf (intKind P w) es1.toList) (hm:∀ k,S k=true↔∃ e∈es1.toList,(intKind P w).is k e.2=true)
  (hb:es1.size<scanBound) (hf:t2.fits es1.size=true) (g:Good w t2) {dm:Bool}{R:Option Bool->Shared->Prop} (q:∀ h',ŏ a s.heap h'->cM P w h' a S es1.size->R (some true) { s with heap:=h' }) :
  wpAny (model P w) A (do
    storeSet a es1 t2
    if (!dm&&t2.tooFull)=true then do
      gv (relayAll t2 es1 (ű es1.size)).2.2
      storeSet a (relayAll t2 es1 (ű es1.size)).1 (relayAll t2 es1 (ű es1.size)).2.1
      pure (some true)
     else pure (some true)) R E s:=by
 refine Á (wpAny_storeSet_of ho hd ?_ (fits_of_scanBound hb))
 obtain⟨o1,S1⟩:=cM.put ho hx hd hel hm hb hf g
 have u1:=ŀ s.heap a (Obj.putSet es1 t2)
 split
 ·have pm:=relayAll_perm t2 es1 (ű es1.size)
  have fr:=relayAll_fits t2 es1 (ű es1.size)
  have gr:=g.Ou es1 (ű es1.size)
  generalize relayAll t2 es1 (ű es1.size)=Z at pm fr gr ⊢
  obtain⟨es2,t3,gave⟩:=Z
  dsimp only at pm fr gr ⊢
  have sz:es2.size=es1.size:=by rw [← è,pm.length_eq,è]
  refine Á (hg _ _ _ (Á (wpAny_storeSet_of o1 rfl ?_ (fits_of_scanBound (sz ▸ hb)))))
  have z:=(cM.put (S:=S) o1 hx rfl (hel.perm pm) (fun k=>(hm k).trans ⟨fun ⟨e,he,y⟩=>⟨e,pm.mem_iff.mpr he,y⟩,fun ⟨e,he,y⟩=>⟨e,pm.mem_iff.mp he,y⟩⟩) (sz ▸ hb) fr gr).2
  rw [sz] at z
  exact Ä (q _ (u1.trans (ŀ _ a _)) z)
 ·exact Ä (q _ u1 S1)
theorem Dm {a:Addr}{S:Int->Bool}{n:Nat}{k:Int}{x:Value}{Q:Bool->Shared->Prop} (hk:(intKind P w).is k x=true) (hsc:x.scannable=true) (hS:cM P w s.heap a S n) (hr:n+1<scanBound)
  (q:∀ h',ŏ a s.heap h'->cM P w h' a (fun j=>S j || decide (j=k)) (if S k then n else n+1)->∀ b,Q b { s with heap:=h' }):wpAny (model P w) A (setAddHashed a x ((intKind P w).hash k)) Q E s:=by
 obtain⟨o,es,ep,t,ho,hx,hd,hel,hm,hb,hf,rfl,g⟩:=hS
 unfold setAddHashed setAddHashedIn
 refine ú (Á (wpAny_setState_of ho hd hf ?_))
 dsimp only
 rw [byScan_of hsc hb hel]
 simp only [↓reduceIte]
 unfold setAddByScan
 refine Á (Á (wpAny_rule (Á (wpAny_setScan_of hk ho hd hf hel ?_))))
 cases hi:List.findIdx? (fun e=>(intKind P w).is k e.2) es.toList with
 | some j =>
  dsimp only
  obtain⟨hj,pj,_⟩:=List.findIdx?_eq_some_iff_getElem.mp hi
  have sk:S k=true:=(hm k).mpr ⟨es.toList[j],ť hj,pj⟩
  have z:=q s.heap (Heap.SameBut.refl a s.heap) ⟨o,es,ep,t,ho,hx,hd,hel,fun j=>by
   rw [Bool.or_eq_true,decide_eq_true_eq,← hm j]
   exact⟨fun y=>y.elim id (fun e=>e ▸ sk),.inl⟩,hb,hf,by rw [sk]; rfl,g⟩
  exact Ä (Ä (z _))
 | none =>
  dsimp only
  have sk:S k=false:=by
   cases c:S k with
   | false=>rfl
   | true =>
    obtain⟨e,he,y⟩:=(hm k).mp c
    have:=List.findIdx?_eq_none_iff.mp hi e he
    rw [y] at this
    cases this
  have pm:=layNew_perm t es ((intKind P w).hash k) x
  have ft:=layNew_fits t es ((intKind P w).hash k) x
  have gn:=g.new es ((intKind P w).hash k) x
  generalize layNew t es ((intKind P w).hash k) x=Z at pm ft gn ⊢
  obtain⟨es1,t1,dm,gave⟩:=Z
  dsimp only at pm ft gn ⊢
  rw [Array.toList_push] at pm
  have sz:es1.size=es.size+1:=by rw [← è,pm.length_eq,È,è]; rfl
  have gw:∀ (b:Bool) (s₁:Shared) (Q':Unit->Shared->Prop),Q' () s₁->wpAny (model P w) A (match b with | true=>rule "set.scan.the-table-gave-way" | false=>pure ()) Q' E s₁:=fun b s₁ Q' y=>by
   cases b
   ·exact Ä y
   ·exact wpAny_rule y
  have fin:∀ h',ŏ a s.heap h'->cM P w h' a (fun j=>S j || decide (j=k)) es1.size->∀ b,Q b { s with heap:=h' }:=fun h' sb z b=>by
   have:=q h' sb
   rw [sk] at this
   rw [sz] at z
   exact this z b
  refine Á (gw _ _ _ ?_)
  split
  ·refine Á ?_
   rw [hashByValue_scannable 8 hsc]
   refine Ä (qb (fun b s₁ Q' y=>gw b s₁ Q' y) ho hx hd ((hel.push hk hsc).perm pm) (mem_push_iff hk hm pm) (by rw [sz]; exact hr) ?_ ?_ ?_)
   ·split
    ·exact ft
    ·exact SetTable.fits_plain_off ft
   ·split
    ·exact gn
    ·exact gn.plain
   ·intro h' sb z
    exact Ä (fin h' sb z _)
  ·refine Á (Ä ?_)
   simp only [↓reduceIte]
   exact qb (fun b s₁ Q' y=>gw b s₁ Q' y) ho hx hd ((hel.push hk hsc).perm pm) (mem_push_iff hk hm pm) (by rw [sz]; exact hr) ft gn fun h' sb z=>Ä (fin h' sb z _)
end
section
variable {P:Program}{w:World}{A:Around}{R:Result->Shared->Prop}{I:Addr}{fp wr:List Addr}{G:Array GenState->Array GenState->Prop}{n:Nat}{W:Nat->Value->Prop}{St:Nat->Shared->Prop}
theorem Am (V:WalksS P w A.in1 I fp wr G n W St) (S:Addr) (hS:S∉fp) (val:Nat->Int) (hv:∀ i v,W i v->∃ t,v=.int (val i) t) (hb:n+1<scanBound):∀ (k i:Nat) (s:Shared),n - i=k->i<=n->St i s ->
   cM P w s.heap S (fun j=>(firstMet val i).any (· == j)) (firstMet val i).length ->
   (∀ s',Moved (S::wr) G s s'->cM P w s'.heap S (fun j=>(firstMet val n).any (· == j)) (firstMet val n).length->R (.ok (.ret .none)) s') ->
   codeAny (model P w) A (.builtin "set.update.loop" ⟨[.ref S,.ref I],[]⟩) R s:=by
 have nw:S∉wr:=fun h=>hS (V.sub _ h)
 have up:∀ b∈wr,b∈S::wr:=fun b z=>Ó _ z
 intro k
 induction k with
 | zero =>
  intro i s hk hi st h q
  obtain rfl:i=n:=by omega
  refine Ļ F.entry_set_update_loop ?_
  rw [Ł F.plain_set_update_loop _]
  refine Á (m:=pyNext (.ref I)) (V.done s _ _ st fun s' m=>?_)
  exact Ä (q s' (m.mono up) (h.at fun o e=>m.heap S _ nw e))
 | succ k ih =>
  intro i s hk hi st h q
  have lt:i<n:=by omega
  refine Ļ F.entry_set_update_loop ?_
  rw [Ł F.plain_set_update_loop _]
  refine Á (m:=pyNext (.ref I)) (V.item i s _ _ lt st fun v s' hw st' m=>?_)
  obtain⟨t,rfl⟩:=hv i v hw
  refine Á (m:=holding [ĩ (val i) t] (setAdd S (.int (val i) t))) (ú ?_)
  unfold setAdd
  refine ú (Á ((intKind P w).pyHash (k:=val i) (intKind_is _ _ _ _) ?_))
  have few:=firstMet_length_le val i
  refine Dm (s:={ s' with toks:=s'.toks+1 }) (intKind_is _ _ _ _) rfl (h.at fun o e=>m.heap S _ nw e) (by omega) fun h' sb z b=>?_
  have z':cM P w h' S (fun j=>(firstMet val (i+1)).any (· == j)) (firstMet val (i+1)).length:=by
   have e1:(fun j=>(firstMet val (i+1)).any (· == j))=fun j=>((firstMet val i).any (· == j) || decide (j=val i)):=funext fun j=>by rw [firstMet_succ,step_any]
   rw [e1,firstMet_succ,step_length]
   exact z
  refine Ä ⟨ž F.plain_set_update_loop _,ih (i+1) _ (by omega) lt (V.frame _ s' _ _ st' (Ķ _) fun c hc o e=>?_) z' fun s'' m'' h''=>?_⟩
  ·rw [sb.2 c (fun y=>hS (y ▸ hc))]
   exact e
  ·refine q s'' (Moved.trans V.gtrans ((m.mono up).then_heap (Ķ _) fun c o hc e=>?_) m'') h''
   rw [sb.2 c (fun y=>hc (by rw [y]; exact Ö))]
   exact e
end
def bO (w:World):Obj:={ cls:=.type "set",dict:=none,data:=.set #[] 0 (.fresh 0 0 (!w.params.followText "set-order")) }
section
variable {P:Program}{w:World}{A:Around}{E:Value->Shared->Prop}{s:Shared}
theorem Dk (a:Value) {Q:Value->Shared->Prop} (h:Q (.ref s.heap.objs.size) { s with heap:=s.heap.push (bO w) }):codeAny (model P w) A (.call (.builtin "set.__new__") ⟨[.type "set",a],[]⟩) (wants Q E) s:=by
 refine codeAny_of_tree ?_
 refine Á (m:=checkBuiltinCall "set.__new__" ⟨[.type "set",a],[]⟩) (wpAny_of_eq (PySem.F.newCall_set_1 a) (Ä ⟨ž PySem.F.plain_set_new _,Ļ PySem.F.entry_set_new ?_⟩))
 rw [Ł PySem.F.plain_set_new _]
 unfold Builtin.«set.__new__» Builtin.Frozenset.newClass
 have sub:=sub_set_self
 obtain⟨hp,g,d,tk,os⟩:=s
 dsimp only
 wp_walk
 refine wpAny_askSetting (Ä ?_)
 dsimp only
 simp only [newObj]
 exact Á (wpAny_alloc (Ä (Ä h)))
set_option maxHeartbeats 3200000 in
theorem Aq {l:Addr}{its:Array Value}{ns:List Int}{Q:Value->Shared->Prop} (hh:A.handled=none) (hl:s.heap.IsList l its) (hi:IntsAre its.toList ns) (hb:its.size+1<scanBound)
  (q:∀ (h':Heap) (tk:Nat),cM P w h' s.heap.objs.size (fun j=>(firstMet (fun i=>ns.getD i 0) its.size).any (· == j)) (firstMet (fun i=>ns.getD i 0) its.size).length ->
   (∀ b o,b<s.heap.objs.size->s.heap.get? b=some o->h'.get? b=some o)->Q (.ref s.heap.objs.size) { s with heap:=h',toks:=tk }):wpAny (model P w) A (call (.type "set") [.ref l]) Q E s:=by
 obtain⟨c,tl,mr⟩:=PySem.F.called_set.mro
 have mk:=PySem.F.called_set.made
 have sb:=PySem.F.called_set.sub
 refine wpAny_call (codeAny_of_tree ?_)
 refine Ä ⟨Code.quiet_builtin _ (by decide +kernel),Ļ PySem.F.entry_type_call ?_⟩
 rw [Around.under_plain (weight_type_call_type "set" [.ref l] []) rfl]
 have n1:=PySem.F.called_set.notType
 have n2:=PySem.F.called_set.canCreate
 have n3:=PySem.F.typeCall_set_1 (.ref l)
 repeat (any_goals (first | assumption | wp_step))
 refine codeAny_mono (Dk (.ref l) (E:=E) (Q:=fun x s₁=>x=.ref s.heap.objs.size/\s₁={ s with heap:=s.heap.push (bO w) }) ⟨rfl,rfl⟩) fun r s₁ hr=>?_
 cases r with
 | error e=>exact hr
 | ok fl =>
  cases fl with
  | ret x =>
   obtain⟨rfl,rfl⟩:=hr
   have hS:(s.heap.push (bO w)).get? s.heap.objs.size=some (bO w):=Ò _ rfl
   have hT:Shared.TypeIs { s with heap:=s.heap.push (bO w) } (.ref s.heap.objs.size) "set":=⟨_,hS,rfl⟩
   have hli:=PySem.F.called_set.init.lookup
   have hbi:=PySem.F.called_set.init.bind (.ref s.heap.objs.size)
   repeat (any_goals (first | assumption | wp_step))
   refine codeAny_mono (codeAny_call_builtin (R:=wants (fun r s₂=>r=.none/\∃ h' tk,s₂={ s with heap:=h',toks:=tk } /\
     cM P w h' s.heap.objs.size (fun j=>(firstMet (fun i=>ns.getD i 0) its.size).any (· == j)) (firstMet (fun i=>ns.getD i 0) its.size).length /\
     (∀ b o,b<s.heap.objs.size->s.heap.get? b=some o->h'.get? b=some o)) E) PySem.F.called_set.init.plain PySem.F.entry_set_init (check_set_init_1 hT ?_)) fun r₂ s₂ hr₂=>?_
   ·obtain⟨ol,hol,hcl,nl,hdl⟩:=hl
    obtain⟨oc,od,ot,os⟩:=ol
    simp only at hcl hdl
    subst hcl; subst hdl
    have hol':(s.heap.push (bO w)).get? l=some { cls:=.type "list",dict:=od,data:=.seq its nl,slots:=os }:=Å _ hol
    have k1:=PySem.F.sub_list_set
    have k2:=PySem.F.sub_list_frozenset
    have k3:(ï "list" == ï "dict")=false:=by decide
    have hl1:(s.heap.push (bO w)).IsList l its:=⟨_,hol',rfl,nl,rfl⟩
    unfold Builtin.«set.__init__» noKeywords Builtin.Frozenset.updateFrom
    generalize hPI:pyIter=PI
    wp_walk
    subst hPI
    refine wpAny_pyIter_list hl1 (Á (wpAny_runValue ?_))
    have lS:l<s.heap.objs.size:=Ë hol
    have hh3:A.in1.in1.in1.handled=none:=by simp [hh]
    have sz:=ħ s.heap (bO w)
    have ne:l≠(s.heap.push (bO w)).objs.size:=by rw [sz]; exact Ü (Ć lS)
    refine Am ((Walks.list hh3 _ l ne its).toS) s.heap.objs.size (by
     simp only [Ù,Õ,ê,or_false,not_or,sz]
     exact⟨Ü (Œ _),ń lS⟩) (fun i=>ns.getD i 0) (fun i v hv=>IntsAre.int_at hi i v (by rw [ĸ]; exact hv)) hb (its.size - 0) 0 _ (by omega) (ÿ _)
     ⟨⟨_,Ò _ rfl,rfl,rfl⟩,(hl1.push _)⟩ ?_ ?_
    ·have hg:((s.heap.push (bO w)).push { cls:=.type "list_iterator",data:=.fields #[.ref l,.int 0 0] }).get? s.heap.objs.size=some (bO w):=Å _ hS
     exact⟨_,#[],0,_,hg,⟨rfl,rfl,rfl⟩,rfl,(fun e he=>nomatch he),(fun j=>⟨(fun z=>by cases z),(fun ⟨e,he,_⟩=>nomatch he)⟩),by decide,rfl,rfl,List.Pairwise.nil,rfl,rfl⟩
    ·intro s' hm hS'
     obtain⟨h',g',d',tk',os'⟩:=s'
     have eg:g'=s.gens:=hm.gens
     have ed:d'=s.drawn:=hm.drawn
     have eo:os'=s.os:=hm.os
     subst eg; subst ed; subst eo
     refine Ä (Ä ⟨rfl,h',tk',rfl,hS',fun b o hb e=>hm.heap b o ?_ (Å _ (Å _ e))⟩)
     simp only [Ù,Õ,ê,or_false,not_or,sz]
     exact⟨Ü hb,Ü (Ć hb)⟩
   ·cases r₂ with
    | error e=>exact hr₂
    | ok fl₂ =>
     cases fl₂ with
     | ret r =>
      obtain⟨rfl,h',tk,rfl,hS',hk'⟩:=hr₂
      repeat (any_goals (first | assumption | wp_step))
      exact q _ _ hS' hk'
     | _=>exact hr₂.elim
  | _=>exact hr.elim
end
theorem aL:Slot "set_iterator" "__next__" "set_iterator.__next__" :=
 .of (owner:="set_iterator") (n:="__next__") (by rw [typeLookup_type,ś]; kernel_rfl) (by decide +kernel) (by decide +kernel) (by decide +kernel) (by first | exact .inl (by decide +kernel) | exact .inr (by decide +kernel)) (by rw [isSubtype_type]; kernel_rfl)
theorem cL:entryFor table "set_iterator.__next__"=some Builtin.«set_iterator.__next__»:=entryFor_of_tree (by kernel_rfl)
theorem Di (n:List Char) (id:String) (h:((id.toList.map fun c=>if c.isAlphanum || c == '_' || c == '.' then c else '_').reverse.span (· != '.'))=(n,'.'::"set_iterator".toList.reverse)):Manifest.signature? id=Manifest.sig_set_iterator.lookup (String.ofList n.reverse) :=
 PySem.signature?_of h (by kernel_rfl)
theorem cT (a:Value):argsOk "set_iterator.__next__" ⟨[a],[]⟩:=by
 unfold argsOk
 rw [Di "__txen__".toList _ (by kernel_rfl)]
 kernel_rfl
theorem tX (a:Value):argsOk "set_iterator.__iter__" ⟨[a],[]⟩:=by
 unfold argsOk
 rw [Di "__reti__".toList _ (by kernel_rfl)]
 kernel_rfl
theorem jj:Slot "set_iterator" "__iter__" "set_iterator.__iter__" :=
 .of (owner:="set_iterator") (n:="__iter__") (by rw [typeLookup_type,ś]; kernel_rfl) (by decide +kernel) (by decide +kernel) (by decide +kernel) (by first | exact .inl (by decide +kernel) | exact .inr (by decide +kernel)) (by rw [isSubtype_type]; kernel_rfl)
theorem sX:entryFor table "set.__iter__"=some Builtin.«frozenset.__iter__» :=
 entryFor_alias (id':="frozenset.__iter__") (by kernel_rfl) rfl (by decide +kernel) (by kernel_rfl)
theorem pR:entryFor table "set_iterator.__iter__"=some Builtin.«dict_keyiterator.__iter__» :=
 entryFor_alias (id':="dict_keyiterator.__iter__") (by kernel_rfl) rfl (by decide +kernel) (by kernel_rfl)
def jf (h:Heap) (I a:Addr) (f:Value) (i n ep:Nat):Prop:=∃ o,h.get? I=some o/\o.cls=.type "set_iterator"/\o.data=.fields #[f,.int i 0,.ref a,.int n 0,.int ep 0]
section
variable {P:Program}{w:World}{A:Around}{E:Value->Shared->Prop}{s:Shared}{I a:Addr}{f:Value}{i n ep:Nat}{o:Obj}{es:Array (Int×Value)}{t:SetTable}
theorem jf.ty (h:jf s.heap I a f i n ep):s.TypeIs (.ref I) "set_iterator":=let ⟨o,ho,hc,_⟩:=h; ⟨o,ho,hc⟩
theorem jf.at {h h':Heap} (x:jf h I a f i n ep) (k:∀ o,h.get? I=some o->h'.get? I=some o):jf h' I a f i n ep:=let ⟨o,ho,r⟩:=x; ⟨o,k o ho,r⟩
theorem yG {Q:Value->Shared->Prop} (hit:jf s.heap I a f i n ep) (h:Q (.ref I) s):wpAny (model P w) A (pyIter (.ref I)) Q E s:=by
 refine wpAny_pyIter_slot hit.ty jj (Ĉ jj hit.ty pR ?_ (tX _))
 exact Ä ⟨_,rfl,"set_iterator",_,hit.ty,aL.lookup,h⟩
theorem yF {Q:Option Value->Shared->Prop} (hh:A.handled=none) (q:∀ h':Heap,(∀ b o,s.heap.get? b=some o->h'.get? b=some o)->Q none { s with heap:=h' }) :
  wpAny (model P w) A.in1 (newExc (.type "StopIteration") [] >>= fun e=>raiseNew (α:=Fin) e) (fun fin s'=>∃ r,fin=.done (.ret r)/\Q (some r) s') (fun e s'=>wpAny (model P w) A (do
   if ← isInstance e (.type "StopIteration") then return none else throw e) Q E s') s:=by
 refine Á ?_
 simp only [newExc,newTuple]
 refine Á (Ė ?_ (by size_fits))
 refine Á (m:=firstArgMember _ _) (wpAny_of_eq (a:=Ě) (by first | rfl | (simp only [firstArgMember]; rfl)) ?_)
 refine Ė ?_ (by size_fits)
 simp only [raiseNew]
 refine Á (wpAny_handled ?_)
 rw [show A.in1.handled=none from hh]
 refine Á (Ä (wpAny_throw ?_))
 refine Á (wpAny_isInstance (T:="StopIteration") (b:=true) ⟨_,Ò _ rfl,rfl⟩ isSubtype_stop ?_)
 exact Ä (q _ fun b o e=>Å _ (Å _ e))
theorem Ia {Q:Option Value->Shared->Prop}{sl nx:Nat}{x:Value} (hit:jf s.heap I a (.int sl 0) i es.size ep) (ho:s.heap.get? a=some o) (hd:o.data=.set es ep t) (hf:t.fits es.size=true)
  (hn:∀ (A:Around) (E:Value->Shared->Prop) (Q:Option (Value×Nat)->Shared->Prop),Q (some (x,nx)) s->wpAny (model P w) A (setNext a sl i ep) Q E s)
  (q:∀ h',jf h' I a (.int nx 0) (i+1) es.size ep->ŏ I s.heap h'->Q (some x) { s with heap:=h' }):wpAny (model P w) A (pyNext (.ref I)) Q E s:=by
 obtain⟨oI,hI,hc,hdI⟩:=id hit
 unfold pyNext
 refine Á (wpAny_attempt (č (name:=Ģ "__next__") hit.ty aL (Ĉ aL hit.ty cL ?_ (cT _))))
 unfold Builtin.«set_iterator.__next__» slotArgs
 simp only [List.isEmpty_nil,Bool.not_true,ì,↓reduceIte,bind_assoc,Ś,bne_self_eq_false]
 refine Á (Ä ?_)
 refine Á (wpAny_fieldsOf hI hdI ?_)
 dsimp only
 refine Á (wpAny_setEntries_of ho hd hf ?_)
 rw [if_neg (by simp)]
 dsimp only [ģ]
 refine Á (hn _ _ _ ?_)
 dsimp only
 refine Á (Ũ hI hdI (by simp) ?_)
 have h2:=ù (Obj.mapFields (·.setIfInBounds 0 (rawInt nx))) hI (Ŵ (Ħ hdI _))
 have d2:=Ħ hdI (·.setIfInBounds 0 (rawInt nx))
 refine Á (Ũ h2 d2 (by simp) (Ä ⟨x,rfl,Ä (q _ ?_ ((ŀ ..).trans (ŀ ..)))⟩))
 refine⟨_,ù _ h2 (Ŵ (Ħ d2 _)),(Obj.cls_mapFields ..).trans ((Obj.cls_mapFields ..).trans hc),?_⟩
 rw [Ħ d2]
 simp [rawInt]
theorem KQ {Q:Option Value->Shared->Prop}{sl:Nat} (hh:A.handled=none) (hit:jf s.heap I a (.int sl 0) i es.size ep) (ho:s.heap.get? a=some o) (hd:o.data=.set es ep t) (hf:t.fits es.size=true)
  (hn:∀ (A:Around) (E:Value->Shared->Prop) (Q:Option (Value×Nat)->Shared->Prop),Q none s->wpAny (model P w) A (setNext a sl i ep) Q E s)
  (q:∀ h',(∀ b o,b≠I->s.heap.get? b=some o->h'.get? b=some o)->Q none { s with heap:=h' }):wpAny (model P w) A (pyNext (.ref I)) Q E s:=by
 obtain⟨oI,hI,hc,hdI⟩:=id hit
 unfold pyNext
 refine Á (wpAny_attempt (č (name:=Ģ "__next__") hit.ty aL (Ĉ aL hit.ty cL ?_ (cT _))))
 unfold Builtin.«set_iterator.__next__» slotArgs
 simp only [List.isEmpty_nil,Bool.not_true,ì,↓reduceIte,bind_assoc,Ś,bne_self_eq_false]
 refine Á (Ä ?_)
 refine Á (wpAny_fieldsOf hI hdI ?_)
 dsimp only
 refine Á (wpAny_setEntries_of ho hd hf ?_)
 rw [if_neg (by simp)]
 dsimp only [ģ]
 refine Á (hn _ _ _ ?_)
 dsimp only
 refine Á (Ũ hI hdI (by simp) (ĭ (yF (Q:=Q) (E:=E) hh fun h' k=>q h' fun b o hb e=>k b o ?_) (fun fin s' ⟨r,e,z⟩=>⟨r,e,Ä z⟩) fun e s' z=>z))
 exact (õ _ _ (ċ hb)).trans e
theorem Ib {Q:Option Value->Shared->Prop}{T:Addr}{oT:Obj}{ps:Array Value}{c:Nat}{p:Nat}{e:Int×Value} (hit:jf s.heap I a (.ref T) i es.size ep) (ho:s.heap.get? a=some o) (hd:o.data=.set es ep t) (hf:t.fits es.size=true)
  (hT:s.heap.get? T=some oT) (hdT:oT.data=.seq ps c) (hp:ps[i]?=some (.int p 0)) (hx:es[p]?=some e)
  (q:∀ h',jf h' I a (.ref T) (i+1) es.size ep->ŏ I s.heap h'->Q (some e.2) { s with heap:=h' }):wpAny (model P w) A (pyNext (.ref I)) Q E s:=by
 obtain⟨oI,hI,hc,hdI⟩:=id hit
 unfold pyNext
 refine Á (wpAny_attempt (č (name:=Ģ "__next__") hit.ty aL (Ĉ aL hit.ty cL ?_ (cT _))))
 unfold Builtin.«set_iterator.__next__» slotArgs
 simp only [List.isEmpty_nil,Bool.not_true,ì,↓reduceIte,bind_assoc,Ś,bne_self_eq_false]
 refine Á (Ä ?_)
 refine Á (wpAny_fieldsOf hI hdI ?_)
 dsimp only
 refine Á (wpAny_setEntries_of ho hd hf ?_)
 rw [if_neg (by simp)]
 refine Á (ũ hT hdT ?_)
 dsimp only [ģ]
 rw [hp]
 dsimp only [ģ]
 refine Á ?_
 unfold setNextDrawn
 refine Á (wpAny_setState_of ho hd hf ?_)
 dsimp only
 simp only [bne_self_eq_false,ì,↓reduceIte]
 rw [hx]
 refine Ä ?_
 refine Á (Ũ hI hdI (by simp) (Ä ⟨e.2,rfl,Ä (q _ ?_ (ŀ ..))⟩))
 refine⟨_,ù _ hI (Ŵ (Ħ hdI _)),(Obj.cls_mapFields ..).trans hc,?_⟩
 rw [Ħ hdI]
 simp [rawInt]
theorem KY {Q:Option Value->Shared->Prop}{T:Addr}{oT:Obj}{ps:Array Value}{c:Nat} (hh:A.handled=none) (hit:jf s.heap I a (.ref T) i es.size ep) (ho:s.heap.get? a=some o) (hd:o.data=.set es ep t) (hf:t.fits es.size=true)
  (hT:s.heap.get? T=some oT) (hdT:oT.data=.seq ps c) (hp:ps[i]?=none)
  (q:∀ h',(∀ b o,b≠I->s.heap.get? b=some o->h'.get? b=some o)->Q none { s with heap:=h' }):wpAny (model P w) A (pyNext (.ref I)) Q E s:=by
 obtain⟨oI,hI,hc,hdI⟩:=id hit
 unfold pyNext
 refine Á (wpAny_attempt (č (name:=Ģ "__next__") hit.ty aL (Ĉ aL hit.ty cL ?_ (cT _))))
 unfold Builtin.«set_iterator.__next__» slotArgs
 simp only [List.isEmpty_nil,Bool.not_true,ì,↓reduceIte,bind_assoc,Ś,bne_self_eq_false]
 refine Á (Ä ?_)
 refine Á (wpAny_fieldsOf hI hdI ?_)
 dsimp only
 refine Á (wpAny_setEntries_of ho hd hf ?_)
 rw [if_neg (by simp)]
 refine Á (ũ hT hdT ?_)
 dsimp only [ģ]
 rw [hp]
 dsimp only
 refine Á (Ũ hI hdI (by simp) ?_)
 have h2:=ù (Obj.mapFields (·.setIfInBounds 0 (rawInt 0))) hI (Ŵ (Ħ hdI _))
 have d2:=Ħ hdI (·.setIfInBounds 0 (rawInt 0))
 refine Á (Ũ h2 d2 (by simp) (ĭ (yF (Q:=Q) (E:=E) hh fun h' k=>q h' fun b o hb e=>k b o ?_) (fun fin s' ⟨r,e,z⟩=>⟨r,e,Ä z⟩) fun e s' z=>z))
 exact (õ _ _ (ċ hb)).trans ((õ _ _ (ċ hb)).trans e)
end
theorem sW {α:Type}:∀ {l:List α}{i:Nat} (h:i<l.length),(l[i]::l.eraseIdx i).Perm l
 | x::l,0,_=>List.Perm.refl _
 | x::l,i+1,h=>(List.Perm.swap x (l[i]'(Nat.lt_of_succ_lt_succ h)) (l.eraseIdx i)).trans ((sW (Nat.lt_of_succ_lt_succ h)).cons x)
theorem yQ {α:Type} (nx:Nat->Nat):∀ (n k:Nat) (l:List α) (out:Array α),l.length=n->(pickOrder.go nx n k l out).toList.Perm (out.toList++l)
 | 0,k,l,out,h=>by
  have e:l=[]:=ņ h
  subst e
  unfold pickOrder.go
  rw [Ĵ]
 | n+1,k,l,out,h=>by
  have hp:0<l.length:=by omega
  have hm:=Nat.mod_lt (nx k) hp
  unfold pickOrder.go
  rw [Í hm]
  dsimp only
  refine (yQ nx n (k+1) _ _ (by rw [List.length_eraseIdx]; split <;> omega)).trans ?_
  rw [Array.toList_push,ŝ]
  exact List.Perm.append_left _ (sW hm)
theorem Ay {α:Type} (nx:Nat->Nat) (xs:Array α):(pickOrder nx xs).toList.Perm xs.toList:=yQ nx xs.size 0 xs.toList #[] (by simp)
section
variable {P:Program}{w:World}{A:Around}{E:Value->Shared->Prop}{s:Shared}
theorem vO {src:Source}{n:Nat}{Q:Nat->Shared->Prop} (hn:n≠0) (h:∀ i d,i<n->Q i { s with drawn:=d }):wpAny (model P w) A (choose src n) Q E s :=
 fun Γ p _=>⟨hn,h _ _ (Nat.mod_lt _ (Nat.pos_of_ne_zero hn))⟩
theorem qF {α:Type}:∀ (n:Nat) (xs:List α) (s:Shared) {Q:List α->Shared->Prop},xs.length=n->(∀ l d,l.Perm xs->Q l { s with drawn:=d })->wpAny (model P w) A (drawOrder n xs) Q E s
 | 0,xs,s,Q,h,q=>by
  have e:xs=[]:=ņ h
  subst e
  unfold drawOrder
  exact Ä (q [] s.drawn (List.Perm.refl _))
 | n+1,xs,s,Q,h,q=>by
  cases xs with
  | nil=>cases h
  | cons y ys =>
   unfold drawOrder
   refine Á (vO (by rw [h]; omega) fun i d hi=>?_)
   rw [Í hi]
   dsimp only
   refine Á (qF n _ _ (by rw [List.length_eraseIdx]; split <;> omega) fun l d' hp=>?_)
   exact Ä (q _ d' ((hp.cons _).trans (sW hi)))
variable {a:Addr}{i ep:Nat}{o:Obj}{es:Array (Int×Value)}{t:SetTable}
theorem yx (ho:s.heap.get? a=some o) (hd:o.data=.set es ep t) (hf:t.fits es.size=true) (hw:w.params.followText "set-order"=true) {sl:Nat}{Q:Option (Value×Nat)->Shared->Prop} (q:Q (((pickOrder (w.params.setOrder a ep) es)[i]?).map fun e=>(e.2,sl)) s) :
  wpAny (model P w) A (setNext a sl i ep) Q E s:=by
 unfold setNext setsByText
 refine Á (wpAny_setState_of ho hd hf ?_)
 dsimp only
 refine Á (Á (wpAny_askSetting (Ä ?_)))
 rw [if_pos (show (model P w).w.params.followText "set-order"=true from hw)]
 simp only [bne_self_eq_false,ì,↓reduceIte]
 unfold setWalk setsByText
 refine Á (Á (wpAny_setState_of ho hd hf ?_))
 dsimp only
 refine Á (Á (wpAny_askSetting (Ä ?_)))
 rw [if_pos (show (model P w).w.params.followText "set-order"=true from hw)]
 refine Á (wpAny_askSetting (Ä (Ä ?_)))
 exact q
theorem yC (ho:s.heap.get? a=some o) (hd:o.data=.set es ep t) (hf:t.fits es.size=true) (hw:w.params.followText "set-order"=false) (np:(!t.plain&&decide (es.size > 1))=false) (g:Good w t) {sl:Nat}{Q:Option (Value×Nat)->Shared->Prop}
  (q:Q (match es[ę t.place sl]?,t.place[ę t.place sl]? with | some (_,x),some j=>some (x,j+1) | _,_=>none) s):wpAny (model P w) A (setNext a sl i ep) Q E s:=by
 unfold setNext setsByText
 refine Á (wpAny_setState_of ho hd hf ?_)
 dsimp only
 refine Á (Á (wpAny_askSetting (Ä ?_)))
 rw [if_neg (show ¬ (model P w).w.params.followText "set-order"=true from fun z=>by
  have z:w.params.followText "set-order"=true:=z
  rw [hw] at z
  cases z)]
 refine ĺ (fun z=>?_) fun _=>?_
 ·have z:(!t.plain&&decide (es.size > 1))=true:=z
  rw [np] at z
  cases z
 ·have gl:t.led=true:=by rw [g.led,hw]; rfl
  refine Á ?_
  refine ĺ (fun z=>?_) fun _=>Ä (Ä q)
  have z:(!t.led&&!es.isEmpty)=true:=z
  rw [gl] at z
  cases z
end
section
variable {P:Program}{w:World}{A:Around}{E:Value->Shared->Prop}{s:Shared}{I a:Addr}{ep:Nat}{o:Obj}{es:Array (Int×Value)}{t:SetTable}
theorem fu:∀ {l:List (Int×Value)},ElemsOf (intKind P w) l->∃ ns,IntsAre (l.map (·.2)) ns/\ns.length=l.length/\∀ k,(∃ e∈l,(intKind P w).is k e.2=true)↔k∈ns
 | [],_=>⟨[],.nil,rfl,fun k=>⟨(fun ⟨e,he,_⟩=>nomatch he),(fun h=>nomatch h)⟩⟩
 | e::l,h=>by
  obtain⟨⟨k0,hk,_⟩,_⟩:=h.head
  obtain⟨c,hc⟩:=Value.isInt_shape hk
  obtain⟨ns,a1,a2,a3⟩:=fu h.tail
  refine⟨k0::ns,?_,by rw [í,a2]; rfl,fun k=>?_⟩
  ·show IntsAre (e.2::l.map (·.2)) _
   rw [hc]
   exact .cons _ _ a1
  ·rw [Ù,← a3 k]
   constructor
   ·rintro ⟨x,hx,y⟩
    rcases Ù.mp hx with rfl | hx
    ·exact .inl ((intKind P w).inj _ _ _ y hk)
    ·exact .inr ⟨x,hx,y⟩
   ·rintro (rfl | ⟨x,hx,y⟩)
    ·exact⟨e,Ö,hk⟩
    ·exact⟨x,Ó _ hx,y⟩
theorem pY {sl:Nat->Nat}{vs:List Value} (hh:A.handled=none) (ne:a≠I) (hd:o.data=.set es ep t) (hf:t.fits es.size=true) (hl:vs.length=es.size)
  (hi:∀ (i:Nat) (v:Value) (s:Shared),vs[i]?=some v->s.heap.get? a=some o->∀ (A:Around) (E:Value->Shared->Prop) (Q:Option (Value×Nat)->Shared->Prop),Q (some (v,sl (i+1))) s->wpAny (model P w) A (setNext a (sl i) i ep) Q E s)
  (he:∀ s:Shared,s.heap.get? a=some o->∀ (A:Around) (E:Value->Shared->Prop) (Q:Option (Value×Nat)->Shared->Prop),Q none s->wpAny (model P w) A (setNext a (sl es.size) es.size ep) Q E s) :
  Walks P w A I [I,a] [I] es.size (fun i v=>vs[i]?=some v) (fun i h=>jf h I a (.int (sl i) 0) i es.size ep/\h.get? a=some o) where
 sub:=fun b hb=>by simp at hb; simp [hb]
 frame:=fun _ _ _ st hk=>⟨st.1.at fun o e=>hk I (by simp) o e,hk a (by simp) _ st.2⟩
 item:=fun i s Q E h st q=>by
  have hv:vs[i]?=some (vs[i]'(by omega)):=Í _
  refine Ia st.1 st.2 hd hf (hi i _ s hv st.2) fun h' hs sb=>q _ h' s.toks hv ⟨hs,?_⟩ fun b o hb e=>?_
  ·rw [sb.2 a ne]; exact st.2
  ·rw [sb.2 b fun z=>hb (by simp [z])]; exact e
 done:=fun s Q E st q=>KQ hh st.1 st.2 hd hf (he s st.2) fun h' k=>q h' s.toks fun b o hb e=>k b o (fun z=>hb (by simp [z])) e
 self:=fun _ _ _ _ st q=>yG st.1 q
theorem ug {T:Addr}{oT:Obj}{ps:List Nat}{c:Nat} (hh:A.handled=none) (ne:a≠I) (nT:T≠I) (hd:o.data=.set es ep t) (hf:t.fits es.size=true) (hdT:oT.data=.seq (ps.map fun p:Nat=>(ĩ p 0)).toArray c) (hp:ps.Perm (ý es.size)) :
  Walks P w A I [I,a,T] [I] es.size (fun i v=>(ps.filterMap fun p=>es[p]?.map (·.2))[i]?=some v) (fun i h=>jf h I a (.ref T) i es.size ep/\h.get? a=some o/\h.get? T=some oT) where
 sub:=fun b hb=>by simp at hb; simp [hb]
 frame:=fun _ _ _ st hk=>⟨st.1.at fun o e=>hk I (by simp) o e,hk a (by simp) _ st.2.1,hk T (by simp) _ st.2.2⟩
 item:=fun i s Q E h st q=>by
  have lp:=hp.length_eq
  rw [ð] at lp
  have hi:i<ps.length:=by omega
  have lt:ps[i]<es.size:=List.mem_range.mp (hp.mem_iff.mp (ť hi))
  have all:∀ p∈ps,es[p]?.map (·.2)=some ((es.getD p (0,.none)).2):=fun p z=>by
   have:p<es.size:=List.mem_range.mp (hp.mem_iff.mp z)
   rw [Ă this]
   simp [this]
  have fm:∀ l:List Nat,(∀ p∈l,es[p]?.map (·.2)=some ((es.getD p (0,.none)).2))->l.filterMap (fun p=>es[p]?.map (·.2))=l.map fun p=>(es.getD p (0,.none)).2:=fun l=>by
   induction l with
   | nil=>intro _; rfl
   | cons p l ih =>
    intro z
    rw [List.filterMap_cons,z p Ö]
    show _::_=_
    rw [ih fun p y=>z p (Ó _ y)]
    rfl
  have hx:es[ps[i]]?=some es[ps[i]]:=Ă lt
  refine Ib st.1 st.2.1 hd hf st.2.2 hdT (p:=ps[i]) (e:=es[ps[i]]) (by simp [hi]) hx fun h' hs sb=>q _ h' s.toks ?_ ⟨hs,?_,?_⟩ fun b o hb e=>?_
  ·rw [fm ps all,Ø,Í hi]
   simp [lt]
  ·rw [sb.2 a ne]; exact st.2.1
  ·rw [sb.2 T nT]; exact st.2.2
  ·rw [sb.2 b fun z=>hb (by simp [z])]; exact e
 done:=fun s Q E st q=>by
  have lp:=hp.length_eq
  rw [ð] at lp
  exact KY hh st.1 st.2.1 hd hf st.2.2 hdT (by simp [lp]) fun h' k=>q h' s.toks fun b o hb e=>k b o (fun z=>hb (by simp [z])) e
 self:=fun _ _ _ _ st q=>yG st.1 q
theorem Ao {S:Int->Bool}{n:Nat} (hS:cM P w s.heap a S n) (hh:A.handled=none) {Q:Value->Shared->Prop}
  (q:∀ (h1:Heap) (d1:_) (I:Addr) (fp:List Addr) (vs:List Value) (ns:List Int) (St:Nat->Heap->Prop),s.heap.objs.size<=I->(∀ b∈fp,b=a\/s.heap.objs.size<=b)->(∀ b o,s.heap.get? b=some o->h1.get? b=some o)->Walks P w A I fp [I] n (fun i v=>vs[i]?=some v) St->St 0 h1->IntsAre vs ns->ns.length=n->(∀ k,S k=true↔k∈ns)->Q (.ref I) { s with heap:=h1,drawn:=d1 }) :
  wpAny (model P w) A (pyIter (.ref a)) Q E s:=by
 obtain⟨o,es,ep,t,ho,hx,hd,hel,hm,hb,hf,rfl,g⟩:=hS
 have hT:s.TypeIs (.ref a) "set":=⟨o,ho,hx.1⟩
 have la:=Ë ho
 have fits:=hf
 simp only [SetTable.fits,à,beq_iff_eq] at fits
 refine wpAny_pyIter_slot hT PySem.F.slot_set_iter (Ĉ PySem.F.slot_set_iter hT sX ?_ (PySem.F.args_set_iter_1 _))
 unfold Builtin.«frozenset.__iter__» Builtin.Frozenset.slot0 slotArgs
 simp only [List.isEmpty_nil,Bool.not_true,ì,↓reduceIte,bind_assoc,Ś,bne_self_eq_false]
 unfold Builtin.Frozenset.addrOf Builtin.Frozenset.sizeOf setDrawn setsByText
 refine Á (Ä ?_)
 try dsimp only
 refine Á (Ä ?_)
 refine Á (Á (wpAny_setEntries_of ho hd hf (Ä ?_)))
 refine Á (Á (wpAny_setState_of ho hd hf ?_))
 dsimp only
 refine Á (Á (wpAny_askSetting (Ä (Ä ?_))))
 refine ĺ (fun z=>?_) fun z=>?_
 ·have z:(!w.params.followText "set-order"&&(!t.plain&&decide (es.size > 1)))=true:=z
  refine Á (qF es.size _ s (ð) fun ps d hp=>?_)
  simp only [newTuple]
  refine Á (Ė ?_ (show (List.map (fun i:Nat=>rawInt i) ps).toArray.size<=sizeLine by rw [Î,Â,hp.length_eq,ð]; exact fits_of_scanBound hb))
  refine Á (wpAny_setEpoch_of (Å _ ho) hd hf ?_)
  refine Á (Ė (Ä ⟨_,rfl,"set_iterator",_,⟨_,Ò _ rfl,rfl⟩,aL.lookup,?_⟩))
  have sz:=ħ s.heap { cls:=.type "tuple",data:=.seq (ps.map fun i:Nat=>rawInt i).toArray }
  have pm:(ps.filterMap fun p=>es[p]?).Perm es.toList:=by
   have:=hp.filterMap fun p=>es[p]?
   rwa [filterMap_getElem?_range] at this
  obtain⟨ns,a1,a2,a3⟩:=fu (hel.perm pm)
  rw [List.map_filterMap] at a1
  have lT:=Œ s.heap.objs.size
  refine q _ d _ [_,a,s.heap.objs.size] _ ns _ (by rw [sz]; exact Ķ _) (fun b hb=>?_) (fun b o e=>Å _ (Å _ e)) (ug (oT:={ cls:=.type "tuple",data:=.seq (ps.map fun i:Nat=>rawInt i).toArray }) hh (by rw [sz]; exact Ü (Ć la)) (by rw [sz]; exact Ü lT) hd hf rfl hp)
   ⟨⟨_,Ò _ rfl,rfl,rfl⟩,Å _ (Å _ ho),Å _ (Ò _ rfl)⟩ a1 (a2.trans (by rw [pm.length_eq,è])) fun k=>?_
  ·simp only [Ù,ê,or_false] at hb
   rcases hb with rfl | rfl | rfl
   ·exact .inr (by rw [sz]; exact Ķ _)
   ·exact .inl rfl
   ·exact .inr (Ï _)
  ·rw [hm k,← a3 k]
   exact⟨fun ⟨e,he,y⟩=>⟨e,pm.mem_iff.mpr he,y⟩,fun ⟨e,he,y⟩=>⟨e,pm.mem_iff.mp he,y⟩⟩
 ·have z:¬ (!w.params.followText "set-order"&&(!t.plain&&decide (es.size > 1)))=true:=z
  refine Á (Ä ?_)
  refine Á (wpAny_setEpoch_of ho hd hf ?_)
  refine Á (Ė (Ä ⟨_,rfl,"set_iterator",_,⟨_,Ò _ rfl,rfl⟩,aL.lookup,?_⟩))
  have ne:a≠s.heap.objs.size:=Ü la
  have st0:∀ sl:Nat->Nat,sl 0=0->jf (s.heap.push { cls:=.type "set_iterator",data:=.fields [rawInt 0,rawInt 0,ü a,rawInt es.size,rawInt ep].toArray }) s.heap.objs.size a (.int (sl 0) 0) 0 es.size ep/\(s.heap.push { cls:=.type "set_iterator",data:=.fields [rawInt 0,rawInt 0,ü a,rawInt es.size,rawInt ep].toArray }).get? a=some o:=fun sl e=>by
   rw [e]
   exact⟨⟨_,Ò _ rfl,rfl,rfl⟩,Å _ ho⟩
  have two:∀ b∈[s.heap.objs.size,a],b=a\/s.heap.objs.size<=b:=fun b hb=>by
   simp only [Ù,ê,or_false] at hb
   rcases hb with rfl | rfl
   ·exact .inr (Ï _)
   ·exact .inl rfl
  by_cases hw:w.params.followText "set-order"=true
  ·have pm:=Ay (w.params.setOrder a ep) es
   have pl:(pickOrder (w.params.setOrder a ep) es).toList.length=es.size:=by rw [pm.length_eq,è]
   obtain⟨ns,a1,a2,a3⟩:=fu (hel.perm pm)
   refine q _ s.drawn s.heap.objs.size [s.heap.objs.size,a] ((pickOrder (w.params.setOrder a ep) es).toList.map (·.2)) ns _ (Ï _) two (fun b o e=>Å _ e) (pY (sl:=fun _=>0) hh ne hd hf (by rw [Â,pl]) (fun i v s hv ho A E Q q=>yx ho hd hf hw ?_) (fun s ho A E Q q=>yx ho hd hf hw ?_)) (st0 (fun _=>0) rfl) a1 (a2.trans pl) fun k=>?_
   ·rw [Ø,ĸ] at hv
    cases e:(pickOrder (w.params.setOrder a ep) es)[i]? with
    | none=>rw [e] at hv; cases hv
    | some x=>rw [e] at hv; cases hv; exact q
   ·rw [Array.getElem?_eq_none (by rw [← è,pl]; exact Ï _)]
    exact q
   ·rw [hm k,← a3 k]
    exact⟨fun ⟨e,he,y⟩=>⟨e,pm.mem_iff.mpr he,y⟩,fun ⟨e,he,y⟩=>⟨e,pm.mem_iff.mp he,y⟩⟩
  ·have hw:w.params.followText "set-order"=false:=by simpa using hw
   have np:(!t.plain&&decide (es.size > 1))=false:=by
    rw [hw] at z
    simpa using z
   obtain⟨ns,a1,a2,a3⟩:=fu hel
   have bl:∀ i,i<=es.size->ę t.place (if i=0 then 0 else t.place.getD (i - 1) 0+1)=i:=fun i hi=>by
    by_cases c:i=0
    ·rw [if_pos c,xT g.asc,c]
    ·rw [if_neg c]
     have h1:i - 1<t.place.size:=by omega
     have e:t.place.getD (i - 1) 0=t.place[i - 1]:=by simp [h1]
     rw [e,xU g.asc h1]
     omega
   refine q _ s.drawn s.heap.objs.size [s.heap.objs.size,a] (es.toList.map (·.2)) ns _ (Ï _) two (fun b o e=>Å _ e) (pY (sl:=fun i=>if i=0 then 0 else t.place.getD (i - 1) 0+1) hh ne hd hf (by simp) (fun i v s hv ho A E Q q=>yC ho hd hf hw np g ?_) (fun s ho A E Q q=>yC ho hd hf hw np g ?_)) (st0 (fun i=>if i=0 then 0 else t.place.getD (i - 1) 0+1) rfl) a1 (by simpa using a2) fun k=>(hm k).trans (a3 k)
   ·have hi:i<es.size:=by
     have:=(É.mp hv).1
     simpa using this
    have h1:i<t.place.size:=by omega
    rw [bl i (by omega),Ă hi,Ă h1]
    have ev:v=es[i].2:=by
     rw [Ø,ĸ,Ă hi] at hv
     cases hv
     rfl
    subst ev
    have e2:t.place.getD (i+1 - 1) 0=t.place[i]:=by simp [h1]
    rw [if_neg (by omega),e2] at q
    exact q
   ·rw [bl es.size (by omega),Array.getElem?_eq_none (Ï _)]
    exact q
end
end L2
namespace L2
open PySem PySem.Spec PyProof.Rows
section
variable {P:Program}{w:World}{A:Around}{E:Value->Shared->Prop}{s:Shared}{a:Addr}{S:Int->Bool}{n:Nat}
theorem cM.ty (h:cM P w s.heap a S n):s.TypeIs (.ref a) "set":=let ⟨o,_,_,_,ho,hx,_⟩:=h; ⟨o,ho,hx.1⟩
theorem cM.lt {h:Heap} (x:cM P w h a S n):a<h.objs.size:=let ⟨_,_,_,_,ho,_⟩:=x; Ë ho
theorem Gi {Q:Bool->Shared->Prop} (hT:s.TypeIs (.ref a) "set") (h:Q false s):wpAny (model P w) A (Ņ (.ref a)) Q E s:=by
 unfold Ņ
 refine Á (ż hT PySem.F.slot_set_len.lookup ?_)
 generalize hid:("set.__len__":String)=d0
 wp_delta
 rw [show splitId d0=some ("set","__len__") from by subst hid; decide +kernel]
 subst hid
 refine Á (wpAny_isInstance (T:="set") (b:=true) hT sub_set_self ?_)
 refine ĺ (fun z=>absurd z (by decide)) (fun _=>?_)
 refine ĺ (fun _=>?_) (fun z=>absurd (by decide +kernel) z)
 exact Á (wpAny_typeOf hT (Ä h))
theorem JC {R:Result->Shared->Prop} (hS:cM P w s.heap a S n) (hh:A.handled=none) (D:Addr) (hD:D≠a) (res:Value) (c0:Nat) (hl:s.heap.get? D=some { cls:=.type "list",data:=.seq #[] c0 }) (hn:n<=sizeLine)
  (q:∀ (h':Heap) (d:_) (tk:Nat) (acc:Array Value) (c:Nat) (vs:List Value) (ns:List Int),(∀ b o,b≠D->s.heap.get? b=some o->h'.get? b=some o)->h'.get? D=some { cls:=.type "list",dict:=none,data:=.seq acc c,slots:=#[] }->ItemsOf (fun i v=>vs[i]?=some v) acc n->IntsAre vs ns->ns.length=n->(∀ k,S k=true↔k∈ns)->R (.ok (.ret res)) { s with heap:=h',drawn:=d,toks:=tk }) :
  wpAny (model P w) A.in1 (Ď (.ref D) (.ref a) res) (fun fin s'=>match fin with | .done f=>R (.ok f) s' | .again c'=>c'.quiet=true/\codeAny (model P w) A c' R s') (fun e s'=>R (.error e) s') s:=by
 have lD:=Ë hl
 unfold Ď
 refine Á (wpAny_typeOf (T:="set") hS.ty ?_)
 have h1:Ĳ (.ref D) (.ref a)=false:=by simp [Ĳ,hD]
 simp only [h1,show (ï "set" == ï "list")=false by decide,show (ï "set" == ï "tuple")=false by decide,Bool.or_false,ì,if_false]
 refine Á (Ao (A:=A.in1) hS hh fun h1 d1 I fp vs ns St hI hf hk W st a1 a2 a3=>?_)
 have nf:D∉fp:=fun z=>(hf D z).elim hD fun y=>ą _ (â lD y)
 have lp:∀ (h:Heap) (c1 tk:Nat),St 0 h->(∀ b o,b≠D->s.heap.get? b=some o->h.get? b=some o)->h.get? D=some { cls:=.type "list",data:=.seq #[] c1 }->codeAny (model P w) A (.builtin "list.extend.loop" ⟨[.ref D,.ref I,res],[]⟩) R { s with heap:=h,drawn:=d1,toks:=tk }:=by
  intro h c1 tk st kp hD1
  refine codeAny_extend_loopS W.toS hn D nf res n 0 _ #[] c1 rfl (ÿ _) st hD1 (ItemsOf.nil _) fun s' acc c m hS' ha=>?_
  rw [Moved.eq_with m]
  refine q s'.heap d1 s'.toks acc c vs ns (fun b o hb e=>m.heap b o (fun z=>?_) (kp b o hb e)) hS' ha a1 a2 a3
  rcases Ù.mp z with y | y
  ·exact hb y
  ·rw [Õ.mp y] at e
   exact absurd (Ë e) (Nat.not_lt.mpr hI)
 have hS1:=hS.at (h':=h1) fun o e=>hk a o e
 have hl1:=hk _ _ hl
 refine Á (ú (Gi hS1.ty ?_))
 refine ĺ (fun _=>?_) (fun _=>Ä ⟨ž Ľ _,lp _ c0 _ st (fun b o _ e=>hk b o e) hl1⟩)
 refine Á (wpAny_rule (Á ?_))
 refine Á (m:=updateSeq D (·.push .none)) (Ż hl1 rfl ?_)
 have hl2:=ù (æ (·.push Ě)) hl1 rfl
 refine Ż (hz:=by seq_fits) hl2 rfl ?_
 have hl3:=ù (æ (·.pop)) hl2 rfl
 have ot:∀ b o,b≠D->h1.get? b=some o->((h1.update D (æ (·.push Ě))).update D (æ (·.pop))).get? b=some o:=fun b o hb e=>(õ _ _ (ċ hb)).trans ((õ _ _ (ċ hb)).trans e)
 exact Ä ⟨ž Ľ _,lp _ _ _ (W.frame 0 _ _ st fun b hb o e=>ot b o (fun z=>nf (z ▸ hb)) e) (fun b o hb e=>ot b o hb (hk b o e)) hl3⟩
theorem vG {R:List Value->Shared->Prop} (hS:cM P w s.heap a S n) (hh:A.handled=none) (hn:n<=sizeLine)
  (q:∀ (h':Heap) (d:_) (tk:Nat) (acc:Array Value) (vs:List Value) (ns:List Int),s.heap.objs.size<h'.objs.size->(∀ b o,s.heap.get? b=some o->h'.get? b=some o)->ItemsOf (fun i v=>vs[i]?=some v) acc n->IntsAre vs ns->ns.length=n->(∀ k,S k=true↔k∈ns)->R acc.toList { s with heap:=h',drawn:=d,toks:=tk }) :
  wpAny (model P w) A (collect (.ref a)) R E s:=by
 unfold collect
 refine Á (wpAny_runValue (Ļ entry_proto_collect' ?_))
 rw [Ł PySem.F.plain_proto_collect _]
 refine Á (m:=newList []) (Ė ?_)
 refine Ä ⟨ž PySem.F.plain_list_iadd _,Ļ entry_list_iadd' ?_⟩
 rw [Ł PySem.F.plain_list_iadd _]
 have hD:(s.heap.push { cls:=.type "list",data:=.seq ([]:List Value).toArray }).get? s.heap.objs.size=some { cls:=.type "list",data:=.seq #[] }:=Ò _ rfl
 have key:=JC (A:=A) (s:={ s with heap:=s.heap.push { cls:=.type "list",data:=.seq ([]:List Value).toArray } }) (R:=fun (r:Result) (s':Shared)=>∃ (h':Heap) (d:_) (tk:Nat) (acc:Array Value) (c:Nat) (vs:List Value) (ns:List Int),r=.ok (.ret (.ref s.heap.objs.size))/\s'={ s with heap:=h',drawn:=d,toks:=tk } /\
   (∀ b o,s.heap.get? b=some o->h'.get? b=some o)/\h'.get? s.heap.objs.size=some { cls:=.type "list",dict:=none,data:=.seq acc c,slots:=#[] }/\ItemsOf (fun i v=>vs[i]?=some v) acc n/\IntsAre vs ns/\ns.length=n/\∀ k,S k=true↔k∈ns)
  (hS.at fun o e=>Å _ e) hh s.heap.objs.size (ń hS.lt) (.ref s.heap.objs.size) 0 hD hn
  (fun h' d tk acc c vs ns hk hS' ha a1 a2 a3=>⟨h',d,tk,acc,c,vs,ns,rfl,rfl,fun b o e=>hk b o (Ü (Ë e)) (Å _ e),hS',ha,a1,a2,a3⟩)
 refine ĭ key (fun fin s' x=>?_) fun e s' x=>?_
 ·cases fin with
  | done f =>
   obtain⟨h',d,tk,acc,c,vs,ns,e,rfl,hk,hS',ha,a1,a2,a3⟩:=x
   cases e
   refine Á (m:=load s.heap.objs.size) (wpAny_load hS' ?_)
   exact Ä (q h' d tk acc vs ns (Ë hS') hk ha a1 a2 a3)
  | again c1 =>
   refine⟨x.1,codeAny_mono x.2 fun r s2 y=>?_⟩
   obtain⟨h',d,tk,acc,c,vs,ns,rfl,rfl,hk,hS',ha,a1,a2,a3⟩:=y
   refine Á (m:=load s.heap.objs.size) (wpAny_load hS' ?_)
   exact Ä (q h' d tk acc vs ns (Ë hS') hk ha a1 a2 a3)
 ·obtain⟨_,_,_,_,_,_,_,e',_⟩:=x
  cases e'
theorem v7 {Q:Value->Shared->Prop} (hS:cM P w s.heap a S n) (hh:A.handled=none) (hn:n<64)
  (q:∀ (h':Heap) (d:_) (tk:Nat) (D:Addr) (e:Nat) (out:Array Value) (ns ns':List Int),s.heap.objs.size<=D->(∀ b o,s.heap.get? b=some o->h'.get? b=some o)->h'.get? D=some { cls:=.type "list",data:=.seq out e }->IntsAre out.toList ns'->ns'.Perm ns->ns'.Pairwise (·<=·)->ns.length=n->(∀ k,S k=true↔k∈ns)->Q (.ref D) { s with heap:=h',drawn:=d,toks:=tk }) :
  wpAny (model P w) A (call (.builtin "sorted") [.ref a]) Q E s:=by
 have h24:=ö
 refine Calls.call_function_entry kind_sorted plain_sorted entry_sorted (args_sorted1 _) ?_
 unfold Builtin.«sorted»
 refine Á (m:=checkCount "sorted" 1 1 _) (Ä ?_)
 refine Á (vG (A:=A.in1) hS hh (by omega) fun h1 d tk acc vs ns hsz hk hacc a1 b1 b2=>?_)
 have la:acc.toList.length=n:=by rw [è]; exact hacc.1
 have lv:vs.length=n:=by rw [IntsAre.length a1,b1]
 have ev:acc.toList=vs:=List.ext_getElem? fun j=>by
  by_cases c:j<n
  ·have e:acc.toList[j]?=some (acc.toList[j]'(by omega)):=Í _
   rw [e]
   exact (hacc.2 j _ (by rw [← ĸ]; exact e)).symm
  ·rw [Ŕ (by omega),Ŕ (by omega)]
 rw [← ev] at a1
 have hz:s.heap.objs.size<=h1.objs.size:=Nat.le_of_lt hsz
 refine Á (wpAny_newList ?_ (by omega))
 have hoL:(h1.push (seqObj "list" acc.toList.toArray 0)).get? h1.objs.size=some (seqObj "list" acc.toList.toArray 0):=Ò _ rfl
 refine Á (ú (Ĉ slot_list_sort ⟨_,hoL,rfl⟩ entry_list_sort (list_sort_tree hoL a1 (by omega) fun out ns' c1 c2 c3=>⟨_,rfl,?_⟩) (args_list_sort _)))
 obtain⟨e,he⟩:=sortedHeap_at (out:=out) hoL
 refine Ä ⟨_,rfl,q _ d tk h1.objs.size e out ns ns' hz (fun b o z=>?_) he c1 c2 c3 b1 b2⟩
 have z1:=hk b o z
 have lt:b<h1.objs.size:=Ë z1
 rw [sortedHeap_old (Ü lt) (by rw [size_push']; exact Ć lt)]
 exact Å _ z1
end
end L2
namespace L2
open PySem PyProof.Rows
theorem yS:∀ {l m:List Int},l.Nodup->(∀ x∈l,x∈m)->m.length<=l.length->l.Perm m
 | [],m,_,_,h=>by rw [ņ (Nat.le_zero.mp h)]
 | x::l,m,nd,sub,h=>by
  have hx:=sub x Ö
  have hp:=List.perm_cons_erase hx
  have hl:=hp.length_eq
  rw [í] at hl h
  rw [ř] at nd
  refine (List.Perm.cons x (yS nd.2 (fun y hy=>?_) (by omega))).trans hp.symm
  exact (List.mem_erase_of_ne (show y≠x from fun z=>nd.1 (z ▸ hy))).mpr (sub y (Ó _ hy))
theorem mW:∀ (ns acc:List Int),acc.Nodup->(ns.foldl ķ acc).Nodup/\∀ x,x∈ns.foldl ķ acc↔x∈acc\/x∈ns
 | [],acc,h=>⟨h,fun x=>by simp⟩
 | n::ns,acc,h=>by
  rw [List.foldl_cons]
  by_cases hn:n∈acc
  ·have e:ķ acc n=acc:=by
    unfold ķ
    rw [if_pos (List.any_eq_true.mpr ⟨n,hn,by simp⟩)]
   rw [e]
   obtain⟨a,b⟩:=mW ns acc h
   refine⟨a,fun x=>(b x).trans ?_⟩
   rw [Ù]
   exact⟨fun z=>z.imp id .inr,fun z=>z.elim .inl fun y=>y.elim (fun y=>.inl (y ▸ hn)) .inr⟩
  ·have e:ķ acc n=acc++[n]:=by
    unfold ķ
    rw [if_neg (fun z=>by
     obtain⟨x,hx,ex⟩:=List.any_eq_true.mp z
     have:x=n:=by simpa using ex
     exact hn (this ▸ hx))]
   rw [e]
   obtain⟨a,b⟩:=mW ns (acc++[n]) (List.nodup_append.mpr ⟨h,by simp,fun x hx y hy=>by rw [Õ.mp hy]; exact fun z=>hn (z ▸ hx)⟩)
   refine⟨a,fun x=>(b x).trans ?_⟩
   rw [ä,Õ,Ù,or_assoc]
theorem wV {l m:List Int} (nd:l.Nodup) (p:m.Perm l) (h:m.Pairwise (·<=·)):m.Pairwise (·<·):=by
 have nm:=p.nodup_iff.mpr nd
 exact (List.pairwise_and_iff.mpr ⟨h,nm⟩).imp fun {x y} ⟨a,b⟩=>by omega
section
variable {X:Cx}{pins:List (Addr×Obj)}{σ:List (Option V)}{H:Hp}{s:Shared}
theorem Inv.drew (I:Inv X pins σ H s) (d:Drawn):Inv X pins σ H { s with drawn:=d }:=⟨I.ok,I.os,I.bare,I.base,I.loc,I.cell,I.free,I.freeC,I.pin,I.hok,I.len⟩
def JL (P:Program) (w:World) (a:Addr) (ns:List Int):HO:=.ext fun h=>cM P w h a (fun j=>(once ns).any (· == j)) (once ns).length
theorem BW (hc:X.calm=true):aU X (.type "set") (fun xs H Q=>∃ p ns,xs=[.ref p]/\SqL X.K H p (ns.map V.int)/\ns.length<=1000/\∀ l,H l=none->Q (.ref l) (upd H l (JL X.prog X.w l ns))):=by
 intro pins s σ H xs us Q I r h
 obtain⟨p,ns,rfl,hq,hl,q⟩:=h
 obtain⟨u,rfl,rx⟩:=vals1 r
 cases rx
 obtain⟨its,r',pl,hz⟩:=I.list hq
 have hlen:=r'.length
 rw [Â] at hlen
 refine Aq (its:=its.toArray) (ns:=ns) (I.ok.hd hc) pl.isList (by simpa using oR r') ?_ fun h' tk st k=>?_
 ·show its.toArray.size+1<scanBound
  rw [Î,← hlen]
  exact Nat.lt_of_le_of_lt (Nat.add_le_add_right hl 1) (by decide)
 ·rw [oX ns (by rw [Î,← hlen])] at st
  exact⟨.ref s.heap.objs.size,_,I.laid (o:=JL X.prog X.w s.heap.objs.size ns) (t':=tk) (fun b o e=>k b o (Ë e) e) (Ï _) ⟨st,(let ⟨o,_,_,_,ho,_⟩:=st; ⟨o,ho⟩),fun h1 h2 x k=>x.at k⟩,rfl,q _ (I.hok.fresh (Ï _))⟩
theorem tO (hc:X.calm=true):aU X (.builtin "sorted") (fun xs H Q=>∃ (p:Addr) (ns:List Int),xs=[.ref p]/\H p=some (JL X.prog X.w p ns)/\(once ns).length<64 /\
  ∀ (l:Addr) (out:List Int),H l=none->out.Pairwise (·<·)->(∀ x,x∈out↔x∈ns)->Q (.ref l) (upd H l (.lst (out.map V.int)))):=by
 intro pins s σ H xs us Q I r h
 obtain⟨p,ns,rfl,hp,h64,q⟩:=h
 obtain⟨u,rfl,rx⟩:=vals1 r
 cases rx
 obtain⟨sw,_,_⟩:=I.hok p _ hp
 obtain⟨nd,mm⟩:=mW ns [] List.nodup_nil
 refine v7 sw (I.ok.hd hc) h64 fun h' d tk D e out ns1 ns' hD hk he a1 a2 a3 a4 a5=>?_
 have pm:(once ns).Perm ns1:=yS nd (fun x hx=>(a5 x).mp (List.any_eq_true.mpr ⟨x,hx,by simp⟩)) (Nat.le_of_eq a4)
 have hv:=kh a1
 have hpl:=a2.length_eq
 have h24:=ö
 have hlt:=wV (pm.nodup_iff.mp nd) a2 a3
 refine⟨.ref D,upd H D (.lst (ns'.map V.int)),(I.drew d).laid (fun b o eb=>hk b o eb) hD ⟨?_,out.toList,e,hv,by simpa using he⟩,rfl,q _ _ (I.hok.fresh hD) hlt fun x=>?_⟩
 ·rw [Â]
  omega
 ·rw [a2.mem_iff,← pm.mem_iff]
  exact (mm x).trans ⟨fun z=>z.elim (fun y=>nomatch y) id,.inr⟩
end
theorem Fg (ns:List Int) {n:Nat} (h:∀ x∈ns,0<=x/\x<(n:Int)):(once ns).length<=n:=by
 obtain⟨nd,mm⟩:=mW ns [] List.nodup_nil
 have h1:((once ns).map Int.toNat).Nodup:=List.pairwise_map.mpr (List.Pairwise.imp_of_mem (fun {a b} ha hb ne=>by
  have q1:=h a (((mm a).mp ha).elim (fun z=>nomatch z) id)
  have q2:=h b (((mm b).mp hb).elim (fun z=>nomatch z) id)
  omega) nd)
 have h2:((once ns).map Int.toNat).length<=(ý n).length:=by
  refine List.Nodup.length_le_of_subset h1 fun x hx=>?_
  obtain⟨y,hy,rfl⟩:=Ğ.mp hx
  have q1:=h y (((mm y).mp hy).elim (fun z=>nomatch z) id)
  exact List.mem_range.mpr (by omega)
 rwa [Â,ð] at h2
end L2
namespace Dl
open PySem L2 PyProof.Rows
variable [Gr]
section
variable {X:Cx}{pos pos':Pos}{a:Expr}{t:DA}
def vo:GC:=fun ks P=>∃ k ns,ks=[(k,.list (ns.map Æ))]/\ns.length<=1000/\(once ns).length<64/\∀ out:List Int,out.Pairwise (·<·)->(∀ x,x∈out↔x∈ns)->P .new (.list (out.map Æ))
theorem iU {ps ps':Pos} (hc:X.calm=true) (hs:X.mg "set"=none) (hl:X.mg "sorted"=none) (ha:PDA X [a] t) (hgs:Gl X "set":=by rfl) (hgl:Gl X "sorted":=by rfl)
  (he:zS X a []:=by rfl) (hpl:zP X pos []:=by rfl)
  (he':starEach [Expr.Call (.Name "set" ps) [a] [] pos] X.env=(false,eval (Expr.Call (.Name "set" ps) [a] [] pos) X.env)::starEach [] X.env:=by rfl) (hpl':(backTo pos' (starEach [] X.env)).any (·.1)=false:=by rfl) :
  PD X (.Call (.Name "sorted" ps') [.Call (.Name "set" ps) [a] [] pos] [] pos') (tCl vo t) :=
 PE.wk (bT (tO hc) hgl hl boot_sorted (aG (cD (BW hc) hgs hs boot_set ha (by decide) (by decide) he hpl) bB he') (by decide) (by decide) he' hpl') (by
  rintro σ H Q ⟨p,H0,own,ρ,P,E,t,q⟩
  refine⟨p,H0,own,ρ,_,E,t,fun ks vs H1 h A r=>?_⟩
  obtain⟨k,ns,rfl,hn,hf,h⟩:=h
  obtain⟨v,rfl,r'⟩:=cY r
  obtain⟨c,ws,rfl,o,hc',rs⟩:=r'.bM
  have ew:=rs.ints
  subst ew
  refine⟨c,ns,rfl,SqL.of hc',hn,fun l hl'=>?_⟩
  obtain⟨k2,i2,nw⟩:=A.new hl' (JL X.prog X.w l ns)
  refine⟨l,ns,rfl,ao,hf,fun l2 out h2 h3 h4=>?_⟩
  obtain⟨k3,i3,nw3⟩:=(A.go k2 i2).new h2 (.lst (out.map V.int))
  exact q _ _ _ _ (h out h3 h4) ((A.go k2 i2).go k3 i3) (.lst nw3 ao (Rps.ofMap (fun i=>.int i) out)))
end
end Dl
namespace Wr
open PySem L2 PyProof.Rows Dl
section
variable [Gr] {X:Cx}{pos pos':Pos}{a:Expr}{t:DA}
theorem iU {ps ps':Pos} (hc:X.calm=true) (hs:X.mg "set"=none) (hl:X.mg "sorted"=none) (ha:WDA X [a] t) (hgs:Gl X "set":=by rfl) (hgl:Gl X "sorted":=by rfl)
  (he:zS X a []:=by rfl) (hpl:zP X pos []:=by rfl)
  (he':starEach [Expr.Call (.Name "set" ps) [a] [] pos] X.env=(false,eval (Expr.Call (.Name "set" ps) [a] [] pos) X.env)::starEach [] X.env:=by rfl) (hpl':(backTo pos' (starEach [] X.env)).any (·.1)=false:=by rfl) :
  WD X (.Call (.Name "sorted" ps') [.Call (.Name "set" ps) [a] [] pos] [] pos') (tCl vo t):=⟨Dl.iU hc hs hl ha.h hgs hgl he hpl he' hpl'⟩
end
end Wr
namespace Dl
open PySem L2 PyProof.Rows
variable [Gr]
section
variable {X:Cx}{st st2:Stmt}{rest:List Stmt}
def Hh (i j k:Nat) (te1:DE) (t:DS):DS:=fun P ρ=>match ρ[i]? with
 | some (.dw r (.tuple ds))=>∃ es fs,ds[j]?=some (.list es)/\ds[k]?=some (.list fs)/\es.length<900/\te1 ρ fun _ _=>t P (forget r ρ)
 | _=>False
theorem sZ {i j k:Nat}{te1:DE}{t:DS} (h1:PS X st (uw (tBM X.K "list" mJ (tOp (K9 X.K) (lW i) (tC (.int j))) (oM (cC te1 j7))))) (h2:PS X st2 (uw (Oi X.K "list" DX (tOp (K9 X.K) (lW i) (tC (.int k)))))) (h3:je X rest t):je X (st::st2::rest) (Hh i j k te1 t):=PSs.wk' (aY h1 (aY h2 h3)) (by
 rintro Q σ H ⟨p,H0,own,ρ,P,E,q,w⟩
 unfold Hh at q
 split at q
 ·rename_i r ds hr
  obtain⟨es,fs,he,hf,le,q⟩:=q
  obtain⟨a,vs,hv,ha,ge⟩:=E.Ph hr
  obtain⟨b,ws,vb,ob,hb,lw⟩:=ge j es he
  obtain⟨c,zs,vc,oc,hc,lz⟩:=ge k fs hf
  have h24:=ö
  refine⟨.ref a,hv,a,vs,_,.ref b,rfl,rfl,SqT.of ha,bA vb,.inl ⟨rfl,ws,SqL.of hb⟩,p,H0,own,ρ,_,E,yZ q,?_⟩
  rintro ks us H2 ⟨k1,d1,rfl,q2⟩ A2 rk
  obtain⟨y,rfl,ry⟩:=cY rk
  have E2:=E.go A2.kp A2.pen
  have hb2:H2 b=some (.lst ws):=A2.kp b _ hb (E.ow b r ob).2.1
  have hc2:H2 c=some (.lst zs):=A2.kp c _ hc (E.ow c r oc).2.1
  have ha2:H2 a=some (.tup vs):=A2.tups a _ ha
  refine⟨b,ws,y,rfl,rfl,hb2,by omega,?_⟩
  have E3:=E2.write (o':=.lst (ws++[y])) ob hb2 (fun xs z=>nomatch z)
  have ha3:upd H2 b (.lst (ws++[y])) a=some (.tup vs):=by
   rw [aj]
   ·exact ha2
   ·rintro rfl; rw [ha2] at hb2; cases hb2
  obtain⟨zs',hc3⟩:∃ zs',upd H2 b (.lst (ws++[y])) c=some (.lst zs'):=by
   by_cases e:c=b
   ·subst e
    exact⟨_,ao⟩
   ·exact⟨zs,by rw [aj e]; exact hc2⟩
  refine⟨.ref a,hv,a,vs,_,.ref c,rfl,rfl,SqT.of ha3,bA vc,.inl ⟨rfl,zs',SqL.of hc3⟩,c,zs',rfl,rfl,hc3,?_⟩
  have E5:=E3.write (o':=.lst []) oc hc3 (fun xs z=>nomatch z)
  rw [w6] at E5
  exact⟨p,H0,own,_,P,E5,q2,w.go ((A2.frs.trans (cU ob hb2 fun xs z=>nomatch z)).trans (cU oc hc3 fun xs z=>nomatch z))⟩
 ·exact q.elim)
end
end Dl
namespace Wr
open PySem L2 PyProof.Rows Dl
section
variable [Gr] {X:Cx}{tj te te1 te2 ta:DE}{t:DS}
theorem sZ {i:Nat} (j k:Nat) {x:Str}{e1:Expr}{es1:List Expr}{rest:List Stmt}{np1 kp1 sp1 apos1 cpos1 pos1:Pos}{jj1:Nat}{np2 kp2 sp2 apos2 cpos2 pos2:Pos}{jj2:Nat} (hv1:WV X (.Name x np1) i) (ha1:WDA X (e1::es1) (cC te1 j7)) (hv2:WV X (.Name x np2) i) (h3:WDSs X rest t)
  (hbase1:attributeBase (.Subscript (.Name x np1) (.Constant (.int ((j:Nat):Int)) jj1 kp1) sp1) "append" X.env (eval (.Subscript (.Name x np1) (.Constant (.int ((j:Nat):Int)) jj1 kp1) sp1) X.env)=eval (.Subscript (.Name x np1) (.Constant (.int ((j:Nat):Int)) jj1 kp1) sp1) X.env:=by rfl)
  (hfew1:zW X cpos1 (e1::es1):=by rfl)
  (hline1:(apos1.endLine == cpos1.line)=true:=by rfl)
  (hst1:zS X e1 es1:=by rfl)
  (hplain1:zP X cpos1 es1:=by rfl)
  (hs1:swapsWith (.Call (.Attribute (.Subscript (.Name x np1) (.Constant (.int ((j:Nat):Int)) jj1 kp1) sp1) "append" apos1) (e1::es1) [] cpos1) none pos1.line X.env=pure false:=by rfl)
  (hbase2:attributeBase (.Subscript (.Name x np2) (.Constant (.int ((k:Nat):Int)) jj2 kp2) sp2) "clear" X.env (eval (.Subscript (.Name x np2) (.Constant (.int ((k:Nat):Int)) jj2 kp2) sp2) X.env)=eval (.Subscript (.Name x np2) (.Constant (.int ((k:Nat):Int)) jj2 kp2) sp2) X.env:=by rfl)
  (hline2:(apos2.endLine == cpos2.line)=true:=by rfl)
  (hs2:swapsWith (.Call (.Attribute (.Subscript (.Name x np2) (.Constant (.int ((k:Nat):Int)) jj2 kp2) sp2) "clear" apos2) [] [] cpos2) none pos2.line X.env=pure false:=by rfl)
 :WDSs X (.Expr (.Call (.Attribute (.Subscript (.Name x np1) (.Constant (.int ((j:Nat):Int)) jj1 kp1) sp1) "append" apos1) (e1::es1) [] cpos1) pos1::.Expr (.Call (.Attribute (.Subscript (.Name x np2) (.Constant (.int ((k:Nat):Int)) jj2 kp2) sp2) "clear" apos2) [] [] cpos2) pos2::rest) (Hh i j k te1 t):=⟨Dl.sZ (jw (yU š PySem.F.slot_list_append PySem.F.type_list_append lA (uR wX hv1.h rA (fun _ _=>rfl)) ha1.h hbase1 hfew1 hline1 hst1 hplain1) hs1) (jw (Lz š PySem.F.slot_list_clear PySem.F.type_list_clear FQ (uR wX hv2.h rA (fun _ _=>rfl)) hbase2 hline2) hs2) h3.h⟩
end
end Wr
open Wr renaming dO → À,jz → Ã,dv → Ç,tE → Ê,kY → Ì,lH → ß,Er → á,lG → å,tH → ç,xG → é,tu → ó,oZ → û,nO → Ā,rM → Ċ,G6 → Č,rD → ď,rH → Đ,rE → Ę,o8 → ġ,Et → Ĥ,dc → İ,wM → ľ,mY → Ŀ,wv → Ń,wG → Ŋ,rC → Ō,dcP → ō,rF → ŕ,Ep → Ŗ,xK → Ş,rG → Ţ,dW → ŭ
open Dl renaming Cal → ć,Jq → ł,Bn → Š,Bt → ū,lC → Ŭ
open Wr.WDSs renaming h → ĕ
open L2 renaming Nb → į,rA → Ź
open L2.V renaming int → Ň
namespace Nf
open PySem PySem.W PyProof.Rows
def mF (tb:String->Option Builtin) (p:Program) (w:World) (m:Nat) (ann:Option Value):Nat->SharedT->Thread->Option SharedT
 | 0,_,_=>none
 | n+1,s,t=>match through t with
  | true=>some s
  | false=>match stepOk m ann t with
   | false=>none
   | true=>match stepT (denote tb) p w s t with
    | none=>none
    | some r=>mF tb p w m ann n r.1 r.2
theorem p7 {tb:String->Option Builtin}{p:Program}{w:World}{m:Nat}{ann:Option Value}:∀ {n:Nat}{s s':SharedT}{t:Thread},mF tb p w m ann n s t=some s'->topRun tb p w m ann n s.abs t=some s'.abs
 | 0,_,_,_,h=>by cases h
 | n+1,s,s',t,h=>by
  unfold mF at h
  unfold topRun
  cases he:through t with
  | true=>rw [he] at h; cases h; rfl
  | false =>
   rw [he] at h
   cases hk:stepOk m ann t with
   | false=>rw [hk] at h; cases h
   | true =>
    rw [hk] at h
    cases hs:stepT (denote tb) p w s t with
    | none=>rw [hs] at h; cases h
    | some r=>obtain⟨s2,t2⟩:=r; rw [hs] at h; rw [stepT_spec hs]; exact p7 h
def oY (P:Params):List DictEntry:=match (boot_o_0 P).data with | .dict es _=>es.toList | _=>[]
def eE (P:Params) (i:Nat):List DictEntry:=((oY P).drop i).take 16
def b0 (P:Params):List DictEntry:=by
 refine (?f:(l:List DictEntry)->l=eE P 0->List DictEntry) ?l ?h
 case f=>exact fun l _=>l
 case h=>unfold eE oY boot_o_0; dsimp only [List.drop,List.take]; exact rfl
def b1 (P:Params):List DictEntry:=by
 refine (?f:(l:List DictEntry)->l=eE P 16->List DictEntry) ?l ?h
 case f=>exact fun l _=>l
 case h=>unfold eE oY boot_o_0; dsimp only [List.drop,List.take]; exact rfl
def b2 (P:Params):List DictEntry:=by
 refine (?f:(l:List DictEntry)->l=eE P 32->List DictEntry) ?l ?h
 case f=>exact fun l _=>l
 case h=>unfold eE oY boot_o_0; dsimp only [List.drop,List.take]; exact rfl
def b3 (P:Params):List DictEntry:=by
 refine (?f:(l:List DictEntry)->l=eE P 48->List DictEntry) ?l ?h
 case f=>exact fun l _=>l
 case h=>unfold eE oY boot_o_0; dsimp only [List.drop,List.take]; exact rfl
def b4 (P:Params):List DictEntry:=by
 refine (?f:(l:List DictEntry)->l=eE P 64->List DictEntry) ?l ?h
 case f=>exact fun l _=>l
 case h=>unfold eE oY boot_o_0; dsimp only [List.drop,List.take]; exact rfl
def b5 (P:Params):List DictEntry:=by
 refine (?f:(l:List DictEntry)->l=eE P 80->List DictEntry) ?l ?h
 case f=>exact fun l _=>l
 case h=>unfold eE oY boot_o_0; dsimp only [List.drop,List.take]; exact rfl
def b6 (P:Params):List DictEntry:=by
 refine (?f:(l:List DictEntry)->l=eE P 96->List DictEntry) ?l ?h
 case f=>exact fun l _=>l
 case h=>unfold eE oY boot_o_0; dsimp only [List.drop,List.take]; exact rfl
def b7 (P:Params):List DictEntry:=by
 refine (?f:(l:List DictEntry)->l=eE P 112->List DictEntry) ?l ?h
 case f=>exact fun l _=>l
 case h=>unfold eE oY boot_o_0; dsimp only [List.drop,List.take]; exact rfl
def b8 (P:Params):List DictEntry:=by
 refine (?f:(l:List DictEntry)->l=eE P 128->List DictEntry) ?l ?h
 case f=>exact fun l _=>l
 case h=>unfold eE oY boot_o_0; dsimp only [List.drop,List.take]; exact rfl
def b9 (P:Params):List DictEntry:=by
 refine (?f:(l:List DictEntry)->l=eE P 144->List DictEntry) ?l ?h
 case f=>exact fun l _=>l
 case h=>unfold eE oY boot_o_0; dsimp only [List.drop,List.take]; exact rfl
def bo0 (P:Params):Obj:={ cls:=.type "dict",data:=.dict ⟨b0 P++(b1 P++(b2 P++(b3 P++(b4 P++(b5 P++(b6 P++(b7 P++(b8 P++(b9 P)))))))))⟩ 159 }
theorem Nu:boot_o_0=bo0:=by funext P; kernel_rfl
def Hu (P:Params):Heap:={ objs:=⟨[bo0 P,boot_o_1 P,boot_o_2 P,boot_o_3 P,boot_o_4 P,boot_o_5 P,boot_o_6 P,boot_o_7 P,boot_o_8 P,boot_o_9 P,boot_o_10 P]⟩ }
theorem vK:ţ=Hu:=by
 funext P
 show Heap.mk ⟨boot_o_0 P::_⟩ _=_
 rw [Nu]
 rfl
def vJ (P:Params):BT:=((((((((((BT.nil.ins 0 (bo0 P)).ins 1 (boot_o_1 P)).ins 2 (boot_o_2 P)).ins 3 (boot_o_3 P)).ins 4 (boot_o_4 P)).ins 5 (boot_o_5 P)).ins 6 (boot_o_6 P)).ins 7 (boot_o_7 P)).ins 8 (boot_o_8 P)).ins 9 (boot_o_9 P)).ins 10 (boot_o_10 P)
def Ke:Life:={}
theorem Cp (P:Params):absHeap (vJ P) 11 Ke=ţ P:=by rw [vK]; kernel_rfl
def vY (w:World) (os:OsState):SharedT:=⟨vJ w.params,11,Ke,#[],boot_drawn,boot_toks,os⟩
theorem Ai (w:World) (os:OsState):(vY w os).abs=⟨ţ w.params,#[],boot_drawn,boot_toks,os⟩:=by
 unfold vY SharedT.abs
 dsimp only
 rw [Cp]
def yE (P:Params):=((ţ P).isNs mainGlobals,(ţ P).objs.size,(ţ P).nsMap mainGlobals "__annotations__")
theorem v9:yE=yE:=rfl
end Nf
name_quick sizeQ for Nf.yE by Nf.v9
namespace Nf
open PySem PySem.W PyProof.Rows
theorem Cq (w:World):((ţ w.params).isNs mainGlobals,(ţ w.params).objs.size,(ţ w.params).nsMap mainGlobals "__annotations__")=(true,11,some (.ref 6)):=by
 show yE w.params=_
 rw [W.Fast.sizeQ_eq]
 kernel_rfl
def Aw (p:Program) (N:Nat) (w:World) (os:OsState):=mF treeTable p w 11 (some (.ref 6)) N (vY w os) (topStub p)
def Dp (p q:Program) (Xt:Shared->Bool) (w:World) (s:Shared) :=
 (staticsOk (importedModules p.main.body) (Hu w.params) s.heap&&namesBound p s.heap&&gensDone s&&laidKept (Hu w.params) s.heap,openSeen q [] (importedModules p.main.body) Xt true s)
theorem Js {p q:Program}{Xt:Shared->Bool}{β:Type}{Yf:Shared->List β}{Ya:World->List β}{N:Nat} (k:Nat)
  (open_:∀ w:World,(fencedOpening treeTable p w N).map (fun s=>(s.heap,s.gens,s.drawn,s.toks))=some (ţ w.params,Array.mk [],boot_drawn,boot_toks))
  (look:∀ (w:World) (os:OsState),(Aw p N w os).map (fun s=>Dp p q Xt w s.abs)=some (true,openGood q []))
  (front:∀ (w:World) (os:OsState),(Aw p N w os).map (fun s=>(Yf s.abs).take k)=some ((Ya w).take k))
  (back:∀ (w:World) (os:OsState),(Aw p N w os).map (fun s=>(Yf s.abs).drop k)=some ((Ya w).drop k)):LeftO p q [] Xt Yf Ya N:=fun w=>by
 obtain⟨⟨h,gs,d,j,os⟩,e,e'⟩:=Option.map_eq_some_iff.mp (open_ w)
 obtain⟨rfl,rfl,rfl,rfl⟩:h=ţ w.params/\gs=#[]/\d=boot_drawn/\j=boot_toks:=by simpa using e'
 obtain⟨z1,z2,z3⟩:_/\_/\_:=by simpa only [Prod.mk.injEq] using Cq w
 obtain⟨s,hs,l⟩:=Option.map_eq_some_iff.mp (look w os)
 have l4:(Yf s.abs).take k=(Ya w).take k:=by
  have:=front w os
  rw [hs] at this
  exact Û this
 have l5:(Yf s.abs).drop k=(Ya w).drop k:=by
  have:=back w os
  rw [hs] at this
  exact Û this
 have l3:Yf s.abs=Ya w:=by rw [← List.take_append_drop k (Yf s.abs),l4,l5,List.take_append_drop]
 unfold Dp at l
 rw [← vK] at l
 obtain⟨l1,l2⟩:=Prod.mk.inj l
 have r:=p7 hs
 rw [Ai] at r
 have t:topFrom treeTable p w N ⟨ţ w.params,#[],boot_drawn,boot_toks,os⟩=some s.abs:=by
  unfold topFrom
  dsimp only
  rw [z1,z2,z3,r]
  show (match staticsOk (importedModules p.main.body) (ţ w.params) s.abs.heap&&namesBound p s.abs.heap&&gensDone s.abs&&laidKept (ţ w.params) s.abs.heap with | true=>_ | false=>_)=_
  rw [l1]
 unfold openEnds
 rw [e]
 show (topFrom treeTable p w N _).map _=_
 rw [t]
 exact congrArg some (Prod.ext l2 l3)
end Nf
namespace Nf
open PySem L2 PyProof.Rows Dl
def top (i:Nat):Stmt:=PySem.Challenge.pw_nofall_k04_ways_told.main.body.getD i (.Pass ⟨0,0,0,0⟩)
structure Proper (n:Int) (l:List Int):Prop where
 one:1<=l.length
 few:(l.length:Int)<n
 rng:∀ x∈l,0<=x/\x<n
 rise:l.Pairwise (·<·)
 n16:n<=16
def GR (ds:List D) (P:D->Prop):Prop:=∃ l:List Int,ds=[.list (l.map Æ)]/\l.length<=400/\P (.list ((l.dropLast.zip (l.drop 1)).map pD))
def toI:D->Int
 | .int i=>i
 | _=>0
def lv (l:List Int) (t:Tie):Bool:=decide (t.1∈l) != decide (t.2∈l)
theorem qO {n:Int}{d:D} (h:bw n d=true):∃ i:Int,d=.int i:=by
 cases d with
 | int i=>exact⟨i,rfl⟩
 | _=>cases h
theorem iy (d:D):bH d=.im d\/bH d=.sh d:=by
 unfold bH
 by_cases h:dF d=true
 ·rw [if_pos h]; exact .inl rfl
 ·rw [if_neg h]; exact .inr rfl
theorem ints_of {n:Int}:∀ {es:List D},es.all (bw n)=true->es=(es.map toI).map Æ
 | [],_=>rfl
 | d::es,h=>by
  rw [List.all_cons,à] at h
  obtain⟨i,rfl⟩:=qO h.1
  have:=ints_of h.2
  rw [Ą,Ą,← this]
  rfl
theorem mG (l:List Int):(l.map Æ).map toI=l:=by rw [Ē]; exact List.map_id' l
theorem dH {α:Type} (l:List α):gG l none (some (-1))=l.dropLast:=by
 unfold gG
 have e1:HT.sIx l.length 0 none=0:=rfl
 have e2:HT.sIx l.length l.length (some (-1))=l.length - 1:=by
  have e:HT.sIx l.length l.length (some (-1))=((-1:Int)+(l.length:Int)).toNat:=rfl
  rw [e]
  omega
 rw [e1,e2,List.drop_zero,Nat.sub_zero,List.dropLast_eq_take]
theorem o9 {α:Type} (l:List α):gG l (some 1) none=l.drop 1:=by
 unfold gG
 have e1:HT.sIx l.length l.length none=l.length:=rfl
 have e2:HT.sIx l.length 0 (some 1)=min 1 l.length:=HT.yJ l.length 0 1
 rw [e1,e2]
 rw [ŧ (by rw [List.length_drop]; omega)]
 by_cases h:1<=l.length
 ·rw [Nat.min_eq_left h]
 ·have:l=[]:=List.length_eq_zero_iff.mp (by omega)
  subst this
  rfl
theorem ud (a b:List Int):((a.map Æ).zip (b.map Æ)).map prD=(a.zip b).map pD:=by
 rw [List.zip_map,Ē]
 rfl
section
variable {P:Program}{w:World}{K:Ý}{mg:Str->Option Value}{base:Heap}{f:Addr}{fd:FuncData}
theorem sc4:FnScope ["thing"] ["thing"] (aA (top 7)):=zC
theorem Fi (F:Fun K "is_whole" "is_whole" (top 7) f fd) (B:Š mg):FnOk P w K mg base CX0 1 f fd ["thing"] (spD xg):=by
 refine F.ok sc4 ł (fun cdv A outer s H vs Q E hr h=>?_)
 refine⟨_,lH (lG (eX (dW zE B.isinstance (dv 0) (rB (v:=.ty "int") rfl B.int boot_int rfl)) (iV (LQ (dW vf B.isinstance (dv 0) (rB (v:=.ty "bool") rfl B.bool boot_bool rfl)))))),sY h ?_⟩
 rintro ds P ⟨d,rfl,q⟩
 unfold Hj yq tIs
 refine vV (d:=d) rfl fun k=>?_
 cases d <;> exact⟨rfl,q⟩
theorem sc5:FnScope ["limit","thing"] ["limit","thing"] (aA (top 8)):=zC
theorem Fp (F:Fun K "is_below" "is_below" (top 8) f fd) (W:ć P w K mg base 1 "is_whole" ["thing"] (spD xg)):FnOk P w K mg base CX0 2 f fd ["limit","thing"] (spD sV):=by
 refine F.ok sc5 ł (fun cdv A outer s H vs Q E hr h=>?_)
 refine⟨_,lH (lG (eX (dc W hr (dO (dv 1) jz)) (iV (I9 kY (dv 1) (dv 0))))),sY h ?_⟩
 rintro ds P ⟨m,d,rfl,q⟩
 unfold Hj yq tFn cC
 refine vV (d:=d) rfl fun k=>⟨d,rfl,?_⟩
 cases d with
 | int i =>
  have e:P (.bool (decide (0<=i/\i<m))):=q
  by_cases h0:(0:Int)<=i
  ·show if decide ((0:Int)<=i)=true then _ else _
   rw [decide_eq_true h0]
   refine aH (B:=True) ⟨rfl,?_⟩
   have e2:decide (0<=i/\i<m)=decide (i<m):=by simp [h0]
   rw [e2] at e
   exact e
  ·show if decide ((0:Int)<=i)=true then _ else _
   rw [decide_eq_false h0]
   refine aB (A:=True) ⟨rfl,?_⟩
   have e2:decide (0<=i/\i<m)=false:=by simp [h0]
   rw [e2] at e
   exact e
 | _=>exact⟨rfl,q⟩
theorem sc7:FnScope ["places"] ["places"] (aA (top 26)):=zC
theorem Jg (F:Fun K "hops" "hops" (top 26) f fd) (B:Š mg) (mz:mg "zip"=none):FnOk P w K mg base CX0 1 f fd ["places"] (spD GR):=by
 refine F.ok sc7 ł (fun cdv A outer s H vs Q E hr h=>?_)
 refine⟨_,lH (lG (wL rfl B.list mz (dO (En (dv 0) j4 (jZ (nP kY))) (dO (En (dv 0) (jZ kY) j4) jz)))),sY h ?_⟩
 rintro ds P ⟨l,rfl,hl,q⟩
 refine .inl ⟨?_,.inl ⟨?_,?_,.inl ⟨?_,rfl,?_⟩⟩⟩
 ·show cu (gG (l.map Æ) none (some (-1)))=true
  rw [dH,← List.map_dropLast]
  exact gC _
 ·show cu (gG (l.map Æ) (some 1) none)=true
  rw [o9,← List.map_drop]
  exact gC _
 ·show (gG (l.map Æ) none (some (-1))).length<=1000
  rw [dH,List.length_dropLast,Â]
  omega
 ·show cu _=true
  rw [dH,o9,← List.map_dropLast,← List.map_drop,ud]
  exact Ŭ _
 ·show P _
  rw [dH,o9,← List.map_dropLast,← List.map_drop,ud]
  exact q
end
end Nf
set_option maxHeartbeats 4000000
namespace Nf
open PySem L2 PyProof.Rows Dl
def OkT (n:Int) (t:Tie):Prop:=(0<=t.1/\t.1<n)/\(0<=t.2/\t.2<n)/\t.1≠t.2
def OkN (n:Int) (us:List Tie):Prop:=∀ t∈us,OkT n t
def mmT (t:Tie):Tie:=(if t.2<t.1 then t.2 else t.1,if t.2 > t.1 then t.2 else t.1)
def rZ (l:List Int):Bool:=decide ((once l).length=l.length)
def pO (n a b:Int):D->Bool
 | .list es=>!es.isEmpty&&es.all (bw n)&&decide ((es.map toI).head?=some a)&&decide ((es.map toI).getLast?=some b)&&rZ (es.map toI)
 | _=>false
def GQ (ds:List D) (P:D->Prop):Prop:=∃ n us d,ds=[aF n us,d]/\P (.bool (bw n d))
def Kq (ds:List D) (P:D->Prop):Prop:=∃ n us d,ds=[aF n us,d]/\P (.bool (bw (us.length:Nat) d))
def G3 (ds:List D) (P:D->Prop):Prop:=∃ n us i,ds=[aF n us,.int i]/\0<=i/\i<n/\P .none
def GP (ds:List D) (P:D->Prop):Prop:=∃ n t,ds=[.int n,pD t]/\OkT n t/\P (.bool true)
def GK (ds:List D) (P:D->Prop):Prop:=∃ n us,ds=[.int n,.list (us.map pD)]/\1<=n/\n<=16/\us.length<=40/\OkN n us/\P (.bool true)
def Ng (ds:List D) (P:D->Prop):Prop:=∃ n us,ds=[.int n,.list (us.map pD)]/\1<=n/\n<=16/\us.length<=40/\OkN n us/\P .none
def Gx (ds:List D) (P:D->Prop):Prop:=∃ n us,ds=[.int n,.list (us.map pD)]/\1<=n/\n<=16/\us.length<=40/\OkN n us/\∀ vs:List Tie,vs.Perm (us.map mmT)->P (aF n vs)
def GJ (ds:List D) (P:D->Prop):Prop:=∃ n us,ds=[.int n,.list (us.map pD)]/\1<=n/\n<=16/\us.length<=40/\OkN n us/\∀ vs:List Tie,vs.Perm us->P (aF n vs)
section
variable {P:Program}{w:World}{K:Ý}{mg:Str->Option Value}{base:Heap}{f:Addr}{fd:FuncData}
theorem lN:FnScope ["web","thing"] ["web","thing"] (aA (top 9)):=zC
theorem uW (F:Fun K "is_place" "is_place" (top 9) f fd) (B:Š mg) (C_is_below:ć P w K mg base 2 "is_below" ["limit","thing"] (spD sV)):FnOk P w K mg base CX0 3 f fd ["web","thing"] (spD GQ):=by
 refine F.ok lN ł (fun cdv A outer s H vs Q E hr h=>?_)
 have nd:=lN.nd
 refine⟨_,ĕ (ß (å (İ C_is_below hr (À (á (Ç 0) Ì) (À (Ç 1) Ã))))),bf h ?_⟩
 rintro ds P ⟨n,us,d,rfl,q⟩
 refine⟨[.im (aF n us),bH d],by show [bH (aF n us),bH d]=_; rw [bV],?_⟩
 refine⟨.int n,rfl,?_⟩
 refine vV rfl fun k=>⟨n,d,rfl,?_⟩
 exact⟨rfl,q⟩
theorem dM:FnScope ["web","thing"] ["web","thing"] (aA (top 10)):=zC
theorem lg (F:Fun K "is_tie_number" "is_tie_number" (top 10) f fd) (B:Š mg) (C_is_below:ć P w K mg base 2 "is_below" ["limit","thing"] (spD sV)):FnOk P w K mg base CX0 3 f fd ["web","thing"] (spD Kq):=by
 refine F.ok dM ł (fun cdv A outer s H vs Q E hr h=>?_)
 have nd:=dM.nd
 refine⟨_,ĕ (ß (å (İ C_is_below hr (À (ľ B.len (À (á (Ç 0) Ì) Ã)) (À (Ç 1) Ã))))),bf h ?_⟩
 rintro ds P ⟨n,us,d,rfl,q⟩
 refine⟨[.im (aF n us),bH d],by show [bH (aF n us),bH d]=_; rw [bV],?_⟩
 rcases iy d with e | e
 all_goals
  rw [e]
  refine⟨.tuple (us.map pD),rfl,_,d,rfl,?_⟩
  rw [Â]
  exact⟨rfl,q⟩
theorem fP:FnScope ["web","thing"] ["web","thing"] (aA (top 11)):=zC
theorem nY (F:Fun K "check_place" "check_place" (top 11) f fd) (B:Š mg) (C_is_place:ć P w K mg base 3 "is_place" ["web","thing"] (spD GQ)):FnOk P w K mg base CX0 4 f fd ["web","thing"] (spD G3):=by
 refine F.ok fP ł (fun cdv A outer s H vs Q E hr h=>?_)
 have nd:=fP.nd
 refine⟨_,ĕ (ß (Č (Ę (ď (İ C_is_place hr (À (Ç 0) (À (Ç 1) Ã))))) (ß Wr.jY) é)),bf h ?_⟩
 rintro ds P ⟨n,us,i,rfl,h0,h1,q⟩
 refine⟨[.im (aF n us),.im (.int i)],by show [bH (aF n us),.im (.int i)]=_; rw [bV],?_⟩
 refine⟨n,us,.int i,rfl,?_⟩
 show if (!decide (0<=i/\i<n))=true then _ else _
 rw [decide_eq_true ⟨h0,h1⟩]
 exact aB (A:=True) q
theorem qj:FnScope ["n","thing"] ["n","thing"] (aA (top 12)):=zC
theorem Bj (F:Fun K "is_tie" "is_tie" (top 12) f fd) (B:Š mg) (C_is_below:ć P w K mg base 2 "is_below" ["limit","thing"] (spD sV)):FnOk P w K mg base CX0 3 f fd ["n","thing"] (spD GP):=by
 refine F.ok qj ł (fun cdv A outer s H vs Q E hr h=>?_)
 have nd:=qj.nd
 refine⟨_,ĕ (Ê (Č (Wr.wpt (Ŋ (Ę (ď (ŭ kit_tuple B.isinstance (Ç 1) (Wr.wty rfl B.tuple boot_tuple)))) (Ō (ŕ hr.units (ľ B.len (À (Ç 1) Ã)) Ì)))) (ß (å Ĥ)) é)
  (ß (å (Wr.eX (İ C_is_below hr (À (Ç 0) (À (á (Ç 1) Ì) Ã))) (Wr.eX (İ C_is_below hr (À (Ç 0) (À (á (Ç 1) Ì) Ã))) (Wr.iV (Wr.wJ hr.units (á (Ç 1) Ì) (á (Ç 1) Ì)))))))),bf h ?_⟩
 rintro ds P ⟨n,t,rfl,ok,q⟩
 refine⟨[.im (.int n),.im (pD t)],rfl,?_⟩
 obtain⟨⟨o1,o2⟩,⟨o3,o4⟩,o5⟩:=ok
 refine aB (A:=True) (aB (A:=True) ?_)
 refine⟨.int t.1,rfl,n,.int t.1,rfl,?_⟩
 show if decide (0<=t.1/\t.1<n)=true then _ else _
 rw [decide_eq_true ⟨o1,o2⟩]
 refine aH (B:=True) ⟨.int t.2,rfl,n,.int t.2,rfl,?_⟩
 show if decide (0<=t.2/\t.2<n)=true then _ else _
 rw [decide_eq_true ⟨o3,o4⟩]
 refine aH (B:=True) ⟨.int t.1,rfl,.int t.2,rfl,rfl,?_⟩
 show P (.bool (!decide (t.1=t.2)))
 rw [decide_eq_false o5]
 exact q
theorem jk:FnScope ["n","ties"] ["n","ties"] (aA (top 13)):=zC
theorem n6:(["tie","n","ties"]:List Str).Nodup:=by decide +kernel
theorem rO {tk_MOST_PLACES:Tok}{tk_MOST_TIES:Tok} (F:Fun K "makes_web" "makes_web" (top 13) f fd) (B:Š mg) (g_MOST_PLACES:mg "MOST_PLACES"=some (.int 16 tk_MOST_PLACES)) (g_MOST_TIES:mg "MOST_TIES"=some (.int 40 tk_MOST_TIES)) (C_is_whole:ć P w K mg base 1 "is_whole" ["thing"] (spD xg)) (C_is_tie:ć P w K mg base 3 "is_tie" ["n","thing"] (spD GP)):FnOk P w K mg base CX0 4 f fd ["n","ties"] (spD GK):=by
 refine F.ok jk ł (fun cdv A outer s H vs Q E hr h=>?_)
 have nd:=jk.nd
 refine⟨_,ĕ (Ê (Č (Wr.wpt (Ŋ (Ę (ď (İ C_is_whole hr (À (Ç 0) Ã)))) (Ō (Ę (Wr.kW Ez Ez Ì (Ç 0) (Wr.jC rfl g_MOST_PLACES ⟨_,rfl⟩)))))) (ß (å Ĥ)) é)
  (Ê (Č (Wr.wpt (Ŋ (Ę (ď (Wr.rN B.isinstance (Ç 1) (Wr.wty rfl B.list boot_list) (Wr.wty rfl B.tuple boot_tuple)))) (Ō (Wr.wH (ľ B.len (À (Ç 1) Ã)) (Wr.jC rfl g_MOST_TIES ⟨_,rfl⟩))))) (ß (å Ĥ)) é)
  (ß (å (Wr.iZ rfl B.all Dl.boot_all (À (Ŗ ["tie"] rfl (Ş (Ç 1)) (fun c=>(ç (i:=0) n6 rfl zQ)) (fun c=>Ŀ) (fun c=>(İ C_is_tie hr (À (Ç 1) (À (Ç 0) Ã))))) Ã)))))),bf h ?_⟩
 rintro ds P ⟨n,us,rfl,n1,n16,lu,ok,q⟩
 refine⟨[.im (.int n),.sh (.list (us.map pD))],?_,?_⟩
 ·rfl
 refine⟨.int n,rfl,aB (A:=True) ?_⟩
 show if decide ((1:Int)<=n)=true then _ else _
 rw [decide_eq_true n1]
 refine aH (B:=True) ?_
 show if (!decide (n<=16))=true then _ else _
 rw [decide_eq_true n16]
 refine aB (A:=True) (aB (A:=True) ?_)
 show if decide ((40:Int)<(((us.map pD).length:Nat):Int))=true then _ else _
 rw [Â,decide_eq_false (by omega)]
 refine aB (A:=True) (sE us pD (fun _=>.bool true) .imm rfl (by omega) (fun t ht A B hA=>aH (B:=True) ⟨n,t,rfl,ok t ht,rfl,hA⟩) ?_)
 refine⟨us.map fun _=>true,by rw [Ē]; rfl,rfl,?_⟩
 have e:(us.map fun _=>true).all id=true:=by rw [List.all_map]; exact List.all_eq_true.mpr fun _ _=>rfl
 rw [e]
 exact q
theorem cX:FnScope ["n","ties"] ["n","ties"] (aA (top 14)):=zC
theorem jd (F:Fun K "check_makes_web" "check_makes_web" (top 14) f fd) (B:Š mg) (C_makes_web:ć P w K mg base 4 "makes_web" ["n","ties"] (spD GK)):FnOk P w K mg base CX0 5 f fd ["n","ties"] (spD Ng):=by
 refine F.ok cX ł (fun cdv A outer s H vs Q E hr h=>?_)
 have nd:=cX.nd
 refine⟨_,ĕ (ß (Č (Ę (ď (İ C_makes_web hr (À (Ç 0) (À (Ç 1) Ã))))) (ß Wr.jY) é)),bf h ?_⟩
 rintro ds P ⟨n,us,rfl,n1,n16,lu,ok,q⟩
 refine⟨[.im (.int n),.sh (.list (us.map pD))],rfl,?_⟩
 exact⟨n,us,rfl,n1,n16,lu,ok,aB (A:=True) q⟩
theorem qd:FnScope ["n","ties"] ["n","ties"] (aA (top 15)):=zC
theorem uZ:(["tie","n","ties"]:List Str).Nodup:=by decide +kernel
theorem Bf (F:Fun K "web_of" "web_of" (top 15) f fd) (B:Š mg) (C_check_makes_web:ć P w K mg base 5 "check_makes_web" ["n","ties"] (spD Ng)):FnOk P w K mg base CX0 6 f fd ["n","ties"] (spD Gx):=by
 refine F.ok qd ł (fun cdv A outer s H vs Q E hr h=>?_)
 have nd:=qd.nd
 refine⟨_,ĕ (Ê (Wr.bU (İ C_check_makes_web hr (À (Ç 0) (À (Ç 1) Ã))))
  (ß (å (Ā (À (Ç 0) (À (Wr.mQ B.tuple (À (Wr.jA B.sorted (À (Ŗ ["tie"] rfl (Ş (Ç 1)) (fun c=>(ç (i:=0) uZ rfl zQ)) (fun c=>Ŀ) (fun c=>(Ā (À (Wr.mR rfl B.min (À (Ç 0) Ã)) (À (Wr.mU rfl B.max (À (Ç 0) Ã)) Ã))))) Ã)) Ã)) Ã)))))),bf h ?_⟩
 rintro ds P ⟨n,us,rfl,n1,n16,lu,ok,q⟩
 refine⟨[.im (.int n),.sh (.list (us.map pD))],rfl,?_⟩
 refine⟨n,us,rfl,n1,n16,lu,ok,?_⟩
 refine sE us pD (fun t=>pD (mmT t)) .imm rfl (by omega) (fun t ht A B hA=>aH (B:=True) ⟨zK,rfl,hA⟩) ?_
 refine⟨us.map mmT,.inl (by rw [Ē]; rfl),by rw [Â]; omega,fun t ht=>?_,fun vs hp hs=>⟨zK,?_,q vs hp⟩⟩
 ·obtain⟨u,hu,rfl⟩:=Ğ.mp ht
  obtain⟨⟨o1,o2⟩,⟨o3,o4⟩,o5⟩:=ok u hu
  unfold mmT pX
  dsimp only
  split <;> omega
 ·show (norm _ (aF n vs)).le .n0=true
  rw [bG (jQ _ _)]
  rfl
theorem iG:FnScope ["n","ties"] ["n","ties"] (aA (top 16)):=zC
theorem lZ:(["tie","n","ties"]:List Str).Nodup:=by decide +kernel
theorem pP (F:Fun K "one_way_of" "one_way_of" (top 16) f fd) (B:Š mg) (C_check_makes_web:ć P w K mg base 5 "check_makes_web" ["n","ties"] (spD Ng)):FnOk P w K mg base CX0 6 f fd ["n","ties"] (spD GJ):=by
 refine F.ok iG ł (fun cdv A outer s H vs Q E hr h=>?_)
 have nd:=iG.nd
 refine⟨_,ĕ (Ê (Wr.bU (İ C_check_makes_web hr (À (Ç 0) (À (Ç 1) Ã))))
  (ß (å (Ā (À (Ç 0) (À (Wr.mQ B.tuple (À (Wr.jA B.sorted (À (Ŗ ["tie"] rfl (Ş (Ç 1)) (fun c=>(ç (i:=0) lZ rfl zQ)) (fun c=>Ŀ) (fun c=>(Ā (À (á (Ç 0) Ì) (À (á (Ç 0) Ì) Ã))))) Ã)) Ã)) Ã)))))),bf h ?_⟩
 rintro ds P ⟨n,us,rfl,n1,n16,lu,ok,q⟩
 refine⟨[.im (.int n),.sh (.list (us.map pD))],rfl,?_⟩
 refine⟨n,us,rfl,n1,n16,lu,ok,?_⟩
 refine sE us pD pD .imm rfl (by omega) (fun t ht A B hA=>aH (B:=True) ⟨.int t.1,rfl,.int t.2,rfl,zK,rfl,hA⟩) ?_
 refine⟨us,.inl rfl,by omega,fun t ht=>?_,fun vs hp hs=>⟨zK,?_,q vs hp⟩⟩
 ·obtain⟨⟨o1,o2⟩,⟨o3,o4⟩,o5⟩:=ok t ht
  unfold pX
  omega
 ·show (norm _ (aF n vs)).le .n0=true
  rw [bG (jQ _ _)]
  rfl
end
theorem Ab {l:List Int}{y:Int} (h:l.getLast?=some y):atI (l.map Æ) (-1)=some (.int y):=by
 obtain⟨l',rfl⟩:=List.getLast?_eq_some_iff.mp h
 rw [Þ]
 exact Hw _ _
def Qh (d:D):Prop:=∀ es,d=.list es->es.length<=400
def PN (ds:List D) (P:D->Prop):Prop:=∃ n us a b d,ds=[aF n us,.int a,.int b,d]/\Qh d/\P (.bool (pO n a b d))
section
variable {P:Program}{w:World}{K:Ý}{mg:Str->Option Value}{base:Heap}{f:Addr}{fd:FuncData}
theorem cO:FnScope ["web","a","b","thing"] ["web","a","b","thing"] (aA (top 24)):=zC
theorem fL:(["place","web","a","b","thing"]:List Str).Nodup:=by decide +kernel
theorem iC (F:Fun K "is_row_of_places" "is_row_of_places" (top 24) f fd) (B:Š mg) (m_set:mg "set"=none) (C_is_place:ć P w K mg base 3 "is_place" ["web","thing"] (spD GQ)):FnOk P w K mg base CX0 4 f fd ["web","a","b","thing"] (spD PN):=by
 refine F.ok cO ł (fun cdv A outer s H vs Q E hr h=>?_)
 have nd:=cO.nd
 refine⟨_,ĕ (Ê (Č (Wr.wpt (Ŋ (Ę (ď (ŭ jO B.isinstance (Ç 3) (Wr.wty rfl B.list boot_list)))) (Ō (Ę (Wr.mO (Ç 3)))))) (ß (å Ĥ)) é)
  (Ê (Č (Ę (ď (Wr.iZ rfl B.all Dl.boot_all (À (Ŗ ["place"] rfl (Ş (Ç 3)) (fun c=>(ç (i:=0) fL rfl zQ)) (fun c=>Ŀ) (fun c=>(İ C_is_place hr (À (Ç 1) (À (Ç 0) Ã))))) Ã)))) (ß (å Ĥ)) é)
  (ß (å (Wr.eX (Wr.eV hr.units (á (Ç 3) Ì) (Ç 1)) (Wr.eX (Wr.eV hr.units (á (Ç 3) (Wr.nP Ì)) (Ç 2)) (Wr.iV (Wr.eV hr.units (Wr.gR rfl m_set B.len (À (Ç 3) Ã)) (ľ B.len (À (Ç 3) Ã)))))))))),bf h ?_⟩
 rintro ds P ⟨n,us,a,b,d,rfl,hf,q⟩
 refine⟨[.im (aF n us),.im (.int a),.im (.int b),bH d],by show [bH (aF n us),_,_,bH d]=_; rw [bV]; rfl,?_⟩
 cases d with
 | list es =>
  have hl:=hf es rfl
  cases hes:es with
  | nil =>
   subst hes
   exact aB (A:=True) (aH (B:=True) ⟨rfl,q⟩)
  | cons e0 es0 =>
   rw [← hes]
   refine aB (A:=True) ?_
   have ne:es.isEmpty=false:=by rw [hes]; rfl
   show if (!(!es.isEmpty))=true then _ else _
   rw [ne]
   refine aB (A:=True) (sE es (fun d=>d) (fun d=>.bool (bw n d)) .imm (List.map_id' es).symm (by omega) (fun d hd A B hA=>?_) ?_)
   ·by_cases hi:dF d=true
    ·have en:∀ k,norm k d=.imm:=fun k=>bG hi
     unfold gNm
     simp only [en]
     exact aH (B:=True) ⟨n,us,d,rfl,rfl,hA⟩
    ·have en:∀ k,norm k d=k:=fun k=>jF hi
     unfold gNm
     simp only [en]
     exact aH (B:=True) ⟨n,us,d,rfl,rfl,hA⟩
   refine⟨es.map (bw n),by rw [Ē]; rfl,?_⟩
   rw [List.all_map]
   have q1:P (.bool ((((!es.isEmpty&&es.all (bw n))&&decide ((es.map toI).head?=some a))&&decide ((es.map toI).getLast?=some b))&&rZ (es.map toI))):=q
   rw [ne] at q1
   show if (!es.all (bw n))=true then _ else _
   cases ha:es.all (bw n) with
   | false =>
    rw [ha] at q1
    exact aH (B:=True) ⟨rfl,q1⟩
   | true =>
    rw [ha] at q1
    have ei:=ints_of ha
    generalize es.map toI=l at ei q1
    subst ei
    have q1:P (.bool ((decide (l.head?=some a)&&decide (l.getLast?=some b))&&rZ l)):=q1
    have l0:l≠[]:=fun z=>by rw [z] at hes; cases hes
    have ll:(l.map Æ).length=l.length:=Â ..
    have lp:=List.length_pos_iff.mpr l0
    obtain⟨x,hx⟩:∃ x,l.head?=some x:=by
     cases l with
     | nil=>exact absurd rfl l0
     | cons x l=>exact⟨x,rfl⟩
    obtain⟨y,hy⟩:∃ y,l.getLast?=some y:=⟨_,List.getLast?_eq_some_getLast l0⟩
    have ax:atI (l.map Æ) 0=some (.int x):=bA (j:=0) (by rw [Ø,← List.head?_eq_getElem?,hx]; rfl)
    have ay:atI (l.map Æ) (-1)=some (.int y):=Ab hy
    refine aB (A:=True) ⟨.int x,ax,?_⟩
    rw [hx,hy] at q1
    have ea:decide (some x=some a)=decide (x=a):=by simp
    have eb:decide (some y=some b)=decide (y=b):=by simp
    rw [ea,eb] at q1
    show if decide (x=a)=true then _ else _
    refine gB (fun c=>?_) (fun c=>⟨rfl,?_⟩)
    ·rw [c] at q1
     refine⟨.int y,ay,?_⟩
     show if decide (y=b)=true then _ else _
     refine gB (fun c=>?_) (fun c=>⟨rfl,?_⟩)
     ·rw [c] at q1
      refine⟨_,l,rfl,by omega,rfl,?_⟩
      have q1:P (.bool (rZ l)):=q1
      show P (.bool (decide ((((once l).length:Nat):Int)=(((l.map Æ).length:Nat):Int))))
      have e:decide ((((once l).length:Nat):Int)=(((l.map Æ).length:Nat):Int))=rZ l:=by
       unfold rZ
       rw [Â,ĵ,decide_eq_true_eq,decide_eq_true_eq]
       omega
      rw [e]
      exact q1
     ·have c:decide (y=b)=false:=by simpa using c
      rw [c] at q1
      exact q1
    ·have c:decide (x=a)=false:=by simpa using c
     rw [c] at q1
     exact q1
 | tuple es=>rcases iy (.tuple es) with e | e <;> rw [e] <;> exact aH (B:=True) ⟨rfl,q⟩
 | _=>exact aH (B:=True) ⟨rfl,q⟩
end
def Jr:D->Nat
 | .list es=>es.length
 | _=>0
def d7 (n m a b:Int):D->Bool
 | .tuple [d1,.list ns]=>pO n a b d1&&(decide (((ns.length:Nat):Int)=((Jr d1:Nat):Int) - 1)&&ns.all (bw m))
 | _=>false
def NK (d:D):Prop:=∀ es,d=.tuple es->∀ e∈es,Qh e
def GX (ds:List D) (P:D->Prop):Prop:=∃ n us a b d,ds=[aF n us,.int a,.int b,d]/\NK d/\P (.bool (d7 n (us.length:Nat) a b d))
theorem uH {n a b:Int}{d:D} (h:pO n a b d=true):∃ es,d=.list es:=by
 cases d with
 | list es=>exact⟨es,rfl⟩
 | _=>cases h
theorem Gw {n m a b:Int}{es:List D} (h:es.length≠2):d7 n m a b (.tuple es)=false:=by
 match es,h with
 | [],_=>rfl
 | [_],_=>rfl
 | [_,_],h=>exact absurd rfl h
 | _::x::_::_,_=>cases x <;> rfl
section
variable {P:Program}{w:World}{K:Ý}{mg:Str->Option Value}{base:Heap}{f:Addr}{fd:FuncData}
theorem cW:FnScope ["web","a","b","thing"] ["web","a","b","thing"] (aA (top 25)):=zC
theorem gb:(["number","web","a","b","thing"]:List Str).Nodup:=by decide +kernel
theorem jc (F:Fun K "has_form_of_way" "has_form_of_way" (top 25) f fd) (B:Š mg) (C_is_row_of_places:ć P w K mg base 4 "is_row_of_places" ["web","a","b","thing"] (spD PN)) (C_is_tie_number:ć P w K mg base 3 "is_tie_number" ["web","thing"] (spD Kq)):FnOk P w K mg base CX0 5 f fd ["web","a","b","thing"] (spD GX):=by
 refine F.ok cW ł (fun cdv A outer s H vs Q E hr h=>?_)
 have nd:=cW.nd
 refine⟨_,ĕ (Ê (Č (Wr.wpt (Ŋ (Ę (ď (ŭ kit_tuple B.isinstance (Ç 3) (Wr.wty rfl B.tuple boot_tuple)))) (Ō (ŕ hr.units (ľ B.len (À (Ç 3) Ã)) Ì)))) (ß (å Ĥ)) é)
  (Ê (Č (Wr.wpt (Ŋ (Ę (ď (İ C_is_row_of_places hr (À (Ç 0) (À (Ç 1) (À (Ç 2) (À (á (Ç 3) Ì) Ã))))))) (Ō (Ę (ď (ŭ jO B.isinstance (á (Ç 3) Ì) (Wr.wty rfl B.list boot_list))))))) (ß (å Ĥ)) é)
  (ß (å (Wr.eX (Wr.eV hr.units (ľ B.len (À (á (Ç 3) Ì) Ã)) (Wr.dJ (ľ B.len (À (á (Ç 3) Ì) Ã)) Ì)) (Wr.iV (Wr.iZ rfl B.all Dl.boot_all (À (Ŗ ["number"] rfl (Ş (á (Ç 3) Ì)) (fun c=>(ç (i:=0) gb rfl zQ)) (fun c=>Ŀ) (fun c=>(İ C_is_tie_number hr (À (Ç 1) (À (Ç 0) Ã))))) Ã)))))))),bf h ?_⟩
 rintro ds P ⟨n,us,a,b,d,rfl,hf,q⟩
 refine⟨[.im (aF n us),.im (.int a),.im (.int b),bH d],by show [bH (aF n us),_,_,bH d]=_; rw [bV]; rfl,?_⟩
 cases d with
 | tuple es =>
  by_cases h2:es.length=2
  ·obtain⟨d1,d2,rfl⟩:∃ d1 d2,es=[d1,d2]:=by
    match es,h2 with
    | [x,y],_=>exact⟨x,y,rfl⟩
   have f1:=hf _ rfl d1 Ö
   have f2:=hf _ rfl d2 (Ó _ Ö)
   rcases iy (.tuple [d1,d2]) with e | e
   all_goals
    rw [e]
    refine aB (A:=True) (aB (A:=True) ⟨d1,rfl,n,us,a,b,d1,rfl,f1,?_⟩)
    show if (!pO n a b d1)=true then _ else _
    cases hr:pO n a b d1 with
    | false =>
     have e0:d7 n ((us.length:Nat):Int) a b (.tuple [d1,d2])=false:=by
      cases d2 with
      | list ns=>show (pO n a b d1&&_)=false; rw [hr]; rfl
      | _=>rfl
     rw [e0] at q
     exact aH (B:=True) ⟨rfl,q⟩
    | true =>
     refine aB (A:=True) ⟨d2,rfl,?_⟩
     cases d2 with
     | list ns =>
      obtain⟨es1,rfl⟩:=uH hr
      have hn:=f2 ns rfl
      have q1:P (.bool (pO n a b (.list es1)&&(decide (((ns.length:Nat):Int)=((es1.length:Nat):Int) - 1)&&ns.all (bw ((us.length:Nat):Int))))):=q
      rw [hr,Bool.true_and] at q1
      refine aB (A:=True) ⟨.list ns,rfl,.list es1,rfl,?_⟩
      show if decide (((ns.length:Nat):Int)=((es1.length:Nat):Int) - 1)=true then _ else _
      refine gB (fun c=>?_) (fun c=>⟨rfl,?_⟩)
      ·rw [c,Bool.true_and] at q1
       refine⟨.list ns,rfl,sE ns (fun d=>d) (fun d=>.bool (bw ((us.length:Nat):Int) d)) .imm (List.map_id' ns).symm (by omega) (fun d hd A B hA=>?_) ?_⟩
       ·by_cases hi:dF d=true
        ·have en:∀ k,norm k d=.imm:=fun k=>bG hi
         unfold gNm
         simp only [en]
         exact aH (B:=True) ⟨n,us,d,rfl,rfl,hA⟩
        ·have en:∀ k,norm k d=k:=fun k=>jF hi
         unfold gNm
         simp only [en]
         exact aH (B:=True) ⟨n,us,d,rfl,rfl,hA⟩
       ·refine⟨ns.map (bw ((us.length:Nat):Int)),by rw [Ē]; rfl,rfl,?_⟩
        rw [List.all_map]
        exact q1
      ·have c:decide (((ns.length:Nat):Int)=((es1.length:Nat):Int) - 1)=false:=by simpa using c
       rw [c] at q1
       exact q1
     | _=>exact aH (B:=True) ⟨rfl,q⟩
  ·rw [Gw h2] at q
   have c:decide (((es.length:Nat):Int)=2)=false:=decide_eq_false fun z=>h2 (by omega)
   rcases iy (.tuple es) with e | e
   all_goals
    rw [e]
    refine aB (A:=True) ?_
    show if (!decide (((es.length:Nat):Int)=2))=true then _ else _
    rw [c]
    exact aH (B:=True) ⟨rfl,q⟩
 | list es=>exact aH (B:=True) ⟨rfl,q⟩
 | _=>exact aH (B:=True) ⟨rfl,q⟩
end
theorem jW (t u:Tie):ô (pD t) (pD u)=decide (t=u):=by
 show (t.1 == u.1&&(t.2 == u.2&&true))=_
 rw [ĵ]
 simp [Prod.ext_iff]
def fG (both:Bool) (us:List Tie) (h:Tie) (k:Int):Bool:=decide (us[k.toNat]?=some (if both=true then mmT h else h))
def gD (l:List Int):List Tie:=l.dropLast.zip (l.drop 1)
def iM (both:Bool) (us:List Tie):D->Bool
 | .tuple [.list es,.list ns]=>((gD (es.map toI)).zip (ns.map toI)).all fun p=>fG both us p.1 p.2
 | _=>false
def HN (both:Bool) (n:Int) (us:List Tie) (a b:Int) (d:D):Bool:=d7 n (us.length:Nat) a b d&&iM both us d
def JB (both:Bool) (ds:List D) (P:D->Prop):Prop:=∃ n us a b d,ds=[aF n us,.int a,.int b,d]/\0<=a/\a<n/\0<=b/\b<n/\NK d/\P (.bool (HN both n us a b d))
theorem zO {n m a b:Int}{d:D} (h:d7 n m a b d=true):∃ ps ks:List Int,d=.tuple [iD ps,iD ks]/\∀ k∈ks,0<=k/\k<m:=by
 match d,h with
 | .tuple [d1,.list ns],h =>
  have h:(pO n a b d1&&(decide (((ns.length:Nat):Int)=((Jr d1:Nat):Int) - 1)&&ns.all (bw m)))=true:=h
  rw [à,à] at h
  obtain⟨es,rfl⟩:=uH h.1
  have h1:((((!es.isEmpty&&es.all (bw n))&&decide ((es.map toI).head?=some a))&&decide ((es.map toI).getLast?=some b))&&rZ (es.map toI))=true:=h.1
  simp only [à] at h1
  have e1:=ints_of h1.1.1.1.2
  have e2:=ints_of h.2.2
  refine⟨es.map toI,ns.map toI,?_,fun k hk=>?_⟩
  ·unfold iD
   rw [← e1,← e2]
  ·obtain⟨e,he,rfl⟩:=Ğ.mp hk
   have hb:=Ĭ.mp h.2.2 e he
   obtain⟨i,rfl⟩:=qO hb
   exact of_decide_eq_true hb
section
variable {P:Program}{w:World}{K:Ý}{mg:Str->Option Value}{base:Heap}{f:Addr}{fd:FuncData}
theorem qg:FnScope ["web","a","b","thing"] ["web","a","b","thing"] (aA (top 27)):=zC
theorem lQ:(["hop","number","web","a","b","thing"]:List Str).Nodup:=by decide +kernel
theorem Bh (F:Fun K "is_way" "is_way" (top 27) f fd) (B:Š mg) (m_zip:mg "zip"=none) (C_check_place:ć P w K mg base 4 "check_place" ["web","thing"] (spD G3)) (C_has_form_of_way:ć P w K mg base 5 "has_form_of_way" ["web","a","b","thing"] (spD GX)) (C_hops:ć P w K mg base 1 "hops" ["places"] (spD GR)):FnOk P w K mg base CX0 6 f fd ["web","a","b","thing"] (spD (JB true)):=by
 refine F.ok qg ł (fun cdv A outer s H vs Q E hr h=>?_)
 have nd:=qg.nd
 refine⟨_,ĕ (Ê (Wr.bU (İ C_check_place hr (À (Ç 0) (À (Ç 1) Ã))))
  (Ê (Wr.bU (İ C_check_place hr (À (Ç 0) (À (Ç 2) Ã))))
  (Ê (Č (Ę (ď (İ C_has_form_of_way hr (À (Ç 0) (À (Ç 1) (À (Ç 2) (À (Ç 3) Ã))))))) (ß (å Ĥ)) é)
  (ß (å (Wr.iZ rfl B.all Dl.boot_all (À (Ŗ ["hop","number"] rfl (Wr.tG m_zip (À (İ C_hops hr (À (á (Ç 3) Ì) Ã)) (À (á (Ç 3) Ì) Ã))) (fun c=>(Wr.dB (n:=2) rfl (ġ (ç (i:=0) lQ rfl zQ) (ġ (ç (i:=1) lQ rfl zQ) Wr.cA)))) (fun c=>Ŀ) (fun c=>(Wr.eV hr.units (á (á (Ç 2) Ì) (Ç 1)) (Ā (À (Wr.mR rfl B.min (À (Ç 0) Ã)) (À (Wr.mU rfl B.max (À (Ç 0) Ã)) Ã)))))) Ã))))))),bf h ?_⟩
 rintro ds P ⟨n,us,a,b,d,rfl,a0,a1,b0,b1,hf,q⟩
 refine⟨[.im (aF n us),.im (.int a),.im (.int b),bH d],by show [bH (aF n us),_,_,bH d]=_; rw [bV]; rfl,?_⟩
 rcases iy d with e | e
 all_goals
  rw [e]
  refine⟨n,us,a,rfl,a0,a1,n,us,b,rfl,b0,b1,n,us,a,b,d,rfl,hf,?_⟩
  show if (!d7 n ((us.length:Nat):Int) a b d)=true then _ else _
  cases hr:d7 n ((us.length:Nat):Int) a b d with
  | false =>
   have q1:P (.bool (d7 n ((us.length:Nat):Int) a b d&&iM true us d)):=q
   rw [hr] at q1
   exact aH (B:=True) ⟨rfl,q1⟩
  | true =>
   obtain⟨ps,ks,rfl,hk⟩:=zO hr
   have q1:P (.bool (d7 n ((us.length:Nat):Int) a b (.tuple [iD ps,iD ks])&&iM true us (.tuple [iD ps,iD ks]))):=q
   rw [hr,Bool.true_and] at q1
   have q1:P (.bool (((gD ((ps.map Æ).map toI)).zip ((ks.map Æ).map toI)).all fun p=>fG true us p.1 p.2)):=q1
   rw [mG,mG] at q1
   refine aB (A:=True) ⟨iD ps,rfl,ps,rfl,?_,?_⟩
   ·have:=hf _ rfl (iD ps) Ö _ rfl
    rw [Â] at this
    exact this
   refine⟨iD ks,rfl,sE ((gD ps).zip ks) (fun p=>prD (pD p.1,.int p.2)) (fun p=>.bool (fG true us p.1 p.2)) .imm ?_ ?_ (fun p hp A B hA=>?_) ?_⟩
   ·show (((gD ps).map pD).zip (ks.map Æ)).map prD=_
    rw [List.zip_map,Ē]
    rfl
   ·have:=hf _ rfl (iD ks) (Ó _ Ö) _ rfl
    rw [Â] at this
    rw [ů]
    omega
   ·obtain⟨h,k⟩:=p
    have k1:=hk k (List.of_mem_zip hp).2
    have hlt:k.toNat<us.length:=by omega
    have ht:=Í hlt
    generalize us[k.toNat]=t at ht
    have att:atI (us.map pD) k=some (pD t):=by
     have:=bA (xs:=us.map pD) (j:=k.toNat) (v:=pD t) (by rw [Ø,ht]; rfl)
     rwa [show ((k.toNat:Nat):Int)=k by omega] at this
    refine⟨rfl,aH (B:=True) ⟨.tuple (us.map pD),rfl,pD t,att,zK,rfl,rfl,rfl,?_⟩⟩
    show A (.bool (ô (pD t) (pD (mmT h))))
    rw [jW]
    have e:fG true us h k=decide (t=mmT h):=by
     unfold fG
     rw [ht]
     simp
    rw [← e]
    exact hA
   ·refine⟨((gD ps).zip ks).map fun p=>fG true us p.1 p.2,by rw [Ē]; rfl,rfl,?_⟩
    rw [List.all_map]
    exact q1
theorem uG:FnScope ["one","a","b","thing"] ["one","a","b","thing"] (aA (top 28)):=zC
theorem n8:(["hop","number","one","a","b","thing"]:List Str).Nodup:=by decide +kernel
theorem Fo (F:Fun K "leads" "leads" (top 28) f fd) (B:Š mg) (m_zip:mg "zip"=none) (C_check_place:ć P w K mg base 4 "check_place" ["web","thing"] (spD G3)) (C_has_form_of_way:ć P w K mg base 5 "has_form_of_way" ["web","a","b","thing"] (spD GX)) (C_hops:ć P w K mg base 1 "hops" ["places"] (spD GR)):FnOk P w K mg base CX0 6 f fd ["one","a","b","thing"] (spD (JB false)):=by
 refine F.ok uG ł (fun cdv A outer s H vs Q E hr h=>?_)
 have nd:=uG.nd
 refine⟨_,ĕ (Ê (Wr.bU (İ C_check_place hr (À (Ç 0) (À (Ç 1) Ã))))
  (Ê (Wr.bU (İ C_check_place hr (À (Ç 0) (À (Ç 2) Ã))))
  (Ê (Č (Ę (ď (İ C_has_form_of_way hr (À (Ç 0) (À (Ç 1) (À (Ç 2) (À (Ç 3) Ã))))))) (ß (å Ĥ)) é)
  (ß (å (Wr.iZ rfl B.all Dl.boot_all (À (Ŗ ["hop","number"] rfl (Wr.tG m_zip (À (İ C_hops hr (À (á (Ç 3) Ì) Ã)) (À (á (Ç 3) Ì) Ã))) (fun c=>(Wr.dB (n:=2) rfl (ġ (ç (i:=0) n8 rfl zQ) (ġ (ç (i:=1) n8 rfl zQ) Wr.cA)))) (fun c=>Ŀ) (fun c=>(Wr.eV hr.units (á (á (Ç 2) Ì) (Ç 1)) (Ç 0)))) Ã))))))),bf h ?_⟩
 rintro ds P ⟨n,us,a,b,d,rfl,a0,a1,b0,b1,hf,q⟩
 refine⟨[.im (aF n us),.im (.int a),.im (.int b),bH d],by show [bH (aF n us),_,_,bH d]=_; rw [bV]; rfl,?_⟩
 rcases iy d with e | e
 all_goals
  rw [e]
  refine⟨n,us,a,rfl,a0,a1,n,us,b,rfl,b0,b1,n,us,a,b,d,rfl,hf,?_⟩
  show if (!d7 n ((us.length:Nat):Int) a b d)=true then _ else _
  cases hr:d7 n ((us.length:Nat):Int) a b d with
  | false =>
   have q1:P (.bool (d7 n ((us.length:Nat):Int) a b d&&iM false us d)):=q
   rw [hr] at q1
   exact aH (B:=True) ⟨rfl,q1⟩
  | true =>
   obtain⟨ps,ks,rfl,hk⟩:=zO hr
   have q1:P (.bool (d7 n ((us.length:Nat):Int) a b (.tuple [iD ps,iD ks])&&iM false us (.tuple [iD ps,iD ks]))):=q
   rw [hr,Bool.true_and] at q1
   have q1:P (.bool (((gD ((ps.map Æ).map toI)).zip ((ks.map Æ).map toI)).all fun p=>fG false us p.1 p.2)):=q1
   rw [mG,mG] at q1
   refine aB (A:=True) ⟨iD ps,rfl,ps,rfl,?_,?_⟩
   ·have:=hf _ rfl (iD ps) Ö _ rfl
    rw [Â] at this
    exact this
   refine⟨iD ks,rfl,sE ((gD ps).zip ks) (fun p=>prD (pD p.1,.int p.2)) (fun p=>.bool (fG false us p.1 p.2)) .imm ?_ ?_ (fun p hp A B hA=>?_) ?_⟩
   ·show (((gD ps).map pD).zip (ks.map Æ)).map prD=_
    rw [List.zip_map,Ē]
    rfl
   ·have:=hf _ rfl (iD ks) (Ó _ Ö) _ rfl
    rw [Â] at this
    rw [ů]
    omega
   ·obtain⟨h,k⟩:=p
    have k1:=hk k (List.of_mem_zip hp).2
    have hlt:k.toNat<us.length:=by omega
    have ht:=Í hlt
    generalize us[k.toNat]=t at ht
    have att:atI (us.map pD) k=some (pD t):=by
     have:=bA (xs:=us.map pD) (j:=k.toNat) (v:=pD t) (by rw [Ø,ht]; rfl)
     rwa [show ((k.toNat:Nat):Int)=k by omega] at this
    refine⟨rfl,aH (B:=True) ⟨.tuple (us.map pD),rfl,pD t,att,rfl,rfl,rfl,?_⟩⟩
    show A (.bool (ô (pD t) (pD (h))))
    rw [jW]
    have e:fG false us h k=decide (t=h):=by
     unfold fG
     rw [ht]
     simp
    rw [← e]
    exact hA
   ·refine⟨((gD ps).zip ks).map fun p=>fG false us p.1 p.2,by rw [Ē]; rfl,rfl,?_⟩
    rw [List.all_map]
    exact q1
end
def Ny (us:List Tie):Prop:=∀ t∈us,t.1<t.2
theorem JD (xs:List D):ô (.list xs) (.list [])=xs.isEmpty:=by cases xs <;> rfl
theorem Fx {xs:List D} (h:∀ x∈xs,x.canLay0=true/\x.depth<=50):okD (.list xs)=true:=by
 have a:ŗ xs=true/\PyData.depthAll xs<=50:=by
  induction xs with
  | nil=>exact⟨rfl,ÿ _⟩
  | cons x xs ih =>
   obtain⟨i1,i2⟩:=ih fun y hy=>h y (Ó _ hy)
   obtain⟨j1,j2⟩:=h x Ö
   refine⟨?_,?_⟩
   ·show (x.canLay0&&ŗ xs)=true
    rw [j1,i1]; rfl
   ·show max x.depth (PyData.depthAll xs)<=50
    omega
 show (ŗ xs&&decide (PyData.depthAll xs+1<=60))=true
 rw [a.1,decide_eq_true (by omega)]
 rfl
section
variable {P:Program}{w:World}{K:Ý}{mg:Str->Option Value}{base:Heap}{f:Addr}{fd:FuncData}
end
theorem PSs.wk {X:Cx}{ss:List Stmt}{t t':TS} (h:PSs X ss t) (w:∀ D σ H,t' D σ H->t D σ H):PSs X ss t':=fun pins s σ H D I q=>h pins s σ H D I (w D σ H q)
def Iu (p sc:Addr) (ns:List Int) (b:Bool):Pn where
 fp:=fun a=>a=p\/(b=true/\a=sc)
 PI:=fun H=>(∃ x y:Int,H p=some (.lst [.ref sc,.int x,.int y]))/\(b=true->Rd H sc (.lst (ns.map Ň)))
 pv:=.ref p
 mono:=fun H H' ⟨⟨x,y,h⟩,r⟩ k=>⟨⟨x,y,k _ _ (.inl rfl) h⟩,fun e=>(r e).elim (fun z=>.inl (k _ _ (.inr ⟨e,rfl⟩) z)) fun ⟨o,z⟩=>.inr ⟨o,k _ _ (.inr ⟨e,rfl⟩) z⟩⟩
 is:=fun H a ⟨⟨x,y,h⟩,r⟩ hb=>by
  rcases hb with rfl | ⟨e,rfl⟩
  ·exact⟨_,h,fun xs z=>nomatch z⟩
  ·rcases r e with z | ⟨o,z⟩
   ·exact⟨_,z,fun xs z=>nomatch z⟩
   ·exact⟨_,z,fun xs z=>nomatch z⟩
def CP (K:Ý) (q:Pn):Prop:=∃ p sc ns b,(b=true->p≠sc)/\(b=false->∀ H,SqL K H sc (ns.map Ň))/\q=Iu p sc ns b
theorem Lq {K:Ý}{H:Hp}{sc:Addr}{ns:List Int}{b:Bool} (r:b=true->Rd H sc (.lst (ns.map Ň))) (hb:b=false->∀ H,SqL K H sc (ns.map Ň)):SqL K H sc (ns.map Ň):=by
 cases b with
 | true=>exact .inl (r rfl)
 | false=>exact hb rfl H
theorem DQ {H:Hp}{sc p:Addr}{u o:HO} (h:Rd H sc u) (n:p≠sc):Rd (upd H p o) sc u:=by
 rcases h with z | ⟨o',z⟩
 ·exact .inl (by rw [aj (ċ n)]; exact z)
 ·exact .inr ⟨o',by rw [aj (ċ n)]; exact z⟩
def lR (ds:List D) (P:D->Prop):Prop:=∃ m:Int,ds=[.int m]/\0<m/\m<1073741824/\∀ r:Int,0<=r->r<m->P (.int r)
theorem gZ {C:Pn->Prop}{f:List D->(D->Prop)->Prop}{n:Nat} (hn:∀ ds P,f ds P->ds.length=n:=by intro _ _ h; repeat (first | (obtain⟨rfl,_⟩:=h; rfl) | obtain⟨_,h⟩:=h)):∀ vs H Q E,spP C f vs H Q E->vs.length=n+1:=fun vs H Q E h=>by
 obtain⟨p,vs',ds,P,_,rfl,_,r,t,_⟩:=h
 rw [í,r.length,hn ds P t]
theorem FT {x m:Int} (hm:0<m) (hb:m<=2 ^ 32):-(2 ^ 64)<x % m/\x % m<2 ^ 64:=by
 have h1:=Int.emod_nonneg x (b:=m) (by omega)
 have h2:=Ū x hm
 omega
theorem JF {i:Int}{ns:List Int} (h:(0:Int)<((ns.map Ň).length:Nat)):∃ v:Int,atI (ns.map Ň) (i % (((ns.map Ň).length:Nat):Int))=some (.int v):=by
 rw [Â] at h ⊢
 have h1:=Int.emod_nonneg i (b:=(ns.length:Int)) (by omega)
 have h2:=Ū i h
 have hk:(i % (ns.length:Int)).toNat<ns.length:=by omega
 have ek:i % (ns.length:Int)=(((i % (ns.length:Int)).toNat:Nat):Int):=by omega
 have q:atI (ns.map Ň) (((i % (ns.length:Int)).toNat:Nat):Int)=some (.int ns[(i % (ns.length:Int)).toNat]):=bA (by rw [Ø,Í hk]; rfl)
 rw [← ek] at q
 exact⟨_,q⟩
theorem nF {H:Hp}{a:Addr} (h:H a=none) (o:HO):Same H (upd H a o):=fun b u q=>by rw [aj (aq q h)]; exact q
def vZ:Sp:=fun vs H Q _=>∃ sc,vs=[.ref sc]/\∀ p,H p=none->Q (.ref p) (upd H p (.lst [.ref sc,.int 0,.int 0]))
theorem Nk {K:Ý}{T:DS}{N:List Str}{H:Hp}{Q:VK}{sc:Addr}{ns:List Int} (hS:SqL K H sc (ns.map Ň)) (q:∀ H',Q (.bl true) H') (hN:2<=N.length)
  (body:T { nx:=fun _=>False,rt:=fun d=>d=.bool true } (.any::.pen (CP K)::Ð (N.length - 2) .any)) :
  NT (pL (ux vZ [] E0 (Dc (lW 0) KD)) (gF 1)) (jM T) { nx:=fun _ H'=>Q .non H',rt:=Q } (L2.start N [.ref sc]) H:=by
 refine⟨_,rfl,sc,rfl,fun p hp=>?_⟩
 show jM T _ ((L2.start N [.ref sc]).set 1 (some (.ref p))) _
 have main:∀ b,(b=true->p≠sc)->(b=false->∀ H,SqL K H sc (ns.map Ň))->(b=true->Rd (upd H p (.lst [.ref sc,.int 0,.int 0])) sc (.lst (ns.map Ň)))->jM T { nx:=fun _ H'=>Q .non H',rt:=Q } ((L2.start N [.ref sc]).set 1 (some (.ref p))) (upd H p (.lst [.ref sc,.int 0,.int 0])):=by
  intro b h1 h2 h3
  refine⟨Iu p sc ns b,upd H p (.lst [.ref sc,.int 0,.int 0]),fun _=>none,_,_,?_,body,⟨fun _ _ _ _ _ _ n=>n.elim,fun d v H' n w=>?_,fun _ _ _ _ _ _ n=>n.elim,fun _ _ _ _ _ _ n=>n.elim⟩⟩
  ·have hl:(L2.start N [.ref sc]).length=N.length:=by unfold L2.start; simp; omega
   refine⟨fun b o e _=>e,⟨⟨0,0,ao⟩,h3⟩,fun a r e=>(nomatch e),fun j s e=>?_,by rw [List.length_set,hl,í,í,Ų]; omega,trivial⟩
   rcases j with _ | _ | j
   ·cases e; trivial
   ·cases e
    exact⟨ă (by rw [hl]; omega),p,sc,ns,b,h1,h2,rfl⟩
   ·rw [List.getElem?_cons_succ,List.getElem?_cons_succ] at e
    have e2:=(List.mem_replicate.mp (Ñ e)).2
    subst e2
    trivial
  ·have n:d=.bool true:=n
   subst n
   have r:=w.rp
   cases r
   exact q H'
 rcases hS with h | h
 ·have hn:p≠sc:=by
   rintro rfl
   rcases h with z | ⟨o,z⟩ <;> rw [hp] at z <;> cases z
  exact main true (fun _=>hn) (fun z=>nomatch z) fun _=>DQ h hn
 ·exact main false (fun z=>nomatch z) (fun _ H=>.inr h) fun z=>nomatch z
def Qo:TS:=fun D σ H=>∃ (a0 a2 a4 a6:Option V) (m i cell:Int),σ=[a0,some (.int m),a2,some (.int i),a4,some (.int cell),a6]/\0<m/\∀ r,0<=r->r<m->D.rt (.int r) H
def Ob (p:Addr):TS:=fun D σ H=>∃ (a2 a3 a5 a6:Option V) (m l:Int) (sc:Addr) (i' l0:Int),σ=[some (.ref p),some (.int m),a2,a3,some (.int l),a5,a6]/\0<m/\m<1073741824/\H p=some (.lst [.ref sc,.int i',.int l0]) /\
 D.rt (.int (l % m)) (upd H p (.lst [.ref sc,.int i',.int (l / m)]))
structure IsOrd (n:Int) (l:List Int):Prop where
 len:(l.length:Int)=n
 rng:∀ x∈l,0<=x/\x<n
 nd:l.Nodup
def GF (ds:List D) (P:D->Prop):Prop:=∃ n:Int,ds=[.int n]/\1<=n/\n<=16/\∀ l,IsOrd n l->P (.list (l.map Æ))
theorem DP (n:Int):lX 0 n=((ý n.toNat).map fun i=>((i:Nat):Int)).map Ň:=by
 unfold lX
 rw [Ē,Int.sub_zero]
 exact List.map_congr_left fun i _=>by simp
theorem Oo {r:Int}{k:Nat} (h0:0<=r) (h1:r<k):seqIndex? r k=some r.toNat:=(sO (n:=k) (i:=r) (j:=r.toNat) (by unfold ixN; rw [if_pos h0,if_pos h1])).1
theorem jL {α β:Type} (g:α->β):∀ (l:List α) (i:Nat),(l.map g).eraseIdx i=(l.eraseIdx i).map g
 | [],_=>by simp
 | _::_,0=>by simp
 | x::l,i+1=>by simp [jL g l i]
theorem uP {α:Type}:∀ (l:List α) (i:Nat) (x:α),l[i]?=some x->(x::l.eraseIdx i).Perm l
 | [],i,x,h=>by simp at h
 | y::l,0,x,h=>by simp at h; subst h; exact List.Perm.refl _
 | y::l,i+1,x,h=>by
  have ih:=uP l i x (by simpa using h)
  exact (List.Perm.swap y x _).trans (ih.cons y)
section
variable {P:Program}{w:World}{K:Ý}{mg:Str->Option Value}{base:Heap}{f:Addr}{fd:FuncData}
theorem KZ:FnScope ["_law_script"] ["_law_script"] (aA (top 30)):=zC
theorem Ml (F:Fun K "_law_pen" "_law_pen" (top 30) f fd):FnOk P w K mg base CX0 1 f fd ["_law_script"] vZ:=by
 refine F.ok KZ (fun vs H Q E h=>?_) (fun cdv A outer s H vs Q E hr h=>?_)
 ·obtain⟨sc,rfl,_⟩:=h
  rfl
 obtain⟨sc,rfl,q⟩:=h
 refine⟨_,eG (nH (wC (aG (pv 0) (aG Ź (aG Ź bB))))),?_⟩
 exact⟨_,rfl,by show 3<=sizeLine; decide,fun p hp=>q p hp⟩
theorem yI:FnScope ["_law_pen_here","_law_many","_law_script","_law_at","_law_left","_law_cell","_law_mixed"] ["_law_pen_here","_law_many"] (aA (top 31)):=zC
theorem Jf (F:Fun K "_law_take" "_law_take" (top 31) f fd) (B:Š mg):FnOk P w K mg base CX0 1 f fd ["_law_pen_here","_law_many"] (spP (CP K) lR):=by
 refine F.ok yI gZ (fun cdv A outer s H vs Q E hr h=>?_)
 obtain⟨_,vs',ds,P,⟨p,sc,ns,b,hps,hbK,rfl⟩,rfl,⟨⟨i,l,hp⟩,hsc⟩,rp,⟨m,rfl,h0,h30,hP⟩,q0⟩:=h
 obtain rfl:vs'=[.int m]:=by
  cases rp with
  | cons h1 t=>cases h1; cases t; rfl
 have nd:=yI.nd
 have q:∀ (r:Int) (H':Hp),0<=r->r<m->((∀ a o,H a=some o->a≠p->H' a=some o)/\(Iu p sc ns b).PI H')->Q (.int r) H':=fun r H' r0 r1 k =>
  q0 _ _ _ (hP r r0 r1) (fun a o e n=>k.1 a o e fun z=>n (.inl z)) k.2 (.int r)
 refine⟨_,aY (rm (pv 0) (L2.Lp rfl (jx (jy (i:=2) nd rfl (Or.inl rfl)) (jx (jy (i:=3) nd rfl (Or.inl rfl)) (jx (jy (i:=4) nd rfl (Or.inl rfl)) yR)))))
  (aY (yP (ju Fe (pv 4) Ź (bW _))
   (aY (rm (bJ fW (pv 3) Ź) (Ej (pv 0) Ź set_list))
   (aY (fU (i:=5) nd rfl (Or.inl rfl) Ź)
   (aY (yP (ju EY (bT cB rfl B.len PySem.boot_len (aG (pv 2) bB)) Ź (bW _))
    (eG (fU (i:=5) nd rfl (Or.inl rfl) (bT Ht rfl B.abs Dl.boot_abs (aG (uR sJ (pv 2) (bJ eY (pv 3) (bT cB rfl B.len PySem.boot_len (aG (pv 2) bB))) (fun _ _=>rfl)) bB)))) mK)
   (aY (yP (PW.pt (JX (ju J2 (pv 3) (bT cB rfl B.len PySem.boot_len (aG (pv 2) bB)) (bW _)) (DY (ju Ey (pv 5) (bJ Mf Ź Ź) (bW _)))))
    (PSs.wk (t':=Qo) (aY (fU (i:=6) nd rfl (Or.inl rfl) (bJ eY (bJ kZ (bJ fW (bJ fW (bJ eY (pv 5) Ź) (bJ kZ Ź (pv 3))) Ź) Ź) Ź))
    (aY (fU (i:=6) nd rfl (Or.inl rfl) (bJ eY (bJ fW (bJ fW (bJ kZ (pv 6) (pv 6)) (bJ kZ Ź (pv 6))) (pv 3)) Ź))
    (eG (nH (bJ eY (bJ yX (bJ eY (bJ fW (bJ kZ (pv 6) (bJ fW (bJ eY (pv 6) Ź) Ź)) (pv 3)) Ź) Ź) (pv 1)))))) ?mix) mK)
   (eG (fU (i:=4) nd rfl (Or.inl rfl) (pv 5))))))) mK)
  (PSs.wk (t':=Ob p) (aY (rm (bJ yX (pv 4) (pv 1)) (Ej (pv 0) Ź set_list))
  (eG (nH (bJ eY (pv 4) (pv 1))))) ?last)),?_⟩
 case mix =>
  rintro D σ H' ⟨a0,a2,a4,a6,m,i,cell,rfl,hm,hq⟩
  refine⟨_,rfl,_,_,rfl,rfl,(by show (0:Int)<2147483563; decide),_,rfl,_,_,rfl,rfl,.inl ⟨by decide,by decide⟩,_,_,rfl,rfl,_,_,rfl,rfl,_,_,rfl,rfl,.inr ⟨by decide,by decide⟩,_,_,rfl,rfl,(by show (0:Int)<2147483647; decide),?_⟩
  refine⟨_,rfl,_,rfl,_,_,rfl,rfl,.inl (FT (by decide) (by decide)),_,rfl,_,_,rfl,rfl,.inl ⟨by decide,by decide⟩,_,_,rfl,rfl,_,rfl,_,_,rfl,rfl,_,_,rfl,rfl,(by show (0:Int)<2147483587; decide),?_⟩
  refine⟨_,rfl,_,rfl,_,_,rfl,rfl,(by show (0:Int)<65521; decide),_,_,rfl,rfl,_,_,rfl,rfl,.inl (FT (by decide) (by decide)),_,rfl,_,_,rfl,rfl,_,_,rfl,rfl,(by show (0:Int)<2147483629; decide),_,_,rfl,rfl,⟨by decide,by decide⟩,_,rfl,_,_,rfl,rfl,hm,?_⟩
  exact hq _ (Int.emod_nonneg _ (by omega)) (Ū _ hm)
 case last =>
  rintro D σ H' ⟨a2,a3,a5,a6,m,l,sc,i',l0,rfl,hm,hm2,hp',hq⟩
  exact⟨_,rfl,_,rfl,_,_,rfl,rfl,⟨hm,hm2⟩,_,rfl,p,_,_,_,rfl,rfl,hp',rfl,_,rfl,_,rfl,_,_,rfl,rfl,hm,hq⟩
 have ok3:∀ (H1:Hp) (x y:Int),H1 p=some (.lst [V.ref sc,Ň x,Ň y])->(∀ b o,H b=some o->b≠p->H1 b=some o)->((∀ a o,H a=some o->a≠p->H1 a=some o)/\(Iu p sc ns b).PI H1):=fun H1 x y e k=>⟨k,⟨x,y,e⟩,fun eb=>by
  rcases hsc eb with z | ⟨o,z⟩
  ·exact .inl (k _ _ z (ċ (hps eb)))
  ·exact .inr ⟨o,k _ _ z (ċ (hps eb))⟩⟩
 have kU:∀ (H1:Hp) (o:HO),(∀ b o,H b=some o->b≠p->H1 b=some o)->∀ b u,H b=some u->b≠p->upd H1 p o b=some u:=fun H1 o k b u e n=>by rw [aj n]; exact k b u e n
 refine⟨_,rfl,p,_,rfl,SqL.of hp,rfl,_,_,rfl,_,_,rfl,_,_,rfl,rfl,?_⟩
 refine⟨_,rfl,rfl,_,rfl,gB (fun c=>?_) (fun c=>?_)⟩
 ·-- a new cell
  refine⟨_,rfl,_,_,rfl,rfl,_,rfl,p,_,_,_,rfl,rfl,hp,rfl,?_⟩
  have hp1:upd H p (.lst ([V.ref sc,Ň i,Ň l].set 1 (Ň (i+1)))) p=some (.lst [V.ref sc,Ň (i+1),Ň l]):=ao
  have k1:=kU H (.lst ([V.ref sc,Ň i,Ň l].set 1 (Ň (i+1)))) fun b o e _=>e
  have r1:b=true->Rd (upd H p (.lst ([V.ref sc,Ň i,Ň l].set 1 (Ň (i+1))))) sc (.lst (ns.map Ň)):=fun e=>DQ (hsc e) (hps e)
  have hS1:SqL K (upd H p (.lst ([V.ref sc,Ň i,Ň l].set 1 (Ň (i+1))))) sc (ns.map Ň):=Lq r1 hbK
  have K1:=ok3 _ _ _ hp1 k1
  refine⟨_,rfl,sc,_,rfl,.inl hS1,_,_,rfl,rfl,_,rfl,gB (fun c1=>(JF (i:=i) (ns:=ns) (of_decide_eq_true c1)).elim fun v hv=>⟨_,rfl,_,rfl,_,rfl,sc,_,rfl,.inl hS1,_,_,rfl,rfl,of_decide_eq_true c1,sc,_,_,_,rfl,rfl,hS1,hv,v,rfl,?_⟩) (fun c1=>?_)⟩
  all_goals
   refine⟨_,rfl,_,rfl,sc,_,rfl,.inl hS1,_,_,rfl,rfl,_,rfl,gB (fun c2=>aH ?_) (fun c2=>?_)⟩
   ·exact⟨_,_,_,_,m,i,_,rfl,h0,fun r a b=>q r _ a b K1⟩
   ·refine⟨_,rfl,_,_,rfl,rfl,⟨by decide,by decide,by decide⟩,_,_,rfl,rfl,_,rfl,gB (fun c3=>?_) (fun c3=>?_)⟩
    ·exact⟨_,_,_,_,m,i,_,rfl,h0,fun r a b=>q r _ a b K1⟩
    ·refine⟨_,rfl,?_⟩
     exact⟨_,_,_,_,m,_,sc,i+1,l,rfl,h0,h30,hp1,q _ _ (Int.emod_nonneg _ (by omega)) (Ū _ h0) (ok3 _ _ _ ao (kU _ _ k1))⟩
 ·exact⟨_,_,_,_,m,l,sc,i,l,rfl,h0,h30,hp,q _ _ (Int.emod_nonneg _ (by omega)) (Ū _ h0) (ok3 _ _ _ ao (kU _ _ fun b o e _=>e))⟩
theorem uF:FnScope ["_law_pen_here","_law_n","_law_left"] ["_law_pen_here","_law_n"] (aA (top 32)):=zC
theorem FN:(["_law_k","_law_pen_here","_law_n","_law_left"]:List Str).Nodup:=by decide +kernel
theorem Fl (F:Fun K "_law_order" "_law_order" (top 32) f fd) (B:Š mg) (T:ć P w K mg base 1 "_law_take" ["_law_pen_here","_law_many"] (spP (CP K) lR)):FnOk P w K mg base CX0 2 f fd ["_law_pen_here","_law_n"] (spP (CP K) GF):=by
 refine F.ok uF gZ (fun cdv A outer s H vs Q E hr h=>?_)
 obtain⟨pn,vs',ds,P,cp,rfl,pi,rp,⟨n,rfl,n1,n16,hP⟩,q0⟩:=h
 obtain rfl:vs'=[.int n]:=by
  cases rp with
  | cons h1 t=>cases h1; cases t; rfl
 have nd:=uF.nd
 refine⟨_,aY (fU (i:=2) nd rfl (Or.inr rfl) (cD (iK rfl) rfl B.list boot_list (aG (cD BZ rfl B.range boot_range (aG (pv 1) bB)) bB)))
  (eG (nH (J0 ["_law_k"] rfl (qp rfl B.range (aG (pv 1) bB)) (fun c=>jy (i:=0) FN rfl (Or.inl rfl)) (fun c=>yO)
   (fun c=>yU š PySem.F.slot_list_pop PySem.F.type_list_pop FP (pv 3) (aG (pcS T hr (aG (pv 1) (aG (bT cB rfl B.len PySem.boot_len (aG (pv 3) bB)) bB)) (by decide) rfl (by decide) rfl rfl) bB))))),?_⟩
 refine⟨_,rfl,n,rfl,fun r hr1=>?_⟩
 refine⟨r,0,n,rfl,ao,⟨by omega,by omega,by omega,by omega⟩,fun L hL=>?_⟩
 have a1:=nF hr1 (.rng 0 n)
 have a2:=nF hL (.lst (lX 0 n))
 have a12:Same H (upd (upd H r (.rng 0 n)) L (.lst (lX 0 n))):=fun b o e=>a2 b o (a1 b o e)
 have hHL:H L=none:=by
  cases e:H L with
  | none=>rfl
  | some o=>rw [a1 _ _ e] at hL; cases hL
 have nfp:∀ a,H a=none->¬ pn.fp a:=fun a ha z=>by
  obtain⟨o,e,_⟩:=pn.is H a pi z
  rw [ha] at e; cases e
 have hLp:=nfp L hHL
 refine⟨_,rfl,n,rfl,by omega,by omega,Mw (lo:=0) (k:=n.toNat) (by omega) (fun i ys H'=>∃ out rem:List Int,ys=out.map Ň/\H' L=some (.lst (rem.map Ň))/\(out++rem).Perm ((ý n.toNat).map fun i=>((i:Nat):Int))/\out.length=i/\Dl.Kp pn H H'/\pn.PI H')
  ⟨[],_,rfl,by rw [ao,DP],List.Perm.refl _,rfl,fun b o e _=>a12 b o e,pn.mono H _ pi fun b o _ e=>a12 b o e⟩ ?_ ?_ ?_⟩
 ·rintro i ys H' ⟨out,rem,rfl,_,_,e,_⟩
  rw [Â,e]
  exact Ï _
 ·rintro c i ys H' hi ⟨out,rem,rfl,hL',hperm,ho,k,pi'⟩
  have hlen:out.length+rem.length=n.toNat:=by have:=hperm.length_eq; simpa using this
  have hm:((rem.map Ň).length:Int)=rem.length:=by rw [Â]
  refine aH (B:=True) ⟨_,rfl,.inl ⟨rfl,_,SqL.of hL'⟩,_,rfl,_,rfl,L,_,rfl,.inl (SqL.of hL'),pn,_,[.int ((rem.map Ň).length:Nat)],(fun d=>∃ y:Int,0<=y/\y<((rem.map Ň).length:Nat)/\d=.int y),cp,rfl,pi',.cons (.int _) .nil,⟨_,rfl,by rw [hm]; omega,by rw [hm]; omega,fun x x0 x1=>⟨x,x0,x1,rfl⟩⟩,?_⟩
  rintro d v H2 ⟨x,x0,x1,rfl⟩ k2 pi2 rv
  have ev:=Rp.int' rv
  subst ev
  rw [hm] at x1
  have hL2:H2 L=some (.lst (rem.map Ň)):=k2 _ _ hL' hLp
  have hx:x.toNat<rem.length:=by omega
  refine⟨L,_,x,x.toNat,.int rem[x.toNat],rfl,rfl,hL2,by omega,by omega,by rw [Â]; exact Oo x0 x1,by rw [Ø,Í hx]; rfl,?_⟩
  refine⟨out++[rem[x.toNat]],rem.eraseIdx x.toNat,by rw [Þ]; rfl,by rw [ao,jL],?_,by rw [È,ho]; rfl,fun b o e nb=>?_,pn.mono H2 _ pi2 fun b o z e=>?_⟩
  ·rw [ŝ]
   exact ((uP rem x.toNat _ (Í hx)).append_left out).trans hperm
  ·rw [aj (fun z=>by rw [z,hHL] at e; cases e)]
   exact k2 b o (k b o e nb) nb
  ·rw [aj (show b≠L from fun y=>hLp (y ▸ z))]
   exact e
 ·rintro ys H' ⟨out,rem,rfl,hL',hperm,ho,k,pi'⟩ a ha
  have hlen:out.length+rem.length=n.toNat:=by have:=hperm.length_eq; simpa using this
  have hrem:rem=[]:=ņ (by omega)
  subst hrem
  rw [Ĵ] at hperm
  have nfa:¬ pn.fp a:=fun z=>by
   obtain⟨o,e,_⟩:=pn.is H' a pi' z
   rw [ha] at e; cases e
  have hHa:H a=none:=by
   cases e:H a with
   | none=>rfl
   | some o=>rw [k a o e nfa] at ha; cases ha
  have sm:=nF ha (.lst (out.map Ň))
  refine q0 _ _ _ (hP out ⟨by omega,fun x hx=>?_,?_⟩) (fun b o e nb=>sm b o (k b o e nb)) (pn.mono H' _ pi' fun b o _ e=>sm b o e) (.lst hHa ao (Rps.ofMap (fun i=>.int i) out))
  ·have:=hperm.mem_iff.mp hx
   obtain⟨i,hi,rfl⟩:=Ğ.mp this
   have:=List.mem_range.mp hi
   omega
  ·refine hperm.nodup_iff.mpr ?_
   exact (List.nodup_range (n:=n.toNat)).map (fun i=>((i:Nat):Int)) fun i j hij h=>hij (by omega)
end
theorem OkN.snoc {n:Int}{us:List Tie}{t:Tie} (h:OkN n us) (h':OkT n t):OkN n (us++[t]):=fun u hu=>(ä.mp hu).elim (h u) fun z=>by rw [Õ.mp z]; exact h'
theorem app1 (ts:List Tie) (a b:Int):ts.map pD++[Ĝ [.int a,.int b]]=(ts++[((a,b):Tie)]).map pD:=by
 rw [Þ]
 rfl
def Nh (ds:List D) (P:D->Prop):Prop:=∃ n many:Int,ds=[.int n,.int many]/\1<=n/\n<=16/\0<=many/\many<=64/\∀ us:List Tie,OkN n us->us.length<=many.toNat->P (.list (us.map pD))
section
variable {P:Program}{w:World}{K:Ý}{mg:Str->Option Value}{base:Heap}{f:Addr}{fd:FuncData}
theorem nD:FnScope ["_law_pen_here","_law_n","_law_many","_law_found","_law_k","_law_a"] ["_law_pen_here","_law_n","_law_many"] (aA (top 33)):=zC
theorem wQ (F:Fun K "_law_any" "_law_any" (top 33) f fd) (B:Š mg) (C__law_take:ć P w K mg base 1 "_law_take" ["_law_pen_here","_law_many"] (spP (CP K) lR)):FnOk P w K mg base CX0 2 f fd ["_law_pen_here","_law_n","_law_many"] (spP (CP K) Nh):=by
 refine F.ok nD gZ (fun cdv A outer s H vs Q E hr h=>?_)
 have nd:=nD.nd
 refine⟨_,ĕ (Ê (ó (some 0) (i:=3) nd rfl zQ (Ċ Ã))
  (Ê (Wr.dz ĝ rfl (Wr.bQ B.range (À (Wr.dR (Ç 2) (Wr.gU B.int boot_int (À (Wr.yW (Ç 1) Ì) Ã))) Ã)) (ç (i:=4) nd rfl zQ) (Ê (ó none (i:=5) nd rfl zQ (ō C__law_take hr (Ń 0) (À (Ç 1) Ã)))
  (Ê (Wr.cG (Ń 3) (À (Ā (À (Ç 5) (À (Wr.wK (Đ (Đ (Ç 5) Ì) (ō C__law_take hr (Ń 0) (À (Wr.dJ (Ç 1) Ì) Ã))) (Ç 1)) Ã))) Ã)) (û [4,5] é))))
  (û [4,5] (ß (å (Ç 3)))))),enterQ h ?_⟩
 rintro ds P ⟨n,many,rfl,n1,n16,m0,m64,q⟩
 refine⟨[.im (.int n),.im (.int many),.any,.any,.any],rfl,?_⟩
 have bb:∀ b:Bool,(0<=many * (if b=true then 1 else 0)/\many * (if b=true then 1 else 0)<=64)/\(many * (if b=true then 1 else 0)).toNat<=many.toNat:=fun b=>by
  cases b with
  | true=>rw [if_pos rfl]; omega
  | false=>rw [if_neg Ô]; omega
 have b1:=bb (decide (1<n))
 refine⟨zK,.inl ⟨by omega,by omega⟩,⟨by omega,by omega⟩,rfl,fun (i:Nat) ρ=>∃ us:List Tie,ρ=[.pen (CP K),.im (.int n),.im (.int many),.dw 0 (.list (us.map pD)),.any,.any]/\OkN n us/\us.length=i,⟨[],rfl,fun _ h=>(nomatch h),rfl⟩,?_,?_⟩
 ·rintro i d ρ hd ⟨us,rfl,ok,lu⟩
  obtain⟨hi,rfl⟩:=ū hd
  have n2:1<n:=by
   by_cases z:1<n
   ·exact z
   ·have e:decide (1<n)=false:=decide_eq_false z
    rw [e,if_neg Ô] at hi
    simp at hi
  have ll:(us.map pD).length=us.length:=Â ..
  refine⟨rfl,n,rfl,by omega,by omega,fun a a0 a1=>⟨rfl,n - 1,rfl,by omega,by omega,fun r r0 r1=>⟨by omega,zK,rfl,by omega,us++[(a,(a+1+r) % n)],?_,ok.snoc ?_,by rw [È,Ú,lu]⟩⟩⟩
  ·rw [← app1]
   rfl
  ·have h1:=Int.emod_nonneg (a+1+r) (b:=n) (by omega)
   have h2:=Ū (a+1+r) (b:=n) (by omega)
   refine⟨⟨a0,a1⟩,⟨h1,h2⟩,fun z=>?_⟩
   have z:a=(a+1+r) % n:=z
   by_cases c:a+1+r<n
   ·rw [Int.emod_eq_of_lt (by omega) c] at z
    omega
   ·have e:(a+1+r) % n=a+1+r - n:=by
     rw [← Int.sub_emod_right,Int.emod_eq_of_lt (by omega) (by omega)]
    rw [e] at z
    omega
 ·rintro ρ ⟨us,rfl,ok,lu⟩
  rw [cF] at lu
  exact⟨rfl,q us ok (by omega)⟩
end
theorem OkN.app {n:Int}{us vs:List Tie} (h:OkN n us) (h':OkN n vs):OkN n (us++vs):=fun u hu=>(ä.mp hu).elim (h u) (h' u)
theorem or2 {a b:Bool}{A B:Prop} (hA:(a=true\/b=true)->A) (hB:a=false->b=false->B):if a=true then (if true=true then A else B) else (if b=true then A else B):=by
 cases a with
 | true=>exact aH (B:=True) (aH (B:=True) (hA (.inl rfl)))
 | false =>
  refine aB (A:=True) ?_
  cases b with
  | true=>exact aH (B:=True) (hA (.inr rfl))
  | false=>exact aB (A:=True) (hB rfl rfl)
theorem OkT.lt {n a b:Int} (h0:0<=a) (h1:a<b) (h2:b<n):OkT n (a,b):=⟨⟨h0,by dsimp only; omega⟩,⟨by dsimp only; omega,h2⟩,by dsimp only; omega⟩
theorem Ot (b:Bool) (t:Tie):∃ zs:List Tie,(Ð (if b=true then (1:Int) else 0).toNat [pD t]).flatten=zs.map pD/\zs.length<=1/\∀ z∈zs,z=t/\b=true:=by
 cases b with
 | true=>exact⟨[t],rfl,Ï _,fun z hz=>⟨Õ.mp hz,rfl⟩⟩
 | false=>exact⟨[],rfl,ÿ _,fun z hz=>nomatch hz⟩
theorem K5 (b:Bool) (t:Tie):(0:Int)<=(if b=true then 1 else 0)/\(if b=true then (1:Int) else 0)<1000/\[pD t].length * (if b=true then (1:Int) else 0).toNat<=1000:=by
 cases b <;> exact⟨by decide,by decide,by rw [Ú]; decide⟩
def GD (ds:List D) (P:D->Prop):Prop:=∃ n:Int,ds=[.int n]/\1<=n/\n<=16/\∀ us:List Tie,OkN n us->us.length<=30->P (.list (us.map pD))
def Gz (ds:List D) (P:D->Prop):Prop:=∃ n:Int,ds=[.int n]/\1<=n/\n<=16/\∀ us:List Tie,OkN n us->us.length<=40->P (.list (us.map pD))
def qY (a:Int) (k:Nat):List Int:=(0::(ý k).map fun i=>a+((i:Nat):Int))++[0]
theorem Dy (a:Int) (k:Nat):[Æ 0]++aQ a k++[Æ 0]=(qY a k).map Æ:=by
 unfold qY aQ
 rw [Þ,Ą,Ē]
 rfl
theorem qz (l:List Int):cu (l.map Æ)=true:=by
 induction l with
 | nil=>rfl
 | cons x l ih=>exact ih
theorem Gg (a:Int) (k:Nat):cu ([Æ 0]++aQ a k)=true:=by
 have:[Æ 0]++aQ a k=((0::(ý k).map fun i=>a+((i:Nat):Int)):List Int).map Æ:=by
  unfold aQ
  rw [Ą,Ē]
  rfl
 rw [this]
 exact qz _
theorem Ju (a:Int) (k:Nat):cu ([Æ 0]++aQ a k++[Æ 0])=true:=by
 rw [Dy]
 exact qz _
theorem DN (a:Int) (k:Nat):(qY a k).length=k+2:=by
 unfold qY
 rw [È,í,Â,ð]
 rfl
theorem Ig (a:Int) (k i:Nat) (h:i<k+2):(qY a k)[i]?=some (if i=0\/i=k+1 then 0 else a+((i:Nat):Int) - 1):=by
 unfold qY
 cases i with
 | zero=>rfl
 | succ i =>
  by_cases hi:i<k
  ·rw [ë (by rw [í,Â,ð]; omega),List.getElem?_cons_succ,Ø,List.getElem?_range hi,if_neg (by omega)]
   show some (a+((i:Nat):Int))=some (a+((i+1:Nat):Int) - 1)
   congr 1
   omega
  ·have:i=k:=by omega
   subst this
   rw [î (by rw [í,Â,ð]; omega),if_pos (.inr rfl)]
   rw [í,Â,ð,Nat.sub_self]
   rfl
theorem uI (a:Int) (k:Nat) (j:Int) (h0:0<=j) (h:j<k+2):atI ((qY a k).map Æ) j=some (.int (if j=0\/j=k+1 then 0 else a+j - 1)):=by
 obtain⟨i,rfl⟩:=Int.eq_ofNat_of_zero_le h0
 refine bA ?_
 rw [Ø,Ig a k i (by omega)]
 show some (Æ _)=some (Æ _)
 congr 2
 by_cases c:i=0\/i=k+1
 ·rw [if_pos c,if_pos (by omega)]
 ·rw [if_neg c,if_neg (by omega)]
section
variable {P:Program}{w:World}{K:Ý}{mg:Str->Option Value}{base:Heap}{f:Addr}{fd:FuncData}
theorem jm:FnScope ["_law_pen_here","_law_n","_law_found","_law_at","_law_row"] ["_law_pen_here","_law_n"] (aA (top 34)):=zC
theorem ou:(["_law_k","_law_pen_here","_law_n","_law_found","_law_at","_law_row"]:List Str).Nodup:=by decide +kernel
theorem rR (F:Fun K "_law_rings" "_law_rings" (top 34) f fd) (B:Š mg) (C__law_take:ć P w K mg base 1 "_law_take" ["_law_pen_here","_law_many"] (spP (CP K) lR)):FnOk P w K mg base CX0 2 f fd ["_law_pen_here","_law_n"] (spP (CP K) GD):=by
 refine F.ok jm gZ (fun cdv A outer s H vs Q E hr h=>?_)
 have nd:=jm.nd
 refine⟨_,ĕ (Ê (ó none (i:=2) nd rfl zQ (Ċ Ã))
  (Ê (ó none (i:=3) nd rfl zQ Ì)
  (Ê (Wr.d8 ĝ (Wr.nM (Ç 3) (Ç 1)) (Ê (ó none (i:=4) nd rfl zQ (Đ (Đ (Ċ (À Ì Ã)) (Wr.iY rfl B.list B.range (À (Ç 3) (À (Wr.rJ rfl B.min (À (Ç 1) (À (Đ (Đ (Ç 3) Ì) (ō C__law_take hr (Ń 0) (À Ì Ã))) Ã))) Ã)))) (Ċ (À Ì Ã))))
  (Ê (ó none (i:=2) nd rfl zQ (Đ (Ç 2) (Ŗ ["_law_k"] rfl (Wr.bQ B.range (À (Wr.dJ (ľ B.len (À (Ç 4) Ã)) Ì) Ã)) (fun c=>(ç (i:=0) ou rfl zQ)) (fun c=>Ŀ) (fun c=>(Ā (À (á (Ç 5) (Ç 0)) (À (á (Ç 5) (Đ (Ç 0) Ì)) Ã)))))))
  (Ê (ó none (i:=3) nd rfl zQ (Wr.dJ (Đ (Ç 3) (ľ B.len (À (Ç 4) Ã))) Ì)) (û [4] é)))))
  (û [3,4] (ß (å (Ç 2))))))),enterQ h ?_⟩
 rintro ds P ⟨n,rfl,n1,n16,q⟩
 refine⟨[.im (.int n),.any,.any,.any],rfl,?_⟩
 refine⟨zK,fun m ρ=>∃ (us:List Tie) (a:Int),ρ=[.pen (CP K),.im (.int n),.sn (.list (us.map pD)),.im (.int a),.any]/\1<=a/\a<=n/\OkN n us/\((us.length:Nat):Int)<=2 * (a - 1)/\m=(n - a).toNat,⟨_,[],1,rfl,by omega,n1,fun _ h=>(nomatch h),by decide,rfl⟩,?_⟩
 rintro m ρ ⟨us,a,rfl,a1,an,ok,lu,rfl⟩
 show if decide (a<n)=true then _ else _
 refine gB (fun c=>?_) (fun c=>⟨rfl,q us ok (by omega)⟩)
 have c:=of_decide_eq_true c
 refine⟨zK,rfl,4,rfl,by decide,by decide,fun r r0 r1=>?_⟩
 obtain⟨m,em,m0,m1⟩:∃ m:Int,(if a+1+r<n then a+1+r else n)=m/\a<m/\m<=n:=by
  by_cases h:a+1+r<n
  ·exact⟨_,if_pos h,by omega,by omega⟩
  ·exact⟨_,if_neg h,by omega,by omega⟩
 have lk:(aQ a ((if a+1+r<n then a+1+r else n) - a).toNat).length=((if a+1+r<n then a+1+r else n) - a).toNat:=by unfold aQ; rw [Â,ð]
 have hb:-1000<=(if a+1+r<n then a+1+r else n)/\(if a+1+r<n then a+1+r else n)<=1000:=by rw [em]; omega
 have l1:[Æ 0].length+(aQ a ((if a+1+r<n then a+1+r else n) - a).toNat).length<=1000:=by rw [lk,em]; show 1+_<=_; omega
 have l2:([Æ 0]++aQ a ((if a+1+r<n then a+1+r else n) - a).toNat).length+[Æ 0].length<=1000:=by rw [È,lk,em]; show 1+_+1<=_; omega
 refine⟨⟨by omega,by omega,hb.1,hb.2⟩,l1,.inl ⟨Gg _ _,zK,l2,.inl ⟨Ju _ _,?_⟩⟩⟩
 show mD _ _ _ [.pen (CP K),.im (.int n),.sn (.list (us.map pD)),.im (.int a),.sn (.list ([Æ 0]++aQ a ((if a+1+r<n then a+1+r else n) - a).toNat++[Æ 0]))]
 rw [em,Dy]
 have k1:1<=(m - a).toNat:=by omega
 have kI:((m - a).toNat:Int)=m - a:=by omega
 generalize (m - a).toNat=k at k1 kI
 have lr:((qY a k).map Æ).length=k+2:=by rw [Â,DN]
 refine⟨⟨by rw [lr]; omega,by rw [lr]; omega⟩,by rw [cF,lr]; omega,.imm,fun i ys=>∃ vs:List Tie,ys=vs.map pD/\vs.length=i/\OkN n vs,⟨[],rfl,rfl,fun _ h=>(nomatch h)⟩,?_,?_⟩
 ·rintro i d ys hd ⟨vs,rfl,hv,okv⟩
  obtain⟨hi,rfl⟩:=ū hd
  rw [lr] at hi
  have hi:i<=k:=by omega
  have e1:=uI a k (0+((i:Nat):Int)) (by omega) (by omega)
  have e2:=uI a k (0+((i:Nat):Int)+1) (by omega) (by omega)
  refine aH (B:=True) ⟨_,e1,_,e2,zK,rfl,vs++[(_,_)],app1 _ _ _,by rw [È,Ú,hv],okv.snoc ?_⟩
  unfold OkT
  dsimp only
  split <;> split <;> omega
 rintro ys ⟨vs,rfl,hv,okv⟩
 rw [cF,lr] at hv
 have hv:vs.length=k+1:=by omega
 have ll:(us.map pD).length+(vs.map pD).length<=1000:=by rw [Â,Â]; omega
 refine⟨ll,.inl ⟨by rw [← Þ]; exact Ŭ _,?_⟩⟩
 have la:((us++vs).length:Nat)<=us.length+vs.length:=by rw [È]; omega
 refine⟨(n - (a+((k+2:Nat):Int) - 2)).toNat,by omega,us++vs,a+((k+2:Nat):Int) - 2,?_,by omega,by omega,ok.app okv,by omega,rfl⟩
 show ([_,_,Sl.sn (.list (us.map pD++vs.map pD)),Sl.im (.int (a+((((qY a k).map Æ).length:Nat):Int) - 2)),_]:List Sl)=_
 rw [← Þ,lr]
theorem jl:FnScope ["_law_pen_here","_law_n","_law_kind","_law_found","_law_cut"] ["_law_pen_here","_law_n"] (aA (top 35)):=zC
theorem bK:(["_law_k","_law_pen_here","_law_n","_law_kind","_law_found","_law_cut"]:List Str).Nodup:=by decide +kernel
theorem oh:(["_law_tie","_law_pen_here","_law_n","_law_kind","_law_found","_law_cut"]:List Str).Nodup:=by decide +kernel
theorem rQ (F:Fun K "_law_shape" "_law_shape" (top 35) f fd) (B:Š mg) (C__law_take:ć P w K mg base 1 "_law_take" ["_law_pen_here","_law_many"] (spP (CP K) lR)) (C__law_rings:ć P w K mg base 2 "_law_rings" ["_law_pen_here","_law_n"] (spP (CP K) GD)) (C__law_any:ć P w K mg base 2 "_law_any" ["_law_pen_here","_law_n","_law_many"] (spP (CP K) Nh)):FnOk P w K mg base CX0 3 f fd ["_law_pen_here","_law_n"] (spP (CP K) Gz):=by
 refine F.ok jl gZ (fun cdv A outer s H vs Q E hr h=>?_)
 have nd:=jl.nd
 refine⟨_,ĕ (Ê (ó none (i:=2) nd rfl zQ (ō C__law_take hr (Ń 0) (À Ì Ã)))
  (Ê (Č (Wr.wpt (Ŋ (Ţ hr.units (Ç 2) Ì) (Ō (Ţ hr.units (Ç 2) Ì)))) (Ê (Wr.vB none ["_law_k"] (i:=3) rfl nd rfl zQ (Wr.cH B.range (À Ì (À (Ç 1) Ã))) (fun c=>(ç (i:=0) bK rfl zQ)) (fun c=>Ŀ) (fun c=>(Ā (À (ō C__law_take hr (Ń 1) (À (Ç 0) Ã)) (À (Ç 0) Ã)))))
  (ß (å (Đ (Ç 3) (Ŗ ["_law_tie"] rfl (Ş (Ç 3)) (fun c=>(ç (i:=0) oh rfl zQ)) (fun c=>(Wr.iu (Wr.wpt (Wr.eN (Ţ hr.units (Ç 3) Ì) (Wr.cZ (Ţ hr.units (ō C__law_take hr (Ń 1) (À Ì Ã)) Ì)))))) (fun c=>(Ç 0))))))) é)
  (û [3] (Ê (Č (Ţ hr.units (Ç 2) Ì) (ß (å (Ŗ ["_law_k"] rfl (Wr.cH B.range (À Ì (À (Ç 1) Ã))) (fun c=>(ç (i:=0) bK rfl zQ)) (fun c=>Ŀ) (fun c=>(Ā (À (Wr.dJ (Ç 0) Ì) (À (Ç 0) Ã))))))) é)
  (Ê (Č (Ţ hr.units (Ç 2) Ì) (Ê (ó none (i:=4) nd rfl zQ (Đ Ì (ō C__law_take hr (Ń 0) (À (Ç 1) Ã))))
  (Ê (ó none (i:=3) nd rfl zQ (Đ (Ŗ ["_law_k"] rfl (Wr.cH B.range (À Ì (À (Ç 4) Ã))) (fun c=>(ç (i:=0) bK rfl zQ)) (fun c=>Ŀ) (fun c=>(Ā (À (Wr.dJ (Ç 0) Ì) (À (Ç 0) Ã))))) (Ŗ ["_law_k"] rfl (Wr.cH B.range (À (Ç 4) (À (Ç 1) Ã))) (fun c=>(ç (i:=0) bK rfl zQ)) (fun c=>Ŀ) (fun c=>(Ā (À (ō C__law_take hr (Ń 1) (À (Ç 0) Ã)) (À (Ç 0) Ã)))))))
  (ß (å (Đ (Ç 3) (Wr.dR (Ċ (À (Ā (À (Wr.dJ (Ç 4) Ì) (À Ì Ã))) Ã)) (Wr.gU B.int boot_int (À (Wr.yW (Ç 4) Ì) Ã)))))))) é)
  (û [3,4] (Ê (Č (Ţ hr.units (Ç 2) Ì) (ß (å (ō C__law_rings hr (Ń 0) (À (Ç 1) Ã)))) é)
  (Ê (Č (Ţ hr.units (Ç 2) Ì) (Ê (ó none (i:=4) nd rfl zQ (ō C__law_take hr (Ń 0) (À (Ç 1) Ã)))
  (ß (å (Ŗ ["_law_k"] rfl (Wr.cH B.range (À Ì (À (Ç 1) Ã))) (fun c=>(ç (i:=0) bK rfl zQ)) (fun c=>(Wr.iu (ŕ hr.units (Ç 0) (Ç 5)))) (fun c=>(Ā (À (ō C__law_take hr (Ń 1) (À (Ç 0) Ã)) (À (Ç 0) Ã)))))))) é)
  (û [4] (ß (å (ō C__law_any hr (Ń 0) (À (Ç 1) (À (á (Ċ (À (ō C__law_take hr (Ń 0) (À Ì Ã)) (À (Wr.dR Ì (Ç 1)) Ã))) (Wr.dJ (Ç 2) Ì)) Ã)))))))))))))),enterQ h ?_⟩
 rintro ds P ⟨n,rfl,n1,n16,q⟩
 refine⟨[.im (.int n),.any,.any,.any],rfl,?_⟩
 refine⟨rfl,8,rfl,by decide,by decide,fun kd k0 k8=>?_⟩
 refine or2 (a:=decide (kd=0)) (b:=decide (kd=7)) (fun c=>?_) (fun c0 c7=>?_)
 ·have l0:(aQ 1 (n - 1).toNat).length=(n - 1).toNat:=by unfold aQ; rw [Â,ð]
  refine⟨⟨by omega,by omega,by omega,by omega⟩,by rw [l0]; omega,.imm,fun i ys=>∃ vs:List Tie,ys=vs.map pD/\vs.length=i/\OkN n vs,⟨[],rfl,rfl,fun _ h=>(nomatch h)⟩,?_,?_⟩
  ·rintro i d ys hd ⟨vs,rfl,hv,okv⟩
   obtain⟨hi,rfl⟩:=ū hd
   refine aH (B:=True) ⟨rfl,_,rfl,by omega,by omega,fun r r0 r1=>⟨zK,rfl,vs++[(r,_)],app1 _ _ _,by rw [È,Ú,hv],okv.snoc (.lt r0 r1 (by omega))⟩⟩
  rintro ys ⟨vs,rfl,hv,okv⟩
  rw [l0] at hv
  have lv:(vs.map pD).length=vs.length:=Â ..
  refine⟨by rw [lv]; omega,.imm,fun i ys=>∃ ws:List Tie,ys=ws.map pD/\ws.length<=i/\OkN n ws,⟨[],rfl,Ï _,fun _ h=>(nomatch h)⟩,?_,?_⟩
  ·rintro i d ys hd ⟨ws,rfl,hw,okw⟩
   obtain⟨t,ht,rfl⟩:=gY hd
   show if decide (kd=7)=true then _ else _
   refine gB (fun c=>⟨rfl,2,rfl,by decide,by decide,fun r r0 r1=>?_⟩) (fun c=>aB (A:=True) ⟨ws,rfl,by omega,okw⟩)
   show if decide (r=0)=true then _ else _
   refine gB (fun c=>⟨rfl,ws++[t],?_,by rw [È,Ú]; omega,okw.snoc (okv t (Ñ ht))⟩) (fun c=>⟨ws,rfl,by omega,okw⟩)
   rw [Þ]; rfl
  rintro ys ⟨ws,rfl,hw,okw⟩
  rw [lv] at hw
  have lw:(ws.map pD).length=ws.length:=Â ..
  refine⟨by rw [lv,lw]; omega,.inl ⟨by rw [← Þ]; exact Ŭ _,?_⟩⟩
  rw [← Þ]
  exact⟨rfl,q _ (okv.app okw) (by rw [È]; omega)⟩
 have c0:=of_decide_eq_false c0
 have c7:=of_decide_eq_false c7
 show if decide (kd=1)=true then _ else _
 refine gB (fun c=>?_) (fun c1=>?_)
 ·have l0:(aQ 1 (n - 1).toNat).length=(n - 1).toNat:=by unfold aQ; rw [Â,ð]
  refine⟨⟨by omega,by omega,by omega,by omega⟩,by rw [l0]; omega,.imm,fun i ys=>∃ vs:List Tie,ys=vs.map pD/\vs.length=i/\OkN n vs,⟨[],rfl,rfl,fun _ h=>(nomatch h)⟩,?_,?_⟩
  ·rintro i d ys hd ⟨vs,rfl,hv,okv⟩
   obtain⟨hi,rfl⟩:=ū hd
   exact aH (B:=True) ⟨zK,rfl,vs++[(_,_)],app1 _ _ _,by rw [È,Ú,hv],okv.snoc (.lt (by omega) (by omega) (by omega))⟩
  rintro ys ⟨vs,rfl,hv,okv⟩
  rw [l0] at hv
  exact⟨rfl,q _ okv (by omega)⟩
 have c1:¬ kd=1:=fun z=>c1 (decide_eq_true z)
 show if decide (kd=2)=true then _ else _
 refine gB (fun c=>?_) (fun c2=>?_)
 ·refine⟨rfl,n,rfl,by omega,by omega,fun x x0 x1=>?_⟩
  have y0:1<=1+x:=by omega
  have y1:1+x<=n:=by omega
  show xM 4 none (fun _ P=>P .imm (.int (1+x))) _ _
  generalize 1+x=y at y0 y1
  have l0:(aQ 1 (y - 1).toNat).length=(y - 1).toNat:=by unfold aQ; rw [Â,ð]
  refine⟨⟨by omega,by omega,by omega,by omega⟩,by rw [l0]; omega,.imm,fun i ys=>∃ vs:List Tie,ys=vs.map pD/\vs.length=i/\OkN n vs,⟨[],rfl,rfl,fun _ h=>(nomatch h)⟩,?_,?_⟩
  ·rintro i d ys hd ⟨vs,rfl,hv,okv⟩
   obtain⟨hi,rfl⟩:=ū hd
   exact aH (B:=True) ⟨zK,rfl,vs++[(_,_)],app1 _ _ _,by rw [È,Ú,hv],okv.snoc (.lt (by omega) (by omega) (by omega))⟩
  rintro ys ⟨vs,rfl,hv,okv⟩
  rw [l0] at hv
  have l1:(aQ y (n - y).toNat).length=(n - y).toNat:=by unfold aQ; rw [Â,ð]
  refine⟨⟨by omega,by omega,by omega,by omega⟩,by rw [l1]; omega,.imm,fun i ys=>∃ vs:List Tie,ys=vs.map pD/\vs.length=i/\OkN n vs,⟨[],rfl,rfl,fun _ h=>(nomatch h)⟩,?_,?_⟩
  ·rintro i d ys hd ⟨vs,rfl,hv,okv⟩
   obtain⟨hi,rfl⟩:=ū hd
   refine aH (B:=True) ⟨rfl,_,rfl,by omega,by omega,fun r r0 r1=>⟨zK,rfl,vs++[(r,_)],app1 _ _ _,by rw [È,Ú,hv],okv.snoc (.lt r0 r1 (by omega))⟩⟩
  rintro ys ⟨ws,rfl,hw,okw⟩
  rw [l1] at hw
  have lv:(vs.map pD).length=vs.length:=Â ..
  have lw:(ws.map pD).length=ws.length:=Â ..
  refine⟨by rw [lv,lw]; omega,.inl ⟨by rw [← Þ]; exact Ŭ _,?_⟩⟩
  have okx:=okv.app okw
  have lx:(vs++ws).length<=15:=by rw [È]; omega
  rw [← Þ]
  generalize vs++ws=xs at okx lx
  have lxs:(xs.map pD).length=xs.length:=Â ..
  refine⟨zK,zK,?_⟩
  obtain⟨zs,hz,lz,okz⟩:=Ot (decide (1<y)) (y - 1,0)
  have e01:=K5 (decide (1<y)) (y - 1,0)
  have hl:(xs.map pD).length+(Ð (if decide (1<y)=true then (1:Int) else 0).toNat [pD (y - 1,0)]).flatten.length<=1000:=by rw [hz,Â,Â]; omega
  have hi:cu (xs.map pD++(Ð (if decide (1<y)=true then (1:Int) else 0).toNat [pD (y - 1,0)]).flatten)=true:=by rw [hz,← Þ]; exact Ŭ _
  refine⟨e01.1,e01.2.1,e01.2.2,.inl ⟨(congrArg cu hz).trans (Ŭ _),hl,.inl ⟨hi,rfl,?_⟩⟩⟩
  show P (.list (xs.map pD++(Ð (if decide (1<y)=true then (1:Int) else 0).toNat [pD (y - 1,0)]).flatten))
  rw [hz,← Þ]
  refine q _ (okx.app fun z h=>?_) (by rw [È]; omega)
  obtain⟨rfl,hb⟩:=okz z h
  have hb:=of_decide_eq_true hb
  unfold OkT
  dsimp only
  omega
 have c2:¬ kd=2:=fun z=>c2 (decide_eq_true z)
 show if decide (kd=3)=true then _ else _
 refine gB (fun c=>?_) (fun c3=>?_)
 ·exact⟨rfl,n,rfl,n1,n16,fun us ok l=>⟨rfl,q us ok (by omega)⟩⟩
 have c3:¬ kd=3:=fun z=>c3 (decide_eq_true z)
 show if decide (kd=4)=true then _ else _
 refine gB (fun c=>?_) (fun c4=>?_)
 ·refine⟨rfl,n,rfl,by omega,by omega,fun x x0 x1=>?_⟩
  have l0:(aQ 1 (n - 1).toNat).length=(n - 1).toNat:=by unfold aQ; rw [Â,ð]
  refine⟨⟨by omega,by omega,by omega,by omega⟩,by rw [l0]; omega,.imm,fun i ys=>∃ vs:List Tie,ys=vs.map pD/\vs.length<=i/\OkN n vs,⟨[],rfl,Ï _,fun _ h=>(nomatch h)⟩,?_,?_⟩
  ·rintro i d ys hd ⟨vs,rfl,hv,okv⟩
   obtain⟨hi,rfl⟩:=ū hd
   show if (!decide (1+((i:Nat):Int)=x))=true then _ else _
   refine gB (fun c=>⟨rfl,_,rfl,by omega,by omega,fun r r0 r1=>⟨zK,rfl,vs++[(r,_)],app1 _ _ _,by rw [È,Ú]; omega,okv.snoc (.lt r0 r1 (by omega))⟩⟩) (fun c=>⟨vs,rfl,by omega,okv⟩)
  rintro ys ⟨vs,rfl,hv,okv⟩
  rw [l0] at hv
  exact⟨rfl,q _ okv (by omega)⟩
 have c4:¬ kd=4:=fun z=>c4 (decide_eq_true z)
 refine⟨rfl,rfl,4,rfl,by decide,by decide,fun r r0 r1=>⟨.inr ⟨by omega,by omega⟩,zK,?_⟩⟩
 obtain⟨m,hm,m0,m1⟩:∃ m:Int,atI [Æ r,.int (2 * n)] (kd - 5)=some (.int m)/\0<=m/\m<=32:=by
  rcases (by omega:kd=5\/kd=6) with rfl | rfl
  ·exact⟨r,rfl,r0,by omega⟩
  ·exact⟨2 * n,rfl,by omega,by omega⟩
 exact⟨.int m,hm,n,m,rfl,n1,n16,m0,by omega,fun us ok l=>⟨rfl,q us ok (by omega)⟩⟩
end
def Km (ds:List D) (P:D->Prop):Prop:=∃ n:Int,ds=[.int n]/\1<=n/\n<=16/\∀ us:List Tie,OkN n us->us.length<=40->P (.list (us.map pD))
theorem Eu {n:Int}{l:List Int} (h:IsOrd n l) {a:Int} (h0:0<=a) (h1:a<n):∃ x:Int,atI (l.map Æ) a=some (.int x)/\(0<=x/\x<n)/\l[a.toNat]?=some x:=by
 have hl:=h.len
 have hk:a.toNat<l.length:=by omega
 have ek:a=((a.toNat:Nat):Int):=by omega
 have z:atI (l.map Æ) ((a.toNat:Nat):Int)=some (.int l[a.toNat]):=bA (by rw [Ø,Í hk]; rfl)
 rw [← ek] at z
 exact⟨_,z,h.rng _ (ť hk),Í hk⟩
theorem Ky {us:List Tie}{a:Int} (h0:0<=a) (h1:a<((us.length:Nat):Int)):∃ t,atI (us.map pD) a=some (pD t)/\us[a.toNat]?=some t:=by
 have hk:a.toNat<us.length:=by omega
 have ek:a=((a.toNat:Nat):Int):=by omega
 have z:atI (us.map pD) ((a.toNat:Nat):Int)=some (pD us[a.toNat]):=bA (by rw [Ø,Í hk]; rfl)
 rw [← ek] at z
 exact⟨_,z,Í hk⟩
theorem OkT.swap {n:Int}{t:Tie} (h:OkT n t):OkT n (t.2,t.1):=⟨h.2.1,h.1,fun z=>h.2.2 z.symm⟩
theorem Fw (us:List Tie):okD (.list (us.map pD))=true:=Fx fun x hx=>by
 obtain⟨t,_,rfl⟩:=Ğ.mp hx
 exact⟨rfl,by show max 0 (max 0 0)+1<=50; decide⟩
theorem Ks (us:List Tie):gG (us.map pD) none (some 40)=(us.take 40).map pD:=by
 unfold gG
 have e1:HT.sIx (us.map pD).length 0 none=0:=rfl
 have e2:HT.sIx (us.map pD).length (us.map pD).length (some 40)=min 40 (us.map pD).length:=HT.yJ _ _ 40
 rw [e1,e2,List.drop_zero,Nat.sub_zero,Â]
 by_cases h:us.length<=40
 ·rw [Nat.min_eq_right h,ŧ (by rw [Â]; exact Ï _),ŧ h]
 ·rw [Nat.min_eq_left (by omega),List.map_take]
section
variable {P:Program}{w:World}{K:Ý}{mg:Str->Option Value}{base:Heap}{f:Addr}{fd:FuncData}
theorem lM:FnScope ["_law_pen_here","_law_n","_law_order_here","_law_found"] ["_law_pen_here","_law_n"] (aA (top 36)):=zC
theorem cI:(["_law_a","_law_b","_law_pen_here","_law_n","_law_order_here","_law_found"]:List Str).Nodup:=by decide +kernel
theorem uV (F:Fun K "_law_ties" "_law_ties" (top 36) f fd) (B:Š mg) (C__law_order:ć P w K mg base 2 "_law_order" ["_law_pen_here","_law_n"] (spP (CP K) GF)) (C__law_shape:ć P w K mg base 3 "_law_shape" ["_law_pen_here","_law_n"] (spP (CP K) Gz)) (C__law_any:ć P w K mg base 2 "_law_any" ["_law_pen_here","_law_n","_law_many"] (spP (CP K) Nh)) (C__law_take:ć P w K mg base 1 "_law_take" ["_law_pen_here","_law_many"] (spP (CP K) lR)):FnOk P w K mg base CX0 4 f fd ["_law_pen_here","_law_n"] (spP (CP K) Km):=by
 refine F.ok lM gZ (fun cdv A outer s H vs Q E hr h=>?_)
 have nd:=lM.nd
 refine⟨_,ĕ (Ê (ó none (i:=2) nd rfl zQ (ō C__law_order hr (Ń 0) (À (Ç 1) Ã)))
  (Ê (ó (some 0) (i:=3) nd rfl zQ (Đ (ō C__law_shape hr (Ń 0) (À (Ç 1) Ã)) (ō C__law_any hr (Ń 0) (À (Ç 1) (À (ō C__law_take hr (Ń 0) (À Ì Ã)) Ã)))))
  (Ê (Č (Wr.wpt (Wr.eN (ŕ hr.units (Ç 3) (Ċ Ã)) (Wr.cZ (Ţ hr.units (ō C__law_take hr (Ń 0) (À Ì Ã)) Ì)))) (ß (Wr.cG (Ń 3) (À (á (Ç 3) (ō C__law_take hr (Ń 0) (À (ľ B.len (À (Ç 3) Ã)) Ã))) Ã))) é)
  (Ê (Wr.vB (some 0) ["_law_a","_law_b"] (i:=3) rfl nd rfl zQ (Ş (Ç 3)) (fun c=>(Wr.dB (n:=2) rfl (ġ (ç (i:=0) cI rfl zQ) (ġ (ç (i:=1) cI rfl zQ) Wr.cA)))) (fun c=>Ŀ) (fun c=>(Ā (À (á (Ç 4) (Ç 0)) (À (á (Ç 4) (Ç 1)) Ã)))))
  (ß (å (Wr.Eo (Ŗ ["_law_a","_law_b"] rfl (Ş (Ç 3)) (fun c=>(Wr.dB (n:=2) rfl (ġ (ç (i:=0) cI rfl zQ) (ġ (ç (i:=1) cI rfl zQ) Wr.cA)))) (fun c=>Ŀ) (fun c=>(á (Ċ (À (Ā (À (Ç 0) (À (Ç 1) Ã))) (À (Ā (À (Ç 1) (À (Ç 0) Ã))) Ã))) (ō C__law_take hr (Ń 2) (À Ì Ã))))) Wr.j4 (Wr.jZ Ì)))))))),enterQ h ?_⟩
 rintro ds P ⟨n,rfl,n1,n16,q⟩
 refine⟨[.im (.int n),.any,.any],rfl,?_⟩
 refine⟨rfl,n,rfl,n1,n16,fun l hl=>⟨rfl,n,rfl,n1,n16,fun us oku lu=>⟨rfl,rfl,3,rfl,by decide,by decide,fun c c0 c1=>⟨n,c,rfl,n1,n16,c0,by omega,fun vs okv lv=>?_⟩⟩⟩⟩
 have hll:(us.map pD).length+(vs.map pD).length<=1000:=by rw [Â,Â]; omega
 refine⟨hll,.inl ⟨by rw [← Þ]; exact Ŭ _,?_⟩⟩
 have okx:=oku.app okv
 have lx:(us++vs).length<=42:=by rw [È]; omega
 rw [← Þ]
 generalize us++vs=xs at okx lx
 have fin:∀ xs:List Tie,OkN n xs->xs.length<=43->mD
            (xM 3 (some 0)
             (dLC [Ģ "_law_a",Ģ "_law_b"].length (iSq (tV 3))
              (gTp 2 (lE (gNm 0) (lE (gNm 1) zH))) (fun x P=>P true)
              (nq (cC (t2 gIx (tV 4) (tV 0)) (cC (t2 gIx (tV 4) (tV 1)) j7)))))
            (Hj
             (KC
              (dLC [Ģ "_law_a",Ģ "_law_b"].length (iSq (tV 3))
               (gTp 2 (lE (gNm 0) (lE (gNm 1) zH))) (fun x P=>P true)
               (t2 gIx
                (CZ
                 (cC (nq (cC (tV 0) (cC (tV 1) j7)))
                  (cC (nq (cC (tV 1) (cC (tV 0) j7))) j7)))
                (HW (CP K) lR 2 (cC (tK (Æ 2)) j7))))
              Fz (Fy (tK (Æ 40)))))
           { nx:=fun x=>P PyData.none,rt:=P } [.pen (CP K),.im (.int n),.sn (.list (l.map Æ)),.dw 0 (.list (xs.map pD))]:=by
  intro xs okx lx
  have lm:(xs.map pD).length=xs.length:=Â ..
  refine⟨by rw [lm]; omega,.imm,fun i ys=>∃ vs:List Tie,ys=vs.map pD/\vs.length=i/\OkN n vs,⟨[],rfl,rfl,fun _ h=>(nomatch h)⟩,?_,?_⟩
  ·rintro i d ys hd ⟨vs,rfl,hv,okv⟩
   obtain⟨t,ht,rfl⟩:=gY hd
   obtain⟨⟨a0,a1⟩,⟨b0,b1⟩,nab⟩:=okx t (Ñ ht)
   obtain⟨x,ex,xr,xl⟩:=Eu hl a0 a1
   obtain⟨y,ey,yr,yl⟩:=Eu hl b0 b1
   have nxy:x≠y:=fun e=>by
    subst e
    have h1:=É.mp xl
    have h2:=É.mp yl
    have:=(List.getElem_inj hl.nd (h₀:=h1.1) (h₁:=h2.1)).mp (h1.2.trans h2.2.symm)
    omega
   exact⟨rfl,aH (B:=True) ⟨.int x,ex,.int y,ey,zK,rfl,vs++[(x,y)],app1 _ _ _,by rw [È,Ú,hv],okv.snoc ⟨xr,yr,nxy⟩⟩⟩
  rintro ys ⟨vs,rfl,hv,okv⟩
  rw [lm] at hv
  have lv:(vs.map pD).length=vs.length:=Â ..
  refine⟨by rw [lv]; omega,.imm,fun i ys=>∃ ws:List Tie,ys=ws.map pD/\ws.length=i/\OkN n ws,⟨[],rfl,rfl,fun _ h=>(nomatch h)⟩,?_,?_⟩
  ·rintro i d ys hd ⟨ws,rfl,hw,okw⟩
   obtain⟨t,ht,rfl⟩:=gY hd
   have okt:=okv t (Ñ ht)
   refine⟨rfl,aH (B:=True) ⟨zK,zK,zK,rfl,2,rfl,by decide,by decide,fun r r0 r1=>?_⟩⟩
   obtain⟨z,hz,okz⟩:∃ z:Tie,atI [Ĝ [.int t.1,.int t.2],.tuple [.int t.2,.int t.1]] r=some (pD z)/\OkT n z:=by
    rcases (by omega:r=0\/r=1) with rfl | rfl
    ·exact⟨t,rfl,okt⟩
    ·exact⟨(t.2,t.1),rfl,okt.swap⟩
   exact⟨pD z,hz,rfl,ws++[z],by rw [Þ]; rfl,by rw [È,Ú,hw],okw.snoc okz⟩
  rintro ys ⟨ws,rfl,hw,okw⟩
  rw [lv] at hw
  refine .inl ⟨by rw [Ks]; exact Ŭ _,rfl,?_⟩
  rw [Ks]
  exact q _ (fun t ht=>okw t (List.mem_of_mem_take ht)) (by rw [Ī]; omega)
 have lm:(xs.map pD).length=xs.length:=Â ..
 show mD _ _ _ [.pen (CP K),.im (.int n),.sn (.list (l.map Æ)),.dw 0 (.list (xs.map pD))]
 refine⟨zK,Fw xs,rfl,?_⟩
 show if (!(ô (.list (xs.map pD)) (.list [])))=true then _ else _
 rw [JD]
 cases xs with
 | nil=>exact aB (A:=True) (aB (A:=True) (fin [] okx (by decide)))
 | cons t ts =>
  refine aH (B:=True) ⟨rfl,4,rfl,by decide,by decide,fun r r0 r1=>?_⟩
  show if decide (r=0)=true then _ else _
  refine gB (fun c=>⟨rfl,_,rfl,?_,?_,fun x x0 x1=>?_⟩) (fun c=>fin (t::ts) okx (by omega))
  ·rw [lm,í]; omega
  ·rw [lm]; omega
  ·rw [lm] at x1
   obtain⟨z,hz,hz2⟩:=Ky x0 x1
   refine⟨_,hz,rfl,by rw [lm]; omega,?_⟩
   have:=fin ((t::ts)++[z]) (okx.snoc (okx z (Ñ hz2))) (by rw [È,Ú]; omega)
   rw [Þ] at this
   exact this
end
inductive Rt (us:List Tie):Int->Int->Prop
 | refl (a:Int):Rt us a a
 | step {a b c:Int} (h:Rt us a b) (t:(b,c)∈us):Rt us a c
theorem Rt.mono {us vs:List Tie} (h:∀ t∈us,t∈vs) {a b:Int} (r:Rt us a b):Rt vs a b:=by
 induction r with
 | refl=>exact .refl _
 | step _ t ih=>exact .step ih (h _ t)
open Classical in
def RZ (us:List Tie) (a b:Int):Bool:=decide (Rt us a b)
theorem xZ {us:List Tie}{a b:Int}:RZ us a b=true↔Rt us a b:=by
 classical
 unfold RZ
 exact decide_eq_true_iff
def adj (us:List Tie) (F B:List Int):List Tie:=us.zipIdx.flatMap fun p=>if ((p.2:Nat):Int)∈F then [] else [p.1,(p.1.2,p.1.1)].filter fun t=>decide (t.2∉B)
theorem Jj {us:List Tie}{F B:List Int}{x y:Int}:(x,y)∈adj us F B↔∃ k:Nat,(us[k]?=some (x,y)\/us[k]?=some (y,x))/\((k:Nat):Int)∉F/\y∉B:=by
 unfold adj
 rw [List.mem_flatMap]
 constructor
 ·rintro ⟨⟨t,k⟩,hk,h⟩
  have hk:=đ.mp hk
  by_cases hF:((k:Nat):Int)∈F
  ·rw [if_pos hF] at h; cases h
  ·rw [if_neg hF,ĳ] at h
   obtain⟨h,hB⟩:=h
   refine⟨k,?_,hF,of_decide_eq_true hB⟩
   rcases Ù.mp h with e | e
   ·left; rw [e]; exact hk
   ·right
    have e:=Õ.mp e
    have e1:x=t.2:=congrArg Prod.fst e
    have e2:y=t.1:=congrArg Prod.snd e
    rw [e1,e2]; exact hk
 ·rintro ⟨k,h,hF,hB⟩
  rcases h with h | h
  ·refine⟨((x,y),k),đ.mpr h,?_⟩
   rw [if_neg hF,ĳ]
   exact⟨Ö,decide_eq_true hB⟩
  ·refine⟨((y,x),k),đ.mpr h,?_⟩
   rw [if_neg hF,ĳ]
   exact⟨Ó _ (Õ.mpr rfl),decide_eq_true hB⟩
theorem jG {n:Nat}{l:List Int} (nd:l.Nodup) (h:∀ x∈l,0<=x/\x<n):l.length<=n:=by
 induction n generalizing l with
 | zero=>cases l with
  | nil=>exact Ï _
  | cons x l=>have:=h x (Ö ..); omega
 | succ n ih =>
  by_cases e:((n:Nat):Int)∈l
  ·have z:=ih (nd.erase ((n:Nat):Int)) fun x hx=>by
    have:=h x (List.mem_of_mem_erase hx)
    have:x≠((n:Nat):Int):=(nd.mem_erase_iff.mp hx).1
    omega
   rw [List.length_erase_of_mem e] at z
   omega
  ·have z:=ih nd fun x hx=>by
    have:=h x hx
    have:x≠((n:Nat):Int):=fun w=>e (w ▸ hx)
    omega
   omega
structure Fd (n:Nat) (es:List Tie) (a:Int) (l:List Int) (at':Nat):Prop where
 nd:l.Nodup
 rng:∀ x∈l,0<=x/\x<n
 st:a∈l
 rt:∀ x∈l,Rt es a x
 cl:∀ (j:Nat) (x:Int),j<at'->l[j]?=some x->∀ y,(x,y)∈es->y∈l
section
variable {P:Program}{w:World}{K:Ý}{mg:Str->Option Value}{base:Heap}{f:Addr}{fd:FuncData}
end
abbrev Put:=Int×Tie
def rowOf (ps:List Put) (p:Nat):List Tie:=(ps.filter fun q=>decide (q.1=((p:Nat):Int))).map (·.2)
def stOf (n:Nat) (ps:List Put):List (List Tie):=(ý n).map (rowOf ps)
def edg (ps:List Put):List Tie:=ps.map fun q=>(q.1,q.2.1)
structure PutsOk (n:Nat) (ps:List Put):Prop where
 few:ps.length<=200
 rng:∀ q∈ps,(0<=q.1/\q.1<n)/\0<=q.2.1/\q.2.1<n
theorem iQ (n:Nat) (ps:List Put):(stOf n ps).length=n:=by
 unfold stOf
 rw [Â,ð]
theorem qT {n p:Nat} (ps:List Put) (h:p<n):(stOf n ps)[p]?=some (rowOf ps p):=by
 unfold stOf
 rw [Ø,List.getElem?_range h]
 rfl
theorem zf {ps:List Put}{p:Nat}{t:Tie}:t∈rowOf ps p↔(((p:Nat):Int),t)∈ps:=by
 unfold rowOf
 rw [Ğ]
 constructor
 ·rintro ⟨q,hq,rfl⟩
  obtain⟨h1,h2⟩:=ĳ.mp hq
  have h2:q.1=((p:Nat):Int):=of_decide_eq_true h2
  rw [← h2]
  exact h1
 ·intro h
  exact⟨_,ĳ.mpr ⟨h,decide_eq_true rfl⟩,rfl⟩
theorem mH (ps:List Put) (p:Nat):(rowOf ps p).length<=ps.length:=by
 unfold rowOf
 rw [Â]
 exact List.length_filter_le _ _
theorem Dw (ps:List Put) (q:Put) (p:Nat):rowOf (ps++[q]) p=if q.1=((p:Nat):Int) then rowOf ps p++[q.2] else rowOf ps p:=by
 unfold rowOf
 rw [List.filter_append,Þ]
 by_cases h:q.1=((p:Nat):Int)
 ·rw [if_pos h,List.filter_cons_of_pos (by exact decide_eq_true h)]
  rfl
 ·rw [if_neg h,List.filter_cons_of_neg (by rw [decide_eq_false h]; exact Ô)]
  exact Ĵ _
theorem HY {n:Nat}{ps:List Put}{q:Put} (h:0<=q.1/\q.1<n):(stOf n ps).set q.1.toNat (rowOf ps q.1.toNat++[q.2])=stOf n (ps++[q]):=by
 refine List.ext_getElem? fun i=>?_
 by_cases hi:i<n
 ·rw [qT _ hi,Dw]
  by_cases e:q.1.toNat=i
  ·rw [e,ă (by rw [iQ]; exact hi),if_pos (by omega)]
  ·rw [ī e,qT _ hi,if_neg (by omega)]
 ·rw [Ŕ (by rw [List.length_set,iQ]; omega),Ŕ (by rw [iQ]; omega)]
theorem Dd (n:Nat):stOf n []=Ð n []:=by
 refine List.eq_replicate_iff.mpr ⟨iQ _ _,fun b hb=>?_⟩
 obtain⟨p,_,rfl⟩:=Ğ.mp hb
 rfl
def stD (S:List (List Tie)):D:=.list (S.map fun ts=>.list (ts.map pD))
def rP (S:List (List Tie)):List (List D):=S.map fun ts=>ts.map pD
theorem Df (S:List (List Tie)):Ġ ((rP S).map Ġ)=stD S:=by
 unfold rP stD
 rw [Ē]
 rfl
theorem K8 (S:List (List Tie)) (k:Nat) (l:List Tie) (u:Tie):(rP S).set k (l.map pD++[pD u])=rP (S.set k (l++[u])):=by
 unfold rP
 rw [List.map_set,Þ]
 rfl
theorem wu {n p:Nat} (ps:List Put) (h:p<n):(rP (stOf n ps))[p]?=some ((rowOf ps p).map pD):=by
 unfold rP
 rw [Ø,qT ps h]
 rfl
theorem qZ {n:Nat}{ps:List Put}{q:Put} (h:0<=q.1/\q.1<n):(rP (stOf n ps)).set q.1.toNat ((rowOf ps q.1.toNat).map pD++[pD q.2])=rP (stOf n (ps++[q])):=by
 rw [K8,HY h]
theorem Ad {us:List Tie}{x y:Int}:(x,y)∈adj us [] []↔((x,y)∈us\/(y,x)∈us):=by
 rw [Jj]
 constructor
 ·rintro ⟨k,e | e,_⟩
  ·exact .inl (Ñ e)
  ·exact .inr (Ñ e)
 ·rintro (e | e)
  ·obtain⟨k,hk⟩:=ē e
   exact⟨k,.inl hk,ê,ê⟩
  ·obtain⟨k,hk⟩:=ē e
   exact⟨k,.inr hk,ê,ê⟩
theorem mX {ps:List Put}{x y:Int}:(x,y)∈edg ps↔∃ k,(x,(y,k))∈ps:=by
 unfold edg
 rw [Ğ]
 constructor
 ·rintro ⟨⟨p,y',k⟩,hq,e⟩
  cases e
  exact⟨k,hq⟩
 ·rintro ⟨k,h⟩
  exact⟨_,h,rfl⟩
def aC (m:IM):List Int:=m.map (·.1)
theorem jR {m:IM}{k:Int}:fB m k=true↔k∈aC m:=by
 unfold fB aC
 rw [List.any_eq_true,Ğ]
 constructor
 ·rintro ⟨p,hp,e⟩; exact⟨p,hp,of_decide_eq_true e⟩
 ·rintro ⟨p,hp,e⟩; exact⟨p,hp,decide_eq_true e⟩
theorem Gk {m:IM}{k:Int} (h:fB m k=false):k∉aC m:=fun z=>by rw [jR.mpr z] at h; cases h
theorem q9 {m:IM}{k:Int}{d:D} (h:fB m k=false):nG m k d=m++[(k,d)]:=by
 unfold nG
 rw [h]
 rfl
inductive Cm (ps:List Put) (a:Int):IM->Prop
 | base:Cm ps a [(a,.none)]
 | snoc {m:IM}{x p k:Int} (h:Cm ps a m) (hp:p∈aC m) (hx:x∉aC m) (j:(p,(x,k))∈ps):Cm ps a (m++[(x,.tuple [.int p,.int k])])
structure Sr (n:Nat) (ps:List Put) (a:Int) (m:IM) (open':Int->Prop):Prop where
 im:Gh m=true
 nd:(aC m).Nodup
 rng:∀ x∈aC m,0<=x/\x<n
 st:a∈aC m
 rt:∀ x∈aC m,Rt (edg ps) a x
 cl:∀ x∈aC m,open' x\/∀ b,(x,b)∈edg ps->b∈aC m
 cm:Cm ps a m
theorem Sr.few {n:Nat}{ps:List Put}{a:Int}{m:IM}{o:Int->Prop} (h:Sr n ps a m o):m.length<=n:=by
 have:=jG h.nd h.rng
 unfold aC at this
 rwa [Â] at this
theorem Sr.all {n:Nat}{ps:List Put}{a:Int}{m:IM} (h:Sr n ps a m fun _=>False):∀ x,fB m x=true↔Rt (edg ps) a x:=fun x=>by
 rw [jR]
 refine⟨h.rt x,fun r=>?_⟩
 induction r with
 | refl=>exact h.st
 | step r t ih=>exact (h.cl _ ih).elim ş fun z=>z _ t
theorem Sr.add {n:Nat}{ps:List Put}{a x c k:Int}{m:IM}{o o':Int->Prop} (h:Sr n ps a m o) (jn:(x,(c,k))∈ps) (hx:x∈aC m) (hc:0<=c/\c<n) (nw:fB m c=false) (oo:∀ y,o y->o' y) (oc:o' c):Sr n ps a (nG m c (.tuple [.int x,.int k])) o':=by
 have t:(x,c)∈edg ps:=mX.mpr ⟨k,jn⟩
 generalize hdd:Ĝ [.int x,.int k]=d
 have hd:dF d=true:=by rw [← hdd]; rfl
 have kk:aC (m++[(c,d)])=aC m++[c]:=by unfold aC; rw [Þ]; rfl
 rw [q9 nw]
 refine⟨?_,?_,?_,?_,?_,?_,by rw [← hdd]; exact .snoc h.cm hx (Gk nw) jn⟩
 ·have:=h.im
  unfold Gh at this ⊢
  rw [List.all_append,this]
  show (true&&(dF d&&true))=true
  rw [hd]; rfl
 ·rw [kk]
  exact List.nodup_append.mpr ⟨h.nd,by simp,fun y hy z hz=>by rw [Õ.mp hz]; rintro rfl; exact Gk nw hy⟩
 ·rw [kk]
  intro y hy
  rcases ä.mp hy with z | z
  ·exact h.rng y z
  ·rw [Õ.mp z]; exact hc
 ·rw [kk]; exact þ _ h.st
 ·rw [kk]
  intro y hy
  rcases ä.mp hy with z | z
  ·exact h.rt y z
  ·rw [Õ.mp z]; exact .step (h.rt x hx) t
 ·rw [kk]
  intro y hy
  rcases ä.mp hy with z | z
  ·exact (h.cl y z).imp (oo y) fun q b hb=>þ _ (q b hb)
  ·rw [Õ.mp z]; exact .inl oc
theorem Sr.wk {n:Nat}{ps:List Put}{a:Int}{m:IM}{o o':Int->Prop} (h:Sr n ps a m o) (f:∀ x∈aC m,o x->o' x\/∀ b,(x,b)∈edg ps->b∈aC m):Sr n ps a m o' :=
 ⟨h.im,h.nd,h.rng,h.st,h.rt,fun x hx=>(h.cl x hx).elim (f x hx) .inr,h.cm⟩
def visit (y:Int) (st:IM×List Int) (t:Tie):IM×List Int:=if fB st.1 t.1=true then st else (nG st.1 t.1 (.tuple [.int y,.int t.2]),st.2++[t.1])
def visits (ps:List Put) (st:IM×List Int) (y:Int):IM×List Int:=(rowOf ps y.toNat).foldl (visit y) st
def Aj (ps:List Put):Nat->IM->List Int->IM
 | 0,m,_=>m
 | _+1,m,[]=>m
 | k+1,m,x::r=>Aj ps k ((x::r).foldl (visits ps) (m,[])).1 ((x::r).foldl (visits ps) (m,[])).2
def srM (n:Nat) (ps:List Put) (a:Int):IM:=Aj ps (2 * n+2) [(a,.none)] [a]
structure VI (n:Nat) (ps:List Put) (a:Int) (k:Nat) (R rest:List Int) (y:Int) (st:IM×List Int):Prop where
 sr:Sr n ps a st.1 (fun z=>(z∈st.2\/z∈rest)\/z=y)
 row:∀ z∈R,z∈aC st.1
 la:∀ z∈st.2,z∈aC st.1
 len:st.1.length=k+st.2.length
 me:y∈aC st.1
theorem VI.one {n:Nat}{ps:List Put}{a:Int}{k:Nat}{R rest:List Int}{y:Int}{st:IM×List Int} (ok:PutsOk n ps) (h:VI n ps a k R rest y st) {t:Tie} (ht:(y,t)∈ps):VI n ps a k R rest y (visit y st t)/\t.1∈aC (visit y st t).1/\∀ z∈aC st.1,z∈aC (visit y st t).1:=by
 unfold visit
 cases hb:fB st.1 t.1 with
 | true =>
  rw [if_pos rfl]
  exact⟨h,jR.mp hb,fun z hz=>hz⟩
 | false =>
  rw [if_neg Ô]
  have kk:aC (nG st.1 t.1 (.tuple [.int y,.int t.2]))=aC st.1++[t.1]:=by
   rw [q9 hb]; unfold aC; rw [Þ]; rfl
  have sub:∀ z∈aC st.1,z∈aC (nG st.1 t.1 (.tuple [.int y,.int t.2])):=fun z hz=>by rw [kk]; exact þ _ hz
  have own:t.1∈aC (nG st.1 t.1 (.tuple [.int y,.int t.2])):=by rw [kk]; exact ã _ (Õ.mpr rfl)
  refine⟨⟨h.sr.add (x:=y) ht h.me (ok.rng _ ht).2 hb (fun z hz=>?_) (.inl (.inl (ã _ (Õ.mpr rfl)))),fun z hz=>sub z (h.row z hz),fun z hz=>?_,?_,sub y h.me⟩,own,sub⟩
  ·rcases hz with (z | z) | z
   ·exact .inl (.inl (þ _ z))
   ·exact .inl (.inr z)
   ·exact .inr z
  ·rcases ä.mp hz with z | z
   ·exact sub _ (h.la _ z)
   ·rw [Õ.mp z]; exact own
  ·have:=h.len
   rw [q9 hb,È,È]
   show st.1.length+1=k+(st.2.length+1)
   omega
theorem VI.many {n:Nat}{ps:List Put}{a:Int}{k:Nat}{R rest:List Int}{y:Int} (ok:PutsOk n ps):∀ (ts:List Tie) {st:IM×List Int},(∀ t∈ts,(y,t)∈ps)->VI n ps a k R rest y st->VI n ps a k R rest y (ts.foldl (visit y) st)/\(∀ t∈ts,t.1∈aC (ts.foldl (visit y) st).1)/\∀ z∈aC st.1,z∈aC (ts.foldl (visit y) st).1
 | [],st,_,h=>⟨h,(fun t ht=>nomatch ht),fun z hz=>hz⟩
 | t::ts,st,hp,h=>by
  obtain⟨h1,h2,h3⟩:=h.one ok (hp t Ö)
  obtain⟨g1,g2,g3⟩:=VI.many ok ts (fun u hu=>hp u (Ó _ hu)) h1
  refine⟨g1,fun u hu=>?_,fun z hz=>g3 z (h3 z hz)⟩
  rcases Ù.mp hu with rfl | hu
  ·exact g3 _ h2
  ·exact g2 u hu
structure WI (n:Nat) (ps:List Put) (a:Int) (k:Nat) (R rest:List Int) (st:IM×List Int):Prop where
 sr:Sr n ps a st.1 (fun z=>z∈st.2\/z∈rest)
 row:∀ z∈R,z∈aC st.1
 la:∀ z∈st.2,z∈aC st.1
 len:st.1.length=k+st.2.length
theorem WI.into {n:Nat}{ps:List Put}{a:Int}{k:Nat}{R rest:List Int}{y:Int}{st:IM×List Int} (h:WI n ps a k R (y::rest) st) (hy:y∈R):VI n ps a k R rest y st:=⟨h.sr.wk fun z _ hz=>.inl (by
 rcases hz with hz | hz
 ·exact .inl (.inl hz)
 ·rcases Ù.mp hz with e | e
  ·exact .inr e
  ·exact .inl (.inr e)),h.row,h.la,h.len,h.row y hy⟩
theorem Dz {ps:List Put}{y:Int} (y0:0<=y):∀ t∈rowOf ps y.toNat,(y,t)∈ps:=fun t ht=>by
 have:=zf.mp ht
 rwa [show ((y.toNat:Nat):Int)=y by omega] at this
theorem WI.next {n:Nat}{ps:List Put}{a:Int}{k:Nat}{R rest:List Int}{y:Int}{st:IM×List Int} (ok:PutsOk n ps) (h:WI n ps a k R (y::rest) st) (hy:y∈R):WI n ps a k R rest (visits ps st y):=by
 have yr:=h.sr.rng y (h.row y hy)
 obtain⟨g1,g2,g3⟩:=(h.into hy).many ok (rowOf ps y.toNat) (Dz yr.1)
 unfold visits
 refine⟨g1.sr.wk fun z hz hz'=>?_,g1.row,g1.la,g1.len⟩
 rcases hz' with z' | z'
 ·exact .inl z'
 ·right
  intro b hb
  rw [z'] at hb
  obtain⟨k,hk⟩:=mX.mp hb
  refine g2 (b,k) (zf.mpr ?_)
  rwa [show ((y.toNat:Nat):Int)=y by omega]
theorem WI.many {n:Nat}{ps:List Put}{a:Int}{k:Nat}{R:List Int} (ok:PutsOk n ps):∀ (l rest:List Int) {st:IM×List Int},(∀ y∈l,y∈R)->WI n ps a k R (l++rest) st->WI n ps a k R rest (l.foldl (visits ps) st)
 | [],rest,st,_,h=>h
 | y::l,rest,st,hl,h=>WI.many ok l rest (fun z hz=>hl z (Ó _ hz)) (h.next ok (hl y Ö))
theorem WI.start {n:Nat}{ps:List Put}{a:Int}{m:IM}{R:List Int} (h:Sr n ps a m (·∈R)) (hr:∀ x∈R,x∈aC m):WI n ps a m.length R R (m,[]):=⟨h.wk fun x _ hx=>.inl (.inr hx),hr,(fun y hy=>nomatch hy),rfl⟩
theorem WI.at {n:Nat}{ps:List Put}{a:Int}{m:IM}{R:List Int} (ok:PutsOk n ps) (h:Sr n ps a m (·∈R)) (hr:∀ x∈R,x∈aC m) (i:Nat):WI n ps a m.length R (R.drop i) ((R.take i).foldl (visits ps) (m,[])) :=
 WI.many ok (R.take i) (R.drop i) (fun y hy=>List.mem_of_mem_take hy) (by rw [List.take_append_drop]; exact WI.start h hr)
def mes (n:Nat) (m:IM) (R:List Int):Nat:=2 * (n - m.length)+(if R=[] then 0 else 1)
theorem WI.less {n:Nat}{ps:List Put}{a:Int}{m:IM}{R:List Int}{st:IM×List Int} (h:WI n ps a m.length R [] st) (hR:R≠[]):mes n st.1 st.2<mes n m R:=by
 have few:=h.sr.few
 have len:=h.len
 unfold mes
 rw [if_neg hR]
 by_cases e:st.2=[]
 ·rw [e] at len
  rw [if_pos e]
  have len:st.1.length=m.length+0:=len
  omega
 ·rw [if_neg e]
  have:=List.length_pos_iff.mpr e
  omega
theorem WI.done {n:Nat}{ps:List Put}{a:Int}{m:IM}{R:List Int}{st:IM×List Int} (h:WI n ps a m.length R [] st):Sr n ps a st.1 (·∈st.2):=h.sr.wk fun z _ hz=>.inl (hz.elim id fun q=>nomatch q)
theorem yu {n:Nat}{ps:List Put}{a:Int} (ok:PutsOk n ps):∀ (k:Nat) (m:IM) (R:List Int),mes n m R<=k->Sr n ps a m (·∈R)->(∀ x∈R,x∈aC m)->Sr n ps a (Aj ps k m R) fun _=>False
 | k,m,[],_,h,_=>by
  have e:Aj ps k m []=m:=by cases k <;> rfl
  rw [e]
  exact h.wk fun z _ hz=>nomatch hz
 | 0,m,x::r,hk,_,_=>by
  unfold mes at hk
  rw [if_neg (fun z=>nomatch z)] at hk
  omega
 | k+1,m,x::r,hk,h,hr=>by
  have W:=WI.at ok h hr (x::r).length
  rw [List.drop_length,Ť] at W
  have l:=W.less (fun z=>nomatch z)
  exact yu ok k _ _ (by omega) W.done W.la
theorem uz {n:Nat}{ps:List Put}{a:Int} (a0:0<=a) (a1:a<n):Sr n ps a [(a,.none)] (·∈[a]):=by
 refine⟨rfl,by simp [aC],fun x hx=>?_,by simp [aC],fun x hx=>?_,fun x hx=>.inl ?_,.base⟩
 ·have e:x=a:=by simpa [aC] using hx
  omega
 ·have e:x=a:=by simpa [aC] using hx
  rw [e]; exact .refl _
 ·have e:x=a:=by simpa [aC] using hx
  rw [e]; exact Õ.mpr rfl
theorem qw (a:Int):∀ x∈[a],x∈aC [(a,PyData.none)]:=fun x hx=>by
 rw [Õ.mp hx]
 simp [aC]
theorem qU {n:Nat}{ps:List Put}{a:Int} (ok:PutsOk n ps) (a0:0<=a) (a1:a<n):Sr n ps a (srM n ps a) fun _=>False:=yu ok _ _ _ (by
 unfold mes
 rw [if_neg (fun z=>nomatch z)]
 show 2 * (n - 1)+1<=2 * n+2
 omega) (uz a0 a1) (qw a)
def sU (ds:List D) (P:D->Prop):Prop:=∃ n ps a,ds=[stD (stOf n ps),.int a]/\n<=100/\PutsOk n ps/\0<=a/\a<n/\P (.dict (kvD (srM n ps a)))
section
variable {P:Program}{w:World}{K:Ý}{mg:Str->Option Value}{base:Heap}{f:Addr}{fd:FuncData}
theorem qe:FnScope ["steps","start","came","row","later","place","step"] ["steps","start"] (aA (top 20)):=zC
theorem Bg (F:Fun K "search" "search" (top 20) f fd) (B:Š mg):FnOk P w K mg base CX0 1 f fd ["steps","start"] (spD sU):=by
 refine F.ok qe ł (fun cdv A outer s H vs Q E hr h=>?_)
 have nd:=qe.nd
 refine⟨_,ĕ (Ê (ó (some 0) (i:=2) nd rfl zQ (Wr.nQ (Ç 1) Wr.iW))
  (Ê (ó none (i:=3) nd rfl zQ (Ċ (À (Ç 1) Ã)))
  (Ê (Wr.d8 ĝ (Wr.mO (Ç 3)) (Ê (ó (some 1) (i:=4) nd rfl zQ (Ċ Ã))
  (Ê (Wr.dz ĝ rfl (Ş (Ç 3)) (ç (i:=5) nd rfl zQ) (Ê (Wr.dz ĝ rfl (Ş (á (Ç 0) (Ç 5))) (ç (i:=6) nd rfl zQ) (Ê (Č (Wr.eO hr.units (á (Ç 6) Ì) (Ç 2)) (Ê (Wr.tD hr.units (Ń 2) (á (Ç 6) Ì) (Ā (À (Ç 5) (À (á (Ç 6) Ì) Ã))))
  (ß (Wr.cG (Ń 4) (À (á (Ç 6) Ì) Ã)))) é) (û [6] é))) (û [5,6] é)))
  (û [5,6] (Wr.xH 4 (Ê (ó none (i:=3) nd rfl zQ (Ç 4)) (û [4,5,6] é)))))))
  (û [3,4,5,6] (ß (å (Ç 2))))))),bf h ?_⟩
 rintro ds P ⟨n,ps,a,rfl,n16,ok,a0,a1,q⟩
 refine⟨[.sh (stD (stOf n ps)),.im (.int a),.any,.any,.any,.any,.any],rfl,?_⟩
 refine⟨rfl,zK,?_⟩
 refine⟨fun mm ρ=>∃ (m:IM) (row:List Int) (fuel:Nat),ρ=[.sh (stD (stOf n ps)),.im (.int a),.dw 0 (.dict (kvD m)),.sn (iD row),.any,.any,.any]/\Sr n ps a m (·∈row)/\(∀ x∈row,x∈aC m)/\mm=mes n m row/\mm<=fuel/\Aj ps fuel m row=srM n ps a,⟨_,[(a,.none)],[a],2 * n+2,rfl,uz a0 a1,qw a,rfl,?_,rfl⟩,?_⟩
 ·unfold mes
  rw [if_neg (fun z=>nomatch z)]
  show 2 * (n - 1)+1<=2 * n+2
  omega
 rintro mm ρ ⟨m,R,fuel,rfl,h,hr,rfl,hf,e⟩
 show if (!(R.map Æ).isEmpty)=true then _ else _
 cases hR:R with
 | nil =>
  subst hR
  refine aB (A:=True) ⟨rfl,?_⟩
  have e2:Aj ps fuel m []=m:=by cases fuel <;> rfl
  rw [e2] at e
  rw [e]
  exact q
 | cons x0 R0 =>
  refine aH (B:=True) ?_
  rw [← hR]
  have hne:R≠[]:=by rw [hR]; exact fun z=>nomatch z
  refine⟨by decide,rfl,fun (i:Nat) ρ=>∃ st:IM×List Int,st=(R.take i).foldl (visits ps) (m,[])/\ρ=[.sh (stD (stOf n ps)),.im (.int a),.dw 0 (.dict (kvD st.1)),.sn (iD R),.dw 1 (iD st.2),.any,.any],⟨(m,[]),rfl,rfl⟩,?_,?_⟩
  ·rintro i d ρ hd ⟨st,hst,rfl⟩
   obtain⟨y,hy,rfl⟩:=gY hd
   have ym:=Ñ hy
   have W:=WI.at ok h hr i
   rw [← hst] at W
   have dr:R.drop i=y::R.drop (i+1):=by
    have hi:=(É.mp hy).1
    rw [List.drop_eq_getElem_cons hi,(É.mp hy).2]
   rw [dr] at W
   have V:=W.into ym
   have yr:=W.sr.rng y (W.row y ym)
   have fl:=mH ps y.toNat
   have fl2:=ok.few
   have eat:atI ((stOf n ps).map fun ts=>Ġ (ts.map pD)) y=some (.list ((rowOf ps y.toNat).map pD)):=by
    have:=bA (xs:=(stOf n ps).map fun ts=>Ġ (ts.map pD)) (j:=y.toNat) (v:=.list ((rowOf ps y.toNat).map pD)) (by rw [Ø,qT ps (by omega)]; rfl)
    rwa [show ((y.toNat:Nat):Int)=y by omega] at this
   have tk:R.take (i+1)=R.take i++[y]:=by rw [Ŝ,hy]; rfl
   refine⟨.list ((rowOf ps y.toNat).map pD),eat,rfl,fun (j:Nat) ρ=>∃ s2:IM×List Int,s2=((rowOf ps y.toNat).take j).foldl (visit y) st/\ρ=[.sh (stD (stOf n ps)),.im (.int a),.dw 0 (.dict (kvD s2.1)),.sn (iD R),.dw 1 (iD s2.2),.im (.int y),.any],⟨st,rfl,rfl⟩,?_,?_⟩
   ·rintro j d ρ hd ⟨s2,hs2,rfl⟩
    obtain⟨t,ht,rfl⟩:=gY hd
    have tj:(rowOf ps y.toNat).take (j+1)=(rowOf ps y.toNat).take j++[t]:=by rw [Ŝ,ht]; rfl
    have V2:=(V.many ok ((rowOf ps y.toNat).take j) fun u hu=>Dz yr.1 u (List.mem_of_mem_take hu)).1
    rw [← hs2] at V2
    have few2:=V2.sr.few
    have len2:=V2.len
    have nx:visit y s2 t=((rowOf ps y.toNat).take (j+1)).foldl (visit y) st:=by rw [tj,List.foldl_append,← hs2]; rfl
    refine⟨.int t.1,rfl,s2.1,rfl,?_⟩
    show if (!fB s2.1 t.1)=true then _ else _
    unfold visit at nx
    cases hb:fB s2.1 t.1 with
    | true =>
     rw [hb,if_pos rfl] at nx
     exact aB (A:=True) ⟨s2,nx,rfl⟩
    | false =>
     rw [hb,if_neg Ô] at nx
     have ll:(s2.2.map Æ).length=s2.2.length:=Â ..
     refine aH (B:=True) ⟨.int t.2,rfl,zK,.int t.1,rfl,s2.1,rfl,rfl,V2.sr.im,by omega,.int t.1,rfl,rfl,by omega,_,nx,?_⟩
     unfold iD
     rw [Þ]
     rfl
   ·rintro ρ ⟨s2,hs2,rfl⟩
    rw [Â,Ť] at hs2
    refine⟨s2,?_,rfl⟩
    rw [tk,List.foldl_append,← hst,hs2]
    rfl
  ·rintro ρ ⟨st,hst,rfl⟩
   rw [Â] at hst
   have W:=WI.at ok h hr R.length
   rw [← hst,List.drop_length] at W
   have less:=W.less hne
   rw [Ť] at hst
   refine⟨rfl,mes n st.1 st.2,less,st.1,st.2,fuel - 1,rfl,W.done,W.la,rfl,by omega,?_⟩
   cases fuel with
   | zero=>omega
   | succ k =>
    rw [hst,← e,hR]
    rfl
end
inductive Wy (ws:List Put) (a:Int):List Int->List Int->Int->Prop
 | one:Wy ws a [a] [] a
 | step {ps ks:List Int}{p x k:Int} (h:Wy ws a ps ks p) (hx:x∉ps) (j:(p,(x,k))∈ws):Wy ws a (ps++[x]) (ks++[k]) x
inductive TR (m:IM):List Int->List Int->Int->Prop
 | one {a:Int} (h:jU m a=some .none):TR m [a] [] a
 | step {ps ks:List Int}{p x k:Int} (h:TR m ps ks p) (g:jU m x=some (.tuple [.int p,.int k])):TR m (ps++[x]) (ks++[k]) x
theorem vm {m:IM}{x:Int}{e:D}{q:Int×D} (h:jU m x=some e):jU (m++[q]) x=some e:=by
 unfold jU at h ⊢
 rw [List.find?_append]
 cases hf:m.find? fun p=>decide (p.1=x) with
 | none=>rw [hf] at h; cases h
 | some z=>rw [hf] at h; exact h
theorem Jv {m:IM}{y:Int}{d:D} (hx:y∉aC m):jU (m++[(y,d)]) y=some d:=by
 unfold jU
 have hf:(m.find? fun p=>decide (p.1=y))=none:=List.find?_eq_none.mpr fun p hp z=>hx (List.mem_map.mpr ⟨p,hp,of_decide_eq_true z⟩)
 rw [List.find?_append,hf]
 show ((List.find? (fun p=>decide (p.1=y)) [(y,d)])).map (·.2)=some d
 rw [List.find?_cons_of_pos (by exact decide_eq_true rfl)]
 rfl
theorem TR.snoc {m:IM}{q:Int×D}{ps ks:List Int}{x:Int} (h:TR m ps ks x):TR (m++[q]) ps ks x:=by
 induction h with
 | one h=>exact .one (vm h)
 | step _ g ih=>exact .step ih (vm g)
theorem Cm.tr {ws:List Put}{a:Int}{m:IM} (h:Cm ws a m):∀ x∈aC m,∃ ps ks,Wy ws a ps ks x/\TR m ps ks x/\(∀ y∈ps,y∈aC m)/\ps.length<=m.length/\ks.length<=m.length:=by
 induction h with
 | base =>
  intro x hx
  have e:x=a:=by simpa [aC] using hx
  subst e
  exact⟨[x],[],.one,.one (by unfold jU; rw [List.find?_cons_of_pos (by exact decide_eq_true rfl)]; rfl),fun y hy=>by rw [Õ.mp hy]; simp [aC],Ï _,ÿ _⟩
 | @snoc m x0 p k h hp hx j ih =>
  have kk:aC (m++[(x0,.tuple [.int p,.int k])])=aC m++[x0]:=by unfold aC; rw [Þ]; rfl
  intro x hxm
  rw [kk] at hxm
  rcases ä.mp hxm with z | z
  ·obtain⟨ps,ks,w,t,hs,l1,l2⟩:=ih x z
   exact⟨ps,ks,w,t.snoc,fun y hy=>by rw [kk]; exact þ _ (hs y hy),by rw [È]; omega,by rw [È]; omega⟩
  ·rw [Õ.mp z]
   obtain⟨ps,ks,w,t,hs,l1,l2⟩:=ih p hp
   refine⟨ps++[x0],ks++[k],.step w (fun q=>hx (hs _ q)) j,.step t.snoc (Jv hx),fun y hy=>?_,by rw [È,È]; simpa using l1,by rw [È,È]; simpa using l2⟩
   rw [kk]
   rcases ä.mp hy with q | q
   ·exact þ _ (hs y q)
   ·exact ã _ q
theorem TR.val {m:IM}{ps ks:List Int}{x:Int} (h:TR m ps ks x):∃ d,jU m x=some d/\((d=.none/\ps=[x]/\ks=[])\/∃ ps' ks' p k,d=.tuple [.int p,.int k]/\ps=ps'++[x]/\ks=ks'++[k]/\TR m ps' ks' p):=by
 cases h with
 | one h=>exact⟨_,h,.inl ⟨rfl,rfl,rfl⟩⟩
 | step h g=>exact⟨_,g,.inr ⟨_,_,_,_,rfl,rfl,rfl,h⟩⟩
theorem TR.uniq {m:IM}{ps ks:List Int}{x:Int} (h:TR m ps ks x):∀ {ps' ks':List Int},TR m ps' ks' x->ps=ps'/\ks=ks':=by
 induction h with
 | one h =>
  intro ps' ks' h'
  cases h' with
  | one _=>exact⟨rfl,rfl⟩
  | step _ g=>rw [h] at g; cases g
 | step _ g ih =>
  intro ps' ks' h'
  cases h' with
  | one h=>rw [g] at h; cases h
  | step h2 g2 =>
   rw [g] at g2
   cases g2
   obtain⟨rfl,rfl⟩:=ih h2
   exact⟨rfl,rfl⟩
open Classical in
def trO (m:IM) (g:Int):Option (List Int×List Int):=if h:∃ r:List Int×List Int,TR m r.1 r.2 g then some h.choose else none
theorem yh {m:IM}{g:Int}{ps ks:List Int} (h:TR m ps ks g):trO m g=some (ps,ks):=by
 have e:∃ r:List Int×List Int,TR m r.1 r.2 g:=⟨(ps,ks),h⟩
 unfold trO
 rw [dif_pos e]
 obtain⟨h1,h2⟩:=h.uniq e.choose_spec
 exact congrArg some (Prod.ext h1.symm h2.symm)
theorem yj {m:IM}{g:Int} (h:fB m g=false):trO m g=none:=by
 unfold trO
 refine dif_neg fun ⟨r,hr⟩=>?_
 obtain⟨d,hd,_⟩:=hr.val
 unfold jU at hd
 cases hf:m.find? fun p=>decide (p.1=g) with
 | none=>rw [hf] at hd; cases hd
 | some z =>
  have h1:=List.mem_of_find?_eq_some hf
  have h2:=List.find?_some hf
  have:fB m g=true:=List.any_eq_true.mpr ⟨z,h1,h2⟩
  rw [this] at h
  cases h
def vP:Option (List Int×List Int)->D
 | none=>.none
 | some r=>.tuple [iD r.1,iD r.2]
def iI (n:Nat) (ps:List Put) (a g:Int):Option (List Int×List Int):=trO (srM n ps a) g
theorem Bb {n:Nat}{ps:List Put}{a g:Int} (ok:PutsOk n ps) (a0:0<=a) (a1:a<n) (r:Rt (edg ps) a g):∃ P K,iI n ps a g=some (P,K)/\Wy ps a P K g/\P.length<=n/\K.length<=n:=by
 have S:=qU ok a0 a1
 obtain⟨P,K,W,T,_,l1,l2⟩:=S.cm.tr g (jR.mp ((S.all g).mpr r))
 have few:=S.few
 exact⟨P,K,yh T,W,by omega,by omega⟩
theorem Bc {n:Nat}{ps:List Put}{a g:Int} (ok:PutsOk n ps) (a0:0<=a) (a1:a<n) (r:¬ Rt (edg ps) a g):iI n ps a g=none:=yj (by
 have S:=qU ok a0 a1
 rw [Bool.eq_false_iff]
 exact fun z=>r ((S.all g).mp z))
def aN (us:List Tie):List Put:=us.zipIdx.flatMap fun p=>[(p.1.1,(p.1.2,((p.2:Nat):Int))),(p.1.2,(p.1.1,((p.2:Nat):Int)))]
theorem wz {us:List Tie}{i:Nat}{t:Tie} (h:us[i]?=some t):aN (us.take (i+1))=aN (us.take i)++[(t.1,(t.2,((i:Nat):Int)))]++[(t.2,(t.1,((i:Nat):Int)))]:=by
 have hi:=(É.mp h).1
 have tk:us.take (i+1)=us.take i++[t]:=by rw [Ŝ,h]; rfl
 unfold aN
 rw [tk,List.zipIdx_append,List.flatMap_append,Ī,Nat.min_eq_left (by omega),ŝ,Nat.zero_add]
 rfl
theorem dY {us:List Tie}{p x k:Int}:(p,(x,k))∈aN us↔∃ j:Nat,k=((j:Nat):Int)/\(us[j]?=some (p,x)\/us[j]?=some (x,p)):=by
 unfold aN
 rw [List.mem_flatMap]
 constructor
 ·rintro ⟨⟨t,j⟩,ht,hm⟩
  have ht:us[j]?=some t:=đ.mp ht
  simp only [Ù,ê,or_false,Prod.mk.injEq] at hm
  rcases hm with ⟨rfl,rfl,rfl⟩ | ⟨rfl,rfl,rfl⟩
  ·exact⟨j,rfl,.inl ht⟩
  ·exact⟨j,rfl,.inr ht⟩
 ·rintro ⟨j,rfl,e | e⟩
  ·exact⟨((p,x),j),đ.mpr e,by simp⟩
  ·exact⟨((x,p),j),đ.mpr e,by simp⟩
theorem yg {α β:Type} (f g:α->β):∀ l:List α,(l.flatMap fun p=>[f p,g p]).length=2 * l.length
 | []=>rfl
 | x::l=>by
  rw [List.flatMap_cons,È,yg f g l]
  show 2+2 * l.length=2 * (l.length+1)
  omega
theorem ql (us:List Tie):(aN us).length=2 * us.length:=by
 unfold aN
 rw [yg,List.length_zipIdx]
theorem uL {n:Int}{us:List Tie} (n0:0<=n) (lu:us.length<=100) (ok:OkN n us):PutsOk n.toNat (aN us):=by
 refine⟨by rw [ql]; omega,fun q hq=>?_⟩
 obtain⟨p,x,k⟩:=q
 obtain⟨j,_,e | e⟩:=dY.mp hq
 ·obtain⟨⟨h1,h2⟩,⟨h3,h4⟩,_⟩:=ok _ (Ñ e)
  dsimp only at *
  omega
 ·obtain⟨⟨h1,h2⟩,⟨h3,h4⟩,_⟩:=ok _ (Ñ e)
  dsimp only at *
  omega
theorem Bx {us:List Tie}{x y:Int}:(x,y)∈edg (aN us)↔(x,y)∈adj us [] []:=by
 rw [mX,Ad]
 constructor
 ·rintro ⟨k,h⟩
  obtain⟨j,_,e | e⟩:=dY.mp h
  ·exact .inl (Ñ e)
  ·exact .inr (Ñ e)
 ·rintro (e | e)
  ·obtain⟨j,hj⟩:=ē e
   exact⟨_,dY.mpr ⟨j,rfl,.inl hj⟩⟩
  ·obtain⟨j,hj⟩:=ē e
   exact⟨_,dY.mpr ⟨j,rfl,.inr hj⟩⟩
def xq (ds:List D) (P:D->Prop):Prop:=∃ (ws:List Put) (a:Int) (m:IM) (g:Int),ds=[.dict (kvD m),.int g]/\Cm ws a m/\m.length<=100/\P (vP (trO m g))
def Gy (ds:List D) (P:D->Prop):Prop:=∃ n us,ds=[aF n us]/\0<=n/\n<=100/\us.length<=100/\OkN n us/\P (stD (stOf n.toNat (aN us)))
def Kh (ds:List D) (P:D->Prop):Prop:=∃ n us a b,ds=[aF n us,.int a,.int b]/\0<=n/\n<=60/\us.length<=100/\OkN n us/\0<=a/\a<n/\0<=b/\b<n/\P (vP (iI n.toNat (aN us) a b))
section
variable {P:Program}{w:World}{K:Ý}{mg:Str->Option Value}{base:Heap}{f:Addr}{fd:FuncData}
theorem uE:FnScope ["came","goal","places","ties","step"] ["came","goal"] (aA (top 21)):=zC
theorem Fj (F:Fun K "trace" "trace" (top 21) f fd) (B:Š mg) (m_reversed:mg "reversed"=none):FnOk P w K mg base CX0 1 f fd ["came","goal"] (spD xq):=by
 refine F.ok uE ł (fun cdv A outer s H vs Q E hr h=>?_)
 have nd:=uE.nd
 refine⟨_,ĕ (Ê (Č (Wr.eO hr.units (Ç 1) (Ç 0)) (ß (å Wr.iW)) é)
  (Ê (ó (some 0) (i:=2) nd rfl zQ (Ċ (À (Ç 1) Ã)))
  (Ê (ó (some 1) (i:=3) nd rfl zQ (Ċ Ã))
  (Ê (ó none (i:=4) nd rfl zQ (Wr.mV hr.units (Ç 0) (Ç 1)))
  (Ê (Wr.d8 ĝ (Wr.iR (Ç 4) Wr.iW) (Ê (Wr.cG (Ń 2) (À (á (Ç 4) Ì) Ã))
  (Ê (Wr.cG (Ń 3) (À (á (Ç 4) Ì) Ã))
  (ß (ó none (i:=4) nd rfl zQ (Wr.mV hr.units (Ç 0) (á (Ç 4) Ì)))))))
  (û [4] (ß (å (Ā (À (Wr.eU rfl B.list m_reversed (À (Ç 2) Ã)) (À (Wr.eU rfl B.list m_reversed (À (Ç 3) Ã)) Ã))))))))))),bf h ?_⟩
 rintro ds P ⟨ws,a,m,g,rfl,C,lm,qq⟩
 refine⟨[.sh (.dict (kvD m)),.im (.int g),.any,.any,.any],rfl,m,rfl,?_⟩
 show if (!fB m g)=true then _ else _
 cases hb:fB m g with
 | false=>exact aH (B:=True) ⟨rfl,by rw [yj hb] at qq; exact qq⟩
 | true =>
  obtain⟨ps,ks,W,T,_,l1,l2⟩:=C.tr g (jR.mp hb)
  have q:P (.tuple [iD ps,iD ks]):=by rw [yh T] at qq; exact qq
  obtain⟨d0,hg0,hv0⟩:=T.val
  have im0:∀ k,norm k d0=.imm:=fun k=>by
   rcases hv0 with ⟨rfl,_⟩ | ⟨_,_,p,k2,rfl,_⟩
   ·exact bG rfl
   ·exact bG rfl
  refine aB (A:=True) ⟨zK,zK,m,d0,rfl,hg0,?_⟩
  show xM 4 none (fun _ P=>P (norm .shr d0) d0) _ _
  unfold xM
  simp only [im0]
  show mD _ _ _ [.sh (.dict (kvD m)),.im (.int g),.dw 0 (iD [g]),.dw 1 (iD []),.im d0]
  refine⟨fun mm ρ=>∃ (c:Int) (p1 k1 S T:List Int) (d:D),ρ=[.sh (.dict (kvD m)),.im (.int g),.dw 0 (iD (S.reverse++[c])),.dw 1 (iD T.reverse),.im d]/\TR m p1 k1 c/\jU m c=some d/\p1++S=ps/\k1++T=ks/\mm=p1.length,⟨_,g,ps,ks,[],[],d0,rfl,T,hg0,Ĵ _,Ĵ _,rfl⟩,?_⟩
  rintro mm ρ ⟨c,p1,k1,S,T',d,rfl,t,hg,e1,e2,rfl⟩
  have L1:(S.reverse++[c]).length<=101:=by
   have h1:=congrArg List.length e1
   rw [È] at h1
   rw [È,List.length_reverse,Ú]
   omega
  have L2:T'.reverse.length<=100:=by
   have h1:=congrArg List.length e2
   rw [È] at h1
   rw [List.length_reverse]
   omega
  obtain⟨d2,hg2,hv⟩:=t.val
  rw [hg] at hg2
  cases hg2
  rcases hv with ⟨rfl,rfl,rfl⟩ | ⟨p',k',p,k,rfl,rfl,rfl,t'⟩
  ·have r1:((S.reverse++[c]).map Æ).reverse=ps.map Æ:=by
    rw [← List.map_reverse,List.reverse_append,List.reverse_reverse,← e1]
    rfl
   have r2:(T'.reverse.map Æ).reverse=ks.map Æ:=by
    rw [← List.map_reverse,List.reverse_reverse,← e2]
    rfl
   refine aB (A:=True) (.inl ⟨by rw [r1]; exact gC _,.inl ⟨by rw [r2]; exact gC _,zK,rfl,?_⟩⟩)
   show P (.tuple [.list ((S.reverse++[c]).map Æ).reverse,.list (T'.reverse.map Æ).reverse])
   rw [r1,r2]
   exact q
  ·obtain⟨d3,hg3,hv3⟩:=t'.val
   have im3:∀ k,norm k d3=.imm:=fun k=>by
    rcases hv3 with ⟨rfl,_⟩ | ⟨_,_,_,_,rfl,_⟩
    ·exact bG rfl
    ·exact bG rfl
   refine aH (B:=True) ⟨.int p,rfl,rfl,by rw [Â]; omega,.int k,rfl,rfl,by rw [Â]; omega,.int p,rfl,m,d3,rfl,hg3,?_⟩
   simp only [im3]
   refine⟨p'.length,by rw [È,Ú]; omega,p,p',k',c::S,k::T',d3,?_,t',hg3,by rw [← e1,ŝ]; rfl,by rw [← e2,ŝ]; rfl,rfl⟩
   have r1:(S.reverse++[c]).map Æ++[Æ p]=((c::S).reverse++[p]).map Æ:=by
    rw [ŷ,Þ (l₂:=[p])]
    rfl
   have r2:T'.reverse.map Æ++[Æ k]=(k::T').reverse.map Æ:=by
    rw [ŷ,Þ]
    rfl
   show ([_,_,Sl.dw 0 (.list ((S.reverse++[c]).map Æ++[Æ p])),Sl.dw 1 (.list (T'.reverse.map Æ++[Æ k])),_]:List Sl)=[_,_,Sl.dw 0 (.list (((c::S).reverse++[p]).map Æ)),Sl.dw 1 (.list ((k::T').reverse.map Æ)),_]
   rw [r1,r2]
   rfl
theorem fH:FnScope ["web","steps","number","tie"] ["web"] (aA (top 18)):=zC
theorem jJ:(["place","web","steps","number","tie"]:List Str).Nodup:=by decide +kernel
theorem lY (F:Fun K "steps_of_web" "steps_of_web" (top 18) f fd) (B:Š mg) (m_enumerate:mg "enumerate"=none):FnOk P w K mg base CX0 1 f fd ["web"] (spD Gy):=by
 refine F.ok fH ł (fun cdv A outer s H vs Q E hr h=>?_)
 have nd:=fH.nd
 refine⟨_,ĕ (Ê (Wr.jX 0 ["place"] (i:=1) rfl nd rfl zQ (Wr.bQ B.range (À (á (Ç 0) Ì) Ã)) (fun c=>(ç (i:=0) jJ rfl zQ)))
  (Ê (Wr.dz ĝ rfl (Wr.mZ m_enumerate (À (á (Ç 0) Ì) Ã)) (Wr.dB (n:=2) rfl (ġ (ç (i:=2) nd rfl zQ) (ġ (ç (i:=3) nd rfl zQ) Wr.cA))) (Ê (Wr.d9 (Ń 1) (á (Ç 3) Ì) (À (Ā (À (á (Ç 3) Ì) (À (Ç 2) Ã))) Ã))
  (Ê (Wr.d9 (Ń 1) (á (Ç 3) Ì) (À (Ā (À (á (Ç 3) Ì) (À (Ç 2) Ã))) Ã)) (û [2,3] é))))
  (û [2,3] (ß (å (Ç 1)))))),bf h ?_⟩
 rintro ds P ⟨n,us,rfl,n1,n16,lu,ok,q⟩
 refine⟨[.im (aF n us),.any,.any,.any],?_,?_⟩
 ·show [bH (aF n us),.any,.any,.any]=_
  rw [bV]
 refine⟨.int n,rfl,⟨by omega,by omega⟩,by rw [cF]; omega,rfl,?_⟩
 rw [cF]
 refine⟨.tuple (us.map pD),rfl,rfl,fun (i:Nat) ρ=>ρ=[.im (aF n us),.rw 0 (rP (stOf n.toNat (aN (us.take i)))),.any,.any],?_,?_,?_⟩
 ·show [_,Sl.rw 0 (Ð n.toNat []),_,_]=[_,Sl.rw 0 (rP (stOf n.toNat [])),_,_]
  rw [Dd]
  unfold rP
  rw [List.map_replicate]
  rfl
 ·rintro i d ρ hd rfl
  rw [lF,Ø] at hd
  obtain⟨t,ht,rfl⟩:∃ t,us[i]?=some t/\Ĝ [.int ((i:Nat):Int),pD t]=d:=by
   cases e:us[i]? with
   | none=>rw [e] at hd; cases hd
   | some t=>rw [e] at hd; exact⟨t,rfl,Û hd⟩
  obtain⟨⟨o1,o2⟩,⟨o3,o4⟩,o5⟩:=ok t (Ñ ht)
  have hi:=(É.mp ht).1
  have l1:(aN (us.take i)).length<=200:=by rw [ql,Ī]; omega
  have r1:=mH (aN (us.take i)) t.1.toNat
  have r2:=mH (aN (us.take i)++[(t.1,(t.2,((i:Nat):Int)))]) t.2.toNat
  rw [È,Ú] at r2
  have s1:=qZ (n:=n.toNat) (ps:=aN (us.take i)) (q:=(t.1,(t.2,((i:Nat):Int)))) ⟨o1,by show t.1<_; omega⟩
  have s2:=qZ (n:=n.toNat) (ps:=aN (us.take i)++[(t.1,(t.2,((i:Nat):Int)))]) (q:=(t.2,(t.1,((i:Nat):Int)))) ⟨o3,by show t.2<_; omega⟩
  rw [← s1] at s2
  refine⟨rfl,.int t.1,rfl,t.1.toNat,(rowOf (aN (us.take i)) t.1.toNat).map pD,?_,wu _ (by omega),.int t.2,rfl,zK,rfl,by rw [Â]; omega,.int t.2,rfl,?_⟩
  ·unfold ixN rP
   rw [if_pos o1,if_pos (by rw [Â,iQ]; omega)]
  refine⟨t.2.toNat,(rowOf (aN (us.take i)++[(t.1,(t.2,((i:Nat):Int)))]) t.2.toNat).map pD,?_,?_,.int t.1,rfl,zK,rfl,by rw [Â]; omega,?_⟩
  ·unfold ixN rP
   rw [if_pos o3,if_pos (by rw [List.length_set,Â,iQ]; omega)]
  ·have:=wu (n:=n.toNat) (aN (us.take i)++[(t.1,(t.2,((i:Nat):Int)))]) (p:=t.2.toNat) (by omega)
   rw [← s1] at this
   exact this
  ·show [Sl.im (aF n us),Sl.rw 0 (((rP (stOf n.toNat (aN (us.take i)))).set t.1.toNat ((rowOf (aN (us.take i)) t.1.toNat).map pD++[pD (t.2,((i:Nat):Int))])).set t.2.toNat ((rowOf (aN (us.take i)++[(t.1,(t.2,((i:Nat):Int)))]) t.2.toNat).map pD++[pD (t.1,((i:Nat):Int))])),Sl.any,Sl.any]=[_,Sl.rw 0 (rP (stOf n.toNat (aN (us.take (i+1))))),_,_]
   rw [wz ht,← s2]
 ·rintro ρ rfl
  rw [g8,Â,Ť]
  refine⟨rfl,?_⟩
  show P (.list ((rP (stOf n.toNat (aN us))).map Ġ))
  rw [Df]
  exact q
theorem Dq:FnScope ["web","a","b"] ["web","a","b"] (aA (top 22)):=zC
theorem Mj (F:Fun K "way" "way" (top 22) f fd) (B:Š mg) (C_check_place:ć P w K mg base 4 "check_place" ["web","thing"] (spD G3)) (C_trace:ć P w K mg base 1 "trace" ["came","goal"] (spD xq)) (C_search:ć P w K mg base 1 "search" ["steps","start"] (spD sU)) (C_steps_of_web:ć P w K mg base 1 "steps_of_web" ["web"] (spD Gy)):FnOk P w K mg base CX0 5 f fd ["web","a","b"] (spD Kh):=by
 refine F.ok Dq ł (fun cdv A outer s H vs Q E hr h=>?_)
 have nd:=Dq.nd
 refine⟨_,ĕ (Ê (Wr.bU (İ C_check_place hr (À (Ç 0) (À (Ç 1) Ã))))
  (Ê (Wr.bU (İ C_check_place hr (À (Ç 0) (À (Ç 2) Ã))))
  (ß (å (İ C_trace hr (À (İ C_search hr (À (İ C_steps_of_web hr (À (Ç 0) Ã)) (À (Ç 1) Ã))) (À (Ç 2) Ã))))))),bf h ?_⟩
 rintro ds P ⟨n,us,a,b,rfl,n0,n60,lu,ok,a0,a1,b0,b1,q⟩
 refine⟨[.im (aF n us),.im (.int a),.im (.int b)],by show [bH (aF n us),.im (.int a),.im (.int b)]=_; rw [bV],?_⟩
 have po:=uL (by omega) lu ok
 have S:=qU (n:=n.toNat) po a0 (by omega)
 have few:=S.few
 refine⟨n,us,a,rfl,a0,a1,n,us,b,rfl,b0,b1,n,us,rfl,n0,by omega,lu,ok,n.toNat,aN us,a,rfl,by omega,po,a0,by omega,aN us,a,srM n.toNat (aN us) a,b,rfl,S.cm,by omega,?_⟩
 show _/\P (vP (iI n.toNat (aN us) a b))
 refine⟨?_,q⟩
 show (norm .new (vP (trO (srM n.toNat (aN us) a) b))).le .n0=true
 cases trO (srM n.toNat (aN us) a) b with
 | none=>rfl
 | some r=>rfl
end
theorem Cy {ws:List Put}{a:Int}{P K:List Int}{x:Int} (h:Wy ws a P K x):P.length=K.length+1:=by
 induction h with
 | one=>rfl
 | step _ _ _ ih=>rw [È,È,Ú,Ú,ih]
theorem JQ {ws:List Put}{a:Int}{P K:List Int}{x:Int} (h:Wy ws a P K x):P.Nodup:=by
 induction h with
 | one=>simp
 | step _ hx _ ih=>exact List.nodup_append.mpr ⟨ih,by simp,fun y hy z hz=>by rw [Õ.mp hz]; rintro rfl; exact hx hy⟩
theorem HJ {ws:List Put}{a:Int}{P K:List Int}{x:Int} (h:Wy ws a P K x):P[0]?=some a:=by
 induction h with
 | one=>rfl
 | step h _ _ ih=>rw [ë (É.mp ih).1]; exact ih
theorem yc {ws:List Put}{a:Int}{P K:List Int}{x:Int} (h:Wy ws a P K x):∃ Q,P=Q++[x]:=by
 cases h with
 | one=>exact⟨[],rfl⟩
 | step _ _ _=>exact⟨_,rfl⟩
theorem Ku {ws:List Put}{a:Int}{P K:List Int}{x:Int} (h:Wy ws a P K x):∀ (i:Nat) (k:Int),K[i]?=some k->∃ p y,P[i]?=some p/\P[i+1]?=some y/\(p,(y,k))∈ws:=by
 induction h with
 | one=>exact fun i k e=>by cases e
 | @step P K p y k h hx j ih =>
  intro i k' e
  have l:=Cy h
  by_cases hi:i<K.length
  ·rw [ë hi] at e
   obtain⟨p',y',h1,h2,h3⟩:=ih i k' e
   exact⟨p',y',by rw [ë (by omega)]; exact h1,by rw [ë (by omega)]; exact h2,h3⟩
  ·rw [î (by omega)] at e
   have hi:i=K.length:=by
    have:=(É.mp e).1
    rw [Ú] at this
    omega
   subst hi
   rw [Nat.sub_self] at e
   have e:k=k':=Û e
   subst e
   obtain⟨Q,rfl⟩:=yc h
   rw [È,Ú] at l
   have l:Q.length=K.length:=by omega
   refine⟨p,y,?_,?_,j⟩
   ·rw [ë (by rw [È,Ú]; omega),← l,î (Ï _),Nat.sub_self]
    rfl
   ·rw [î (by rw [È,Ú]; omega),È,Ú,l,Nat.sub_self]
    rfl
theorem HF {n:Nat}{ws:List Put}{a:Int}{P K:List Int}{x:Int} (ok:PutsOk n ws) (ha:0<=a/\a<n) (h:Wy ws a P K x):∀ y∈P,0<=y/\y<n:=by
 induction h with
 | one=>exact fun y hy=>by rw [Õ.mp hy]; exact ha
 | step _ _ j ih =>
  intro y hy
  rcases ä.mp hy with z | z
  ·exact ih y z
  ·rw [Õ.mp z]
   exact (ok.rng _ j).2
def aX (us:List Tie):List Put:=us.zipIdx.map fun p=>(p.1.1,(p.1.2,((p.2:Nat):Int)))
theorem wA {us:List Tie}{i:Nat}{t:Tie} (h:us[i]?=some t):aX (us.take (i+1))=aX (us.take i)++[(t.1,(t.2,((i:Nat):Int)))]:=by
 have hi:=(É.mp h).1
 have tk:us.take (i+1)=us.take i++[t]:=by rw [Ŝ,h]; rfl
 unfold aX
 rw [tk,List.zipIdx_append,Þ,Ī,Nat.min_eq_left (by omega),Nat.zero_add]
 rfl
theorem gW {us:List Tie}{p x k:Int}:(p,(x,k))∈aX us↔∃ j:Nat,k=((j:Nat):Int)/\us[j]?=some (p,x):=by
 unfold aX
 rw [Ğ]
 constructor
 ·rintro ⟨⟨t,j⟩,ht,hm⟩
  have ht:us[j]?=some t:=đ.mp ht
  cases hm
  exact⟨j,rfl,ht⟩
 ·rintro ⟨j,rfl,e⟩
  exact⟨((p,x),j),đ.mpr e,rfl⟩
theorem qm (us:List Tie):(aX us).length=us.length:=by
 unfold aX
 rw [Â,List.length_zipIdx]
theorem uM {n:Int}{us:List Tie} (n0:0<=n) (lu:us.length<=100) (ok:OkN n us):PutsOk n.toNat (aX us):=by
 refine⟨by rw [qm]; omega,fun q hq=>?_⟩
 obtain⟨p,x,k⟩:=q
 obtain⟨j,_,e⟩:=gW.mp hq
 obtain⟨⟨h1,h2⟩,⟨h3,h4⟩,_⟩:=ok _ (Ñ e)
 dsimp only at *
 omega
theorem BJ {us:List Tie}{x y:Int}:(x,y)∈edg (aX us)↔(x,y)∈us:=by
 rw [mX]
 constructor
 ·rintro ⟨k,h⟩
  obtain⟨j,_,e⟩:=gW.mp h
  exact Ñ e
 ·intro e
  obtain⟨j,hj⟩:=ē e
  exact⟨_,gW.mpr ⟨j,rfl,hj⟩⟩
def yN (both:Bool) (us:List Tie):List Put:=if both=true then aN us else aX us
def fJ (both:Bool) (us:List Tie):List Tie:=if both=true then us++us.map (fun t=>(t.2,t.1)) else us
theorem zR {both:Bool}{us:List Tie}{x y:Int}:(x,y)∈edg (yN both us)↔(x,y)∈fJ both us:=by
 cases both with
 | true =>
  show (x,y)∈edg (aN us)↔(x,y)∈us++us.map (fun t=>(t.2,t.1))
  rw [Bx,Ad,ä,Ğ]
  refine or_congr Iff.rfl ⟨fun h=>⟨_,h,rfl⟩,?_⟩
  rintro ⟨⟨p,q⟩,ht,e⟩
  cases e
  exact ht
 | false=>exact BJ
theorem Du {both:Bool}{us:List Tie}{x y:Int}:Rt (edg (yN both us)) x y↔Rt (fJ both us) x y:=⟨Rt.mono fun ⟨_,_⟩ h=>zR.mp h,Rt.mono fun ⟨_,_⟩ h=>zR.mpr h⟩
theorem uN {both:Bool}{n:Int}{us:List Tie} (n0:0<=n) (lu:us.length<=100) (ok:OkN n us):PutsOk n.toNat (yN both us):=by
 cases both with
 | true=>exact uL n0 lu ok
 | false=>exact uM n0 lu ok
structure WF (both:Bool) (n:Int) (us:List Tie) (a b:Int) (P K:List Int):Prop where
 len:P.length=K.length+1
 few:P.length<=16
 nd:P.Nodup
 hd:P[0]?=some a
 la:∃ Q,P=Q++[b]
 rg:∀ y∈P,0<=y/\y<n
 hop:∀ (i:Nat) (k:Int),K[i]?=some k->∃ (p y:Int) (j:Nat),P[i]?=some p/\P[i+1]?=some y/\k=((j:Nat):Int)/\us[j]?=some (if both=true then mmT (p,y) else (p,y))
theorem WF.of {both:Bool}{n:Int}{us:List Tie}{a b:Int}{P K:List Int} (n0:0<=n) (n16:n<=16) (lu:us.length<=100) (ok:OkN n us) (up:both=true->Ny us) (ha:0<=a/\a<n) (h:Wy (yN both us) a P K b):WF both n us a b P K:=by
 have po:=uN (both:=both) n0 lu ok
 have rg:∀ y∈P,0<=y/\y<n:=fun y hy=>by have:=HF po (by omega) h y hy; omega
 have fw:=jG (n:=n.toNat) (JQ h) (fun y hy=>by have:=rg y hy; omega)
 refine⟨Cy h,by omega,JQ h,HJ h,yc h,rg,fun i k e=>?_⟩
 obtain⟨p,y,h1,h2,h3⟩:=Ku h i k e
 cases both with
 | false =>
  obtain⟨j,rfl,ej⟩:=gW.mp h3
  exact⟨p,y,j,h1,h2,rfl,ej⟩
 | true =>
  obtain⟨j,rfl,ej⟩:=dY.mp h3
  refine⟨p,y,j,h1,h2,rfl,?_⟩
  have up:=up rfl
  show us[j]?=some (mmT (p,y))
  rcases ej with ej | ej
  ·have:=up _ (Ñ ej)
   have:p<y:=this
   rw [ej]
   unfold mmT
   dsimp only
   rw [if_neg (by omega),if_pos (by omega)]
  ·have:=up _ (Ñ ej)
   have:y<p:=this
   rw [ej]
   unfold mmT
   dsimp only
   rw [if_pos (by omega),if_neg (by omega)]
theorem qR (l:List Int):(l.map Æ).map toI=l:=by
 rw [Ē]
 exact List.map_id l
theorem WF.way {both:Bool}{n:Int}{us:List Tie}{a b:Int}{P K:List Int} (h:WF both n us a b P K):HN both n us a b (.tuple [iD P,iD K])=true:=by
 have len:=h.len
 show (pO n a b (iD P)&&(decide ((((K.map Æ).length:Nat):Int)=((Jr (iD P):Nat):Int) - 1)&&(K.map Æ).all (bw ((us.length:Nat):Int)))&&iM both us (.tuple [iD P,iD K]))=true
 have r:pO n a b (iD P)=true:=by
  show (((((!(P.map Æ).isEmpty&&(P.map Æ).all (bw n)))&&decide (((P.map Æ).map toI).head?=some a))&&decide (((P.map Æ).map toI).getLast?=some b))&&rZ ((P.map Æ).map toI))=true
  rw [qR]
  obtain⟨Q,hQ⟩:=h.la
  have h1:(P.map Æ).isEmpty=false:=by rw [hQ]; cases Q <;> rfl
  have h2:(P.map Æ).all (bw n)=true:=by
   rw [List.all_map,Ĭ]
   exact fun y hy=>decide_eq_true (h.rg y hy)
  have h3:P.head?=some a:=by rw [List.head?_eq_getElem?]; exact h.hd
  have h4:P.getLast?=some b:=by rw [hQ,List.getLast?_append]; rfl
  have h5:rZ P=true:=decide_eq_true ((nW P).mpr h.nd)
  rw [h1,h2,decide_eq_true h3,decide_eq_true h4,h5]
  rfl
 have kr:∀ k∈K,0<=k/\k<((us.length:Nat):Int):=fun k hk=>by
  obtain⟨i,hi⟩:=ē hk
  obtain⟨p,y,j,_,_,rfl,e⟩:=h.hop i k hi
  have:=(É.mp e).1
  omega
 have l1:((((K.map Æ).length:Nat):Int)=((Jr (iD P):Nat):Int) - 1):=by
  show ((((K.map Æ).length:Nat):Int)=(((P.map Æ).length:Nat):Int) - 1)
  rw [Â,Â]
  omega
 have a1:(K.map Æ).all (bw ((us.length:Nat):Int))=true:=by
  rw [List.all_map,Ĭ]
  exact fun y hy=>decide_eq_true (kr y hy)
 have st:iM both us (.tuple [iD P,iD K])=true:=by
  show ((gD ((P.map Æ).map toI)).zip ((K.map Æ).map toI)).all (fun p=>fG both us p.1 p.2)=true
  rw [qR,qR,Ĭ]
  rintro ⟨t,k⟩ hm
  obtain⟨i,hi⟩:=ē hm
  rw [List.getElem?_zip_eq_some] at hi
  obtain⟨e1,e2⟩:=hi
  unfold gD at e1
  obtain⟨x,y⟩:=t
  rw [List.getElem?_zip_eq_some] at e1
  obtain⟨e3,e4⟩:=e1
  obtain⟨p,q,j,h1,h2,rfl,e⟩:=h.hop i k e2
  rw [List.getElem?_drop,Nat.add_comm,h2] at e4
  have hi:i<K.length:=(É.mp e2).1
  rw [List.getElem?_dropLast,if_pos (by omega),h1] at e3
  cases e3
  cases e4
  exact decide_eq_true e
 rw [r,decide_eq_true l1,a1,st]
 rfl
def PL (ds:List D) (P:D->Prop):Prop:=∃ n us,ds=[aF n us]/\0<=n/\n<=100/\us.length<=100/\OkN n us/\P (stD (stOf n.toNat (aX us)))
def Ko (ds:List D) (P:D->Prop):Prop:=∃ n us a b,ds=[aF n us,.int a,.int b]/\0<=n/\n<=60/\us.length<=100/\OkN n us/\0<=a/\a<n/\0<=b/\b<n/\P (vP (iI n.toNat (aX us) a b))
section
variable {P:Program}{w:World}{K:Ý}{mg:Str->Option Value}{base:Heap}{f:Addr}{fd:FuncData}
theorem cN:FnScope ["one","steps","number","tie"] ["one"] (aA (top 19)):=zC
theorem fK:(["place","one","steps","number","tie"]:List Str).Nodup:=by decide +kernel
theorem iB (F:Fun K "steps_of_one_way" "steps_of_one_way" (top 19) f fd) (B:Š mg) (m_enumerate:mg "enumerate"=none):FnOk P w K mg base CX0 1 f fd ["one"] (spD PL):=by
 refine F.ok cN ł (fun cdv A outer s H vs Q E hr h=>?_)
 have nd:=cN.nd
 refine⟨_,ĕ (Ê (Wr.jX 0 ["place"] (i:=1) rfl nd rfl zQ (Wr.bQ B.range (À (á (Ç 0) Ì) Ã)) (fun c=>(ç (i:=0) fK rfl zQ)))
  (Ê (Wr.dz ĝ rfl (Wr.mZ m_enumerate (À (á (Ç 0) Ì) Ã)) (Wr.dB (n:=2) rfl (ġ (ç (i:=2) nd rfl zQ) (ġ (ç (i:=3) nd rfl zQ) Wr.cA))) (Ê (Wr.d9 (Ń 1) (á (Ç 3) Ì) (À (Ā (À (á (Ç 3) Ì) (À (Ç 2) Ã))) Ã)) (û [2,3] é)))
  (û [2,3] (ß (å (Ç 1)))))),bf h ?_⟩
 rintro ds P ⟨n,us,rfl,n0,n1,lu,ok,q⟩
 refine⟨[.im (aF n us),.any,.any,.any],by show [bH (aF n us),.any,.any,.any]=_; rw [bV],?_⟩
 refine⟨.int n,rfl,⟨by omega,by omega⟩,by rw [cF]; omega,rfl,?_⟩
 rw [cF]
 refine⟨.tuple (us.map pD),rfl,rfl,fun (i:Nat) ρ=>ρ=[.im (aF n us),.rw 0 (rP (stOf n.toNat (aX (us.take i)))),.any,.any],?_,?_,?_⟩
 ·show [_,Sl.rw 0 (Ð n.toNat []),_,_]=[_,Sl.rw 0 (rP (stOf n.toNat [])),_,_]
  rw [Dd]
  unfold rP
  rw [List.map_replicate]
  rfl
 ·rintro i d ρ hd rfl
  rw [lF,Ø] at hd
  obtain⟨t,ht,rfl⟩:∃ t,us[i]?=some t/\Ĝ [.int ((i:Nat):Int),pD t]=d:=by
   cases e:us[i]? with
   | none=>rw [e] at hd; cases hd
   | some t=>rw [e] at hd; exact⟨t,rfl,Û hd⟩
  obtain⟨⟨o1,o2⟩,⟨o3,o4⟩,o5⟩:=ok t (Ñ ht)
  have hi:=(É.mp ht).1
  have l1:(aX (us.take i)).length<=200:=by rw [qm,Ī]; omega
  have r1:=mH (aX (us.take i)) t.1.toNat
  have s1:=qZ (n:=n.toNat) (ps:=aX (us.take i)) (q:=(t.1,(t.2,((i:Nat):Int)))) ⟨o1,by show t.1<_; omega⟩
  refine⟨rfl,.int t.1,rfl,t.1.toNat,(rowOf (aX (us.take i)) t.1.toNat).map pD,?_,wu _ (by omega),.int t.2,rfl,zK,rfl,by rw [Â]; omega,?_⟩
  ·unfold ixN rP
   rw [if_pos o1,if_pos (by rw [Â,iQ]; omega)]
  ·show [Sl.im (aF n us),Sl.rw 0 ((rP (stOf n.toNat (aX (us.take i)))).set t.1.toNat ((rowOf (aX (us.take i)) t.1.toNat).map pD++[pD (t.2,((i:Nat):Int))])),Sl.any,Sl.any]=[_,Sl.rw 0 (rP (stOf n.toNat (aX (us.take (i+1))))),_,_]
   rw [wA ht,← s1]
 ·rintro ρ rfl
  rw [g8,Â,Ť]
  refine⟨rfl,?_⟩
  show P (.list ((rP (stOf n.toNat (aX us))).map Ġ))
  rw [Df]
  exact q
theorem nC:FnScope ["one","a","b"] ["one","a","b"] (aA (top 23)):=zC
theorem wO (F:Fun K "one_way" "one_way" (top 23) f fd) (B:Š mg) (C_check_place:ć P w K mg base 4 "check_place" ["web","thing"] (spD G3)) (C_trace:ć P w K mg base 1 "trace" ["came","goal"] (spD xq)) (C_search:ć P w K mg base 1 "search" ["steps","start"] (spD sU)) (C_steps_of_one_way:ć P w K mg base 1 "steps_of_one_way" ["one"] (spD PL)):FnOk P w K mg base CX0 5 f fd ["one","a","b"] (spD Ko):=by
 refine F.ok nC ł (fun cdv A outer s H vs Q E hr h=>?_)
 have nd:=nC.nd
 refine⟨_,ĕ (Ê (Wr.bU (İ C_check_place hr (À (Ç 0) (À (Ç 1) Ã))))
  (Ê (Wr.bU (İ C_check_place hr (À (Ç 0) (À (Ç 2) Ã))))
  (ß (å (İ C_trace hr (À (İ C_search hr (À (İ C_steps_of_one_way hr (À (Ç 0) Ã)) (À (Ç 1) Ã))) (À (Ç 2) Ã))))))),bf h ?_⟩
 rintro ds P ⟨n,us,a,b,rfl,n0,n60,lu,ok,a0,a1,b0,b1,q⟩
 refine⟨[.im (aF n us),.im (.int a),.im (.int b)],by show [bH (aF n us),.im (.int a),.im (.int b)]=_; rw [bV],?_⟩
 have po:=uM (by omega) lu ok
 have S:=qU (n:=n.toNat) po a0 (by omega)
 have few:=S.few
 refine⟨n,us,a,rfl,a0,a1,n,us,b,rfl,b0,b1,n,us,rfl,n0,by omega,lu,ok,n.toNat,aX us,a,rfl,by omega,po,a0,by omega,aX us,a,srM n.toNat (aX us) a,b,rfl,S.cm,by omega,?_⟩
 show _/\P (vP (iI n.toNat (aX us) a b))
 refine⟨?_,q⟩
 show (norm .new (vP (trO (srM n.toNat (aX us) a) b))).le .n0=true
 cases trO (srM n.toNat (aX us) a) b with
 | none=>rfl
 | some r=>rfl
end
structure Cms (n:Nat) (es:List Tie) (a:Int) (at':Nat) (F:List Int):Prop where
 nd:F.Nodup
 st:a∈F
 rg:∀ x∈F,0<=x/\x<n
 rt:∀ x∈F,Rt es a x
 cl:∀ i x,i<at'->F[i]?=some x->∀ y,(x,y)∈es->y∈F
def newT (es:List Tie) (F:List Int) (x:Int):List Int:=(es.filter fun t=>decide (t.1=x)&&!decide (t.2∈F)).map (·.2)
theorem Cms.go {n:Nat}{es:List Tie}{a x:Int}{i:Nat}{F out:List Int} (hr:∀ t∈es,0<=t.2/\t.2<n) (h:Cms n es a i F) (hx:F[i]?=some x) (hp:out.Pairwise (·<·)) (hm:∀ y,y∈out↔y∈newT es F x):Cms n es a (i+1) (F++out):=by
 have mn:∀ y,y∈newT es F x↔(x,y)∈es/\y∉F:=fun y=>by
  unfold newT
  rw [Ğ]
  constructor
  ·rintro ⟨⟨p,q⟩,ht,rfl⟩
   obtain⟨h1,h2⟩:=ĳ.mp ht
   rw [à] at h2
   have e:p=x:=of_decide_eq_true h2.1
   subst e
   exact⟨h1,by simpa using h2.2⟩
  ·rintro ⟨h1,h2⟩
   exact⟨(x,y),ĳ.mpr ⟨h1,by simp [h2]⟩,rfl⟩
 have xm:=Ñ hx
 refine⟨List.nodup_append.mpr ⟨h.nd,hp.imp fun z=>by omega,fun u hu v hv e=>?_⟩,þ _ h.st,fun y hy=>?_,fun y hy=>?_,fun j z hj hz y hy=>?_⟩
 ·subst e
  exact ((mn u).mp ((hm u).mp hv)).2 hu
 ·rcases ä.mp hy with z | z
  ·exact h.rg y z
  ·exact hr _ ((mn y).mp ((hm y).mp z)).1
 ·rcases ä.mp hy with z | z
  ·exact h.rt y z
  ·exact .step (h.rt x xm) ((mn y).mp ((hm y).mp z)).1
 ·have hi:=(É.mp hx).1
  rw [ë (by omega)] at hz
  by_cases c:j=i
  ·subst c
   rw [hx] at hz
   cases hz
   by_cases d:y∈F
   ·exact þ _ d
   ·exact ã _ ((hm y).mpr ((mn y).mpr ⟨hy,d⟩))
  ·exact þ _ (h.cl j z (by omega) hz y hy)
theorem Cms.all {n:Nat}{es:List Tie}{a:Int}{i:Nat}{F:List Int} (h:Cms n es a i F) (hi:F.length<=i) {y:Int} (r:Rt es a y):y∈F:=by
 induction r with
 | refl=>exact h.st
 | step _ t ih =>
  obtain⟨j,hj⟩:=ē ih
  have:=(É.mp hj).1
  exact h.cl j _ (by omega) hj _ t
def GZ (ds:List D) (P:D->Prop):Prop:=∃ (n:Nat) (es:List Tie) (a b:Int),ds=[.list (es.map pD),.int a,.int b]/\n<=16/\es.length<=100/\(∀ t∈es,0<=t.2/\t.2<n)/\0<=a/\a<n/\P (.bool (RZ es a b))
def isL (both:Bool):D:=if both=true then .list [] else .list [.int 1]
def PX (ds:List D) (P:D->Prop):Prop:=∃ (both:Bool) (n:Int) (us:List Tie) (a b:Int) (p k:List Int),ds=[isL both,.int a,.int b,.tuple [iD p,iD k],.tuple (us.map pD)]/\us.length<=100/\WF both n us a b p k/\P (.bool true)
section
variable {P:Program}{w:World}{K:Ý}{mg:Str->Option Value}{base:Heap}{f:Addr}{fd:FuncData}
theorem jq:FnScope ["_law_pairs","_law_a","_law_b","_law_found","_law_at"] ["_law_pairs","_law_a","_law_b"] (aA (top 37)):=zC
theorem fZ:(["_law_start","_law_end","_law_pairs","_law_a","_law_b","_law_found","_law_at"]:List Str).Nodup:=by decide +kernel
theorem rW (F:Fun K "_law_comes" "_law_comes" (top 37) f fd) (B:Š mg) (m_set:mg "set"=none):FnOk P w K mg base CX0 1 f fd ["_law_pairs","_law_a","_law_b"] (spD GZ):=by
 refine F.ok jq ł (fun cdv A outer s H vs Q E hr h=>?_)
 have nd:=jq.nd
 refine⟨_,ĕ (Ê (ó none (i:=3) nd rfl zQ (Ċ (À (Ç 1) Ã)))
  (Ê (ó none (i:=4) nd rfl zQ Ì)
  (Ê (Wr.d8 ĝ (Wr.nM (Ç 4) (ľ B.len (À (Ç 3) Ã))) (Ê (ó none (i:=3) nd rfl zQ (Đ (Ç 3) (Wr.iU rfl m_set B.sorted (À (Ŗ ["_law_start","_law_end"] rfl (Ş (Ç 0)) (fun c=>(Wr.dB (n:=2) rfl (ġ (ç (i:=0) fZ rfl zQ) (ġ (ç (i:=1) fZ rfl zQ) Wr.cA)))) (fun c=>(Wr.iu (Wr.wpt (Wr.eN (Ţ hr.units (Ç 0) (á (Ç 5) (Ç 6))) (Wr.cZ (Wr.gQ hr.units (Ç 1) (Ç 5))))))) (fun c=>(Ç 1))) Ã))))
  (ß (ó none (i:=4) nd rfl zQ (Đ (Ç 4) Ì)))))
  (û [4] (ß (å (Wr.Es hr.units (Ç 2) (Ç 3)))))))),bf h ?_⟩
 rintro ds P ⟨n,es,a,b,rfl,n16,le,hr,a0,a1,q⟩
 refine⟨[.sh (.list (es.map pD)),.im (.int a),.im (.int b),.any,.any],rfl,?_⟩
 refine⟨zK,?_⟩
 refine⟨fun mm ρ=>∃ (i:Nat) (F:List Int),ρ=[.sh (.list (es.map pD)),.im (.int a),.im (.int b),.sn (iD F),.im (.int ((i:Nat):Int))]/\Cms n es a i F/\mm=n - i,⟨_,0,[a],rfl,⟨by simp,Õ.mpr rfl,fun x hx=>by rw [Õ.mp hx]; exact⟨a0,a1⟩,fun x hx=>by rw [Õ.mp hx]; exact .refl _,fun j x hj=>by omega⟩,rfl⟩,?_⟩
 rintro mm ρ ⟨i,F,rfl,h,rfl⟩
 have fw:=jG (n:=n) h.nd h.rg
 have lm:(F.map Æ).length=F.length:=Â ..
 show if decide (((i:Nat):Int)<(((F.map Æ).length:Nat):Int))=true then _ else _
 by_cases c:i<F.length
 ·rw [decide_eq_true (show ((i:Nat):Int)<(((F.map Æ).length:Nat):Int) by omega)]
  have hx:F[i]?=some F[i]:=Í c
  have ax:atI (F.map Æ) ((i:Nat):Int)=some (.int F[i]):=bA (by rw [Ø,hx]; rfl)
  refine aH (B:=True) ?_
  refine Kf es pD (fun t=>decide (t.1=F[i])&&!decide (t.2∈F)) (fun t=>Æ t.2) .imm rfl (by omega) (fun t ht A B hA hB=>?_) ?_
  ·refine⟨rfl,_,ax,?_⟩
   show if decide (t.1=F[i])=true then _ else _
   by_cases e:t.1=F[i]
   ·rw [decide_eq_true e] at hA hB ⊢
    refine aH (B:=True) ⟨rfl,rY F,?_⟩
    show if (!((F.map Æ).any fun e=>ô e (.int t.2)))=true then _ else _
    rw [Dl.any_ints]
    exact gB (fun c=>⟨rfl,hA c⟩) (fun c=>hB (Bool.eq_false_iff.mpr c))
   ·rw [decide_eq_false e] at hA hB ⊢
    exact aB (A:=True) (aB (A:=True) (hB rfl))
  ·have en:(es.filter fun t=>decide (t.1=F[i])&&!decide (t.2∈F)).map (fun t=>Æ t.2)=(newT es F F[i]).map Æ:=by
    unfold newT
    rw [Ē]
    rfl
   have hn:∀ y∈newT es F F[i],0<=y/\y<(n:Int):=fun y hy=>by
    obtain⟨t,ht,rfl⟩:=Ğ.mp hy
    exact hr t (ĳ.mp ht).1
   have ln:(newT es F F[i]).length<=es.length:=by
    unfold newT
    rw [Â]
    exact List.length_filter_le _ _
   have fo:=Fg _ hn
   refine⟨_,newT es F F[i],congrArg (fun l=>[(_,Ġ l)]) en,by omega,by omega,fun out hp hm=>?_⟩
   have G:=h.go hr hx hp hm
   have fw2:=jG (n:=n) G.nd G.rg
   rw [È] at fw2
   refine⟨by rw [Â,Â]; omega,.inr ?_⟩
   show ∃ m',m'<n - i/\∃ (j:Nat) (F':List Int),[Sl.sh (.list (es.map pD)),.im (.int a),.im (.int b),.sn (.list (F.map Æ++out.map Æ)),.im (.int (((i:Nat):Int)+1))]=[_,_,_,.sn (iD F'),.im (.int ((j:Nat):Int))]/\Cms n es a j F'/\m'=n - j
   refine⟨_,by omega,i+1,F++out,?_,G,rfl⟩
   unfold iD
   rw [Þ]
   rfl
 ·rw [decide_eq_false (show ¬ ((i:Nat):Int)<(((F.map Æ).length:Nat):Int) by omega)]
  refine aB (A:=True) ⟨rfl,rY F,rfl,?_⟩
  show P (.bool ((F.map Æ).any fun e=>ô e (.int b)))
  rw [Dl.any_ints]
  have e:decide (b∈F)=RZ es a b:=by
   rw [ĵ,decide_eq_true_iff,xZ]
   exact⟨h.rt b,h.all (by omega)⟩
  rw [e]
  exact q
theorem iH:FnScope ["_law_pairs","_law_a","_law_b","_law_thing","_law_ties_here","_law_places","_law_numbers","_law_k"] ["_law_pairs","_law_a","_law_b","_law_thing","_law_ties_here"] (aA (top 38)):=zC
theorem mj:(["_law_one","_law_pairs","_law_a","_law_b","_law_thing","_law_ties_here","_law_places","_law_numbers","_law_k"]:List Str).Nodup:=by decide +kernel
theorem pQ (F:Fun K "_law_is_way" "_law_is_way" (top 38) f fd) (B:Š mg) (m_set:mg "set"=none):FnOk P w K mg base CX0 1 f fd ["_law_pairs","_law_a","_law_b","_law_thing","_law_ties_here"] (spD PX):=by
 refine F.ok iH ł (fun cdv A outer s H vs Q E hr h=>?_)
 have nd:=iH.nd
 refine⟨_,ĕ (Ê (Č (Wr.wpt (Ŋ (Ę (ď (ŭ kit_tuple B.isinstance (Ç 3) (Wr.wty rfl B.tuple boot_tuple)))) (Ō (ŕ hr.units (ľ B.len (À (Ç 3) Ã)) Ì)))) (ß (å Ĥ)) é)
  (Ê (Wr.xJ (Ç 3) (Wr.dB (n:=2) rfl (ġ (ç (i:=5) nd rfl zQ) (ġ (ç (i:=6) nd rfl zQ) Wr.cA))))
  (Ê (Č (Wr.wpt (Ŋ (Ę (ď (ŭ jO B.isinstance (Ç 5) (Wr.wty rfl B.list boot_list)))) (Ō (Ę (ď (ŭ jO B.isinstance (Ç 6) (Wr.wty rfl B.list boot_list))))))) (ß (å Ĥ)) é)
  (Ê (Č (ŕ hr.units (Ŗ ["_law_one"] rfl (Ş (Đ (Ç 5) (Ç 6))) (fun c=>(ç (i:=0) mj rfl zQ)) (fun c=>(Wr.iu (Wr.wpt (Ŋ (Ę (ď (ŭ zE B.isinstance (Ç 0) (Wr.wty rfl B.int boot_int)))) (Ō (ď (ŭ vf B.isinstance (Ç 0) (Wr.wty rfl B.bool boot_bool)))))))) (fun c=>Ì)) (Ċ Ã)) (ß (å Ĥ)) é)
  (Ê (Č (Wr.wpt (Ŋ (ŕ hr.units (ľ B.len (À (Ç 5) Ã)) (Đ (ľ B.len (À (Ç 6) Ã)) Ì)) (Ŋ (ŕ hr.units (á (Ç 5) Ì) (Ç 1)) (Ŋ (ŕ hr.units (á (Ç 5) (Wr.nP Ì)) (Ç 2)) (Ō (ŕ hr.units (Wr.gR rfl m_set B.len (À (Ç 5) Ã)) (ľ B.len (À (Ç 5) Ã)))))))) (ß (å Ĥ)) é)
  (Ê (Wr.dz ĝ rfl (Wr.bQ B.range (À (ľ B.len (À (Ç 6) Ã)) Ã)) (ç (i:=7) nd rfl zQ) (Ê (Č (Wr.wpt (Ŋ (Wr.nM (á (Ç 6) (Ç 7)) Ì) (Ō (Wr.wI (á (Ç 6) (Ç 7)) (ľ B.len (À (Ç 4) Ã)))))) (ß (å Ĥ)) é)
  (Ê (Č (Wr.gQ hr.units (á (Ç 4) (á (Ç 6) (Ç 7))) (Đ (Ċ (À (Ā (À (á (Ç 5) (Ç 7)) (À (á (Ç 5) (Đ (Ç 7) Ì)) Ã))) Ã)) (Wr.dR (Ċ (À (Ā (À (á (Ç 5) (Đ (Ç 7) Ì)) (À (á (Ç 5) (Ç 7)) Ã))) Ã)) (Wr.gU B.int boot_int (À (Wr.eV hr.units (Ç 0) (Ċ Ã)) Ã))))) (ß (å Ĥ)) é) (û [7] é))))
  (û [7] (ß (å Ĥ))))))))),bf h ?_⟩
 rintro ds P ⟨both,n,us,a,b,p,k,rfl,lu,h,q⟩
 have len:=h.len
 have few:=h.few
 obtain⟨Q0,hQ0⟩:=h.la
 have ims:bH (.tuple (us.map pD))=.im (.tuple (us.map pD)):=if_pos (Ŭ us)
 refine⟨[.sh (isL both),.im (.int a),.im (.int b),.sh (.tuple [iD p,iD k]),.im (.tuple (us.map pD)),.any,.any,.any],by cases both <;> exact congrArg (fun x=>[_,_,_,_,x,_,_,_]) ims,?_⟩
 refine aB (A:=True) (aB (A:=True) ⟨rfl,aB (A:=True) (aB (A:=True) ?_)⟩)
 refine⟨by rw [Â,Â]; omega,.inr ?_⟩
 refine Kf (p++k) Æ (fun _=>false) (fun _=>Æ 1) .imm (by rw [Þ]) (by rw [È]; omega) (fun x hx A B hA hB=>aB (A:=True) (aB (A:=True) (hB rfl))) ?_
 rw [show (p++k).filter (fun _=>false)=[] from List.filter_eq_nil_iff.mpr (fun _ _=>Ô)]
 refine⟨zK,rfl,rfl,aB (A:=True) ?_⟩
 have l1:(((p.map Æ).length:Nat):Int)=(((k.map Æ).length:Nat):Int)+1:=by rw [Â,Â]; omega
 have at0:atI (p.map Æ) 0=some (.int a):=bA (j:=0) (by rw [Ø,h.hd]; rfl)
 have atl:atI (p.map Æ) (-1)=some (.int b):=Ab (by rw [hQ0,List.getLast?_append]; rfl)
 show if (!decide ((((p.map Æ).length:Nat):Int)=(((k.map Æ).length:Nat):Int)+1))=true then _ else _
 rw [decide_eq_true l1]
 refine aB (A:=True) ⟨_,at0,?_⟩
 show if (!decide (a=a))=true then _ else _
 rw [decide_eq_true rfl]
 refine aB (A:=True) ⟨_,atl,?_⟩
 show if (!decide (b=b))=true then _ else _
 rw [decide_eq_true rfl]
 refine aB (A:=True) ⟨_,p,rfl,by omega,?_⟩
 show if (!decide ((((once p).length:Nat):Int)=(((p.map Æ).length:Nat):Int)))=true then _ else _
 rw [decide_eq_true (by rw [(nW p).mpr h.nd,Â])]
 refine aB (A:=True) (aB (A:=True) ?_)
 refine⟨⟨by rw [Â]; omega,by rw [Â]; omega⟩,rfl,fun i ρ=>ρ=[.sh (isL both),.im (.int a),.im (.int b),.sh (.tuple [iD p,iD k]),.im (.tuple (us.map pD)),.sh (iD p),.sh (iD k),.any],rfl,?_,?_⟩
 rotate_left
 ·rintro ρ rfl
  exact⟨rfl,q⟩
 rintro i d ρ hd rfl
 obtain⟨hi,rfl⟩:=ū hd
 rw [Â,ģ] at hi
 obtain⟨x,y,j,h1,h2,e3,e4⟩:=h.hop i _ (Í hi)
 have hj:=(É.mp e4).1
 have ak:atI (k.map Æ) (0+((i:Nat):Int))=some (.int ((j:Nat):Int)):=by
  rw [Int.zero_add]
  exact bA (by rw [Ø,Í hi,e3]; rfl)
 have ax:atI (p.map Æ) (0+((i:Nat):Int))=some (.int x):=by
  rw [Int.zero_add]
  exact bA (by rw [Ø,h1]; rfl)
 have ay:atI (p.map Æ) (0+((i:Nat):Int)+1)=some (.int y):=by
  rw [Int.zero_add]
  exact bA (j:=i+1) (by rw [Ø,h2]; rfl)
 have au:atI (us.map pD) ((j:Nat):Int)=some (pD (if both=true then mmT (x,y) else (x,y))):=bA (by rw [Ø,e4]; rfl)
 refine⟨_,ak,aB (A:=True) ⟨_,ak,?_⟩⟩
 show if decide ((((us.map pD).length:Nat):Int)<=((j:Nat):Int))=true then _ else _
 rw [decide_eq_false (by rw [Â]; omega)]
 refine aB (A:=True) (aB (A:=True) ?_)
 refine⟨_,ak,_,au,_,ax,_,ay,zK,zK,_,ay,_,ax,zK,zK,?_⟩
 cases both with
 | true =>
  have m:([Ĝ [.int x,.int y],.tuple [.int y,.int x]].any fun e=>ô e (pD (mmT (x,y))))=true:=by
   show (ô (pD (x,y)) (pD (mmT (x,y))) || (ô (pD (y,x)) (pD (mmT (x,y))) || false))=true
   rw [jW,jW,Bool.or_false,Bool.or_eq_true,decide_eq_true_iff,decide_eq_true_iff]
   unfold mmT
   dsimp only
   split <;> split <;> simp [Prod.ext_iff] <;> omega
  refine⟨zK,rfl,rfl,by decide,by decide,(show 1 * 1<=1000 by decide),.inr ⟨zK,.inr ⟨rfl,rfl,?_⟩⟩⟩
  show if (!([Ĝ [.int x,.int y],.tuple [.int y,.int x]].any fun e=>ô e (pD (mmT (x,y)))))=true then _ else _
  rw [m]
  exact aB (A:=True) rfl
 | false =>
  have m:([Ĝ [.int x,.int y]].any fun e=>ô e (pD (x,y)))=true:=by
   show (ô (pD (x,y)) (pD (x,y)) || false)=true
   rw [jW,Bool.or_false]
   exact decide_eq_true rfl
  refine⟨zK,rfl,rfl,by decide,by decide,(show 1 * 0<=1000 by decide),.inr ⟨zK,.inr ⟨rfl,rfl,?_⟩⟩⟩
  show if (!([Ĝ [.int x,.int y]].any fun e=>ô e (pD (x,y))))=true then _ else _
  rw [m]
  exact aB (A:=True) rfl
end
def Sh (k m:Nat) (d:D):Prop:=d.showable=true/\d.leavesShort 40=true/\d.depth<=k/\d.bulk<=m
instance (k m:Nat) (d:D):Decidable (Sh k m d):=by unfold Sh; exact inferInstance
theorem Sh.int {k m:Nat}{i:Int} (h0:-1000<=i) (h1:i<=1000):Sh k m (.int i):=by
 refine⟨?_,?_,ÿ _,ÿ _⟩
 ·simp only [PyData.showable,decide_eq_true_eq]
  have:=Nat.log2_le_self i.natAbs
  omega
 ·simp only [PyData.leavesShort,decide_eq_true_eq]
  have:=PyData.shown_int_le (i:=i) (by omega)
  omega
theorem wg {k m:Nat}:∀ {ds:List D},(∀ d∈ds,Sh k m d)->PyData.showableAll ds=true/\PyData.leavesShortAll 40 ds=true/\PyData.depthAll ds<=k/\PyData.bulkAll ds<=ds.length * (m+1)
 | [],_=>⟨rfl,rfl,ÿ _,ÿ _⟩
 | d::ds,h=>by
  obtain⟨h1,h2,h3,h4⟩:=wg (ds:=ds) fun e he=>h e (Ó _ he)
  obtain⟨g1,g2,g3,g4⟩:=h d Ö
  refine⟨?_,?_,?_,?_⟩
  ·show (d.showable&&PyData.showableAll ds)=true
   rw [g1,h1]; rfl
  ·show (d.leavesShort 40&&PyData.leavesShortAll 40 ds)=true
   rw [g2,h2]; rfl
  ·show max d.depth (PyData.depthAll ds)<=k
   omega
  ·show d.bulk+1+PyData.bulkAll ds<=(ds.length+1) * (m+1)
   rw [Nat.add_mul]
   omega
theorem Sh.list {k m c:Nat}{ds:List D} (h:∀ d∈ds,Sh k m d) (hc:ds.length * (m+1)<=c):Sh (k+1) c (.list ds):=by
 obtain⟨h1,h2,h3,h4⟩:=wg h
 exact⟨h1,h2,Nat.succ_le_succ h3,Ĕ h4 hc⟩
theorem Sh.tuple {k m c:Nat}{ds:List D} (h:∀ d∈ds,Sh k m d) (hc:ds.length * (m+1)<=c):Sh (k+1) c (.tuple ds):=by
 obtain⟨h1,h2,h3,h4⟩:=wg h
 exact⟨h1,h2,Nat.succ_le_succ h3,Ĕ h4 hc⟩
theorem Sh.ok {k m:Nat}{d:D} (h:Sh k m d) (hk:k<=50) (hm:m<=100000):Fq d:=by
 obtain⟨h1,h2,h3,h4⟩:=h
 refine⟨h1,by omega,?_⟩
 have b:=PyData.shown_le_bulk 40 (by decide) d h2
 have h24:=ö
 have:(40+2) * d.bulk<=42 * 100000:=Nat.mul_le_mul (by decide) (by omega)
 omega
def xY (l:List Int):Prop:=l.length<=100/\∀ x∈l,-1000<=x/\x<=1000
theorem yH {l:List Int} (h:xY l):Sh 1 200 (iD l):=Sh.list (k:=0) (m:=0) (fun d hd=>by
 obtain⟨x,hx,rfl⟩:=Ğ.mp hd
 exact Sh.int (h.2 x hx).1 (h.2 x hx).2) (by rw [Â]; have:=h.1; omega)
theorem KR {p k:List Int} (hp:xY p) (hk:xY k):Sh 2 500 (.tuple [iD p,iD k]):=Sh.tuple (k:=1) (m:=200) (fun d hd=>by
 simp only [Ù,ê,or_false] at hd
 rcases hd with rfl | rfl
 ·exact yH hp
 ·exact yH hk) (by show 2 * (200+1)<=500; decide)
theorem WF.self {both:Bool}{n:Int}{us:List Tie}{a b:Int}{P K:List Int} (h:WF both n us a b P K) (e:a=b):P=[a]/\K=[]:=by
 subst e
 obtain⟨Q,rfl⟩:=h.la
 have len:=h.len
 have hd:=h.hd
 have nd:=h.nd
 cases Q with
 | nil=>exact⟨rfl,ņ (by simpa using len)⟩
 | cons x Q =>
  have hd:some x=some a:=hd
  cases hd
  exact absurd (ã Q (Õ.mpr rfl)) (ř.mp nd).1
theorem Ka {E:DEnds}{ρ:List Sl} (h:E.nx ρ):Ho E ρ:=h
def fRW (ds:List D) (P:D->Prop):Prop:=∃ (n:Int) (us:List Tie) (a b:Int) (led:Bool),ds=[aF n us,.int a,.int b,.bool led]/\1<=n/\n<=16/\us.length<=40/\OkN n us/\(led=false->Ny us)/\0<=a/\a<n/\0<=b/\b<n/\P (.bool true)
abbrev rRW (n:Int) (us:List Tie) (a b:Int) (led:Bool) (s5:Sl):List Sl:=[.im (aF n us),.im (.int a),.im (.int b),.im (.bool led),.sn (.list ((fJ (!led) us).map pD)),s5,.any,.any,.any]
abbrev R0 (K:Ý):List Sl:=[.any,.pen (CP K),.any,.any,.any,.any,.any,.any,.any]
abbrev R1 (K:Ý) (s2:Sl) (n:Int) (us vs ws:List Tie) (x:Int) (c:Str):List Sl:=[.any,.pen (CP K),s2,.im (.int n),.sn (.list (us.map pD)),.sn (.list [aF n vs,aF n ws]),.im (.str c),.im (.int x),.any]
theorem JG {P:DEnds}{ρ:List Sl}{rg:Option Nat}{i:Nat}{k:Kd}{d:D}{s:Sl} (e:Dl.stK rg ρ i (norm k d) d=some s) (h:P.nx (ρ.set i s)):(match Dl.stK rg ρ i (norm k d) d with
 | some s=>P.nx (ρ.set i s)
 | none=>False):=by
 rw [e]
 exact h
theorem Mu {n:Int}{t:Tie} (h:OkT n t):OkT n (mmT t)/\(mmT t).1<(mmT t).2:=by
 obtain⟨a,b⟩:=t
 obtain⟨⟨h1,h2⟩,⟨h3,h4⟩,h5⟩:=h
 dsimp only at h1 h2 h3 h4 h5
 unfold mmT OkT
 dsimp only
 split <;> split <;> omega
theorem Dj {n:Int}{us:List Tie} (n1:1<=n) (n16:n<=16) (lu:us.length<=40) (ok:OkN n us):Sh 3 400 (aF n us):=Sh.tuple (k:=2) (m:=120) (fun d hd=>by
 have hd:d∈[Æ n,.tuple (us.map pD)]:=hd
 simp only [Ù,ê,or_false] at hd
 rcases hd with rfl | rfl
 ·exact Sh.int (by omega) (by omega)
 ·refine Sh.tuple (k:=1) (m:=2) (fun e he=>?_) (by rw [Â]; omega)
  obtain⟨t,ht,rfl⟩:=Ğ.mp he
  have o:=ok t ht
  obtain⟨⟨o1,o2⟩,⟨o3,o4⟩,_⟩:=o
  refine Sh.tuple (k:=0) (m:=0) (fun x hx=>?_) (show 2 * (0+1)<=2 by decide)
  simp only [Ù,ê,or_false] at hx
  rcases hx with rfl | rfl
  ·exact Sh.int (by omega) (by omega)
  ·exact Sh.int (by omega) (by omega)) (show 2 * (120+1)<=400 by decide)
section
variable {P:Program}{w:World}{K:Ý}{mg:Str->Option Value}{base:Heap}{f:Addr}{fd:FuncData}
theorem jo:FnScope ["_law_web","_law_a","_law_b","_law_led","_law_pairs","_law_kept","_law_turn","_law_found","_law_told"] ["_law_web","_law_a","_law_b","_law_led"] (aA (top 39)):=zC
theorem fY:(["_law_start","_law_end","_law_web","_law_a","_law_b","_law_led","_law_pairs","_law_kept","_law_turn","_law_found","_law_told"]:List Str).Nodup:=by decide +kernel
theorem rT (F:Fun K "_law_right" "_law_right" (top 39) f fd) (B:Š mg) (m_repr:mg "repr"=none) (SY:Dl.pJ base) (C_one_way:ć P w K mg base 5 "one_way" ["one","a","b"] (spD Ko)) (C_way:ć P w K mg base 5 "way" ["web","a","b"] (spD Kh)) (C__law_comes:ć P w K mg base 1 "_law_comes" ["_law_pairs","_law_a","_law_b"] (spD GZ)) (C__law_is_way:ć P w K mg base 1 "_law_is_way" ["_law_pairs","_law_a","_law_b","_law_thing","_law_ties_here"] (spD PX)) (C_leads:ć P w K mg base 6 "leads" ["one","a","b","thing"] (spD (JB false))) (C_is_way:ć P w K mg base 6 "is_way" ["web","a","b","thing"] (spD (JB true))):FnOk P w K mg base CX0 7 f fd ["_law_web","_law_a","_law_b","_law_led"] (spD fRW):=by
 refine F.ok jo ł (fun cdv A outer s H vs Q E hr h=>?_)
 have nd:=jo.nd
 refine⟨_,ĕ (Ê (ó none (i:=4) nd rfl zQ (Wr.rK B.list (À (á (Ç 0) Ì) Ã)))
  (Ê (Č (Ę (ď (Ç 3))) (ß (ó none (i:=4) nd rfl zQ (Đ (Ç 4) (Ŗ ["_law_start","_law_end"] rfl (Ş (á (Ç 0) Ì)) (fun c=>(Wr.dB (n:=2) rfl (ġ (ç (i:=0) fY rfl zQ) (ġ (ç (i:=1) fY rfl zQ) Wr.cA)))) (fun c=>Ŀ) (fun c=>(Ā (À (Ç 1) (À (Ç 0) Ã)))))))) é)
  (Ê (ó none (i:=5) nd rfl zQ Wr.iW)
  (Ê (Wr.dz ĝ rfl (Wr.bQ B.range (À Ì Ã)) (ç (i:=6) nd rfl zQ) (Ê (ó (some 0) (i:=7) nd rfl zQ (Wr.jB (ď (Ç 3)) (İ C_one_way hr (À (Ç 0) (À (Ç 1) (À (Ç 2) Ã)))) (İ C_way hr (À (Ç 0) (À (Ç 1) (À (Ç 2) Ã))))))
  (Ê (Č (Ę (ď (İ C__law_comes hr (À (Ç 4) (À (Ç 1) (À (Ç 2) Ã)))))) (ß (å (Wr.wN (Ç 7) Wr.iW))) é)
  (Ê (Č (Wr.wpt (Wr.eN (Ţ hr.units (Ç 6) Ì) (Wr.cZ (ŕ hr.units (Wr.dU SY hr.gd hr.units m_repr (À (Ç 7) Ã)) (Ç 5))))) (ß (å Ĥ)) é)
  (Ê (ó none (i:=5) nd rfl zQ (Wr.dU SY hr.gd hr.units m_repr (À (Ç 7) Ã)))
  (Ê (Č (Ę (ď (İ C__law_is_way hr (À (á (Ċ (À (Ċ Ã) (À (Ċ (À Ì Ã)) Ã))) (Wr.gU B.int boot_int (À (Ç 3) Ã))) (À (Ç 1) (À (Ç 2) (À (Ç 7) (À (á (Ç 0) Ì) Ã)))))))) (ß (å Ĥ)) é)
  (Ê (ó none (i:=8) nd rfl zQ (Wr.jB (ď (Ç 3)) (İ C_leads hr (À (Ç 0) (À (Ç 1) (À (Ç 2) (À (Ç 7) Ã))))) (İ C_is_way hr (À (Ç 0) (À (Ç 1) (À (Ç 2) (À (Ç 7) Ã)))))))
  (Ê (Č (Wr.wpt (Ŋ (Wr.iT (Ç 8) Ĥ) (Ō (Wr.wpt (Wr.eN (Ţ hr.units (Ç 1) (Ç 2)) (Wr.cZ (ŕ hr.units (Ç 7) (Ā (À (Ċ (À (Ç 1) Ã)) (À (Ċ Ã) Ã)))))))))) (ß (å Ĥ)) é)
  (Wr.sZ 0 1 (Ń 7) (À (Ç 1) Ã) (Ń 7) (û [6,7,8] é))))))))))
  (û [5,6,7,8] (ß (å Ĥ))))))),bf h ?_⟩
 rintro ds P ⟨n,us,a,b,led,rfl,n1,n16,lu,ok,up,a0,a1,b0,b1,q⟩
 refine⟨[.im (aF n us),.im (.int a),.im (.int b),.im (.bool led),.any,.any,.any,.any,.any],by show [bH (aF n us),_,_,_,_,_,_,_,_]=_; rw [bV]; rfl,?_⟩
 have po:=uN (both:=!led) (n:=n) (by omega) (by omega) ok
 have lm:(us.map pD).length=us.length:=Â ..
 have prl:(fJ (!led) us).length<=100:=by
  unfold fJ
  split
  ·rw [È,Â]; omega
  ·omega
 have prr:∀ t∈fJ (!led) us,0<=t.2/\t.2<((n.toNat:Nat):Int):=fun t ht=>by
  have o:∀ u∈us,(0<=u.1/\u.1<n)/\(0<=u.2/\u.2<n):=fun u hu=>⟨(ok u hu).1,(ok u hu).2.1⟩
  unfold fJ at ht
  split at ht
  ·rcases ä.mp ht with z | z
   ·have:=o t z; omega
   ·obtain⟨u,hu,rfl⟩:=Ğ.mp z
    have:=o u hu
    dsimp only
    omega
  ·have:=o t ht; omega
 by_cases r:Rt (fJ (!led) us) a b
 ·obtain⟨Pl,Kl,hp,W,_,_⟩:=Bb (g:=b) po a0 (by omega) (Du.mpr r)
  have F:=WF.of (by omega) n16 (by omega) ok (fun z=>up (by simpa using z)) ⟨a0,a1⟩ W
  have rz:RZ (fJ (!led) us) a b=true:=xZ.mpr r
  have wy:=F.way
  have kr:∀ k∈Kl,0<=k/\k<((us.length:Nat):Int):=fun k hk=>by
   obtain⟨i,hi⟩:=ē hk
   obtain⟨p,y,j,_,_,rfl,e⟩:=F.hop i k hi
   have:=(É.mp e).1
   omega
  have fp:NK (.tuple [iD Pl,iD Kl]):=fun es e d hd xs z=>by
   have len:=F.len
   have few:=F.few
   cases e
   simp only [Ù,ê,or_false] at hd
   rcases hd with rfl | rfl <;> cases z <;> rw [Â] <;> omega
  have len:=F.len
  have few:=F.few
  have okr:Fq (.tuple [iD Pl,iD Kl]):=Sh.ok (KR ⟨by omega,fun x hx=>by have:=F.rg x hx; omega⟩ ⟨by omega,fun x hx=>by have:=kr x hx; omega⟩) (by decide) (by decide)
  cases led with
  | true =>
   refine⟨.tuple (us.map pD),rfl,.inl ⟨Ŭ us,aB (A:=True) ?_⟩⟩
   show mD _ _ _ (rRW n us a b true .any)
   refine⟨⟨by decide,by decide⟩,rfl,fun i ρ=>∃ d5,ρ=rRW n us a b true (.im d5)/\(i=0\/d5=.str (Ĝ [iD Pl,iD Kl]).shown),⟨_,rfl,.inl rfl⟩,?_,?_⟩
   rotate_left
   ·rintro ρ ⟨s5,rfl,_⟩
    exact⟨rfl,q⟩
   rintro i d ρ hd ⟨d5,rfl,hs⟩
   obtain⟨hi,rfl⟩:=ū hd
   refine aH (B:=True) ⟨n,us,a,b,rfl,by omega,by omega,by omega,ok,a0,a1,b0,b1,?_⟩
   rw [show iI n.toNat (aX us) a b=some (Pl,Kl) from hp]
   refine⟨n.toNat,fJ (!true) us,a,b,rfl,by omega,prl,prr,a0,by omega,?_⟩
   rw [rz]
   refine aB (A:=True) ?_
   refine Ka ?_
   show mD _ _ _ [.im (aF n us),.im (.int a),.im (.int b),.im (.bool true),.sn (.list ((fJ (!true) us).map pD)),.im d5,.im (.int (0+((i:Nat):Int))),.dw 0 (.tuple [iD Pl,iD Kl]),.any]
   rcases (show i=0\/i=1 by omega) with rfl | rfl
   focus
    refine aB (A:=True) (aB (A:=True) ?_)
   rotate_left
   focus
    obtain rfl:=hs.resolve_left (by decide)
    refine aH (B:=True) ⟨_,_,rfl,okr,?_⟩
    show if (!decide ((Ĝ [iD Pl,iD Kl]).shown=(Ĝ [iD Pl,iD Kl]).shown))=true then _ else _
    rw [decide_eq_true rfl]
    refine aB (A:=True) (aB (A:=True) ?_)
   all_goals
    refine⟨_,_,rfl,okr,?_⟩
    refine⟨zK,zK,zK,_,rfl,.tuple (us.map pD),rfl,false,n,us,a,b,Pl,Kl,rfl,by omega,F,aB (A:=True) ?_⟩
    refine aH (B:=True) ⟨n,us,a,b,_,rfl,a0,a1,b0,b1,fp,?_⟩
    rw [show HN false n us a b (.tuple [iD Pl,iD Kl])=true from wy]
    refine aB (A:=True) ?_
    show if decide (a=b)=true then _ else _
    by_cases c:a=b
    rw [decide_eq_true c]
    focus
     obtain⟨rfl,rfl⟩:=F.self c
     refine aH (B:=True) ⟨zK,zK,zK,rfl,rfl,?_⟩
     show if (!PyData.eqv (.tuple [.list [.int a],.list []]) (.tuple [.list [.int a],.list []]))=true then _ else _
     rw [show ô (.tuple [.list [.int a],.list []]) (.tuple [.list [.int a],.list []])=true from by show ((a == a&&true)&&(true&&true))=true; simp]
     refine aB (A:=True) (aB (A:=True) ?_)
    rotate_left
    rw [decide_eq_false c]
    refine aB (A:=True) (aB (A:=True) (aB (A:=True) ?_))
    all_goals
     refine⟨_,_,rfl,rfl,by simp <;> omega,?_⟩
     exact⟨_,rfl,.inr rfl⟩
  | false =>
   refine⟨.tuple (us.map pD),rfl,.inl ⟨Ŭ us,aH (B:=True) ⟨.tuple (us.map pD),rfl,?_⟩⟩⟩
   refine sE us pD (fun t=>pD (t.2,t.1)) .imm rfl (by omega) (fun t ht A B h=>aH (B:=True) ⟨rfl,zK,rfl,h⟩) ?_
   refine⟨by rw [Â,Â]; omega,.inr ?_⟩
   have ep:us.map pD++us.map (fun t=>pD (t.2,t.1))=(fJ (!false) us).map pD:=by
    show _=(us++us.map fun t=>(t.2,t.1)).map pD
    rw [Þ,Ē]
    rfl
   rw [ep]
   show mD _ _ _ (rRW n us a b false .any)
   refine⟨⟨by decide,by decide⟩,rfl,fun i ρ=>∃ d5,ρ=rRW n us a b false (.im d5)/\(i=0\/d5=.str (Ĝ [iD Pl,iD Kl]).shown),⟨_,rfl,.inl rfl⟩,?_,?_⟩
   rotate_left
   ·rintro ρ ⟨s5,rfl,_⟩
    exact⟨rfl,q⟩
   rintro i d ρ hd ⟨d5,rfl,hs⟩
   obtain⟨hi,rfl⟩:=ū hd
   refine aB (A:=True) ⟨n,us,a,b,rfl,by omega,by omega,by omega,ok,a0,a1,b0,b1,?_⟩
   rw [show iI n.toNat (aN us) a b=some (Pl,Kl) from hp]
   refine⟨n.toNat,fJ (!false) us,a,b,rfl,by omega,prl,prr,a0,by omega,?_⟩
   rw [rz]
   refine aB (A:=True) ?_
   refine Ka ?_
   show mD _ _ _ [.im (aF n us),.im (.int a),.im (.int b),.im (.bool false),.sn (.list ((fJ (!false) us).map pD)),.im d5,.im (.int (0+((i:Nat):Int))),.dw 0 (.tuple [iD Pl,iD Kl]),.any]
   rcases (show i=0\/i=1 by omega) with rfl | rfl
   focus
    refine aB (A:=True) (aB (A:=True) ?_)
   rotate_left
   focus
    obtain rfl:=hs.resolve_left (by decide)
    refine aH (B:=True) ⟨_,_,rfl,okr,?_⟩
    show if (!decide ((Ĝ [iD Pl,iD Kl]).shown=(Ĝ [iD Pl,iD Kl]).shown))=true then _ else _
    rw [decide_eq_true rfl]
    refine aB (A:=True) (aB (A:=True) ?_)
   all_goals
    refine⟨_,_,rfl,okr,?_⟩
    refine⟨zK,zK,zK,_,rfl,.tuple (us.map pD),rfl,true,n,us,a,b,Pl,Kl,rfl,by omega,F,aB (A:=True) ?_⟩
    refine aB (A:=True) ⟨n,us,a,b,_,rfl,a0,a1,b0,b1,fp,?_⟩
    rw [show HN true n us a b (.tuple [iD Pl,iD Kl])=true from wy]
    refine aB (A:=True) ?_
    show if decide (a=b)=true then _ else _
    by_cases c:a=b
    rw [decide_eq_true c]
    focus
     obtain⟨rfl,rfl⟩:=F.self c
     refine aH (B:=True) ⟨zK,zK,zK,rfl,rfl,?_⟩
     show if (!PyData.eqv (.tuple [.list [.int a],.list []]) (.tuple [.list [.int a],.list []]))=true then _ else _
     rw [show ô (.tuple [.list [.int a],.list []]) (.tuple [.list [.int a],.list []])=true from by show ((a == a&&true)&&(true&&true))=true; simp]
     refine aB (A:=True) (aB (A:=True) ?_)
    rotate_left
    rw [decide_eq_false c]
    refine aB (A:=True) (aB (A:=True) (aB (A:=True) ?_))
    all_goals
     refine⟨_,_,rfl,rfl,by simp <;> omega,?_⟩
     exact⟨_,rfl,.inr rfl⟩
 ·have hp:=Bc (g:=b) po a0 (by omega) (fun z=>r (Du.mp z))
  have rz:RZ (fJ (!led) us) a b=false:=Bool.eq_false_iff.mpr fun z=>r (xZ.mp z)
  cases led with
  | true =>
   refine⟨.tuple (us.map pD),rfl,.inl ⟨Ŭ us,aB (A:=True) ?_⟩⟩
   show mD _ _ _ (rRW n us a b true .any)
   refine⟨⟨by decide,by decide⟩,rfl,fun i ρ=>i=0/\ρ=rRW n us a b true (.im .none),⟨rfl,rfl⟩,?_,?_⟩
   ·rintro i d ρ hd ⟨rfl,rfl⟩
    obtain⟨hi,rfl⟩:=ū hd
    refine aH (B:=True) ⟨n,us,a,b,rfl,by omega,by omega,by omega,ok,a0,a1,b0,b1,?_⟩
    rw [show iI n.toNat (aX us) a b=none from hp]
    refine⟨n.toNat,fJ (!true) us,a,b,rfl,by omega,prl,prr,a0,by omega,?_⟩
    rw [rz]
    exact aH (B:=True) ⟨rfl,q⟩
   ·rintro ρ ⟨e,_⟩
    cases e
  | false =>
   refine⟨.tuple (us.map pD),rfl,.inl ⟨Ŭ us,aH (B:=True) ⟨.tuple (us.map pD),rfl,?_⟩⟩⟩
   refine sE us pD (fun t=>pD (t.2,t.1)) .imm rfl (by omega) (fun t ht A B h=>aH (B:=True) ⟨rfl,zK,rfl,h⟩) ?_
   refine⟨by rw [Â,Â]; omega,.inr ?_⟩
   have ep:us.map pD++us.map (fun t=>pD (t.2,t.1))=(fJ (!false) us).map pD:=by
    show _=(us++us.map fun t=>(t.2,t.1)).map pD
    rw [Þ,Ē]
    rfl
   rw [ep]
   show mD _ _ _ (rRW n us a b false .any)
   refine⟨⟨by decide,by decide⟩,rfl,fun i ρ=>i=0/\ρ=rRW n us a b false (.im .none),⟨rfl,rfl⟩,?_,?_⟩
   ·rintro i d ρ hd ⟨rfl,rfl⟩
    obtain⟨hi,rfl⟩:=ū hd
    refine aB (A:=True) ⟨n,us,a,b,rfl,by omega,by omega,by omega,ok,a0,a1,b0,b1,?_⟩
    rw [show iI n.toNat (aN us) a b=none from hp]
    refine⟨n.toNat,fJ (!false) us,a,b,rfl,by omega,prl,prr,a0,by omega,?_⟩
    rw [rz]
    exact aH (B:=True) ⟨rfl,q⟩
   ·rintro ρ ⟨e,_⟩
    cases e
theorem Dr:FnScope ["_law_script","_law_pen_here","_law_turn","_law_n","_law_ties_here","_law_webs","_law_kept","_law_a","_law_b"] ["_law_script"] (aA (top 40)):=zC
theorem Mp (F:Fun K "law" "law" (top 40) f fd) (B:Š mg) (m_repr:mg "repr"=none) (SY:Dl.pJ base) (C__law_pen:ć P w K mg base 1 "_law_pen" ["_law_script"] vZ) (C__law_take:ć P w K mg base 1 "_law_take" ["_law_pen_here","_law_many"] (spP (CP K) lR)) (C__law_ties:ć P w K mg base 4 "_law_ties" ["_law_pen_here","_law_n"] (spP (CP K) Km)) (C_web_of:ć P w K mg base 6 "web_of" ["n","ties"] (spD Gx)) (C_one_way_of:ć P w K mg base 6 "one_way_of" ["n","ties"] (spD GJ)) (C__law_right:ć P w K mg base 7 "_law_right" ["_law_web","_law_a","_law_b","_law_led"] (spD fRW)):FnOk P w K mg base CX0 8 f fd ["_law_script"] (yw K):=by
 refine F.ok Dr (fun vs H Q E h=>by obtain⟨a,ns,rfl,_⟩:=h; rfl) (fun cdv A outer s H vs Q E hr h=>?_)
 obtain⟨sc,ns,rfl,hS,q⟩:=h
 have nd:=Dr.nd
 refine⟨_,(aY (fU (i:=1) nd rfl zQ (pcS C__law_pen hr (aG (pv 0) bB) (by decide) rfl (by decide) rfl rfl)) (ĕ (Ê (Wr.dz ĝ rfl (Wr.bQ B.range (À Ì Ã)) (ç (i:=2) nd rfl zQ) (Ê (ó none (i:=3) nd rfl zQ (á (Ċ (À (Đ Ì (ō C__law_take hr (Ń 1) (À Ì Ã))) (À (Đ Ì (ō C__law_take hr (Ń 1) (À Ì Ã))) Ã))) (ō C__law_take hr (Ń 1) (À Ì Ã))))
  (Ê (ó none (i:=4) nd rfl zQ (ō C__law_ties hr (Ń 1) (À (Ç 3) Ã)))
  (Ê (ó none (i:=5) nd rfl zQ (Ċ (À (İ C_web_of hr (À (Ç 3) (À (Ç 4) Ã))) (À (İ C_one_way_of hr (À (Ç 3) (À (Ç 4) Ã))) Ã))))
  (Ê (ó none (i:=6) nd rfl zQ (Wr.dU SY hr.gd hr.units m_repr (À (Ç 5) Ã)))
  (Ê (ó none (i:=7) nd rfl zQ (ō C__law_take hr (Ń 1) (À (Ç 3) Ã)))
  (Ê (Wr.dz ĝ rfl (Ş (Ċ (À (ō C__law_take hr (Ń 1) (À (Ç 3) Ã)) (À (ō C__law_take hr (Ń 1) (À (Ç 3) Ã)) (À (Ç 7) Ã))))) (ç (i:=8) nd rfl zQ) (Ê (Č (Wr.wpt (Ŋ (Ę (ď (İ C__law_right hr (À (á (Ç 5) Ì) (À (Ç 7) (À (Ç 8) (À Ĥ Ã))))))) (Ō (Ę (ď (İ C__law_right hr (À (á (Ç 5) Ì) (À (Ç 7) (À (Ç 8) (À Ĥ Ã)))))))))) (ß (å Ĥ)) é) (û [8] é)))
  (û [8] (Ê (Č (ŕ hr.units (Wr.dU SY hr.gd hr.units m_repr (À (Ç 5) Ã)) (Ç 6)) (ß (å Ĥ)) é) (û [2,3,4,5,6,7,8] é))))))))))
  (û [2,3,4,5,6,7,8] (ß (å Ĥ)))))),Nk hS q (by decide) ?_⟩
 refine⟨⟨by decide,by decide⟩,rfl,fun i ρ=>ρ=R0 K,rfl,?_,?_⟩
 rotate_left
 ·rintro ρ rfl
  exact⟨rfl,rfl⟩
 rintro i d ρ hd rfl
 obtain⟨hi,rfl⟩:=ū hd
 refine⟨rfl,16,rfl,by decide,by decide,fun r r0 r1=>⟨rfl,6,rfl,by decide,by decide,fun r' s0 s1=>⟨zK,rfl,2,rfl,by decide,by decide,fun u u0 u1=>?_⟩⟩⟩
 obtain⟨n,hn,n1,n16⟩:∃ n,atI [Æ (1+r),.int (1+r')] u=some (.int n)/\1<=n/\n<=16:=by
  rcases (by omega:u=0\/u=1) with rfl | rfl
  ·exact⟨1+r,rfl,by omega,by omega⟩
  ·exact⟨1+r',rfl,by omega,by omega⟩
 refine⟨_,hn,?_⟩
 refine⟨rfl,n,rfl,n1,n16,fun us ok lu=>?_⟩
 refine⟨n,us,rfl,n1,n16,lu,ok,fun vs hv=>⟨n,us,rfl,n1,n16,lu,ok,fun ws hw=>⟨zK,?_⟩⟩⟩
 have key:∀ t∈vs,OkT n t/\t.1<t.2:=fun t ht=>by
  obtain⟨u,hu,rfl⟩:=Ğ.mp (hv.mem_iff.mp ht)
  exact Mu (ok u hu)
 have okv:OkN n vs:=fun t ht=>(key t ht).1
 have upv:Ny vs:=fun t ht=>(key t ht).2
 have okw:OkN n ws:=fun t ht=>ok t (hw.mem_iff.mp ht)
 have lv:vs.length<=40:=by rw [hv.length_eq,Â]; exact lu
 have lw:ws.length<=40:=by rw [hw.length_eq]; exact lu
 have okr:Fq (.list [aF n vs,aF n ws]):=Sh.ok (k:=4) (m:=1000) (Sh.list (k:=3) (m:=400) (fun d hd=>by
  simp only [Ù,ê,or_false] at hd
  rcases hd with rfl | rfl
  ·exact Dj n1 n16 lv okv
  ·exact Dj n1 n16 lw okw) (show 2 * (400+1)<=1000 by decide)) (by decide) (by decide)
 refine JG (s:=.sn (.list [aF n vs,aF n ws])) (by
  show Dl.stK none _ 5 (norm ((joins [(norm .new (aF n vs),aF n vs),(norm .new (aF n ws),aF n ws)]).join .new) (.list [aF n vs,aF n ws])) _=_
  rw [bG (k:=.new) (jQ n vs),bG (k:=.new) (jQ n ws)]
  rfl) ?_
 refine⟨_,_,rfl,okr,rfl,n,rfl,by omega,by omega,fun x x0 x1=>⟨rfl,n,rfl,by omega,by omega,fun y y0 y1=>⟨rfl,n,rfl,by omega,by omega,fun z z0 z1=>⟨zK,rfl,fun j ρ=>ρ=R1 K (.im (.int (0+((i:Nat):Int)))) n us vs ws x (Ġ [aF n vs,aF n ws]).shown,rfl,?_,?_⟩⟩⟩⟩
 ·rintro j d ρ hd rfl
  obtain⟨b,rfl,b0,b1⟩:∃ b,d=.int b/\0<=b/\b<n:=by
   have hm:=Ñ hd
   have hm:d∈[Æ y,.int z,.int x]:=hm
   simp only [Ù,ê,or_false] at hm
   rcases hm with rfl | rfl | rfl
   ·exact⟨y,rfl,y0,y1⟩
   ·exact⟨z,rfl,z0,z1⟩
   ·exact⟨x,rfl,x0,x1⟩
  exact⟨_,rfl,n,vs,x,b,false,rfl,n1,n16,lv,okv,fun _=>upv,x0,x1,b0,b1,aB (A:=True) ⟨_,rfl,n,ws,x,b,true,rfl,n1,n16,lw,okw,(fun z=>nomatch z),x0,x1,b0,b1,aB (A:=True) rfl⟩⟩
 ·rintro ρ rfl
  refine⟨_,_,rfl,okr,?_⟩
  show if (!decide ((Ġ [aF n vs,aF n ws]).shown=(Ġ [aF n vs,aF n ws]).shown))=true then _ else _
  rw [decide_eq_true rfl]
  exact aB (A:=True) rfl
end
theorem len1 {α:Type}:∀ us:List α,us.length=1->∃ a,us=[a]
 | [a],_=>⟨a,rfl⟩
theorem len2 {α:Type}:∀ us:List α,us.length=2->∃ a b,us=[a,b]
 | [a,b],_=>⟨a,b,rfl⟩
theorem QC {α:Type}:∀ us:List α,us.length=3->∃ a b c,us=[a,b,c]
 | [a,b,c],_=>⟨a,b,c,rfl⟩
theorem Ge {α:Type}:∀ us:List α,us.length=4->∃ a b c d,us=[a,b,c,d]
 | [a,b,c,d],_=>⟨a,b,c,d,rfl⟩
theorem QB {α:Type}:∀ us:List α,us.length=5->∃ a b c d e,us=[a,b,c,d,e]
 | [a,b,c,d,e],_=>⟨a,b,c,d,e,rfl⟩
theorem aD {K:Ý}{f:Addr}{oc:Value}{od:Option Addr}{fd:FuncData}{sl:Array (Option Value)} (l:K.lookup f=some ⟨oc,od,.func fd,sl⟩):W.keepIn K (.ref f)=true:=by
 unfold W.keepIn
 simp only [l]
theorem aK {P:Program}{w:World}{K:Ý}{mg:Str->Option Value}{base:Heap}{k:Nat}{x:Str}{st:Stmt}{f:Addr}{fd:FuncData}{ps:List Str}{sp:Sp} (F:Fun K x x st f fd) (b:Binds K fd ps []) (m:mg x=some (.ref f)) (h:FnOk P w K mg base CX0 k f fd ps sp) :
  ć P w K mg base k x ps sp:=⟨f,fd,h,b,F.kp,m⟩
abbrev zl (K:Ý) (f:Addr) (x:Str) (st:Stmt) (oc:Value) (od:Option Addr) (kV dc pm:Value) (an:Option Addr) (cd ct:Value) (sl:Array (Option Value)):Prop:=K.lookup f=some ⟨oc,od,.func (W.fnOf x x (iw st) (fC st) (aA st) .none kV dc pm an cd ct),sl⟩
abbrev za (K:Ý) (x:Str) (f:Addr):Prop:=W.nsIn K mainGlobals x=some (some (.ref f))
abbrev zc (K:Ý) (x:Str) (cd:Value):Prop:=W.codeIn K cd x=true
abbrev zn (K:Ý) (x:Str):Prop:=W.nsIn K mainGlobals x=some none
theorem all_mk {l:W.OpenLaw}{w:World}{K:Ý}{h:Heap}{mg:Str->Option Value}{fa f0 f1 f2 f3 f4 f5 f6 f7 f8 f9 f10 f11 f12 f13 f14 f15 f16 f17 f18 f19 f20 f21 f22 f23 f24 f25 f26 f27 f28 f29 f30 f31:Addr} (X:K.In h) (G:h.Ns mainGlobals mg) (hfa:mg "law"=some (.ref fa))
  {od0 an0 od1 an1 od2 an2 od3 an3 od4 an4 od5 an5 od6 an6 od7 an7 od8 an8 od9 an9 od10 an10 od11 an11 od12 an12 od13 an13 od14 an14 od15 an15 od16 an16 od17 an17 od18 an18 od19 an19 od20 an20 od21 an21 od22 an22 od23 an23 od24 an24 od25 an25 od26 an26 od27 an27 od28 an28 od29 an29 od30 an30 od31 an31:Option Addr}{sl0 sl1 sl2 sl3 sl4 sl5 sl6 sl7 sl8 sl9 sl10 sl11 sl12 sl13 sl14 sl15 sl16 sl17 sl18 sl19 sl20 sl21 sl22 sl23 sl24 sl25 sl26 sl27 sl28 sl29 sl30 sl31:Array (Option Value)}{oc0 kV0 dc0 pm0 cd0 ct0 oc1 kV1 dc1 pm1 cd1 ct1 oc2 kV2 dc2 pm2 cd2 ct2 oc3 kV3 dc3 pm3 cd3 ct3 oc4 kV4 dc4 pm4 cd4 ct4 oc5 kV5 dc5 pm5 cd5 ct5 oc6 kV6 dc6 pm6 cd6 ct6 oc7 kV7 dc7 pm7 cd7 ct7 oc8 kV8 dc8 pm8 cd8 ct8 oc9 kV9 dc9 pm9 cd9 ct9 oc10 kV10 dc10 pm10 cd10 ct10 oc11 kV11 dc11 pm11 cd11 ct11 oc12 kV12 dc12 pm12 cd12 ct12 oc13 kV13 dc13 pm13 cd13 ct13 oc14 kV14 dc14 pm14 cd14 ct14 oc15 kV15 dc15 pm15 cd15 ct15 oc16 kV16 dc16 pm16 cd16 ct16 oc17 kV17 dc17 pm17 cd17 ct17 oc18 kV18 dc18 pm18 cd18 ct18 oc19 kV19 dc19 pm19 cd19 ct19 oc20 kV20 dc20 pm20 cd20 ct20 oc21 kV21 dc21 pm21 cd21 ct21 oc22 kV22 dc22 pm22 cd22 ct22 oc23 kV23 dc23 pm23 cd23 ct23 oc24 kV24 dc24 pm24 cd24 ct24 oc25 kV25 dc25 pm25 cd25 ct25 oc26 kV26 dc26 pm26 cd26 ct26 oc27 kV27 dc27 pm27 cd27 ct27 oc28 kV28 dc28 pm28 cd28 ct28 oc29 kV29 dc29 pm29 cd29 ct29 oc30 kV30 dc30 pm30 cd30 ct30 oc31 kV31 dc31 pm31 cd31 ct31:Value}{tk_MOST_PLACES tk_MOST_TIES:Tok}
  (a0:za K "is_whole" f0) (l0:zl K f0 "is_whole" (top 7) oc0 od0 kV0 dc0 pm0 an0 cd0 ct0 sl0) (c0:zc K "is_whole" cd0)
  (a1:za K "is_below" f1) (l1:zl K f1 "is_below" (top 8) oc1 od1 kV1 dc1 pm1 an1 cd1 ct1 sl1) (c1:zc K "is_below" cd1)
  (a2:za K "is_place" f2) (l2:zl K f2 "is_place" (top 9) oc2 od2 kV2 dc2 pm2 an2 cd2 ct2 sl2) (c2:zc K "is_place" cd2)
  (a3:za K "is_tie_number" f3) (l3:zl K f3 "is_tie_number" (top 10) oc3 od3 kV3 dc3 pm3 an3 cd3 ct3 sl3) (c3:zc K "is_tie_number" cd3)
  (a4:za K "check_place" f4) (l4:zl K f4 "check_place" (top 11) oc4 od4 kV4 dc4 pm4 an4 cd4 ct4 sl4) (c4:zc K "check_place" cd4)
  (a5:za K "is_tie" f5) (l5:zl K f5 "is_tie" (top 12) oc5 od5 kV5 dc5 pm5 an5 cd5 ct5 sl5) (c5:zc K "is_tie" cd5)
  (a6:za K "makes_web" f6) (l6:zl K f6 "makes_web" (top 13) oc6 od6 kV6 dc6 pm6 an6 cd6 ct6 sl6) (c6:zc K "makes_web" cd6)
  (a7:za K "check_makes_web" f7) (l7:zl K f7 "check_makes_web" (top 14) oc7 od7 kV7 dc7 pm7 an7 cd7 ct7 sl7) (c7:zc K "check_makes_web" cd7)
  (a8:za K "web_of" f8) (l8:zl K f8 "web_of" (top 15) oc8 od8 kV8 dc8 pm8 an8 cd8 ct8 sl8) (c8:zc K "web_of" cd8)
  (a9:za K "one_way_of" f9) (l9:zl K f9 "one_way_of" (top 16) oc9 od9 kV9 dc9 pm9 an9 cd9 ct9 sl9) (c9:zc K "one_way_of" cd9)
  (a10:za K "steps_of_web" f10) (l10:zl K f10 "steps_of_web" (top 18) oc10 od10 kV10 dc10 pm10 an10 cd10 ct10 sl10) (c10:zc K "steps_of_web" cd10)
  (a11:za K "steps_of_one_way" f11) (l11:zl K f11 "steps_of_one_way" (top 19) oc11 od11 kV11 dc11 pm11 an11 cd11 ct11 sl11) (c11:zc K "steps_of_one_way" cd11)
  (a12:za K "search" f12) (l12:zl K f12 "search" (top 20) oc12 od12 kV12 dc12 pm12 an12 cd12 ct12 sl12) (c12:zc K "search" cd12)
  (a13:za K "trace" f13) (l13:zl K f13 "trace" (top 21) oc13 od13 kV13 dc13 pm13 an13 cd13 ct13 sl13) (c13:zc K "trace" cd13)
  (a14:za K "way" f14) (l14:zl K f14 "way" (top 22) oc14 od14 kV14 dc14 pm14 an14 cd14 ct14 sl14) (c14:zc K "way" cd14)
  (a15:za K "one_way" f15) (l15:zl K f15 "one_way" (top 23) oc15 od15 kV15 dc15 pm15 an15 cd15 ct15 sl15) (c15:zc K "one_way" cd15)
  (a16:za K "is_row_of_places" f16) (l16:zl K f16 "is_row_of_places" (top 24) oc16 od16 kV16 dc16 pm16 an16 cd16 ct16 sl16) (c16:zc K "is_row_of_places" cd16)
  (a17:za K "has_form_of_way" f17) (l17:zl K f17 "has_form_of_way" (top 25) oc17 od17 kV17 dc17 pm17 an17 cd17 ct17 sl17) (c17:zc K "has_form_of_way" cd17)
  (a18:za K "hops" f18) (l18:zl K f18 "hops" (top 26) oc18 od18 kV18 dc18 pm18 an18 cd18 ct18 sl18) (c18:zc K "hops" cd18)
  (a19:za K "is_way" f19) (l19:zl K f19 "is_way" (top 27) oc19 od19 kV19 dc19 pm19 an19 cd19 ct19 sl19) (c19:zc K "is_way" cd19)
  (a20:za K "leads" f20) (l20:zl K f20 "leads" (top 28) oc20 od20 kV20 dc20 pm20 an20 cd20 ct20 sl20) (c20:zc K "leads" cd20)
  (a21:za K "_law_pen" f21) (l21:zl K f21 "_law_pen" (top 30) oc21 od21 kV21 dc21 pm21 an21 cd21 ct21 sl21) (c21:zc K "_law_pen" cd21)
  (a22:za K "_law_take" f22) (l22:zl K f22 "_law_take" (top 31) oc22 od22 kV22 dc22 pm22 an22 cd22 ct22 sl22) (c22:zc K "_law_take" cd22)
  (a23:za K "_law_order" f23) (l23:zl K f23 "_law_order" (top 32) oc23 od23 kV23 dc23 pm23 an23 cd23 ct23 sl23) (c23:zc K "_law_order" cd23)
  (a24:za K "_law_any" f24) (l24:zl K f24 "_law_any" (top 33) oc24 od24 kV24 dc24 pm24 an24 cd24 ct24 sl24) (c24:zc K "_law_any" cd24)
  (a25:za K "_law_rings" f25) (l25:zl K f25 "_law_rings" (top 34) oc25 od25 kV25 dc25 pm25 an25 cd25 ct25 sl25) (c25:zc K "_law_rings" cd25)
  (a26:za K "_law_shape" f26) (l26:zl K f26 "_law_shape" (top 35) oc26 od26 kV26 dc26 pm26 an26 cd26 ct26 sl26) (c26:zc K "_law_shape" cd26)
  (a27:za K "_law_ties" f27) (l27:zl K f27 "_law_ties" (top 36) oc27 od27 kV27 dc27 pm27 an27 cd27 ct27 sl27) (c27:zc K "_law_ties" cd27)
  (a28:za K "_law_comes" f28) (l28:zl K f28 "_law_comes" (top 37) oc28 od28 kV28 dc28 pm28 an28 cd28 ct28 sl28) (c28:zc K "_law_comes" cd28)
  (a29:za K "_law_is_way" f29) (l29:zl K f29 "_law_is_way" (top 38) oc29 od29 kV29 dc29 pm29 an29 cd29 ct29 sl29) (c29:zc K "_law_is_way" cd29)
  (a30:za K "_law_right" f30) (l30:zl K f30 "_law_right" (top 39) oc30 od30 kV30 dc30 pm30 an30 cd30 ct30 sl30) (c30:zc K "_law_right" cd30)
  (a31:za K "law" f31) (l31:zl K f31 "law" (top 40) oc31 od31 kV31 dc31 pm31 an31 cd31 ct31 sl31) (c31:zc K "law" cd31)
  (g_MOST_PLACES:W.nsIn K mainGlobals "MOST_PLACES"=some (some (.int 16 tk_MOST_PLACES)))
  (g_MOST_TIES:W.nsIn K mainGlobals "MOST_TIES"=some (some (.int 40 tk_MOST_TIES)))
  (z0:zn K "isinstance")
  (z1:zn K "int")
  (z2:zn K "bool")
  (z3:zn K "tuple")
  (z4:zn K "list")
  (z5:zn K "len")
  (z6:zn K "all")
  (z7:zn K "min")
  (z8:zn K "max")
  (z9:zn K "sorted")
  (z10:zn K "range")
  (z11:zn K "abs")
  (z12:zn K "enumerate")
  (z13:zn K "reversed")
  (z14:zn K "set")
  (z15:zn K "zip")
  (z16:zn K "repr")
  :
  ∃ fd:FuncData,(∀ (s:Shared) (v:Value),BindsTo s fd ⟨[v],[]⟩ [("_law_script",v)])/\∀ base:Heap,K.In base->base.Ns mainGlobals mg->Dl.pJ base->FnOk l.prog w K mg base CX0 8 fa fd ["_law_script"] (yw K):=by
 have e:=hfa.symm.trans (ě X G a31)
 cases e
 have F0:=į (st:=top 7) l0 c0 (aD l0)
 have b0:=F0.binds (ps:=["thing"])
 have m0:=ě X G a0
 have F1:=į (st:=top 8) l1 c1 (aD l1)
 have b1:=F1.binds (ps:=["limit","thing"])
 have m1:=ě X G a1
 have F2:=į (st:=top 9) l2 c2 (aD l2)
 have b2:=F2.binds (ps:=["web","thing"])
 have m2:=ě X G a2
 have F3:=į (st:=top 10) l3 c3 (aD l3)
 have b3:=F3.binds (ps:=["web","thing"])
 have m3:=ě X G a3
 have F4:=į (st:=top 11) l4 c4 (aD l4)
 have b4:=F4.binds (ps:=["web","thing"])
 have m4:=ě X G a4
 have F5:=į (st:=top 12) l5 c5 (aD l5)
 have b5:=F5.binds (ps:=["n","thing"])
 have m5:=ě X G a5
 have F6:=į (st:=top 13) l6 c6 (aD l6)
 have b6:=F6.binds (ps:=["n","ties"])
 have m6:=ě X G a6
 have F7:=į (st:=top 14) l7 c7 (aD l7)
 have b7:=F7.binds (ps:=["n","ties"])
 have m7:=ě X G a7
 have F8:=į (st:=top 15) l8 c8 (aD l8)
 have b8:=F8.binds (ps:=["n","ties"])
 have m8:=ě X G a8
 have F9:=į (st:=top 16) l9 c9 (aD l9)
 have b9:=F9.binds (ps:=["n","ties"])
 have m9:=ě X G a9
 have F10:=į (st:=top 18) l10 c10 (aD l10)
 have b10:=F10.binds (ps:=["web"])
 have m10:=ě X G a10
 have F11:=į (st:=top 19) l11 c11 (aD l11)
 have b11:=F11.binds (ps:=["one"])
 have m11:=ě X G a11
 have F12:=į (st:=top 20) l12 c12 (aD l12)
 have b12:=F12.binds (ps:=["steps","start"])
 have m12:=ě X G a12
 have F13:=į (st:=top 21) l13 c13 (aD l13)
 have b13:=F13.binds (ps:=["came","goal"])
 have m13:=ě X G a13
 have F14:=į (st:=top 22) l14 c14 (aD l14)
 have b14:=F14.binds (ps:=["web","a","b"])
 have m14:=ě X G a14
 have F15:=į (st:=top 23) l15 c15 (aD l15)
 have b15:=F15.binds (ps:=["one","a","b"])
 have m15:=ě X G a15
 have F16:=į (st:=top 24) l16 c16 (aD l16)
 have b16:=F16.binds (ps:=["web","a","b","thing"]) fun _ _ _ _ _ _ us hl=>by obtain⟨_,_,_,_,rfl⟩:=Ge us hl; rfl
 have m16:=ě X G a16
 have F17:=į (st:=top 25) l17 c17 (aD l17)
 have b17:=F17.binds (ps:=["web","a","b","thing"]) fun _ _ _ _ _ _ us hl=>by obtain⟨_,_,_,_,rfl⟩:=Ge us hl; rfl
 have m17:=ě X G a17
 have F18:=į (st:=top 26) l18 c18 (aD l18)
 have b18:=F18.binds (ps:=["places"])
 have m18:=ě X G a18
 have F19:=į (st:=top 27) l19 c19 (aD l19)
 have b19:=F19.binds (ps:=["web","a","b","thing"]) fun _ _ _ _ _ _ us hl=>by obtain⟨_,_,_,_,rfl⟩:=Ge us hl; rfl
 have m19:=ě X G a19
 have F20:=į (st:=top 28) l20 c20 (aD l20)
 have b20:=F20.binds (ps:=["one","a","b","thing"]) fun _ _ _ _ _ _ us hl=>by obtain⟨_,_,_,_,rfl⟩:=Ge us hl; rfl
 have m20:=ě X G a20
 have F21:=į (st:=top 30) l21 c21 (aD l21)
 have b21:=F21.binds (ps:=["_law_script"])
 have m21:=ě X G a21
 have F22:=į (st:=top 31) l22 c22 (aD l22)
 have b22:=F22.binds (ps:=["_law_pen_here","_law_many"])
 have m22:=ě X G a22
 have F23:=į (st:=top 32) l23 c23 (aD l23)
 have b23:=F23.binds (ps:=["_law_pen_here","_law_n"])
 have m23:=ě X G a23
 have F24:=į (st:=top 33) l24 c24 (aD l24)
 have b24:=F24.binds (ps:=["_law_pen_here","_law_n","_law_many"])
 have m24:=ě X G a24
 have F25:=į (st:=top 34) l25 c25 (aD l25)
 have b25:=F25.binds (ps:=["_law_pen_here","_law_n"])
 have m25:=ě X G a25
 have F26:=į (st:=top 35) l26 c26 (aD l26)
 have b26:=F26.binds (ps:=["_law_pen_here","_law_n"])
 have m26:=ě X G a26
 have F27:=į (st:=top 36) l27 c27 (aD l27)
 have b27:=F27.binds (ps:=["_law_pen_here","_law_n"])
 have m27:=ě X G a27
 have F28:=į (st:=top 37) l28 c28 (aD l28)
 have b28:=F28.binds (ps:=["_law_pairs","_law_a","_law_b"])
 have m28:=ě X G a28
 have F29:=į (st:=top 38) l29 c29 (aD l29)
 have b29:=F29.binds (ps:=["_law_pairs","_law_a","_law_b","_law_thing","_law_ties_here"]) fun _ _ _ _ _ _ us hl=>by obtain⟨_,_,_,_,_,rfl⟩:=QB us hl; rfl
 have m29:=ě X G a29
 have F30:=į (st:=top 39) l30 c30 (aD l30)
 have b30:=F30.binds (ps:=["_law_web","_law_a","_law_b","_law_led"]) fun _ _ _ _ _ _ us hl=>by obtain⟨_,_,_,_,rfl⟩:=Ge us hl; rfl
 have m30:=ě X G a30
 have F31:=į (st:=top 40) l31 c31 (aD l31)
 have B:Š mg:=⟨ğ X G z0,ğ X G z1,ğ X G z2,ğ X G z3,ğ X G z4,ğ X G z5,ğ X G z6,ğ X G z7,ğ X G z8,ğ X G z9,ğ X G z10,ğ X G z11⟩
 have N12:=ğ X G z12
 have N13:=ğ X G z13
 have N14:=ğ X G z14
 have N15:=ğ X G z15
 have N16:=ğ X G z16
 refine⟨W.fnOf "law" "law" (iw (top 40)) (fC (top 40)) (aA (top 40)) .none kV31 dc31 pm31 an31 cd31 ct31,fun s v=>.of_eq rfl,fun base _ _ SY=>?_⟩
 have C0:=aK F0 b0 m0 (Fi (P:=l.prog) (w:=w) (base:=base) F0 B)
 have C1:=aK F1 b1 m1 (Fp (P:=l.prog) (w:=w) (base:=base) F1 C0)
 have C2:=aK F2 b2 m2 (uW (P:=l.prog) (w:=w) (base:=base) F2 B C1)
 have C3:=aK F3 b3 m3 (lg (P:=l.prog) (w:=w) (base:=base) F3 B C1)
 have C4:=aK F4 b4 m4 (nY (P:=l.prog) (w:=w) (base:=base) F4 B C2)
 have C5:=aK F5 b5 m5 (Bj (P:=l.prog) (w:=w) (base:=base) F5 B C1)
 have C6:=aK F6 b6 m6 (rO (P:=l.prog) (w:=w) (base:=base) F6 B (ě X G g_MOST_PLACES) (ě X G g_MOST_TIES) C0 C5)
 have C7:=aK F7 b7 m7 (jd (P:=l.prog) (w:=w) (base:=base) F7 B C6)
 have C8:=aK F8 b8 m8 (Bf (P:=l.prog) (w:=w) (base:=base) F8 B C7)
 have C9:=aK F9 b9 m9 (pP (P:=l.prog) (w:=w) (base:=base) F9 B C7)
 have C10:=aK F10 b10 m10 (lY (P:=l.prog) (w:=w) (base:=base) F10 B N12)
 have C11:=aK F11 b11 m11 (iB (P:=l.prog) (w:=w) (base:=base) F11 B N12)
 have C12:=aK F12 b12 m12 (Bg (P:=l.prog) (w:=w) (base:=base) F12 B)
 have C13:=aK F13 b13 m13 (Fj (P:=l.prog) (w:=w) (base:=base) F13 B N13)
 have C14:=aK F14 b14 m14 (Mj (P:=l.prog) (w:=w) (base:=base) F14 B C4 C13 C12 C10)
 have C15:=aK F15 b15 m15 (wO (P:=l.prog) (w:=w) (base:=base) F15 B C4 C13 C12 C11)
 have C16:=aK F16 b16 m16 (iC (P:=l.prog) (w:=w) (base:=base) F16 B N14 C2)
 have C17:=aK F17 b17 m17 (jc (P:=l.prog) (w:=w) (base:=base) F17 B C16 C3)
 have C18:=aK F18 b18 m18 (Jg (P:=l.prog) (w:=w) (base:=base) F18 B N15)
 have C19:=aK F19 b19 m19 (Bh (P:=l.prog) (w:=w) (base:=base) F19 B N15 C4 C17 C18)
 have C20:=aK F20 b20 m20 (Fo (P:=l.prog) (w:=w) (base:=base) F20 B N15 C4 C17 C18)
 have C21:=aK F21 b21 m21 (Ml (P:=l.prog) (w:=w) (base:=base) F21 )
 have C22:=aK F22 b22 m22 (Jf (P:=l.prog) (w:=w) (base:=base) F22 B)
 have C23:=aK F23 b23 m23 (Fl (P:=l.prog) (w:=w) (base:=base) F23 B C22)
 have C24:=aK F24 b24 m24 (wQ (P:=l.prog) (w:=w) (base:=base) F24 B C22)
 have C25:=aK F25 b25 m25 (rR (P:=l.prog) (w:=w) (base:=base) F25 B C22)
 have C26:=aK F26 b26 m26 (rQ (P:=l.prog) (w:=w) (base:=base) F26 B C22 C25 C24)
 have C27:=aK F27 b27 m27 (uV (P:=l.prog) (w:=w) (base:=base) F27 B C23 C26 C24 C22)
 have C28:=aK F28 b28 m28 (rW (P:=l.prog) (w:=w) (base:=base) F28 B N14)
 have C29:=aK F29 b29 m29 (pQ (P:=l.prog) (w:=w) (base:=base) F29 B N14)
 have C30:=aK F30 b30 m30 (rT (P:=l.prog) (w:=w) (base:=base) F30 B N16 SY C15 C14 C28 C29 C20 C19)
 exact Mp F31 B N16 SY C21 C22 C27 C8 C9 C30
theorem walk {l:W.OpenLaw}{q:Program}{loose:List Str}{XP:(Str->Option Value)->Heap->Prop}{YP:World->Heap->Prop}{d:DefRec}{K:Params->Ý} (hi:importsNone q=true) (hn:l.most=some 63) (hdf:d.params.defaults=[])
  (hY:∀ (w:World) (h:Heap),YP w h->(K w.params).In h)
  (F:∀ (w:World) (mg:Str->Option Value) (fa:Addr) (h:Heap),(K w.params).In h->h.Ns mainGlobals mg->mg d.name=some (.ref fa) ->
   ∃ fd:FuncData,(∀ (s:Shared) (u:Value),BindsTo s fd ⟨[u],[]⟩ [("_law_script",u)])/\∀ base:Heap,(K w.params).In base->base.Ns mainGlobals mg->Dl.pJ base->FnOk l.prog w (K w.params) mg base CX0 8 fa fd ["_law_script"] (yw (K w.params))) :
  W.WalkO q loose XP YP l.row.toRowW d [] (fun f vs=>PySem.call f vs) :=
 L2.CJ (n:=63) (k:=8) (x:="_law_script") (CX:=fun _=>CX0) (sp:=fun w=>yw (K w.params)) hi hn (by decide) hdf ⟨rfl,by decide,by decide,rfl⟩ hY F (fun _ _ a ns hl hO hS=>⟨a,ns,rfl,hS,fun _=>rfl⟩) fun _ _ _ _ _ z=>z
end Nf
namespace Nf
open PySem PySem.W PyProof.Rows
def qx:List Nat:=[1,2,3,5,6,7,8,9,10,11,12,13,14,15,16,18,19,20,21,22,23,24,25,26,27,28,30,31,32,33,34,35,36,37,38,39,40]
def u9 (p:Program) (w:World) (os:OsState):=(Aw p 3296 w os).map (fun s=>Dp p (view p qx) (fun s=>xlAt (view p qx) [] s&&recOk [] s) w s.abs)
def goodW (p:Program):=some (true,openGood (view p qx) [])
def frF (fr:Frag) (k:Nat):=some ((fr.map fun p=>some p.2).take k)
def frB (fr:Frag) (k:Nat):=some ((fr.map fun p=>some p.2).drop k)
def oV (p:Program) (w:World) (os:OsState) (as:List Addr) (k:Nat):=(Aw p 3296 w os).map (fun s=>(as.map s.abs.heap.get?).take k)
def vL (p:Program) (w:World) (os:OsState) (as:List Addr) (k:Nat):=(Aw p 3296 w os).map (fun s=>(as.map s.abs.heap.get?).drop k)
theorem wW:u9=u9:=rfl
theorem wZ:goodW=goodW:=rfl
theorem vp:oV=oV:=rfl
theorem xV:vL=vL:=rfl
end Nf
lay_quick Nf.u9 Nf.goodW Nf.oV Nf.vL
name_quick lookQ for Nf.u9 by Nf.wW
name_quick goodQ for Nf.goodW by Nf.wZ
name_quick frontQ for Nf.oV by Nf.vp
name_quick backQ for Nf.vL by Nf.xV
set_option maxHeartbeats 0 in
theorem Nf.Jm (w:PySem.World) (os:PySem.OsState):Nf.u9 ø w os=Nf.goodW ø:=by
 rw [PySem.W.Fast.lookQ_eq,PySem.W.Fast.goodQ_eq]
 kernel_rfl
theorem Nf.well:PySem.Challenge.rw_nofall_k04_ways_told.wellSaid=true:=by kernel_rfl
open PySem PySem.W PyProof.Rows
local macro_rules
 | `(tactic| k_qdec)=>`(tactic| fail)
local macro_rules
 | `(tactic| o_head (kHook $k $a $e))=>`(tactic| (
  refine holds_open (q:=view ø Nf.qx) (loose:=[]) (Xt:=fun s=>xlAt (view ø Nf.qx) [] s&&recOk [] s) (XP:=XL (view ø Nf.qx) []) (Yf:=Hook.obs (kHook $k $a $e)) (Ya:=Hook.val (kHook $k $a $e)) (YP:=Hook.says (kHook $k $a $e)) (N:=3296) ?hl (Hook.of (kHook $k $a $e)) (Hook.keeps (kHook $k $a $e)) (fun s e=>xl_of s (Bool.and_eq_true_iff.mp e).1) XL.keeps (by rfl) (by rfl) (by rfl) (fun s e=>recFacts_of (Bool.and_eq_true_iff.mp e).2) (by rfl) (by first | assumption | decide +kernel) (by decide +kernel) ⟨rfl,rfl,rfl,rfl,rfl,by decide +kernel⟩ ?hw ?hc))
set_option maxRecDepth 100000 in
set_option maxHeartbeats 0 in
theorem PySem.Challenge.cw_nofall_k04_ways_told_holds : PySem.Challenge.rw_nofall_k04_ways_told.Holds := by
 w_on; refine PySem.W.holds_law Nf.well fun said=>?_; k_head
 ·refine Nf.Js 90 (boot_open (by kernel_rfl) rfl (fun s=>by kernel_rfl)) Nf.Jm (fun w os=>?_) (fun w os=>?_)
  ·show Nf.oV ø w os _ 90=Nf.frF _ 90
   rw [PySem.W.Fast.frontQ_eq]
   kernel_rfl
  ·show Nf.vL ø w os _ 90=Nf.frB _ 90
   rw [PySem.W.Fast.backQ_eq]
   kernel_rfl
 ·w_witness2
 k_fill
 refine Nf.walk (l:=PySem.Challenge.rw_nofall_k04_ways_told) rfl rfl rfl (fun w h Y=>PySem.W.kIn_of Y) ?F
 case F =>
  intro w mg fa h KX G hmg
  refine' Nf.all_mk KX G hmg ?a0 ?l0 ?c0 ?a1 ?l1 ?c1 ?a2 ?l2 ?c2 ?a3 ?l3 ?c3 ?a4 ?l4 ?c4 ?a5 ?l5 ?c5 ?a6 ?l6 ?c6 ?a7 ?l7 ?c7 ?a8 ?l8 ?c8 ?a9 ?l9 ?c9 ?a10 ?l10 ?c10 ?a11 ?l11 ?c11 ?a12 ?l12 ?c12 ?a13 ?l13 ?c13 ?a14 ?l14 ?c14 ?a15 ?l15 ?c15 ?a16 ?l16 ?c16 ?a17 ?l17 ?c17 ?a18 ?l18 ?c18 ?a19 ?l19 ?c19 ?a20 ?l20 ?c20 ?a21 ?l21 ?c21 ?a22 ?l22 ?c22 ?a23 ?l23 ?c23 ?a24 ?l24 ?c24 ?a25 ?l25 ?c25 ?a26 ?l26 ?c26 ?a27 ?l27 ?c27 ?a28 ?l28 ?c28 ?a29 ?l29 ?c29 ?a30 ?l30 ?c30 ?a31 ?l31 ?c31 ?g_MOST_PLACES ?g_MOST_TIES ?z0 ?z1 ?z2 ?z3 ?z4 ?z5 ?z6 ?z7 ?z8 ?z9 ?z10 ?z11 ?z12 ?z13 ?z14 ?z15 ?z16
  any_goals (show _=_; k_is)
  all_goals rfl
end
