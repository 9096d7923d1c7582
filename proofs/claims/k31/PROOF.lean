import PyProof.Rows.All
import Wide.All
import OpenK.AllK
import Wide.FinOn
import Lean
import PyProof.EqAt
import PyProof.EqKinds
import PyProof.TupleCall
import PySem.Challenge.RW_nofall_k31_whole_fewest_ties
set_option genSizeOf false
set_option genSizeOfSpec false
set_option Elab.async false
set_option linter.all false
set_option maxRecDepth 100000
open List renaming length_map → Á,mem_cons_of_mem → Ã,mem_cons_self → Æ,getElem?_eq_getElem → Ç,length_append → È,replicate → É,getD_eq_getElem?_getD → Ë,mem_of_getElem? → Ì,getElem?_eq_some_iff → Î,size_toArray → Ñ,mem_cons → Ô,map_append → Ø,mem_append → Û,length_cons → Ü,length_singleton → Þ,getElem?_map → á,map_cons → ã,range → ä,mem_append_right → å,mem_singleton → ç,mem_map → é,getElem?_append_right → ë,sum_cons → î,lookup_cons → ï,getElem?_append_left → ô,length_drop → õ,append_nil → ù,map_map → ý,mem_append_left → Ā,getElem?_set_self → ą,mem_filter → ĉ,length_take → Ċ,all_eq_true → ċ,mem_range → č,length_replicate → Ď,nodup_cons → ę,take_add_one → ğ,take_length → Ĥ,getElem_mem → ĥ,replicate_succ → ĩ,flatten_cons → Ĭ,map → Ĳ,length_dropLast → ĳ,drop_eq_getElem_cons → Ĺ,mem_replicate → Ļ,getElem?_set_ne → Ŀ,getElem?_of_mem → ŀ,length_range → ł,getElem?_replicate → Ń,take_append_drop → Ŋ,find?_cons → ō,append_assoc → Ŏ,map_drop → ŏ,map_congr_left → ő,take_of_length_le → Ŗ,take → ŝ,mem_of_mem_take → Ţ,drop → ť,flatten_append → Ū,filterMap_cons → ū,nil_append → ů,mem_filterMap → ű,lookup → ų,getElem?_cons_succ → Ŵ,reverse_cons → ź,map_dropLast → Ż,drop_zero → ż
open PySem.PyData renaming int → Â,eqv → ü,list → ē,canLayAll0 → Ĩ,depthAll → ķ,bool → Ľ
open PySem renaming wpAny_bind → Ä,wpAny_pure → Ò,sizeLine_eq → ê,wpAny_truthy_bool → Ė,mem_of_lookup → Ě,wpAny_holding → Ġ,wpAny_loadPart' → Ħ,wpAny_mono → ĸ,wpAny_Call_Name_kw → Ō,wpAny_passesOwn → š,codeAny_builtin → Ź
open Nat renaming le_refl → Í,ne_of_lt → ß,lt_of_lt_of_le → è,le_trans → þ,lt_succ_of_lt → Ă,lt_irrefl → ă,zero_le → Ć,pow_le_pow_right → Ģ,le_succ → Ł,lt_succ_self → Ŕ,pow_succ → ž
open PySem.Heap renaming lt_size → Ï,get?_push_of_some → Ð,get?_push_size → à,size_update → đ,get?_push_ne → Ē,get?_update_other → ņ,size_push → ň
open Bool renaming false_ne_true → Ö,and_eq_true → Ý,false_eq_true → ė,eq_iff_iff → ģ
open Int renaming toNat_natCast → Ù,le_refl → ě
open PySem.W renaming Frag → Ú,mg_of → ÿ,mg_none_of → ħ,boot_heap → Ő,kia_one → Ŭ,boot_o_0 → ŭ
open PySem.Obj renaming mapSeq → â
open Option.some renaming inj → æ
open PySem.Challenge renaming pw_nofall_k31_whole_fewest_ties → ì
open PySem.Str renaming ofString → í
open PySem.F renaming plainAttrs_list → ó,type_list_append → Ī,slot_list_append → ī,type_list_extend → ŧ,slot_list_extend → Ũ
open PySem.NameKind renaming free → ú,cell → ć
open Classical renaming byContradiction → û
open PySem.PassesOwn renaming never → Ą
open Sum renaming inr → Ĉ
open PySem.Value renaming type → Đ,none → Ĕ,ref → į,int → İ
open Or renaming inl → Ğ
open ForInStep renaming yield → ġ
open Ne renaming symm → Į
open Array renaming length_toList → Ķ
open PySem.Builtin.SmallTypes renaming ownedTupleIsFree → ĺ,nextOf → Œ
open PyProof.Rows renaming callWith_type1 → ľ,step_dedup → Ů,listUpdate_at → ŷ
open False renaming elim → ń
open PySem.Builtin.List renaming listExtendWith → œ,listTooLong → Š
open True renaming intro → ŕ
open PySem.Builtin.Slice renaming slicePlaces → Ŝ
open PySem.Builtin.Tuple renaming tupleExact → ş
open Option renaming isSome_iff_exists → ũ
open PySem.Builtin renaming bitAnd → Ų
open List.cons renaming sizeOf_spec → Ŷ
noncomputable section
namespace L2
open PySem PySem.Spec PyProof.Rows
theorem zK {n:Nat} (h:Nat.ble n 1000=true:=by rfl):n<=1000:=Nat.le_of_ble_eq_true h
abbrev Key:=Sum Int Str
def tQ:Key->Value->Bool
 | .inl k,v=>Value.isInt k v
 | .inr x,v=>Value.isStrOf x v
def U3 (w:World):Key->Int
 | .inl k=>hashInt k
 | .inr x=>hashStr w x
theorem bG:∀ {k:Key}{v:Value},tQ k v=true->(∃ i t,k=Sum.inl i/\v=İ i t)\/(∃ x t,k=Ĉ x/\v=Value.str x t)
 | .inl i,v,h=>by
  obtain⟨t,e⟩:=Value.isInt_shape (k:=i) (v:=v) h
  exact .inl ⟨i,t,rfl,e⟩
 | .inr x,v,h=>by
  obtain⟨t,e⟩:=Value.isStrOf_shape (x:=x) (v:=v) h
  exact .inr ⟨x,t,rfl,e⟩
theorem Em (i:Int) (t:Tok):tQ (.inl i) (.int i t)=true:=by simp [tQ,Value.isInt]
theorem El (x:Str) (t:Tok):tQ (.inr x) (.str x t)=true:=by simp [tQ,Value.isStrOf]
theorem Qg (a b:Int):decide ((Sum.inl a:Key)=Sum.inl b)=(a == b):=by
 by_cases e:a=b
 ·subst e; simp
 ·have h:¬ (Sum.inl a:Key)=Sum.inl b:=fun q=>e (Sum.inl.inj q)
  rw [decide_eq_false h]
  exact (beq_eq_false_iff_ne.mpr e).symm
theorem Qd (a b:Str):decide ((Ĉ a:Key)=Ĉ b)=decide (a=b):=by
 by_cases e:a=b
 ·subst e; simp
 ·have h:¬ (Ĉ a:Key)=Ĉ b:=fun q=>e (Sum.inr.inj q)
  rw [decide_eq_false h,decide_eq_false e]
theorem Qf (a:Int) (b:Str):decide ((Sum.inl a:Key)=Ĉ b)=false:=decide_eq_false (fun q=>nomatch q)
theorem Qe (a:Str) (b:Int):decide ((Ĉ a:Key)=Sum.inl b)=false:=decide_eq_false (fun q=>nomatch q)
def bJ (prog:Program) (w:World):PySem.KeyKind prog w Key where
 is:=tQ
 hash:=U3 w
 inj:=fun v a b ha hb=>by
  rcases bG ha with ⟨i,t,rfl,rfl⟩ | ⟨x,t,rfl,rfl⟩
  ·rcases bG hb with ⟨j,u,rfl,e⟩ | ⟨y,u,rfl,e⟩
   ·injection e with e1 _; rw [e1]
   ·exact nomatch e
  ·rcases bG hb with ⟨j,u,rfl,e⟩ | ⟨y,u,rfl,e⟩
   ·exact nomatch e
   ·injection e with e1 _; rw [e1]
 byValue:=fun k v h=>by
  rcases bG h with ⟨i,t,rfl,rfl⟩ | ⟨x,t,rfl,rfl⟩ <;> rfl
 pyHash:=fun hv h=>by
  rcases bG hv with ⟨i,t,rfl,rfl⟩ | ⟨x,t,rfl,rfl⟩
  ·exact wpAny_pyHash_int h
  ·exact wpAny_pyHash_str h
 eqBool:=fun hu hv h=>by
  rcases bG hu with ⟨i,t,rfl,rfl⟩ | ⟨x,t,rfl,rfl⟩
  ·rcases bG hv with ⟨j,u,rfl,rfl⟩ | ⟨y,u,rfl,rfl⟩
   ·rw [Qg] at h; exact wpAny_eqBool_int h
   ·rw [Qf] at h; exact SeqAt.EqAt.int_str i t y u _ _ _ _ h
  ·rcases bG hv with ⟨j,u,rfl,rfl⟩ | ⟨y,u,rfl,rfl⟩
   ·rw [Qe] at h; exact SeqAt.EqAt.str_int x t j u _ _ _ _ h
   ·rw [Qd] at h; exact wpAny_eqBool_str h
 «strs»:=fun k x t v h=>by
  rcases bG h with ⟨i,u,rfl,e⟩ | ⟨y,u,rfl,e⟩
  ·exact nomatch e
  ·injection e with e1 _
   subst e1
   cases v <;> rfl
theorem yc (prog:Program) (w:World) (i:Int) (t:Tok):(bJ prog w).is (.inl i) (.int i t)=true:=Em i t
theorem xZ (prog:Program) (w:World) (x:Str) (t:Tok):(bJ prog w).is (.inr x) (.str x t)=true:=El x t
inductive V where
 | non | bl (b:Bool) | int (i:Int) | str (x:Str) | byt (b:Array UInt8) | flt (b:UInt64) | ref (a:Addr) | ty (n:String)
 deriving DecidableEq
def RelV:V->Value->Prop
 | .non,u=>u=Ĕ
 | .bl b,u=>u=Value.bool b
 | .int i,u=>∃ t,u=İ i t
 | .str x,u=>∃ t,u=Value.str x t
 | .byt b,u=>∃ t,u=Value.bytes b t
 | .flt b,u=>∃ t,u=Value.float b t
 | .ref a,u=>u=į a
 | .ty n,u=>u=Đ n
abbrev Vals:List V->List Value->Prop:=Paired RelV
theorem Vals.length {xs:List V}{us:List Value} (r:Vals xs us):xs.length=us.length:=Paired.length r
theorem Vals.get:∀ {xs:List V}{us:List Value}{i:Nat}{x:V},Vals xs us->xs[i]?=some x->∃ u,us[i]?=some u/\RelV x u
 | _,_,_,_,.nil,e=>by simp at e
 | _,_,0,_,.cons r _,e=>by simp at e; subst e; exact⟨_,rfl,r⟩
 | _,_,i+1,x,.cons _ t,e=>by
  obtain⟨u,h1,h2⟩:=Vals.get (i:=i) (x:=x) t (by simpa using e)
  exact⟨u,by simpa using h1,h2⟩
theorem Vals.set {x:V}{u:Value} (r:RelV x u):∀ {xs:List V}{us:List Value} (i:Nat),Vals xs us->Vals (xs.set i x) (us.set i u)
 | _,_,_,.nil=>.nil
 | _,_,0,.cons _ t=>.cons r t
 | _,_,i+1,.cons q t=>.cons q (Vals.set r i t)
theorem Vals.append:∀ {xs ys:List V}{us ws:List Value},Vals xs us->Vals ys ws->Vals (xs++ys) (us++ws)
 | _,_,_,_,.nil,s=>s
 | _,_,_,_,.cons r t,s=>.cons r (Vals.append t s)
theorem Vals.take:∀ {xs:List V}{us:List Value} (n:Nat),Vals xs us->Vals (xs.take n) (us.take n)
 | _,_,0,_=>.nil
 | _,_,_+1,.nil=>.nil
 | _,_,n+1,.cons r t=>.cons r (Vals.take n t)
theorem Vals.drop:∀ {xs:List V}{us:List Value} (n:Nat),Vals xs us->Vals (xs.drop n) (us.drop n)
 | _,_,0,r=>r
 | _,_,_+1,.nil=>.nil
 | _,_,n+1,.cons _ t=>Vals.drop n t
def rT:Option V->Option Value->Prop
 | some v,some u=>RelV v u
 | none,none=>True
 | _,_=>False
def KV {κ:Type}:List (κ×V)->List (κ×Value)->Prop:=Paired fun (p:κ×V) (q:κ×Value)=>p.1=q.1/\RelV p.2 q.2
def kV:Key->V
 | .inl i=>.int i
 | .inr x=>.str x
inductive HO where
 | lst (xs:List V)
 | tup (xs:List V)
 | dK (kvs:List (Key×V)) | dT (kvs:List (List Key×V))
 | set (S:Int->Bool) (n:Nat)
 | ins (C dx:Addr) (fs:List (Str×V))
 | own (x:Addr)
 | xd (fs:List (Str×V))
 | met (f x:Addr)
 | rng (lo hi:Int)
 | frz (o:Obj) (u:HO)
 | tbl (ps:Array Value)
 | ext (φ:Heap->Prop)
abbrev Hp:=Addr->Option HO
def upd (H:Hp) (a:Addr) (o:HO):Hp:=fun b=>if b=a then some o else H b
theorem au {H:Hp}{a:Addr}{o:HO}:upd H a o a=some o:=by unfold upd; rw [if_pos rfl]
theorem aq {H:Hp}{a b:Addr}{o:HO} (h:b≠a):upd H a o b=H b:=by unfold upd; rw [if_neg h]
theorem Ss {H:Hp}{a b:Addr}{o u:HO} (h:H a=some o) (h':H b=some u) (d:o≠u):a≠b:=by
 intro e; subst e; rw [h] at h'; exact d (æ h')
theorem aD {H:Hp}{a b:Addr}{o:HO} (h:H a=some o) (h':H b=none):a≠b:=by
 intro e; subst e; rw [h] at h'; cases h'
section
variable (P:Program) (w:World)
def bf (H:Hp) (h:Heap) (a:Addr):HO->Prop
 | .lst xs=>xs.length<=sizeLine/\∃ (its:List Value) (n:Nat),Vals xs its/\h.get? a=some { cls:=.type "list",data:=.seq its.toArray n }
 | .tup xs=>xs.length<=sizeLine/\∃ its:List Value,Vals xs its/\IsTup h a its.toArray
 | .dK kvs=>kvs.length<=sizeLine/\(a == sysModules)=false/\∃ vs,KV kvs vs/\h.DictOf (bJ P w) a vs
 | .dT kvs=>kvs.length<=sizeLine/\(a == sysModules)=false/\∃ xs:List (List Key×Addr×Value),
   Paired (fun (p:List Key×V) (q:List Key×Addr×Value)=>p.1=q.1/\H q.2.1=some (.tup (p.1.map kV))/\RelV p.2 q.2.2) kvs xs /\
   ∃ o es ep,h.get? a=some o/\o.ExactDict/\o.data=.dict es ep/\es.toList=xs.map (entryOfKey (tupleKind (bJ P w)))/\(xs.map (·.1)).Nodup
 | .set S n=>h.SetOf (intKind P w) a S n
 | .ins C dx fs=>H dx=some (.own a)/\fs.length<=1000/\dx≠a/\h.get? a=some (W.instObj C dx) /\
   ∃ mA,h.Ns1 dx mA/\(∀ f,rT (fs.lookup f) (mA f))/\PySem.Within mA (fs.map (·.1))
 | .own _=>∃ o,h.get? a=some o
 | .xd fs=>∃ mA,h.Ns1 a mA/\∀ f,rT (fs.lookup f) (mA f)
 | .rng lo hi=>∃ t u v,h.get? a=some { cls:=.type "range",data:=.fields #[.int lo t,.int hi u,.int 1 v] }
 | .frz o u=>h.get? a=some o/\bf H h a u
 | .tbl ps=>h.get? a=some { cls:=.none,data:=.fields ps }
 | .met f x=>h.get? a=some (W.methodObj (.ref f) (.ref x))
 | .ext φ=>φ h/\(∃ o,h.get? a=some o)/\∀ h1 h2:Heap,φ h1->(∀ o,h1.get? a=some o->h2.get? a=some o)->φ h2
def HOk (H:Hp) (h:Heap):Prop:=∀ a o,H a=some o->bf P w H h a o
end
section
variable {P:Program}{w:World}{H H':Hp}{h h':Heap}{a:Addr}{o:HO}
theorem bf.lt (x:bf P w H h a o):a<h.objs.size:=by
 cases o with
 | lst xs=>obtain⟨_,_,_,_,e⟩:=x; exact Ï e
 | tup xs=>obtain⟨_,_,_,p⟩:=x; exact p.lt
 | dK kvs=>obtain⟨_,_,_,_,o,_,_,e,_⟩:=x; exact Ï e
 | dT kvs=>obtain⟨_,_,_,_,o,_,_,e,_⟩:=x; exact Ï e
 | set S n=>obtain⟨o,_,_,_,e,_⟩:=x; exact Ï e
 | ins C dx fs=>obtain⟨_,_,_,e,_⟩:=x; exact Ï e
 | own y=>obtain⟨_,e⟩:=x; exact Ï e
 | xd fs=>obtain⟨_,⟨_,_,_,e,_⟩,_⟩:=x; exact Ï e
 | rng lo hi=>obtain⟨_,_,_,e⟩:=x; exact Ï e
 | frz ob u=>obtain⟨e,_⟩:=x; exact Ï e
 | tbl ps=>exact Ï (show h.get? a=some _ from x)
 | met f y=>exact Ï (show h.get? a=some _ from x)
 | ext φ=>obtain⟨_,⟨_,e⟩,_⟩:=x; exact Ï e
theorem Paired.zV {α β:Type}{F G:α->β->Prop}:∀ {l₁:List α}{l₂:List β},Paired F l₁ l₂->(∀ a b,F a b->G a b)->Paired G l₁ l₂
 | _,_,.nil,_=>.nil
 | _,_,.cons r t,f=>.cons (f _ _ r) (Paired.zV t f)
theorem bf.stay (x:bf P w H h a o) (k:∀ b u,(b=a\/H b=some (.own a))->h.get? b=some u->h'.get? b=some u)
  (ho:∀ b,H b=some (.own a)->H' b=some (.own a)) (ht:∀ b xs,H b=some (.tup xs)->H' b=some (.tup xs)):bf P w H' h' a o:=by
 induction o with
 | lst xs=>obtain⟨z,its,n,r,e⟩:=x; exact⟨z,its,n,r,k _ _ (.inl rfl) e⟩
 | tup xs=>obtain⟨z,its,r,ob,e,c⟩:=x; exact⟨z,its,r,ob,k _ _ (.inl rfl) e,c⟩
 | dK kvs=>obtain⟨z,y,vs,r,ob,es,ep,e,c⟩:=x; exact⟨z,y,vs,r,ob,es,ep,k _ _ (.inl rfl) e,c⟩
 | dT kvs =>
  obtain⟨z,y,xs,r,ob,es,ep,e,c⟩:=x
  exact⟨z,y,xs,Paired.zV r fun p q z=>⟨z.1,ht _ _ z.2.1,z.2.2⟩,ob,es,ep,k _ _ (.inl rfl) e,c⟩
 | set S n=>obtain⟨ob,es,ep,t,e,c⟩:=x; exact⟨ob,es,ep,t,k _ _ (.inl rfl) e,c⟩
 | ins C dx fs =>
  obtain⟨d,z,ne,e,mA,⟨od,es,ep,e2,c⟩,r⟩:=x
  exact⟨ho _ d,z,ne,k _ _ (.inl rfl) e,mA,⟨od,es,ep,k _ _ (.inr d) e2,c⟩,r⟩
 | own y=>obtain⟨ob,e⟩:=x; exact⟨ob,k _ _ (.inl rfl) e⟩
 | xd fs=>obtain⟨mA,⟨od,es,ep,e,c⟩,r⟩:=x; exact⟨mA,⟨od,es,ep,k _ _ (.inl rfl) e,c⟩,r⟩
 | rng lo hi=>obtain⟨t,u,v,e⟩:=x; exact⟨t,u,v,k _ _ (.inl rfl) e⟩
 | frz ob u ih=>obtain⟨e,q⟩:=x; exact⟨k _ _ (.inl rfl) e,ih q⟩
 | tbl ps =>
  have e:h.get? a=some { cls:=.none,data:=.fields ps }:=x
  show h'.get? a=some { cls:=.none,data:=.fields ps }
  exact k a _ (.inl rfl) e
 | met f y =>
  have e:h.get? a=some (W.methodObj (.ref f) (.ref y)):=x
  show h'.get? a=some (W.methodObj (.ref f) (.ref y))
  exact k a _ (.inl rfl) e
 | ext φ=>obtain⟨p,⟨o,e⟩,st⟩:=x; exact⟨st _ _ p fun o q=>k _ _ (.inl rfl) q,⟨o,k _ _ (.inl rfl) e⟩,st⟩
theorem HOk.lt (x:HOk P w H h) (e:H a=some o):a<h.objs.size:=(x a o e).lt
theorem HOk.fresh (x:HOk P w H h) (e:h.objs.size<=a):H a=none:=by
 cases q:H a with
 | none=>rfl
 | some u=>exact absurd (è (x.lt q) e) (ă _)
theorem HOk.kept (x:HOk P w H h) (k:∀ b u,h.get? b=some u->h'.get? b=some u):HOk P w H h':=fun a o e =>
 (x a o e).stay (fun b u _ q=>k b u q) (fun _ q=>q) fun _ _ q=>q
theorem HOk.laid (x:HOk P w H h) (k:∀ b u,h.get? b=some u->h'.get? b=some u) (hp:h.objs.size<=a) (new:bf P w (upd H a o) h' a o):HOk P w (upd H a o) h':=fun b u e=>by
 have hn:=x.fresh hp
 by_cases hb:b=a
 ·subst hb; rw [au] at e; cases e; exact new
 ·rw [aq hb] at e
  exact (x b u e).stay (fun c v _ q=>k c v q) (fun c q=>by rw [aq (aD q hn)]; exact q) fun c xs q=>by rw [aq (aD q hn)]; exact q
end
def Rd (H:Hp) (a:Addr) (u:HO):Prop:=H a=some u\/∃ o,H a=some (.frz o u)
theorem Rd.ok {P:Program}{w:World}{H:Hp}{h:Heap}{a:Addr}{u:HO} (r:Rd H a u) (x:HOk P w H h):bf P w H h a u:=by
 rcases r with r | ⟨o,r⟩
 ·exact x a u r
 ·obtain⟨_,q⟩:=x a _ r
  exact q
def Mut:Option HO->Prop
 | some (.lst _)=>True
 | some (.dK _)=>True
 | some (.dT _)=>True
 | some (.set _ _)=>True
 | some (.ins _ _ _)=>True
 | some (.ext _)=>True
 | _=>False
section
variable {P:Program}{w:World}{H:Hp}{h h':Heap}{x e:Addr}{o':HO}
theorem HOk.write (ok:HOk P w H h) (mu:Mut (H x)) (he:e=x\/H e=some (.own x)) (k:∀ b u,b≠e->h.get? b=some u->h'.get? b=some u) (heo:∃ u,h'.get? e=some u)
  (new:bf P w (upd H x o') h' x o'):HOk P w (upd H x o') h':=fun b u q=>by
 have nown:∀ c y,H c=some (.own y)->c≠x:=fun c y r z=>by subst z; rw [r] at mu; exact mu
 have ntup:∀ c xs,H c=some (.tup xs)->c≠x:=fun c xs r z=>by subst z; rw [r] at mu; exact mu
 by_cases hb:b=x
 ·subst hb; rw [au] at q; cases q; exact new
 ·rw [aq hb] at q
  by_cases hbe:b=e
  ·have q':H b=some (.own x):=by
    rcases he with z | z
    ·exact absurd (hbe.trans z) hb
    ·rw [hbe]; exact z
   rw [q] at q'; cases q'
   obtain⟨v,hv⟩:=heo
   exact⟨v,by rw [hbe]; exact hv⟩
  ·refine (ok b u q).stay (fun c v hc r=>k c v ?_ r) (fun c r=>by rw [aq (nown c b r)]; exact r) fun c xs r=>by rw [aq (ntup c xs r)]; exact r
   rcases hc with rfl | hc
   ·exact hbe
   ·rintro rfl
    rcases he with z | z
    ·exact nown c b hc z
    ·rw [hc] at z; cases z; exact hb rfl
end
structure Un (fs ex:List Addr) (H H':Hp) (h h':Heap):Prop where
 keep:∀ b o,h.get? b=some o->H b=none->b∉fs->b∉ex->h'.get? b=some o
 slot:∀ b o,h.get? b=some o->H b=none->b∈fs->b∉ex->∃ sl,h'.get? b=some { o with slots:=sl }
 free:∀ b o,h.get? b=some o->H b=none->b∉ex->H' b=none
 there:∀ b o,h.get? b=some o->b∉ex->∃ o',h'.get? b=some o'
 tups:∀ b xs,H b=some (.tup xs)->H' b=some (.tup xs)
 frzs:∀ b o u,H b=some (.frz o u)->H' b=some (.frz o u)
 tbls:∀ b ps,H b=some (.tbl ps)->∃ more,H' b=some (.tbl (ps++more))
section
variable {fs fs' ex ex':List Addr}{H H1 H2:Hp}{h h1 h2 h':Heap}{a x e:Addr}{o:HO}
theorem Un.any (u:Un fs ex H H1 h h1) {b:Addr}{ob:Obj} (q:h.get? b=some ob) (n:H b=none) (hx:b∉ex):∃ sl,h1.get? b=some { ob with slots:=sl }:=by
 by_cases hb:b∈fs
 ·exact u.slot b ob q n hb hx
 ·exact⟨ob.slots,u.keep b ob q n hb hx⟩
theorem Un.kept (k:∀ b u,h.get? b=some u->h'.get? b=some u):Un fs ex H H h h' :=
 ⟨fun b ob q _ _ _=>k b ob q,fun b ob q _ _ _=>⟨ob.slots,k b ob q⟩,fun _ _ _ n _=>n,fun b ob q _=>⟨ob,k b ob q⟩,fun _ _ q=>q,fun _ _ _ q=>q,fun _ ps q=>⟨#[],by rw [q]; simp⟩⟩
theorem Un.refl:Un fs ex H H h h:=Un.kept fun _ _ q=>q
theorem Un.laid (k:∀ b u,h.get? b=some u->h'.get? b=some u) (hp:h.objs.size<=a) (hn:H a=none):Un fs ex H (upd H a o) h h' where
 keep:=fun b u q _ _ _=>k b u q
 slot:=fun b u q _ _ _=>⟨u.slots,k b u q⟩
 free:=fun b u q n _=>by rw [aq (ß (è (Ï q) hp))]; exact n
 there:=fun b u q _=>⟨u,k b u q⟩
 tups:=fun b xs q=>by rw [aq (aD q hn)]; exact q
 frzs:=fun b u xs q=>by rw [aq (aD q hn)]; exact q
 tbls:=fun b ps q=>⟨#[],by rw [aq (aD q hn),q]; simp⟩
theorem Un.write (mu:Mut (H x)) (he:e=x\/H e=some (.own x)) (k:∀ b u,b≠e->h.get? b=some u->h'.get? b=some u) (heo:∃ u,h'.get? e=some u):Un fs ex H (upd H x o) h h':=by
 have hx:∀ b,H b=none->b≠x:=fun b n z=>by subst z; rw [n] at mu; exact mu
 have hb:∀ b,H b=none->b≠e:=fun b n z=>by
  subst z
  rcases he with r | r
  ·exact hx b n r
  ·rw [n] at r; cases r
 have hm:∀ b u,H b=some u->¬ Mut (some u)->b≠x:=fun b u q nm z=>by subst z; rw [q] at mu; exact nm mu
 refine⟨fun b u q n _ _=>k b u (hb b n) q,fun b u q n _ _=>⟨u.slots,k b u (hb b n) q⟩,fun b u q n _=>by rw [aq (hx b n)]; exact n,fun b u q _=>?_,
  fun b xs q=>by rw [aq (hm b _ q fun z=>z)]; exact q,fun b u xs q=>by rw [aq (hm b _ q fun z=>z)]; exact q,fun b ps q=>⟨#[],by rw [aq (hm b _ q fun z=>z),q]; simp⟩⟩
 by_cases hbe:b=e
 ·subst hbe; exact heo
 ·exact⟨u,k b u hbe q⟩
end
def trk (h:Heap) (H:Hp):List Addr:=(ä h.objs.size).filter fun a=>(H a).isSome
def vO (h:Heap) (H:Hp):Heap:=W.hideAll h (trk h H)
theorem Et (h:Heap) (H:Hp):(vO h H).objs.size=h.objs.size:=W.hideAll_size _ _
theorem rC {h:Heap}{H:Hp}{b:Addr}{o:Obj} (e:h.get? b=some o) (n:H b=none):(vO h H).get? b=some o :=
 W.hideAll_get _ e fun hm=>by
  have q:(H b).isSome=true:=(ĉ.mp hm).2
  rw [n] at q; simp at q
theorem K6 {h:Heap}{H:Hp}{b:Addr}{o:Obj} (e:(vO h H).get? b=some o):h.get? b=some o/\H b=none:=by
 have e':h.get? b=some o:=W.of_hideAll (trk h H) e
 refine⟨e',?_⟩
 cases q:H b with
 | none=>rfl
 | some x =>
  have hm:b∈trk h H:=ĉ.mpr ⟨č.mpr (Ï e'),by simp [q]⟩
  have z:(vO h H).get? b=none:=W.hideAll_none (trk h H) hm
  rw [z] at e; cases e
def wF (g h:Heap) (L:Addr):List (Addr×Obj):=(ä h.objs.size).filterMap fun a=>if a=L\/(g.get? a).isSome=true then none else (h.get? a).map fun o=>(a,o)
theorem qR {g h:Heap}{L:Addr}{p:Addr×Obj} (hp:p∈wF g h L):p.1≠L/\g.get? p.1=none/\h.get? p.1=some p.2:=by
 obtain⟨b,_,e⟩:=ű.mp hp
 split at e
 ·cases e
 ·rename_i hn
  cases q:h.get? b with
  | none=>rw [q] at e; simp at e
  | some u =>
   rw [q] at e
   simp only [Option.map_some,Option.some.injEq] at e
   subst e
   refine⟨fun z=>hn (.inl z),?_,q⟩
   show g.get? b=none
   cases r:g.get? b with
   | none=>rfl
   | some v=>exact (hn (.inr (by simp [r]))).elim
def rest (g h:Heap) (L d:Addr):List (Addr×Obj):=(wF g h L).filter fun p=>decide (p.1≠d)
theorem HX {g h:Heap}{L:Addr}:News g L h (wF g h L):=fun p hp=>let ⟨a,b,c⟩:=qR hp; ⟨c,a,b⟩
structure Mod (K:Ú) (mg:Str->Option Value) (base:Heap):Prop where
 kin:K.In base
 glob:base.Ns mainGlobals mg
 blt:∃ mb,base.Ns builtinsNs mb/\∀ x:Str,x≠"__name__"->mb x=bootBuiltins x
 nolimit:base.NoLimit
structure Cx where
 prog:Program
 w:World
 K:Ú
 mg:Str->Option Value
 base:Heap
 A:Around
 N:List Str
 s₀:Shared
 H₀:Hp
 env:Env
 outer:List Env
 stack:List Env
 ex:List Addr
 fn:Str->Bool
 calm:Bool
 pn:List (Addr×Obj)
 xe:Value->Shared->Prop
 sf:List (Addr×Obj×HO):=[]
def frs (l:List Env):List Addr:=l.filterMap (·.frame)
abbrev Cx.fs (X:Cx):List Addr:=frs X.outer
def Vis (sc:Scope) (x:Str):Prop:=sc.names.lookup x=some .local\/sc.names.lookup x=some .cell\/sc.names.lookup x=some .free
def Loc (sc:Scope) (x:Str):Prop:=sc.names.lookup x=some .local\/sc.names.lookup x=some .cell
def Look (env:Env) (h:Heap) (m:Str->Option Value) (x:Str) (u:Value):Prop :=
 (env.kindOf x=some .local/\m x=some u)\/((env.kindOf x=some .cell\/env.kindOf x=some .free)/\∃ c,env.cells.lookup x=some c/\h.IsCell c (some u))
abbrev zS (X:Cx) (e:Expr) (es:List Expr):Prop:=starEach (e::es) X.env=(false,eval e X.env)::starEach es X.env
abbrev zP (X:Cx) (p:Pos) (es:List Expr):Prop:=(backTo p (starEach es X.env)).any (·.1)=false
abbrev zB (x:Str):Prop:=(x == ("__debug__":Str))=false
abbrev zF (X:Cx) (e:Expr):Prop:=∀ x,foldedSetIterable e X.env x=pure x
abbrev zL (X:Cx) (x:Str):Prop:=X.fn x=true\/X.env.scope.names.lookup x=some .local
abbrev zW (X:Cx) (p:Pos) (es:List Expr):Prop:=((backTo p (starEach es X.env)).all (fun x=>!x.1)&&(backToKw p (keywordEach [] X.env)).all (fun x=>x.1.isSome)&&decide (es.length+([]:List Keyword).length+(if ([]:List Keyword).isEmpty then 0 else 1)<30))=true
theorem zQ {sc:Scope}{x:Str} (h:(sc.names.lookup x == some .local||sc.names.lookup x == some .cell)=true:=by rfl):Loc sc x:=(Bool.or_eq_true_iff.mp h).imp (fun z=>eq_of_beq z) fun z=>eq_of_beq z
structure Cx.Ok (X:Cx):Prop where
 mod:Mod X.K X.mg X.base
 kind:X.env.scope.kind=.function
 glob:X.env.globals=mainGlobals
 blt:X.env.builtins=builtinsNs
 above:X.s₀.heap.objs.size<=X.env.locals
 inj:∀ x y c,X.env.cells.lookup x=some c->X.env.cells.lookup y=some c->x=y
 has:∀ x,(X.env.kindOf x=some .cell\/X.env.kindOf x=some .free)->∃ c,X.env.cells.lookup x=some c
 cab:∀ x c,X.fn x=true->X.env.cells.lookup x=some c->X.s₀.heap.objs.size<=c
 hd:X.calm=true->X.A.handled=none
 frames:X.A.frames=some X.stack
 stk:X.stack=X.outer\/(X.stack=X.env::X.outer/\X.env.frame=some X.env.locals)
 exf:∀ b∈X.ex,b≠X.env.locals/\∀ x c,X.env.cells.lookup x=some c->c≠b
 bs:∀ b o,X.base.get? b=some o->X.s₀.heap.get? b=some o/\X.H₀ b=none
 bsz:X.base.objs.size<=X.s₀.heap.objs.size
 noex:∀ b o,X.base.get? b=some o->b∉X.ex
 exfs:∀ b∈X.ex,b∉X.fs
 mK:X.s₀.heap.FunFrames X.base X.outer
 frf:∀ b∈X.fs,X.H₀ b=none
 sof:∀ q∈X.sf,X.A.handled=some (.ref q.1)/\X.H₀ q.1=some (.frz q.2.1 q.2.2)/\∃ ws,q.2.1.data=.fields ws/\ws[2]?=some .none
structure Inv (X:Cx) (pins:List (Addr×Obj)) (σ:List (Option V)) (H:Hp) (s:Shared):Prop where
 ok:X.Ok
 os:s.os=X.s₀.os
 bare:AllBare s.gens
 base:Un X.fs X.ex X.H₀ H X.s₀.heap s.heap
 loc:∃ m,s.heap.Ns X.env.locals m/\∀ (i:Nat) (x:Str) (v:V),X.N[i]?=some x->σ[i]?=some (some v)->Vis X.env.scope x->∃ u,RelV v u/\Look X.env s.heap m x u
 cell:∀ x c,X.env.cells.lookup x=some c->∃ v,s.heap.IsCell c v
 free:H X.env.locals=none
 freeC:∀ x c,X.env.cells.lookup x=some c->H c=none
 pin:∀ p∈X.pn++pins,s.heap.get? p.1=some p.2/\H p.1=none/\p.1≠X.env.locals/\p.1∉X.fs/\∀ v,p.2.data≠.cell v
 hok:HOk X.prog X.w H s.heap
 len:σ.length=X.N.length
section
variable {X:Cx}{pins:List (Addr×Obj)}{σ:List (Option V)}{H H':Hp}{s:Shared}{h':Heap}
theorem Cx.Ok.Ux (ok:X.Ok) {b:Addr}{o:Obj} (e:X.base.get? b=some o):b∉X.fs:=fun hb=>by
 have:=(ok.mK.mem hb).1
 rw [e] at this; cases this
theorem Inv.bs (I:Inv X pins σ H s):∀ b o,X.base.get? b=some o->s.heap.get? b=some o/\H b=none:=fun b o e =>
 ⟨I.base.keep b o (I.ok.bs b o e).1 (I.ok.bs b o e).2 (I.ok.Ux e) (I.ok.noex b o e),I.base.free b o (I.ok.bs b o e).1 (I.ok.bs b o e).2 (I.ok.noex b o e)⟩
theorem Inv.bk (I:Inv X pins σ H s):∀ b o,X.base.get? b=some o->s.heap.get? b=some o:=fun b o e=>(I.bs b o e).1
theorem Inv.mod (I:Inv X pins σ H s):Mod X.K X.mg X.base:=I.ok.mod
theorem Inv.kIn (I:Inv X pins σ H s):X.K.In s.heap:=I.ok.mod.kin.keeps I.bk
theorem Inv.fr (I:Inv X pins σ H s):∃ m,Fr X.base X.env.locals s.heap m :=
 let ⟨m,hn,_⟩:=I.loc
 ⟨m,hn,I.bk,þ I.ok.bsz I.ok.above⟩
theorem Inv.lt (I:Inv X pins σ H s):X.env.locals<s.heap.objs.size:=let ⟨_,hn,_⟩:=I.loc; hn.lt
theorem Inv.sz (I:Inv X pins σ H s):X.s₀.heap.objs.size<=s.heap.objs.size:=þ I.ok.above (Nat.le_of_lt I.lt)
theorem Inv.Uw (I:Inv X pins σ H s) {a:Addr} (h:s.heap.objs.size<=a):a∉X.fs:=fun hb=>by
 obtain⟨_,o,ho,_⟩:=I.ok.mK.mem hb
 exact absurd (è (Ï ho) (þ I.sz h)) (ă _)
theorem Inv.cne (I:Inv X pins σ H s):∀ x c,X.env.cells.lookup x=some c->c≠X.env.locals:=fun x c e z=>by
 obtain⟨v,o,ho,hd⟩:=I.cell x c e
 obtain⟨m,⟨o',es,ep,ho',hd',_⟩,_⟩:=I.loc
 rw [z,ho'] at ho; cases ho; rw [hd'] at hd; cases hd
theorem Inv.mK (I:Inv X pins σ H s):s.heap.FunFrames X.base X.outer:=by
 have all:∀ (l:List Env),(∀ b∈frs l,b∈X.fs)->X.s₀.heap.FunFrames X.base l->s.heap.FunFrames X.base l:=by
  intro l
  induction l with
  | nil=>intro _ _; trivial
  | cons env r ih =>
   intro hs hl
   obtain⟨hk,⟨L,o,hf,hn,ho,hd⟩,hr⟩:=hl
   have hL:L∈X.fs:=hs L (by unfold frs; rw [ū,hf]; exact Æ)
   obtain⟨sl,e⟩:=I.base.slot L o ho (I.ok.frf L hL) hL fun z=>I.ok.exfs L z hL
   exact⟨hk,⟨L,_,hf,hn,e,hd⟩,ih (fun b hb=>hs b (by unfold frs; rw [ū,hf]; exact Ã _ hb)) hr⟩
 exact all X.outer (fun _ hb=>hb) I.ok.mK
theorem Inv.stack (I:Inv X pins σ H s):s.heap.FunFrames X.base X.stack:=by
 rcases I.ok.stk with e | ⟨e,hf⟩
 ·rw [e]; exact I.mK
 ·rw [e]
  obtain⟨m,hn,_⟩:=I.loc
  refine .cons (by rw [I.ok.kind]; decide) hf hn ?_ I.mK
  exact Heap.get?_none_of_le (þ I.ok.bsz I.ok.above)
theorem Inv.uG (I:Inv X pins σ H s):∀ b∈frs X.stack,b∈X.env.locals::X.fs:=fun b hb=>by
 rcases I.ok.stk with e | ⟨e,hf⟩
 ·rw [e] at hb; exact Ã _ hb
 ·rw [e] at hb
  unfold frs at hb
  rw [ū,hf] at hb
  exact hb
theorem Inv.Bg (I:Inv X pins σ H s):∀ b∈frs X.stack,H b=none:=fun b hb=>by
 rcases Ô.mp (I.uG b hb) with e | hb
 ·rw [e]; exact I.free
 ·obtain⟨_,o,ho,_⟩:=I.ok.mK.mem hb
  exact I.base.free b o ho (I.ok.frf b hb) fun z=>I.ok.exfs b z hb
theorem Inv.step {g':Array GenState}{t':Nat}{d':Drawn}{ch:List Addr} (I:Inv X pins σ H s)
  (hch:∀ b∈ch,(b∈X.ex\/X.s₀.heap.objs.size<=b)/\b≠X.env.locals/\(∀ x c,X.env.cells.lookup x=some c->c≠b)/\∀ p∈X.pn++pins,p.1≠b)
  (keep:∀ b o,b≠X.env.locals->b∉X.fs->b∉ch->s.heap.get? b=some o->H b=none->h'.get? b=some o)
  (slot:∀ b o,b≠X.env.locals->b∈X.fs->b∉ch->s.heap.get? b=some o->H b=none->∃ sl,h'.get? b=some { o with slots:=sl }) (free:∀ b o,b∉ch->s.heap.get? b=some o->H b=none->H' b=none)
  (there:∀ b o,b∉ch->s.heap.get? b=some o->∃ o',h'.get? b=some o')
  (tups:∀ b xs,H b=some (.tup xs)->H' b=some (.tup xs)) (frzs:∀ b o u,H b=some (.frz o u)->H' b=some (.frz o u)) (tbls:∀ b ps,H b=some (.tbl ps)->∃ more,H' b=some (.tbl (ps++more)))
  (ns:∀ m,s.heap.Ns X.env.locals m->h'.Ns X.env.locals m) (hok:HOk X.prog X.w H' h') (hg:AllBare g') :
  Inv X pins σ H' { s with heap:=h',gens:=g',drawn:=d',toks:=t' }:=by
 have neL:∀ b o,X.s₀.heap.get? b=some o->b≠X.env.locals:=fun b o e=>ß (è (Ï e) I.ok.above)
 have neC:∀ b o,X.s₀.heap.get? b=some o->b∉X.ex->b∉ch:=fun b o e hx hb=>by
  rcases (hch b hb).1 with z | z
  ·exact hx z
  ·exact absurd (è (Ï e) z) (ă _)
 have cellK:∀ x c,X.env.cells.lookup x=some c->∀ v,s.heap.IsCell c v->h'.IsCell c v:=fun x c e v ⟨o,ho,hd⟩=>by
  have nch:c∉ch:=fun z=>(hch c z).2.2.1 x c e rfl
  by_cases hc:c∈X.fs
  ·obtain⟨sl,q⟩:=slot c o (I.cne x c e) hc nch ho (I.freeC x c e)
   exact⟨_,q,hd⟩
  ·exact⟨o,keep c o (I.cne x c e) hc nch ho (I.freeC x c e),hd⟩
 refine⟨I.ok,I.os,hg,⟨fun b o e n hb hx=>?_,fun b o e n hb hx=>?_,fun b o e n hx=>?_,fun b o e hx=>?_,fun b xs e=>tups b xs (I.base.tups b xs e),fun b o xs e=>frzs b o xs (I.base.frzs b o xs e),fun b ps e=>?_⟩,?_,fun x c e=>?_,?_,fun x c e=>?_,fun p hp=>?_,hok,I.len⟩
 ·exact keep b o (neL b o e) hb (neC b o e hx) (I.base.keep b o e n hb hx) (I.base.free b o e n hx)
 ·obtain⟨sl,e1⟩:=I.base.slot b o e n hb hx
  obtain⟨sl',e2⟩:=slot b _ (neL b o e) hb (neC b o e hx) e1 (I.base.free b o e n hx)
  exact⟨sl',e2⟩
 ·obtain⟨o',e1⟩:=I.base.there b o e hx
  exact free b o' (neC b o e hx) e1 (I.base.free b o e n hx)
 ·obtain⟨o',e1⟩:=I.base.there b o e hx
  exact there b o' (neC b o e hx) e1
 ·obtain⟨m1,e1⟩:=I.base.tbls b ps e
  obtain⟨m2,e2⟩:=tbls b _ e1
  exact⟨m1++m2,by rw [e2,Array.append_assoc]⟩
 ·obtain⟨m,hn,hl⟩:=I.loc
  refine⟨m,ns m hn,fun i x v e1 e2 e3=>?_⟩
  obtain⟨u,r,l⟩:=hl i x v e1 e2 e3
  refine⟨u,r,?_⟩
  rcases l with l | ⟨k,c,e,z⟩
  ·exact .inl l
  ·exact .inr ⟨k,c,e,cellK x c e _ z⟩
 ·obtain⟨v,z⟩:=I.cell x c e
  exact⟨v,cellK x c e v z⟩
 ·obtain⟨m,⟨o,_,_,ho,_⟩,_⟩:=I.loc
  exact free _ o (fun z=>(hch _ z).2.1 rfl) ho I.free
 ·obtain⟨v,o,ho,hd⟩:=I.cell x c e
  exact free c o (fun z=>(hch c z).2.2.1 x c e rfl) ho (I.freeC x c e)
 ·obtain⟨e,n,ne,nf,d⟩:=I.pin p hp
  have nch:p.1∉ch:=fun z=>(hch p.1 z).2.2.2 p hp rfl
  exact⟨keep p.1 p.2 ne nf nch e n,free p.1 p.2 nch e n,ne,nf,d⟩
theorem Inv.un {t':Nat} (I:Inv X pins σ H s) (u:Un X.fs [] H H' s.heap h') (hok:HOk X.prog X.w H' h'):Inv X pins σ H' { s with heap:=h',toks:=t' }:=by
 obtain⟨m,⟨o,es,ep,ho,r⟩,_⟩:=id I.loc
 obtain⟨sl,hL⟩:=u.any ho I.free (by simp)
 exact I.step (g':=s.gens) (d':=s.drawn) (ch:=[]) (fun _ z=>nomatch z) (fun b o _ hb _ e n=>u.keep b o e n hb (by simp)) (fun b o _ hb _ e n=>u.slot b o e n hb (by simp)) (fun b o _ e n=>u.free b o e n (by simp)) (fun b o _ e=>u.there b o e (by simp)) u.tups u.frzs u.tbls (fun m' hm=>by
  obtain⟨o',es',ep',ho',r'⟩:=hm
  rw [ho] at ho'; cases ho'
  exact⟨_,es',ep',hL,r'⟩) hok I.bare
theorem Inv.call {g':Array GenState}{t':Nat}{d':Drawn}{ch:List Addr} (I:Inv X pins σ H s) (u:Un (frs X.stack) ch H H' s.heap h') (hok:HOk X.prog X.w H' h') (hg:AllBare g')
  (hch:∀ b∈ch,(b∈X.ex\/X.s₀.heap.objs.size<=b)/\b≠X.env.locals/\(∀ x c,X.env.cells.lookup x=some c->c≠b)/\∀ p∈X.pn++pins,p.1≠b) :
  Inv X pins σ H' { s with heap:=h',gens:=g',drawn:=d',toks:=t' }:=by
 obtain⟨m,⟨o,es,ep,ho,r⟩,_⟩:=id I.loc
 obtain⟨sl,hL⟩:=u.any ho I.free fun z=>(hch _ z).2.1 rfl
 exact I.step (ch:=ch) hch (fun b o hL hb hc e n=>u.keep b o e n (fun z=>(Ô.mp (I.uG b z)).elim hL hb) hc) (fun b o _ _ hc e n=>u.any e n hc) (fun b o hc e n=>u.free b o e n hc) (fun b o hc e=>u.there b o e hc) u.tups u.frzs u.tbls (fun m' hm=>by
  obtain⟨o',es',ep',ho',r'⟩:=hm
  rw [ho] at ho'; cases ho'
  exact⟨_,es',ep',hL,r'⟩) hok hg
theorem Inv.turned {t':Nat}{it:Addr} (I:Inv X pins σ H s) (k:∀ b o,b≠it->s.heap.get? b=some o->h'.get? b=some o) (hn:H it=none) (hL:it≠X.env.locals)
  (h1:it∈X.ex\/X.s₀.heap.objs.size<=it) (h2:∀ x c,X.env.cells.lookup x=some c->c≠it) (h3:∀ p∈X.pn++pins,p.1≠it):Inv X pins σ H { s with heap:=h',toks:=t' }:=by
 have nit:∀ b u,H b=some u->b≠it:=fun b u e z=>by rw [z,hn] at e; cases e
 refine I.step (g':=s.gens) (d':=s.drawn) (ch:=[it]) (fun b hb=>?_) (fun b o _ _ hc e _=>k b o (fun z=>hc (by simp [z])) e) (fun b o _ _ hc e _=>⟨o.slots,k b o (fun z=>hc (by simp [z])) e⟩) (fun _ _ _ _ n=>n)
  (fun b o hc e=>⟨o,k b o (fun z=>hc (by simp [z])) e⟩) (fun _ _ e=>e) (fun _ _ _ e=>e) (fun b ps e=>⟨#[],by rw [e]; simp⟩) (fun m hm=>?_) (fun b u e=>?_) I.bare
 ·have e:b=it:=by simpa using hb
  subst e
  exact⟨h1,hL,h2,h3⟩
 ·obtain⟨o,es,ep,ho,r⟩:=hm
  exact⟨o,es,ep,k _ o (Į hL) ho,r⟩
 ·refine (I.hok b u e).stay (fun c v hc q=>k c v ?_ q) (fun _ q=>q) fun _ _ q=>q
  rcases hc with z | z
  ·rw [z]; exact nit b u e
  ·exact nit c _ z
theorem Inv.tok (I:Inv X pins σ H s) (t:Nat):Inv X pins σ H { s with toks:=t }:=I.un (h':=s.heap) (t':=t) Un.refl I.hok
theorem Inv.kept {t':Nat} (I:Inv X pins σ H s) (k:∀ b u,s.heap.get? b=some u->h'.get? b=some u):Inv X pins σ H { s with heap:=h',toks:=t' }:=I.un (Un.kept k) (I.hok.kept k)
theorem Inv.laid {a:Addr}{o:HO}{t':Nat} (I:Inv X pins σ H s) (k:∀ b u,s.heap.get? b=some u->h'.get? b=some u) (hp:s.heap.objs.size<=a) (new:bf X.prog X.w (upd H a o) h' a o) :
  Inv X pins σ (upd H a o) { s with heap:=h',toks:=t' }:=I.un (Un.laid k hp (I.hok.fresh hp)) (I.hok.laid k hp new)
theorem Inv.write {x e:Addr}{o:HO}{t':Nat} (I:Inv X pins σ H s) (mu:Mut (H x)) (he:e=x\/H e=some (.own x)) (k:∀ b u,b≠e->s.heap.get? b=some u->h'.get? b=some u) (heo:∃ u,h'.get? e=some u)
  (new:bf X.prog X.w (upd H x o) h' x o):Inv X pins σ (upd H x o) { s with heap:=h',toks:=t' }:=I.un (Un.write mu he k heo) (I.hok.write mu he k heo new)
theorem Inv.pW {pins':List (Addr×Obj)} (I:Inv X pins σ H s) (h:∀ p∈pins',s.heap.get? p.1=some p.2/\H p.1=none/\p.1≠X.env.locals/\p.1∉X.fs/\∀ v,p.2.data≠.cell v):Inv X pins' σ H s :=
 ⟨I.ok,I.os,I.bare,I.base,I.loc,I.cell,I.free,I.freeC,fun p hp=>(Û.mp hp).elim (fun z=>I.pin p (Ā _ z)) (h p),I.hok,I.len⟩
theorem xV {N:List Str} (hN:N.Nodup) {i j:Nat}{x:Str} (a:N[i]?=some x) (b:N[j]?=some x):i=j:=by
 obtain⟨h1,e1⟩:=Î.mp a
 obtain⟨h2,e2⟩:=Î.mp b
 exact (List.getElem_inj hN).mp (e1.trans e2.symm)
theorem sZ {M:Model}{A:Around}{E:Value->Shared->Prop}{i:Nat}{x:Str}{v:V}{u:Value}{Q:Unit->Shared->Prop} (I:Inv X pins σ H s) (hU:∀ j,X.N[j]?=some x->j=i) (hi:X.N[i]?=some x) (hx:Loc X.env.scope x) (r:RelV v u)
  (h:∀ s',Inv X pins (σ.set i (some v)) H s'->(∃ a,Heap.SameBut a s.heap s'.heap/\(a=X.env.locals\/X.env.cells.lookup x=some a))->Q () s') (hf:X.fn x=true\/X.env.scope.names.lookup x=some .local:=by first | exact .inl rfl | exact .inr rfl | assumption):wpAny M A (storeName X.env x u) Q E s:=by
 obtain⟨m,hn,hl⟩:=id I.loc
 have hcls:(X.env.scope.kind == .class || (X.env.scope.kind == .module&&X.env.locals != X.env.globals))=false:=by rw [I.ok.kind]; rfl
 have hiσ:i<σ.length:=by rw [I.len]; exact (Î.mp hi).1
 have cne:=I.cne
 have tracked:∀ {a:Addr}{h':Heap},(∃ o,s.heap.get? a=some o/\H a=none)->Heap.SameBut a s.heap h'->HOk X.prog X.w H h':=fun {a h'} ha hs b ob e=>by
  obtain⟨_,_,hfree⟩:=ha
  refine (I.hok b ob e).stay (fun c w' hc q=>(hs.2 c ?_).trans q) (fun _ q=>q) fun _ _ q=>q
  rintro rfl
  rcases hc with rfl | hc
  ·rw [hfree] at e; cases e
  ·rw [hfree] at hc; cases hc
 rcases hx with hk | hk
 ·refine wpAny_storeName_local hk hn (fun h' hn' hs=>?_) hcls
  obtain⟨oL,_,_,hoL,_⟩:=id hn
  refine h _ ⟨I.ok,I.os,I.bare,⟨fun b o e n hb hx=>?_,fun b o e n hb hx=>?_,I.base.free,fun b o e hx=>?_,I.base.tups,I.base.frzs,I.base.tbls⟩,⟨_,hn',fun j y v' e1 e2 e3=>?_⟩,fun y c e=>?_,I.free,I.freeC,fun p hp=>?_,tracked ⟨oL,hoL,I.free⟩ hs,by simpa using I.len⟩ ⟨_,hs,.inl rfl⟩
  ·exact (hs.2 b (ß (è (Ï e) I.ok.above))).trans (I.base.keep b o e n hb hx)
  ·obtain⟨sl,e1⟩:=I.base.slot b o e n hb hx
   exact⟨sl,(hs.2 b (ß (è (Ï e) I.ok.above))).trans e1⟩
  ·obtain⟨o',e1⟩:=I.base.there b o e hx
   exact⟨o',(hs.2 b (ß (è (Ï e) I.ok.above))).trans e1⟩
  ·by_cases hj:j=i
   ·subst hj
    rw [hi] at e1; cases e1
    rw [ą hiσ] at e2
    cases e2
    exact⟨u,r,.inl ⟨hk,by simp⟩⟩
   ·rw [Ŀ (Į hj)] at e2
    obtain⟨u',r',q⟩:=hl j y v' e1 e2 e3
    refine⟨u',r',?_⟩
    rcases q with ⟨k,e⟩ | ⟨k,c,e,z⟩
    ·refine .inl ⟨k,?_⟩
     have:y≠x:=fun e=>hj (hU _ (e ▸ e1))
     simp [this,e]
    ·exact .inr ⟨k,c,e,z.sameBut hs (cne y c e)⟩
  ·obtain⟨w',z⟩:=I.cell y c e
   exact⟨w',z.sameBut hs (cne y c e)⟩
  ·obtain⟨e,n,ne,nf,d⟩:=I.pin p hp
   exact⟨(hs.2 p.1 ne).trans e,n,ne,nf,d⟩
 ·have hfn:X.fn x=true:=by
   rcases hf with z | z
   ·exact z
   ·rw [z] at hk; cases hk
  obtain⟨c,hc⟩:=I.ok.has x (.inl hk)
  obtain⟨w',z⟩:=I.cell x c hc
  refine wpAny_storeName_cell I.ok.kind hk hc z (fun h' hc' hs=>?_)
  obtain⟨oc,hoc,hocd⟩:=id z
  refine h { s with heap:=h' } ⟨I.ok,I.os,I.bare,⟨fun b o e n hb hx=>?_,fun b o e n hb hx=>?_,I.base.free,fun b o e hx=>?_,I.base.tups,I.base.frzs,I.base.tbls⟩,⟨m,hn.sameBut hs (Į (cne x c hc)),fun j y v' e1 e2 e3=>?_⟩,fun y c' e=>?_,I.free,I.freeC,fun p hp=>?_,tracked ⟨oc,hoc,I.freeC x c hc⟩ hs,by simpa using I.len⟩ ⟨c,hs,.inr hc⟩
  ·exact (hs.2 b (ß (è (Ï e) (I.ok.cab x c hfn hc)))).trans (I.base.keep b o e n hb hx)
  ·obtain⟨sl,e1⟩:=I.base.slot b o e n hb hx
   exact⟨sl,(hs.2 b (ß (è (Ï e) (I.ok.cab x c hfn hc)))).trans e1⟩
  ·obtain⟨o',e1⟩:=I.base.there b o e hx
   exact⟨o',(hs.2 b (ß (è (Ï e) (I.ok.cab x c hfn hc)))).trans e1⟩
  ·by_cases hj:j=i
   ·subst hj
    rw [hi] at e1; cases e1
    rw [ą hiσ] at e2
    cases e2
    exact⟨u,r,.inr ⟨.inl hk,c,hc,hc'⟩⟩
   ·rw [Ŀ (Į hj)] at e2
    obtain⟨u',r',q⟩:=hl j y v' e1 e2 e3
    refine⟨u',r',?_⟩
    rcases q with q | ⟨k,c',e,z'⟩
    ·exact .inl q
    ·refine .inr ⟨k,c',e,z'.sameBut hs ?_⟩
     rintro rfl
     exact hj (hU _ (I.ok.inj _ _ _ e hc ▸ e1))
  ·by_cases hcc:c'=c
   ·subst hcc; exact⟨_,hc'⟩
   ·obtain⟨w2,z2⟩:=I.cell y c' e
    exact⟨w2,z2.sameBut hs hcc⟩
  ·obtain⟨e,n,ne,nf,d⟩:=I.pin p hp
   refine⟨(hs.2 p.1 ?_).trans e,n,ne,nf,d⟩
   intro q
   rw [q,hoc] at e
   have q':oc=p.2:=æ e
   exact d w' (by rw [← q']; exact hocd)
theorem wQ {M:Model}{A:Around}{E:Value->Shared->Prop}{i:Nat}{x:Str}{v:V}{u:Value}{Q:Unit->Shared->Prop} (I:Inv X pins σ H s) (hN:X.N.Nodup) (hi:X.N[i]?=some x) (hx:Loc X.env.scope x) (r:RelV v u)
  (h:∀ s',Inv X pins (σ.set i (some v)) H s'->Q () s') (hf:X.fn x=true\/X.env.scope.names.lookup x=some .local:=by first | exact .inl rfl | exact .inr rfl | assumption):wpAny M A (storeName X.env x u) Q E s :=
 sZ I (fun j h=>xV hN h hi) hi hx r (fun s' I' _=>h s' I') hf
theorem Inv.call' {s':Shared}{ch:List Addr} (I:Inv X pins σ H s) (ho:s'.os=s.os) (u:Un (frs X.stack) ch H H' s.heap s'.heap) (hok:HOk X.prog X.w H' s'.heap) (hg:AllBare s'.gens)
  (hch:∀ b∈ch,(b∈X.ex\/X.s₀.heap.objs.size<=b)/\b≠X.env.locals/\(∀ x c,X.env.cells.lookup x=some c->c≠b)/\∀ p∈X.pn++pins,p.1≠b):Inv X pins σ H' s':=by
 obtain⟨h',g',d',t',o'⟩:=s'
 have e:o'=s.os:=ho
 subst e
 exact I.call (g':=g') (t':=t') (d':=d') u hok hg hch
end
abbrev XK:=Value->Option Addr->Hp->Prop
abbrev St:=List (Option V)
abbrev VK:=V->Hp->Prop
abbrev TE:=St->Hp->VK->Prop
abbrev TT:=St->Hp->(Bool->Hp->Prop)->Prop
abbrev TA:=St->Hp->(List V->Hp->Prop)->Prop
structure Ends where
 nx:St->Hp->Prop
 rt:VK
 bk:St->Hp->Prop:=fun _ _=>False
 ct:St->Hp->Prop:=fun _ _=>False
abbrev TS:=Ends->St->Hp->Prop
def EP (X:Cx) (pins:List (Addr×Obj)) (σ:St) (Q:VK) (u:Value) (s':Shared):Prop:=∃ v H',Inv X pins σ H' s'/\RelV v u/\Q v H'
def TP (X:Cx) (pins:List (Addr×Obj)) (σ:St) (Q:Bool->Hp->Prop) (b:Bool) (s':Shared):Prop:=∃ H',Inv X pins σ H' s'/\Q b H'
def AP (X:Cx) (pins:List (Addr×Obj)) (σ:St) (Q:List V->Hp->Prop) (us:List Value) (s':Shared):Prop:=∃ vs H',Inv X pins σ H' s'/\Vals vs us/\Q vs H'
def SP (X:Cx) (pins:List (Addr×Obj)) (D:Ends) (f:Flow) (s':Shared):Prop :=
 match f with
 | .next=>∃ σ' H',Inv X pins σ' H' s'/\D.nx σ' H'
 | .brk=>∃ σ' H',Inv X pins σ' H' s'/\D.bk σ' H'
 | .cont=>∃ σ' H',Inv X pins σ' H' s'/\D.ct σ' H'
 | .ret u=>∃ v σ' H',Inv X pins σ' H' s'/\RelV v u/\D.rt v H'
def PE (X:Cx) (e:Expr) (t:TE):Prop :=
 ∀ (pins:List (Addr×Obj)) (s:Shared) (σ:St) (H:Hp) (Q:VK),Inv X pins σ H s->t σ H Q->wpAny (model X.prog X.w) X.A (eval e X.env) (EP X pins σ Q) X.xe s
def PT (X:Cx) (e:Expr) (t:TT):Prop :=
 ∀ (pins:List (Addr×Obj)) (s:Shared) (σ:St) (H:Hp) (Q:Bool->Hp->Prop),Inv X pins σ H s->t σ H Q->wpAny (model X.prog X.w) X.A (isTrue e X.env (eval e X.env)) (TP X pins σ Q) X.xe s
def PW (X:Cx) (e:Expr) (t:TT):Prop :=
 ∀ (whole:Sem Value) (pins:List (Addr×Obj)) (s:Shared) (σ:St) (H:Hp) (Q:Bool->Hp->Prop),Inv X pins σ H s->t σ H Q->wpAny (model X.prog X.w) X.A (isTrue e X.env whole) (TP X pins σ Q) X.xe s
theorem PW.pt {X:Cx}{e:Expr}{t:TT} (h:PW X e t):PT X e t:=h _
def PA (X:Cx) (es:List Expr) (t:TA):Prop :=
 ∀ (pos:Pos) (pins:List (Addr×Obj)) (s:Shared) (σ:St) (H:Hp) (Q:List V->Hp->Prop),Inv X pins σ H s->t σ H Q->wpAny (model X.prog X.w) X.A (spliced (backTo pos (starEach es X.env))) (AP X pins σ Q) X.xe s
def PS (X:Cx) (st:Stmt) (t:TS):Prop :=
 ∀ (pins:List (Addr×Obj)) (s:Shared) (σ:St) (H:Hp) (D:Ends),Inv X pins σ H s->t D σ H->wpAny (model X.prog X.w) X.A (exec st X.env) (SP X pins D) X.xe s
def PSs (X:Cx) (st:List Stmt) (t:TS):Prop :=
 ∀ (pins:List (Addr×Obj)) (s:Shared) (σ:St) (H:Hp) (D:Ends),Inv X pins σ H s->t D σ H->wpAny (model X.prog X.w) X.A (execs st X.env) (SP X pins D) X.xe s
theorem thn {α:Type}{t:Sem α}{Q Q':α->Shared->Prop}{M:Model}{A:Around}{E:Value->Shared->Prop}{s:Shared} (h:wpAny M A t Q E s) (hQ:∀ a s,Q a s->Q' a s):wpAny M A t Q' E s:=ĸ h hQ fun _ _ x=>x
section
variable {X:Cx}
theorem bin {a b:Expr}{ta tb:TE} (ha:PE X a ta) (hb:PE X b tb) {pins:List (Addr×Obj)}{s:Shared}{σ:St}{H:Hp}{R:V->V->Hp->Prop} (I:Inv X pins σ H s) (h:ta σ H fun x H1=>tb σ H1 fun y H2=>R x y H2)
  {α:Type}{Q:α->Shared->Prop}{f:Value->Value->Sem α}
  (hf:∀ v u s2 x y H2,Inv X pins σ H2 s2->RelV x v->RelV y u->R x y H2->wpAny (model X.prog X.w) X.A (f v u) Q X.xe s2) :
  wpAny (model X.prog X.w) X.A (eval a X.env) (fun v s₁=>wpAny (model X.prog X.w) X.A (eval b X.env) (fun u s₂=>wpAny (model X.prog X.w) X.A (f v u) Q X.xe s₂) X.xe s₁) X.xe s:=by
 refine thn (ha pins s σ H _ I h) fun v s1 ⟨x,H1,I1,r1,q1⟩=>?_
 refine thn (hb pins s1 σ H1 _ I1 q1) fun u s2 ⟨y,H2,I2,r2,q2⟩=>?_
 exact hf v u s2 x y H2 I2 r1 r2 q2
def iy (i:Nat):TE:=fun σ H Q=>∃ v,σ[i]?=some (some v)/\Q v H
def tC (v:V):TE:=fun _ H Q=>Q v H
theorem Ot {i:Nat}{x:Str}{pos:Pos} (hN:X.N[i]?=some x) (hv:Vis X.env.scope x) (hd:(x == ("__debug__":Str))=false:=by decide) (hcd:(x == ("__classdict__":Str))=false:=by decide):PE X (.Name x pos) (iy i):=by
 intro pins s σ H Q I h
 obtain⟨v,e,h⟩:=h
 obtain⟨m,hn,hl⟩:=I.loc
 obtain⟨u,r,l⟩:=hl i x v hN e hv
 have fin:EP X pins σ Q u s:=⟨v,H,I,r,h⟩
 rcases l with ⟨hk,hm⟩ | ⟨hk,c,hc,hcell⟩
 ·exact wpAny_Name (wpAny_loadName_local I.ok.kind hk hn hm fin) hd
 ·rcases hk with hk | hk
  ·exact wpAny_Name (wpAny_loadName_cell I.ok.kind hk hc hcell fin) hd
  ·exact wpAny_Name (wpAny_loadName_free I.ok.kind hk hc hcell fin hcd) hd
theorem bT {i j pos}:PE X (.Constant (.int i) j pos) (tC (.int i)):=fun _ _ _ H _ I h=>wpAny_Constant_int ⟨.int i,H,I.tok _,⟨_,rfl⟩,h⟩
theorem RZ {b j pos}:PE X (.Constant (.bool b) j pos) (tC (.bl b)):=fun _ _ _ H _ I h=>Constant_bool ⟨.bl b,H,I,rfl,h⟩
theorem Ox {j pos}:PE X (.Constant .none j pos) (tC .non):=fun _ _ _ H _ I h=>Constant_none ⟨.non,H,I,rfl,h⟩
theorem dO {x j pos}:PE X (.Constant (.str x) j pos) (tC (.str x)):=fun _ _ _ H _ I h=>Calls.Constant_str ⟨.str x,H,I.tok _,⟨_,rfl⟩,h⟩
def Gl (X:Cx) (x:Str):Prop:=X.env.kindOf x=some .globalImplicit
theorem Cg {E:Value->Shared->Prop}{pins:List (Addr×Obj)}{s:Shared}{σ:St}{H:Hp}{x:Str}{u:Value}{pos:Pos}{Q:Value->Shared->Prop} (I:Inv X pins σ H s) (hg:Gl X x) (hm:X.mg x=some u) (h:Q u s)
  (hd:(x == ("__debug__":Str))=false:=by decide):wpAny (model X.prog X.w) X.A (eval (.Name x pos) X.env) Q E s :=
 Calls.Name_function_global I.ok.kind hg (Calls.loadGlobal_global (by rw [I.ok.glob]; exact I.mod.glob.keeps I.bk) hm h) hd
theorem lg {E:Value->Shared->Prop}{pins:List (Addr×Obj)}{s:Shared}{σ:St}{H:Hp}{x:Str}{u:Value}{pos:Pos}{Q:Value->Shared->Prop} (I:Inv X pins σ H s) (hg:Gl X x) (hm:X.mg x=none) (hv:bootBuiltins x=some u) (h:Q u s)
  (hn:x≠"__name__":=by decide) (hd:(x == ("__debug__":Str))=false:=by decide):wpAny (model X.prog X.w) X.A (eval (.Name x pos) X.env) Q E s:=by
 obtain⟨mb,h1,h2⟩:=I.mod.blt
 exact Calls.Name_function_global I.ok.kind hg (Calls.loadGlobal_builtin (by rw [I.ok.glob]; exact I.mod.glob.keeps I.bk) hm (by rw [I.ok.blt]; exact h1.keeps I.bk) ((h2 x hn).trans hv) h) hd
theorem lX {x:Str}{v:V}{u:Value}{pos:Pos} (hg:Gl X x) (hm:X.mg x=none) (hv:bootBuiltins x=some u) (r:RelV v u) (hn:x≠"__name__":=by decide) (hd:(x == ("__debug__":Str))=false:=by decide):PE X (.Name x pos) (tC v) :=
 fun _ _ _ H _ I h=>lg I hg hm hv ⟨v,H,I,r,h⟩ hn hd
variable {a b:Expr}{ta tb:TE}{pos:Pos}
def PC (X:Cx) (op:CmpOp) (a b:Expr) (t:TE):Prop :=
 ∀ (pins:List (Addr×Obj)) (s:Shared) (σ:St) (H:Hp) (Q:VK),Inv X pins σ H s->t σ H Q ->
  wpAny (model X.prog X.w) X.A (eval a X.env) (fun v s₁=>wpAny (model X.prog X.w) X.A (eval b X.env) (fun u s₂=>wpAny (model X.prog X.w) X.A (compareOp op v u) (EP X pins σ Q) X.xe s₂) X.xe s₁) X.xe s
def tB (t:TE):TT:=fun σ H Q=>t σ H fun x H1=>∃ c,x=.bl c/\Q c H1
theorem Ut {op:CmpOp}{t:TE} (h:PC X op a b t) (h1:behindInMarks op b=false:=by first | exact nobehind _ (by decide) (by decide) | rfl):PT X (.Compare a [op] [b] pos) (tB t):=by
 intro pins s σ H Q I hw
 refine wpAny_isTrue_Compare1 (thn (h pins s σ H _ I hw) fun v s1 h1=>thn h1 fun u s2 h2=>thn h2 fun c s3 ⟨x,H1,I1,r1,q1⟩=>?_) h1
 obtain⟨d,rfl,q⟩:=q1
 cases r1
 exact Ė ⟨H1,I1,q⟩
theorem Od {e:Expr}{t:TE} (h:PE X e t) (he:∀ whole,isTrue e X.env whole=(do let v ← whole; standAt e.pos; holding [v] (truthy v)):=by intro _; rfl):PT X e (tB t):=by
 intro pins s σ H Q I hw
 refine isTrue_plain (thn (h pins s σ H _ I hw) fun v s1 ⟨x,H1,I1,r1,q1⟩=>?_) (he _)
 obtain⟨d,rfl,q⟩:=q1
 cases r1
 exact Ė ⟨H1,I1,q⟩
variable {tA tB':TT}{rest:List Expr}
def Ri (t u:TT):TT:=fun σ H Q=>t σ H fun c H1=>if c=true then u σ H1 Q else Q false H1
def tOr (t u:TT):TT:=fun σ H Q=>t σ H fun c H1=>if c=true then Q true H1 else u σ H1 Q
def Uc (t:TT):TT:=fun σ H Q=>t σ H fun c H1=>Q (!c) H1
theorem Kc (ha:PT X a tA):PW X (.BoolOp .And [a] pos) tA:=by
 intro wh pins s σ H Q I h
 refine isTrue_and (thn (ha pins s σ H Q I h) fun c s1 e=>?_)
 cases c with
 | true=>exact isTrue_and_nil e
 | false=>exact e
theorem Ob (ha:PT X a tA):PW X (.BoolOp .Or [a] pos) tA:=by
 intro wh pins s σ H Q I h
 refine isTrue_or (thn (ha pins s σ H Q I h) fun c s1 e=>?_)
 cases c with
 | false=>exact isTrue_or_nil e
 | true=>exact e
theorem Oc (ha:PT X a tA) (hb:PW X (.BoolOp .And (b::rest) pos) tB'):PW X (.BoolOp .And (a::b::rest) pos) (Ri tA tB'):=by
 intro wh pins s σ H Q I h
 refine isTrue_and (thn (ha pins s σ H _ I h) fun c s1 ⟨H1,I1,q1⟩=>?_)
 cases c with
 | true=>exact hb wh pins s1 σ H1 Q I1 q1
 | false=>exact⟨H1,I1,q1⟩
theorem RN (ha:PT X a tA) (hb:PW X (.BoolOp .Or (b::rest) pos) tB'):PW X (.BoolOp .Or (a::b::rest) pos) (tOr tA tB'):=by
 intro wh pins s σ H Q I h
 refine isTrue_or (thn (ha pins s σ H _ I h) fun c s1 ⟨H1,I1,q1⟩=>?_)
 cases c with
 | true=>exact⟨H1,I1,q1⟩
 | false=>exact hb wh pins s1 σ H1 Q I1 q1
theorem Oe (ha:PT X a tA):PT X (.UnaryOp .Not a pos) (Uc tA):=by
 intro pins s σ H Q I h
 exact isTrue_not (ha pins s σ H (fun c H1=>Q (!c) H1) I h)
def Rh (ta tb:TE):TE:=fun σ H Q=>ta σ H fun x H1=>∃ c,x=.bl c/\if c=true then tb σ H1 Q else Q (.bl false) H1
def Ub (ta tb:TE):TE:=fun σ H Q=>ta σ H fun x H1=>∃ c,x=.bl c/\if c=true then Q (.bl true) H1 else tb σ H1 Q
def Q8 (ta:TE):TE:=fun σ H Q=>ta σ H fun x H1=>∃ c,x=.bl c/\Q (.bl (!c)) H1
theorem Ov {op}{t:TE} (h:PE X a t):PE X (.BoolOp op [a] pos) t:=fun pins s σ H Q I hw=>BoolOp_one (h pins s σ H Q I hw)
theorem Oz (ha:PE X a ta) (hb:PE X (.BoolOp .And (b::rest) pos) tb):PE X (.BoolOp .And (a::b::rest) pos) (Rh ta tb):=by
 intro pins s σ H Q I h
 refine BoolOp_and (thn (ha pins s σ H _ I h) fun v s1 ⟨x,H1,I1,r1,q1⟩=>?_)
 obtain⟨c,rfl,q1⟩:=q1
 cases r1
 refine Ė ?_
 cases c with
 | true=>exact hb pins s1 σ H1 Q I1 q1
 | false=>exact⟨.bl false,H1,I1,rfl,q1⟩
theorem RW (ha:PE X a ta) (hb:PE X (.BoolOp .Or (b::rest) pos) tb):PE X (.BoolOp .Or (a::b::rest) pos) (Ub ta tb):=by
 intro pins s σ H Q I h
 refine BoolOp_or (thn (ha pins s σ H _ I h) fun v s1 ⟨x,H1,I1,r1,q1⟩=>?_)
 obtain⟨c,rfl,q1⟩:=q1
 cases r1
 refine Ė ?_
 cases c with
 | false=>exact hb pins s1 σ H1 Q I1 q1
 | true=>exact⟨.bl true,H1,I1,rfl,q1⟩
theorem Ow (ha:PE X a ta):PE X (.UnaryOp .Not a pos) (Q8 ta):=by
 intro pins s σ H Q I h
 refine UnaryOp_ (thn (ha pins s σ H _ I h) fun v s1 ⟨x,H1,I1,r1,q1⟩=>?_)
 obtain⟨c,rfl,q1⟩:=q1
 cases r1
 exact not_of (Ė ⟨.bl (!c),H1,I1,rfl,q1⟩)
def tIf (t:TT) (ta tb:TE):TE:=fun σ H Q=>t σ H fun c H1=>if c=true then ta σ H1 Q else tb σ H1 Q
theorem G6 {c:Expr} (hc:PT X c tA) (ha:PE X a ta) (hb:PE X b tb):PE X (.IfExp c a b pos) (tIf tA ta tb):=by
 intro pins s σ H Q I h
 refine wpAny_IfExp (thn (hc pins s σ H _ I h) fun d s1 ⟨H1,I1,q1⟩=>?_)
 cases d with
 | true=>exact ha pins s1 σ H1 Q I1 q1
 | false=>exact hb pins s1 σ H1 Q I1 q1
end
def SqL (K:Ú) (H:Hp) (a:Addr) (xs:List V):Prop :=
 Rd H a (.lst xs) ∨
  ∃ (o:Obj) (its:Array Value) (n:Nat),K.lookup a=some o/\o.cls=.type "list"/\o.dict=none/\o.data=.seq its n/\its.size<=sizeLine/\Vals xs its.toList
def SqT (K:Ú) (H:Hp) (a:Addr) (xs:List V):Prop :=
 Rd H a (.tup xs) ∨
  ∃ (o:Obj) (its:Array Value) (n:Nat),K.lookup a=some o/\o.cls=.type "tuple"/\o.data=.seq its n/\its.size<=sizeLine/\Vals xs its.toList
def Vb:Value->Option V
 | .none=>some .non
 | .bool b=>some (.bl b)
 | .int i _=>some (.int i)
 | .str x _=>some (.str x)
 | .bytes b _=>some (.byt b)
 | .float b _=>some (.flt b)
 | .ref a=>some (.ref a)
 | .type n=>some (.ty n)
 | _=>none
theorem RelV.abs {x:V}{u:Value} (r:RelV x u):Vb u=some x:=by
 cases x with
 | non=>cases r; rfl
 | bl _=>cases r; rfl
 | int _=>obtain⟨t,rfl⟩:=r; rfl
 | str _=>obtain⟨t,rfl⟩:=r; rfl
 | byt _=>obtain⟨t,rfl⟩:=r; rfl
 | flt _=>obtain⟨t,rfl⟩:=r; rfl
 | ref _=>cases r; rfl
 | ty _=>cases r; rfl
theorem RelV.inj {x y:V}{u:Value} (r:RelV x u) (q:RelV y u):x=y:=æ (r.abs.symm.trans q.abs)
theorem Vals.inj:∀ {xs ys:List V}{us:List Value},Vals xs us->Vals ys us->xs=ys
 | _,_,_,.nil,.nil=>rfl
 | _,_,_,.cons r t,.cons r' t'=>by rw [r.inj r',Vals.inj t t']
section
variable {X:Cx}{pins:List (Addr×Obj)}{σ:St}{H:Hp}{s:Shared}{a:Addr}{xs ys:List V}
theorem SqL.of {K:Ú} (h:H a=some (.lst xs)):SqL K H a xs:=.inl (.inl h)
theorem SqT.of {K:Ú} (h:H a=some (.tup xs)):SqT K H a xs:=.inl (.inl h)
theorem Inv.list (I:Inv X pins σ H s) (h:SqL X.K H a xs):∃ its:List Value,Vals xs its/\PlainL s.heap a its.toArray/\xs.length<=sizeLine:=by
 rcases h with h | ⟨o,its,n,hk,hc,hd,hs,hz,r⟩
 ·obtain⟨z,its,n,r,e⟩:=h.ok I.hok
  exact⟨its,r,⟨_,n,e,rfl,rfl,rfl⟩,z⟩
 ·refine⟨its.toList,r,⟨o,n,I.kIn a o hk,hc,hd,by simpa using hs⟩,?_⟩
  have e:=r.length
  simp only [Ķ] at e
  omega
theorem Inv.tuple (I:Inv X pins σ H s) (h:SqT X.K H a xs):∃ its:List Value,Vals xs its/\IsTup s.heap a its.toArray/\xs.length<=sizeLine:=by
 rcases h with h | ⟨o,its,n,hk,hc,hs,hz,r⟩
 ·obtain⟨z,its,r,p⟩:=h.ok I.hok
  exact⟨its,r,p,z⟩
 ·refine⟨its.toList,r,⟨o,I.kIn a o hk,hc,n,by simpa using hs⟩,?_⟩
  have e:=r.length
  simp only [Ķ] at e
  omega
theorem Inv.Ie (I:Inv X pins σ H s) (h:SqL X.K H a xs) (h':SqL X.K H a ys):xs=ys:=by
 obtain⟨its,r,⟨o,n,e,_,_,d⟩,_⟩:=I.list h
 obtain⟨its',r',⟨o',n',e',_,_,d'⟩,_⟩:=I.list h'
 rw [e] at e'; cases e'
 rw [d] at d'
 injection d' with d1 _
 have:its=its':=by simpa using congrArg Array.toList d1
 subst this
 exact r.inj r'
theorem Inv.Dm (I:Inv X pins σ H s) (h:SqT X.K H a xs) (h':SqT X.K H a ys):xs=ys:=by
 obtain⟨its,r,⟨o,e,_,n,d⟩,_⟩:=I.tuple h
 obtain⟨its',r',⟨o',e',_,n',d'⟩,_⟩:=I.tuple h'
 rw [e] at e'; cases e'
 rw [d] at d'
 injection d' with d1 _
 have:its=its':=by simpa using congrArg Array.toList d1
 subst this
 exact r.inj r'
end
abbrev Cx.wish (X:Cx) (E:Value->Shared->Prop):Cx:={ X with xe:=E }
abbrev Cx.nox (X:Cx):Cx:=X.wish fun _ _=>False
theorem Cx.Ok.wish {X:Cx} (ok:X.Ok) (E:Value->Shared->Prop):(X.wish E).Ok :=
 ⟨ok.mod,ok.kind,ok.glob,ok.blt,ok.above,ok.inj,ok.has,ok.cab,ok.hd,ok.frames,ok.stk,ok.exf,ok.bs,ok.bsz,ok.noex,ok.exfs,ok.mK,ok.frf,ok.sof⟩
theorem Cx.Ok.jc {X:Cx}{E:Value->Shared->Prop} (ok:(X.wish E).Ok):X.Ok :=
 ⟨ok.mod,ok.kind,ok.glob,ok.blt,ok.above,ok.inj,ok.has,ok.cab,ok.hd,ok.frames,ok.stk,ok.exf,ok.bs,ok.bsz,ok.noex,ok.exfs,ok.mK,ok.frf,ok.sof⟩
section
variable {X:Cx}{pins:List (Addr×Obj)}{σ:St}{H:Hp}{s:Shared}{E:Value->Shared->Prop}
theorem Inv.wish (I:Inv X pins σ H s) (E:Value->Shared->Prop):Inv (X.wish E) pins σ H s:=⟨I.ok.wish E,I.os,I.bare,I.base,I.loc,I.cell,I.free,I.freeC,I.pin,I.hok,I.len⟩
theorem Inv.jc (I:Inv (X.wish E) pins σ H s):Inv X pins σ H s:=⟨I.ok.jc,I.os,I.bare,I.base,I.loc,I.cell,I.free,I.freeC,I.pin,I.hok,I.len⟩
theorem SP.jc {D:Ends}{f:Flow}{s':Shared} (h:SP (X.wish E) pins D f s'):SP X pins D f s':=by
 cases f with
 | next=>obtain⟨σ',H',I,q⟩:=h; exact⟨σ',H',I.jc,q⟩
 | brk=>obtain⟨σ',H',I,q⟩:=h; exact⟨σ',H',I.jc,q⟩
 | cont=>obtain⟨σ',H',I,q⟩:=h; exact⟨σ',H',I.jc,q⟩
 | ret u=>obtain⟨v,σ',H',I,r,q⟩:=h; exact⟨v,σ',H',I.jc,r,q⟩
theorem PSs.nox {st:List Stmt}{t:TS} (h:PSs X.nox st t):PSs X st t:=fun pins s σ H D I hw =>
 ĸ (h pins s σ H D (I.wish _) hw) (fun _ _ q=>q.jc) fun _ _ z=>ń z
end
section
variable {X:Cx}{st:Stmt}{rest:List Stmt}{t u:TS}{e:Expr}{te:TE}{pos:Pos}
def Ra:TS:=fun D σ H=>D.nx σ H
def QZ (t u:TS):TS:=fun D σ H=>t { D with nx:=u D } σ H
theorem pU:PSs X [] Ra:=fun _ _ σ H _ I h=>wpAny_execs_nil ⟨σ,H,I,h⟩
theorem qC (h1:PS X st t) (h2:PSs X rest u):PSs X (st::rest) (QZ t u):=by
 intro pins s σ H D I h
 refine wpAny_execs_cons (thn (h1 pins s σ H { D with nx:=u D } I h) fun f s1 q=>?_)
 cases f with
 | next =>
  obtain⟨σ',H',I',q⟩:=q
  exact h2 pins s1 σ' H' D I' q
 | ret v=>exact q
 | brk=>exact q
 | cont=>exact q
theorem fZ (h1:PS X st t):PSs X [st] t:=by
 intro pins s σ H D I h
 refine wpAny_execs_cons (thn (h1 pins s σ H D I h) fun f s1 q=>?_)
 cases f with
 | next=>exact wpAny_execs_nil q
 | ret v=>exact q
 | brk=>exact q
 | cont=>exact q
theorem Inv.quiet {pins:List (Addr×Obj)}{σ:St}{H:Hp}{s:Shared} (I:Inv X pins σ H s):interactive X.env=false:=by simp [interactive,I.ok.kind]
def qp (te:TE):TS:=fun D σ H=>te σ H fun _ H1=>D.nx σ H1
theorem bV (he:PE X e te) (hs:swapsWith e none pos.line X.env=pure false:=by rfl):PS X (.Expr e pos) (qp te):=by
 intro pins s σ H D I h
 exact wpAny_Expr_any (thn (he pins s σ H _ I h) fun v s1 ⟨x,H1,I1,r1,q1⟩=>⟨σ,H1,I1,q1⟩) I.quiet hs
def Ua (te:TE):TS:=fun D σ H=>te σ H D.rt
theorem kE (he:PE X e te):PS X (.Return (some e) pos) (Ua te):=by
 intro pins s σ H D I h
 exact wpAny_Return_some (thn (he pins s σ H _ I h) fun v s1 ⟨x,H1,I1,r1,q1⟩=>⟨x,σ,H1,I1,r1,q1⟩)
def Ue (c:TT) (t u:TS):TS:=fun D σ H=>c σ H fun b H1=>if b=true then t D σ H1 else u D σ H1
theorem Bw {c:Expr}{a b:List Stmt}{tc:TT} (hc:PT X c tc) (ha:PSs X a t) (hb:PSs X b u):PS X (.If c a b pos) (Ue tc t u):=by
 intro pins s σ H D I h
 refine wpAny_If (thn (hc pins s σ H _ I h) fun d s1 ⟨H1,I1,q1⟩=>?_)
 cases d with
 | true=>exact ha pins s1 σ H1 D I1 q1
 | false=>exact hb pins s1 σ H1 D I1 q1
def Nz:TS:=fun _ _ _=>False
theorem GR:PS X st Nz:=fun _ _ _ _ _ _ h=>h.elim
end
abbrev TG:=V->St->Hp->(St->Hp->Prop)->Prop
abbrev TGs:=List V->St->Hp->(St->Hp->Prop)->Prop
def PG (X:Cx) (target:Expr) (t:TG):Prop :=
 ∀ (pins:List (Addr×Obj)) (s:Shared) (σ:St) (H:Hp) (v:V) (u:Value) (Q:St->Hp->Prop),Inv X pins σ H s->RelV v u->t v σ H Q ->
  wpAny (model X.prog X.w) X.A (assign target X.env u) (fun _ s'=>∃ σ' H',Inv X pins σ' H' s'/\Q σ' H') X.xe s
def PGs (X:Cx) (ts:List Expr) (t:TGs):Prop :=
 ∀ (pins:List (Addr×Obj)) (s:Shared) (σ:St) (H:Hp) (vs:List V) (us:List Value) (Q:St->Hp->Prop),Inv X pins σ H s->Vals vs us->t vs σ H Q ->
  wpAny (model X.prog X.w) X.A (assignInOrder ((assignEach ts X.env).map (·.2)) us) (fun _ s'=>∃ σ' H',Inv X pins σ' H' s'/\Q σ' H') X.xe s
section
variable {X:Cx}{pos:Pos}
def iV (i:Nat):TG:=fun v σ H Q=>Q (σ.set i (some v)) H
theorem BK {i:Nat}{x:Str} (hN:X.N.Nodup) (hi:X.N[i]?=some x) (hx:Loc X.env.scope x) (hf:X.fn x=true\/X.env.scope.names.lookup x=some .local:=by first | exact .inl rfl | exact .inr rfl | assumption):PG X (.Name x pos) (iV i):=by
 intro pins s σ H v u Q I r h
 exact wpAny_assign_Name (wQ I hN hi hx r (fun s' I'=>⟨_,H,I',h⟩) hf)
def U7:TGs:=fun vs σ H Q=>vs=[]/\Q σ H
def S9 (t:TG) (u:TGs):TGs:=fun vs σ H Q=>∃ v r,vs=v::r/\t v σ H fun σ' H'=>u r σ' H' Q
theorem Km:PGs X [] U7:=by
 intro pins s σ H vs us Q I r h
 obtain⟨e,h⟩:=h
 subst e
 cases r
 exact assignInOrder_nil ⟨σ,H,I,h⟩
theorem G3 {e:Expr}{es:List Expr}{t:TG}{u:TGs} (h1:PG X e t) (h2:PGs X es u)
  (hs:(assignEach (e::es) X.env).map (·.2)=assign e X.env::(assignEach es X.env).map (·.2):=by rfl):PGs X (e::es) (S9 t u):=by
 intro pins s σ H vs us Q I r h
 obtain⟨v,vr,e1,h⟩:=h
 subst e1
 cases r with
 | cons r rr =>
  rw [hs]
  refine assignInOrder_cons (thn (h1 pins s σ H _ _ _ I r h) fun _ s1 ⟨σ1,H1,I1,q1⟩=>?_)
  exact h2 pins s1 σ1 H1 _ _ Q I1 rr q1
def U6 (K:Ú) (n:Nat) (t:TGs):TG:=fun v σ H Q=>∃ a xs,v=.ref a/\SqT K H a xs/\xs.length=n/\t xs σ H Q
theorem Oo {es:List Expr}{k:Nat}{t:TGs}{n:Nat} (hc:X.calm=true) (h:PGs X es t)
  (hn:(assignEach es X.env).length=n:=by rfl) (hst:(assignEach es X.env).findIdx? (·.1)=none:=by rfl):PG X (.Tuple es k pos) (U6 X.K n t):=by
 intro pins s σ H v u Q I r hw
 obtain⟨a,xs,e1,hq,hl,hw⟩:=hw
 subst e1
 cases r
 obtain⟨its,rv,ht,hz⟩:=I.tuple hq
 refine assign_Tuple_tuple (I.ok.hd hc) ht (by simp [hn,← hl,rv.length]) hst fun h' hx=>?_
 have I1:Inv X pins σ H { s with heap:=h' }:=I.kept (t':=s.toks) fun b o e=>hx b o (ß (Ï e)) e
 exact h pins _ σ H xs _ Q I1 (by simpa using rv) hw
def qu (te:TE) (g:TG):TS:=fun D σ H=>te σ H fun x H1=>g x σ H1 D.nx
theorem Oi {tg e:Expr}{te:TE}{g:TG} (he:PE X e te) (hg:PG X tg g) (hs:swapsWithSole [tg] e pos.line X.env=pure false:=by rfl) (hw:swappedStores [tg] e X.env=pure none:=by rfl)
  (h1:(assignEach [tg] X.env).map (·.2)=[assign tg X.env]:=by rfl):PS X (.Assign [tg] e pos) (qu te g):=by
 intro pins s σ H D I h
 refine wpAny_Assign_stores (thn (he pins s σ H _ I h) fun v s1 ⟨x,H1,I1,r1,q1⟩=>?_) hs hw
 rw [h1]
 exact thn (hg pins s1 σ H1 x v _ I1 r1 q1) fun _ s2 q=>q
theorem bY {i:Nat}{x:Str}{e:Expr}{te:TE}{pos':Pos} (hN:X.N.Nodup) (hi:X.N[i]?=some x) (hx:Loc X.env.scope x) (he:PE X e te) (hs:swapsWith e (some (.Name x pos')) pos.line X.env=pure false:=by rfl) (hf:X.fn x=true\/X.env.scope.names.lookup x=some .local:=by first | exact .inl rfl | exact .inr rfl | assumption) :
  PS X (.Assign [.Name x pos'] e pos) (qu te (iV i)):=by
 intro pins s σ H D I h
 refine wpAny_Assign_Name (thn (he pins s σ H _ I h) fun v s1 ⟨y,H1,I1,r1,q1⟩=>?_) hs
 exact wQ I1 hN hi hx r1 (fun s2 I2=>⟨_,H1,I2,q1⟩) hf
end
section
variable {X:Cx}{pos:Pos}
def Ny (c:TT) (tb:TS):TS:=fun D σ H=>∃ W:Nat->St->Hp->Prop,(∃ m,W m σ H)/\∀ m σ H,W m σ H ->
 c σ H fun b H1=>if b=true then ∃ N:St->Hp->Prop,(∀ σ' H',N σ' H'->∃ m',m'<m/\W m' σ' H')/\tb { D with nx:=N,ct:=N,bk:=D.nx } σ H1 else D.nx σ H1
theorem GQ {c:Expr}{body:List Stmt}{tc:TT}{tb:TS} (hp:PassesOwn (model X.prog X.w) X.A X.env X.xe) (hc:PT X c tc) (hb:PSs X body tb):PS X (.While c body [] pos) (Ny tc tb):=by
 intro pins s σ H D I h
 obtain⟨W,⟨m0,w0⟩,turn⟩:=h
 refine wpAny_While (codeAny_whileLoop (fun n s'=>∃ σ' H',Inv X pins σ' H' s'/\W n σ' H') ?_ m0 ⟨σ,H,I,w0⟩)
 rintro n s1 ⟨σ1,H1,I1,w1⟩
 refine š hp (thn (hc pins s1 σ1 H1 _ I1 (turn n σ1 H1 w1)) fun b s2 ⟨H2,I2,q2⟩=>?_)
 cases b with
 | true =>
  obtain⟨N,hN,q2⟩:=q2
  rw [if_pos rfl]
  refine š hp (thn (hb pins s2 σ1 H2 _ I2 q2) fun f s3 q3=>?_)
  cases f with
  | next =>
   obtain⟨σ3,H3,I3,n3⟩:=q3
   obtain⟨m',hm,w3⟩:=hN σ3 H3 n3
   exact⟨m',hm,σ3,H3,I3,w3⟩
  | cont =>
   obtain⟨σ3,H3,I3,n3⟩:=q3
   obtain⟨m',hm,w3⟩:=hN σ3 H3 n3
   exact⟨m',hm,σ3,H3,I3,w3⟩
  | brk=>exact q3
  | ret v=>exact q3
 | false =>
  rw [if_neg Ö]
  exact wpAny_execs_nil ⟨σ1,H2,I2,q2⟩
end
structure It where
 go:Nat->Hp->Prop
 yld:Nat->Hp->V->Hp->Prop
 stop:Nat->Hp->Prop
def rW (X:Cx) (pins:List (Addr×Obj)) (H:Hp) (b:Addr):Prop :=
 H b=none/\b≠X.env.locals/\b∉X.fs/\(b∈X.ex\/X.s₀.heap.objs.size<=b)/\(∀ x c,X.env.cells.lookup x=some c->c≠b)/\∀ p∈X.pn++pins,p.1≠b
theorem Inv.Qp {X:Cx}{pins:List (Addr×Obj)}{σ:St}{H H':Hp}{s:Shared}{b:Addr} (I:Inv X pins σ H s) (hb:s.heap.objs.size<=b) (hn:H' b=none):rW X pins H' b:=by
 refine⟨hn,Nat.ne_of_gt (è I.lt hb),I.Uw hb,.inr (þ I.sz hb),fun x c e z=>?_,fun p hp z=>?_⟩
 ·obtain⟨v,q⟩:=I.cell x c e
  exact absurd (è q.lt (by rw [z]; exact hb)) (ă _)
 ·exact absurd (è (Ï (I.pin p hp).1) (by rw [z]; exact hb)) (ă _)
structure TurnG (Cm:Cx->Prop) (P:Program) (w:World) (K:Ú) (tg:Expr) (J:It) (fp:List Addr) (it:Addr) (tn:Nat->Heap->Prop):Prop where
 mem:it∈fp
 obj:∀ i h,tn i h->∀ b∈fp,∃ o,h.get? b=some o/\∀ v,o.data≠.cell v
 keep:∀ i h h',tn i h->(∀ b∈fp,∀ o,h.get? b=some o->h'.get? b=some o)->tn i h'
 item:∀ (X:Cx),X.prog=P->X.w=w->X.K=K->Cm X->∀ (i:Nat) (pins:List (Addr×Obj)) (s:Shared) (σ:St) (H:Hp) (E:Value->Shared->Prop),Inv X pins σ H s->(∀ b∈fp,rW X pins H b)->tn i s.heap->J.go i H ->
  wpAny (model P w) X.A (pyNext (.ref it)) (fun r s1=>∃ u,r=some u /\
   wpAny (model P w) X.A (letOwnedTupleGo tg (.ref it) u) (fun _ s2=>∃ x H',Inv X pins σ H' s2/\RelV x u/\J.yld i H x H'/\tn (i+1) s2.heap/\∀ b∈fp,H' b=none) E s1) E s
 done:∀ (X:Cx),X.prog=P->X.w=w->X.K=K->Cm X->∀ (i:Nat) (pins:List (Addr×Obj)) (s:Shared) (σ:St) (H:Hp) (E:Value->Shared->Prop),Inv X pins σ H s->(∀ b∈fp,rW X pins H b)->tn i s.heap->J.stop i H ->
  wpAny (model P w) X.A (pyNext (.ref it)) (fun r s1=>r=none/\Inv X pins σ H s1) E s
 self:∀ (A:Around) (i:Nat) (s:Shared) (Q:Value->Shared->Prop) (E:Value->Shared->Prop),tn i s.heap->Q (.ref it) s->wpAny (model P w) A (pyIter (.ref it)) Q E s
abbrev Turn (P:Program) (w:World) (K:Ú) (tg:Expr) (J:It) (fp:List Addr) (it:Addr) (tn:Nat->Heap->Prop):Prop:=TurnG (fun X=>X.calm=true) P w K tg J fp it tn
abbrev TI:=St->Hp->(It->Hp->Prop)->Prop
def T3 (Cm:Cx->Prop) (X:Cx) (pins:List (Addr×Obj)) (σ:St) (tg:Expr) (R:It->Hp->Prop) (itv:Value) (s2:Shared):Prop :=
 ∃ (it:Addr) (fp:List Addr) (tn:Nat->Heap->Prop) (J:It) (H':Hp),itv=.ref it/\Inv X pins σ H' s2/\TurnG Cm X.prog X.w X.K tg J fp it tn/\tn 0 s2.heap/\(∀ b∈fp,rW X pins H' b)/\R J H'
def PIG (Cm:Cx->Prop) (X:Cx) (tg iter:Expr) (wi:TI):Prop :=
 ∀ (pins:List (Addr×Obj)) (s:Shared) (σ:St) (H:Hp) (R:It->Hp->Prop),Inv X pins σ H s->wi σ H R ->
  wpAny (model X.prog X.w) X.A (eval iter X.env) (fun v s1=>wpAny (model X.prog X.w) X.A (pyIter v) (T3 Cm X pins σ tg R) X.xe s1) X.xe s
abbrev PIE (X:Cx):=T3 (fun X=>X.calm=true) X
abbrev PI (X:Cx):=PIG (fun X=>X.calm=true) X
theorem IK {M:Model}{A:Around}{E:Value->Shared->Prop}{s:Shared}{tg:Expr}{it:Addr}{u:Value}{o:Obj}{n:String}{vs:Array Value}{Q:Unit->Shared->Prop} (ho:s.heap.get? it=some o) (hc:o.cls=.type n) (hd:o.data=.fields vs)
  (hn:["enumerate","zip","dict_itemiterator","dict_reverseitemiterator","odict_iterator","itertools.zip_longest","itertools.pairwise"].contains n=false) (hQ:Q () s):wpAny M A (letOwnedTupleGo tg (.ref it) u) Q E s:=by
 unfold letOwnedTupleGo
 cases tg <;> first
  | exact Ò hQ
  | (cases u <;> first
    | exact Ò hQ
    | (refine Ä (wpAny_load ho ?_)
       rw [hc,hd]
       show wpAny M A (if (["enumerate","zip","dict_itemiterator","dict_reverseitemiterator","odict_iterator","itertools.zip_longest","itertools.pairwise"].contains n&&vs[0]? == some (rawInt _))=true then _ else _) Q E s
       rw [if_neg (by intro h; rw [hn,Bool.false_and] at h; cases h)]
       exact Ò hQ))
def Itl (K:Ú) (a:Addr):It :=
 ⟨fun i H=>∃ xs x,SqL K H a xs/\xs[i]?=some x,fun i H x H'=>H'=H/\∀ xs,SqL K H a xs->xs[i]?=some x,fun i H=>∃ xs,SqL K H a xs/\xs.length<=i⟩
def Itt (K:Ú) (a:Addr):It :=
 ⟨fun i H=>∃ xs x,SqT K H a xs/\xs[i]?=some x,fun i H x H'=>H'=H/\∀ xs,SqT K H a xs->xs[i]?=some x,fun i H=>∃ xs,SqT K H a xs/\xs.length<=i⟩
def Itr (lo:Int) (n:Nat):It:=⟨fun i _=>i<n,fun i H x H'=>H'=H/\x=.int (lo+i),fun i _=>n<=i⟩
theorem Dk {P:Program}{w:World}{K:Ú}{tg:Expr} (a it:Addr):Turn P w K tg (Itl K a) [it] it (fun i h=>h.IsListIter it a i) where
 mem:=by simp
 obj:=fun i h st b hb=>by
  have e:b=it:=by simpa using hb
  subst e
  obtain⟨o,e,c,d⟩:=st
  exact⟨o,e,fun v z=>by rw [d] at z; cases z⟩
 keep:=fun i h h' st k=>st.at fun o e=>k it (by simp) o e
 item:=by
  intro X hP hw hK hc i pins s σ H E I hf st hg
  subst hP hw hK
  obtain⟨xs,x,hq,hx⟩:=hg
  obtain⟨its,rv,p,hz⟩:=I.list hq
  obtain⟨u,hu,ru⟩:=rv.get hx
  obtain⟨f0,f1,f2,f3,f4,f5⟩:=hf it (by simp)
  refine wpAny_pyNext_list_item st p.isList (x:=u) (by simpa using hu) fun h' st' sb=>?_
  have I1:Inv X pins σ H { s with heap:=h' }:=I.turned (t':=s.toks) (fun b o hb e=>(sb.2 b hb).trans e) f0 f1 f3 f4 f5
  obtain⟨o,e,c,d⟩:=id st'
  exact⟨u,rfl,IK (s:={ s with heap:=h' }) e c d (by decide) ⟨x,H,I1,ru,⟨rfl,fun ys hy=>by rw [I.Ie hy hq]; exact hx⟩,st',fun b hb=>(hf b hb).1⟩⟩
 done:=by
  intro X hP hw hK hc i pins s σ H E I hf st hg
  subst hP hw hK
  obtain⟨xs,hq,hx⟩:=hg
  obtain⟨its,rv,p,hz⟩:=I.list hq
  obtain⟨f0,f1,f2,f3,f4,f5⟩:=hf it (by simp)
  have hl:=rv.length
  exact wpAny_pyNext_list_end (I.ok.hd hc) st p.isList (by simp; omega) fun h' eb=>⟨rfl,I.turned (t':=s.toks) (fun b o hb e=>eb b o hb e) f0 f1 f3 f4 f5⟩
 self:=fun _ _ _ _ _ st h=>wpAny_pyIter_listiter st h
theorem yS {P:Program}{w:World}{K:Ú}{tg:Expr} (a it:Addr):Turn P w K tg (Itt K a) [it] it (fun i h=>h.IsTupleIter it a i) where
 mem:=by simp
 obj:=fun i h st b hb=>by
  have e:b=it:=by simpa using hb
  subst e
  obtain⟨o,e,c,d⟩:=st
  exact⟨o,e,fun v z=>by rw [d] at z; cases z⟩
 keep:=fun i h h' st k=>st.at fun o e=>k it (by simp) o e
 item:=by
  intro X hP hw hK hc i pins s σ H E I hf st hg
  subst hP hw hK
  obtain⟨xs,x,hq,hx⟩:=hg
  obtain⟨its,rv,p,hz⟩:=I.tuple hq
  obtain⟨u,hu,ru⟩:=rv.get hx
  obtain⟨f0,f1,f2,f3,f4,f5⟩:=hf it (by simp)
  refine wpAny_pyNext_tuple_item st (show s.heap.IsTuple a its.toArray from p) (x:=u) (by simpa using hu) fun h' st' sb=>?_
  have I1:Inv X pins σ H { s with heap:=h' }:=I.turned (t':=s.toks) (fun b o hb e=>(sb.2 b hb).trans e) f0 f1 f3 f4 f5
  obtain⟨o,e,c,d⟩:=id st'
  exact⟨u,rfl,IK (s:={ s with heap:=h' }) e c d (by decide) ⟨x,H,I1,ru,⟨rfl,fun ys hy=>by rw [I.Dm hy hq]; exact hx⟩,st',fun b hb=>(hf b hb).1⟩⟩
 done:=by
  intro X hP hw hK hc i pins s σ H E I hf st hg
  subst hP hw hK
  obtain⟨xs,hq,hx⟩:=hg
  obtain⟨its,rv,p,hz⟩:=I.tuple hq
  obtain⟨f0,f1,f2,f3,f4,f5⟩:=hf it (by simp)
  have hl:=rv.length
  exact wpAny_pyNext_tuple_end (I.ok.hd hc) st (show s.heap.IsTuple a its.toArray from p) (by simp; omega) fun h' eb=>⟨rfl,I.turned (t':=s.toks) (fun b o hb e=>eb b o hb e) f0 f1 f3 f4 f5⟩
 self:=fun _ _ _ _ _ st h=>wpAny_pyIter_tupleiter st h
theorem yU {P:Program}{w:World}{K:Ú}{tg:Expr} (it:Addr) (lo:Int) (n:Nat):Turn P w K tg (Itr lo n) [it] it (fun i h=>IsRangeIter h it (lo+(i:Nat) * 1) ((n:Int) - (i:Nat)) 1) where
 mem:=by simp
 obj:=fun i h st b hb=>by
  have e:b=it:=by simpa using hb
  subst e
  exact⟨_,st,fun v z=>by
   have z':Data.fields _=Data.cell v:=z
   cases z'⟩
 keep:=fun i h h' st k=>k it (by simp) _ st
 item:=by
  intro X hP hw hK hc i pins s σ H E I hf st hg
  subst hP hw hK
  obtain⟨f0,f1,f2,f3,f4,f5⟩:=hf it (by simp)
  have W:=Walks.range (prog:=X.prog) (w:=X.w) (I.ok.hd hc) it lo 1 n
  refine W.item i s _ _ hg st fun v h' tk hv st' kk=>?_
  obtain⟨t,rfl⟩:=hv
  have I1:Inv X pins σ H { s with heap:=h',toks:=tk }:=I.turned (fun b o hb e=>kk b o (by simpa using hb) e) f0 f1 f3 f4 f5
  refine⟨_,rfl,IK (s:={ s with heap:=h',toks:=tk }) (n:="range_iterator") st' rfl rfl (by decide) ⟨.int (lo+i),H,I1,⟨t,?_⟩,⟨rfl,rfl⟩,st',fun b hb=>(hf b hb).1⟩⟩
  rw [Int.mul_one]
 done:=by
  intro X hP hw hK hc i pins s σ H E I hf st hg
  subst hP hw hK
  obtain⟨f0,f1,f2,f3,f4,f5⟩:=hf it (by simp)
  exact wpAny_pyNext_range_end (I.ok.hd hc) st (by have:n<=i:=hg; omega) fun h' eb=>⟨rfl,I.turned (t':=s.toks) (fun b o hb e=>eb b o hb e) f0 f1 f3 f4 f5⟩
 self:=fun _ _ _ _ _ st h=>wpAny_pyIter_rangeiter st h
section
variable {X:Cx}{tg:Expr}
theorem w6 {pins:List (Addr×Obj)}{σ:St}{H:Hp}{s:Shared}{R:It->Hp->Prop}{E:Value->Shared->Prop}{lo hi:Int}{t u v:Tok}{tk:Nat} (I:Inv X pins σ H s) (h1:-(2 ^ 62)<=lo) (h2:lo<2 ^ 62) (h3:-(2 ^ 62)<=hi) (h4:hi<2 ^ 62)
  (q:R (Itr lo (hi - lo).toNat) H):wpAny (model X.prog X.w) X.A (pyIter (.ref s.heap.objs.size)) (PIE X pins σ tg R) E { s with heap:=s.heap.push { cls:=.type "range",data:=.fields #[.int lo t,.int hi u,.int 1 v] },toks:=tk }:=by
 refine wpAny_pyIter_range (IsRange.new ..) (small_one h1 h2 h3 h4) ?_
 have I1:Inv X pins σ H { s with heap:=s.heap.push { cls:=.type "range",data:=.fields #[.int lo t,.int hi u,.int 1 v] },toks:=tk }:=I.kept fun b o e=>Ð _ e
 refine⟨(s.heap.push { cls:=.type "range",data:=.fields #[.int lo t,.int hi u,.int 1 v] }).objs.size,[(s.heap.push { cls:=.type "range",data:=.fields #[.int lo t,.int hi u,.int 1 v] }).objs.size],_,_,H,rfl,
  I1.kept (t':=tk) fun b o e=>Ð _ e,yU _ lo (hi - lo).toNat,?_,fun b hb=>?_,q⟩
 ·have e1:lo+((0:Nat):Int) * 1=lo:=by simp
  have e2:(((hi - lo).toNat:Nat):Int) - ((0:Nat):Int)=Builtin.Range.rangeSize lo hi 1:=by rw [rangeSize_one]; split <;> omega
  show IsRangeIter _ _ (lo+((0:Nat):Int) * 1) ((((hi - lo).toNat:Nat):Int) - ((0:Nat):Int)) 1
  rw [e1,e2]
  exact à _ rfl
 ·have e:b=(s.heap.push { cls:=.type "range",data:=.fields #[.int lo t,.int hi u,.int 1 v] }).objs.size:=by simpa using hb
  subst e
  exact I1.Qp (Í _) (I1.hok.fresh (Í _))
def SX (ta:TA):TI:=fun σ H R=>ta σ H fun vs H1=>∃ j:Int,vs=[.int j]/\-(2 ^ 62)<=j/\j<2 ^ 62/\R (Itr 0 j.toNat) H1
def SQ (ta:TA):TI:=fun σ H R=>ta σ H fun vs H1=>∃ i j:Int,vs=[.int i,.int j]/\(-(2 ^ 62)<=i/\i<2 ^ 62/\-(2 ^ 62)<=j/\j<2 ^ 62)/\R (Itr i (j - i).toNat) H1
theorem Dv {a:Expr}{ta:TA}{p pos:Pos} (hg:Gl X "range") (hm:X.mg "range"=none) (ha:PA X [a] ta) (hs:starEach [a] X.env=[(false,eval a X.env)]:=by rfl):PI X tg (.Call (.Name "range" p) [a] [] pos) (SX ta):=by
 intro pins s σ H R I h
 refine Call_ (lg I hg hm boot_range (ľ (thn (ha pos pins s σ H _ I h) fun us s1 ⟨vs,H1,I1,r1,q1⟩=>?_) hs rfl))
 obtain⟨j,e,q1,q2,q⟩:=q1
 subst e
 cases r1 with
 | cons r rr =>
  cases rr
  obtain⟨t,rfl⟩:=r
  exact call_range_1 (w6 I1 (by omega) (by omega) q1 q2 (by simpa using q))
theorem Du {a b:Expr}{ta:TA}{p pos:Pos} (hg:Gl X "range") (hm:X.mg "range"=none) (ha:PA X [a,b] ta) (hs:starEach [a,b] X.env=[(false,eval a X.env),(false,eval b X.env)]:=by rfl) (hs2:starEach [b] X.env=[(false,eval b X.env)]:=by rfl) :
  PI X tg (.Call (.Name "range" p) [a,b] [] pos) (SQ ta):=by
 intro pins s σ H R I h
 refine Call_ (lg I hg hm boot_range (ľ (thn (ha pos pins s σ H _ I h) fun us s1 ⟨vs,H1,I1,r1,q1⟩=>?_) (by rw [hs,hs2]) (by rw [hs2]; rfl)))
 obtain⟨i,j,e,⟨q1,q2,q3,q4⟩,q⟩:=q1
 subst e
 cases r1 with
 | cons r rr =>
  cases rr with
  | cons r' rr =>
   cases rr
   obtain⟨t,rfl⟩:=r
   obtain⟨t',rfl⟩:=r'
   exact call_range_2 (w6 I1 q1 q2 q3 q4 q)
def Ug (wi:TI) (g:TG) (tb:TS):TS:=fun D σ H=>wi σ H fun J H1=>∃ W:Nat->Nat->St->Hp->Prop,(∃ m,W 0 m σ H1)/\∀ i m σ H,W i m σ H ->
 (J.stop i H/\D.nx σ H)\/(J.go i H/\∃ N:St->Hp->Prop,(∀ σ' H',N σ' H'->∃ m',m'<m/\W (i+1) m' σ' H')/\∀ x H',J.yld i H x H'->g x σ H' fun σ2 H2=>tb { D with nx:=N,ct:=N,bk:=D.nx } σ2 H2)
def jj (fp:List Addr) (h:Heap):List (Addr×Obj):=fp.filterMap fun b=>(h.get? b).map fun o=>(b,o)
theorem iK {fp:List Addr}{h:Heap}{b:Addr}{o:Obj} (hb:b∈fp) (e:h.get? b=some o):(b,o)∈jj fp h:=ű.mpr ⟨b,hb,by rw [e]; rfl⟩
theorem tH {fp:List Addr}{h:Heap}{p:Addr×Obj} (hp:p∈jj fp h):p.1∈fp/\h.get? p.1=some p.2:=by
 obtain⟨b,hb,e⟩:=ű.mp hp
 cases q:h.get? b with
 | none=>rw [q] at e; cases e
 | some o =>
  rw [q] at e
  have e':(b,o)=p:=æ e
  subst e'
  exact⟨hb,q⟩
theorem Inv.pinned {pins:List (Addr×Obj)}{σ:St}{H:Hp}{s:Shared}{fp:List Addr} (I:Inv X pins σ H s) (hf:∀ b∈fp,rW X pins H b) (ho:∀ b∈fp,∃ o,s.heap.get? b=some o/\∀ v,o.data≠.cell v):Inv X (pins++jj fp s.heap) σ H s :=
 I.pW fun p hp=>(Û.mp hp).elim (fun z=>I.pin p (å _ z)) fun z=>by
  obtain⟨hb,e⟩:=tH z
  obtain⟨f0,f1,f2,_⟩:=hf p.1 hb
  obtain⟨o,e',d⟩:=ho p.1 hb
  rw [e] at e'; cases e'
  exact⟨e,f0,f1,f2,d⟩
theorem Inv.lK {pins pl:List (Addr×Obj)}{σ:St}{H:Hp}{s:Shared} (I:Inv X (pins++pl) σ H s):Inv X pins σ H s:=I.pW fun p hp=>I.pin p (å _ (Ā _ hp))
theorem Oh {iter:Expr}{body:List Stmt}{wi:TI}{g:TG}{tb:TS}{pos:Pos} (hp:PassesOwn (model X.prog X.w) X.A X.env X.xe) (hc:X.calm=true) (hi:PI X tg iter wi) (hg:PG X tg g) (hb:PSs X body tb)
  (hs:∀ x,foldedSetIterable iter X.env x=pure x:=by intro _; rfl):PS X (.For tg iter body [] pos) (Ug wi g tb):=by
 intro pins s σ H D I h
 refine wpAny_For (thn (hi pins s σ H _ I h) fun v s1 h1=>thn h1 fun itv s2 h2=>?_) hs
 obtain⟨it,fp,tn,J,H2,e,I2,T,st2,f2,W,⟨m0,w0⟩,turn⟩:=h2
 subst e
 -- what stays true of the iterator's objects through the loop
 have stat:∀ {H':Hp},(∀ b∈fp,H' b=none)->∀ b∈fp,rW X pins H' b:=fun hn b hb=>⟨hn b hb,(f2 b hb).2⟩
 refine codeAny_forLoop_any (fun n s'=>∃ i σ' H',Inv X pins σ' H' s'/\tn i s'.heap/\(∀ b∈fp,H' b=none)/\W i n σ' H') ?_ m0 ⟨0,σ,H2,I2,st2,fun b hb=>(f2 b hb).1,w0⟩
 rintro n s3 ⟨i,σ3,H3,I3,st3,fr3,w3⟩
 rcases turn i n σ3 H3 w3 with ⟨stop,qn⟩ | ⟨go,N,hN,step⟩
 ·refine š hp (thn (T.done X rfl rfl rfl hc i pins s3 σ3 H3 X.xe I3 (stat fr3) st3 stop) fun r s4 ⟨hr,I4⟩=>?_)
  subst hr
  exact wpAny_execs_nil ⟨σ3,H3,I4,qn⟩
 ·refine š hp (thn (T.item X rfl rfl rfl hc i pins s3 σ3 H3 X.xe I3 (stat fr3) st3 go) fun r s4 ⟨u,hr,h4⟩=>?_)
  subst hr
  refine š hp (thn h4 fun _ s5 ⟨x,H5,I5,r5,y5,st5,fr5⟩=>?_)
  have I5':=I5.pinned (stat fr5) (T.obj _ _ st5)
  refine š hp (thn (hg _ s5 σ3 H5 x u _ I5' r5 (step x H5 y5)) fun _ s6 ⟨σ6,H6,I6,q6⟩=>?_)
  refine š hp (thn (hb _ s6 σ6 H6 _ I6 q6) fun f s7 q7=>?_)
  have again:∀ {σ7:St}{H7:Hp},Inv X (pins++jj fp s5.heap) σ7 H7 s7->N σ7 H7->∃ m,m<n/\∃ i σ' H',Inv X pins σ' H' s7/\tn i s7.heap/\(∀ b∈fp,H' b=none)/\W i m σ' H':=fun {σ7 H7} I7 n7=>by
   obtain⟨m',hm,w7⟩:=hN σ7 H7 n7
   refine⟨m',hm,i+1,σ7,H7,I7.lK,T.keep _ _ _ st5 fun b hb o e=>(I7.pin (b,o) (å _ (å _ (iK hb e)))).1,fun b hb=>?_,w7⟩
   obtain⟨o,e,d⟩:=T.obj _ _ st5 b hb
   exact (I7.pin (b,o) (å _ (å _ (iK hb e)))).2.1
  cases f with
  | next=>obtain⟨σ7,H7,I7,n7⟩:=q7; exact again I7 n7
  | cont=>obtain⟨σ7,H7,I7,n7⟩:=q7; exact again I7 n7
  | brk=>obtain⟨σ7,H7,I7,q7⟩:=q7; exact⟨σ7,H7,I7.lK,q7⟩
  | ret v=>obtain⟨x7,σ7,H7,I7,r7,q7⟩:=q7; exact⟨x7,σ7,H7,I7.lK,r7,q7⟩
end
abbrev R2:=V->V->Hp->VK->Prop
def OpR (X:Cx) (f:Value->Value->Sem Value) (r:R2):Prop :=
 ∀ (pins:List (Addr×Obj)) (s:Shared) (σ:St) (H:Hp) (x y:V) (v u:Value) (Q:VK),Inv X pins σ H s->RelV x v->RelV y u->r x y H Q ->
  wpAny (model X.prog X.w) X.A (f v u) (EP X pins σ Q) X.xe s
def UnR (X:Cx) (f:Value->Sem Value) (r:V->Hp->VK->Prop):Prop :=
 ∀ (pins:List (Addr×Obj)) (s:Shared) (σ:St) (H:Hp) (x:V) (v:Value) (Q:VK),Inv X pins σ H s->RelV x v->r x H Q ->
  wpAny (model X.prog X.w) X.A (f v) (EP X pins σ Q) X.xe s
def bN (X:Cx) (f:Value) (r:List V->Hp->VK->Prop):Prop :=
 ∀ (pins:List (Addr×Obj)) (s:Shared) (σ:St) (H:Hp) (xs:List V) (us:List Value) (Q:VK),Inv X pins σ H s->Vals xs us->r xs H Q ->
  wpAny (model X.prog X.w) X.A (call f us) (EP X pins σ Q) X.xe s
def Vc (X:Cx) (r:V->Hp->(Bool->Hp->Prop)->Prop):Prop :=
 ∀ (pins:List (Addr×Obj)) (s:Shared) (σ:St) (H:Hp) (x:V) (v:Value) (Q:Bool->Hp->Prop),Inv X pins σ H s->RelV x v->r x H Q ->
  wpAny (model X.prog X.w) X.A (truthy v) (TP X pins σ Q) X.xe s
def tOp (r:R2) (ta tb:TE):TE:=fun σ H Q=>ta σ H fun x H1=>tb σ H1 fun y H2=>r x y H2 Q
def tUn (r:V->Hp->VK->Prop) (ta:TE):TE:=fun σ H Q=>ta σ H fun x H1=>r x H1 Q
def rI (C:Int->Int->Prop) (g:Int->Int->V):R2:=fun x y H Q=>∃ i j,x=.int i/\y=.int j/\C i j/\Q (g i j) H
def rI0 (g:Int->Int->V):R2:=fun x y H Q=>∃ i j,x=.int i/\y=.int j/\Q (g i j) H
def rU (g:Int->V):V->Hp->VK->Prop:=fun x H Q=>∃ i,x=.int i/\Q (g i) H
section
variable {X:Cx}{a b c:Expr}{ta tb tc:TE}{pos:Pos}
theorem QL (ha:PE X a ta) (hb:PE X b tb) {pins:List (Addr×Obj)}{s:Shared}{σ:St}{H:Hp}{R:V->V->Hp->Prop} (I:Inv X pins σ H s)
  (h:ta σ H fun x H1=>tb σ H1 fun y H2=>R x y H2) {Q:Value->Shared->Prop}{f:Value->Value->Sem Value}
  (hf:∀ v u s2 x y H2,Inv X pins σ H2 s2->RelV x v->RelV y u->R x y H2->wpAny (model X.prog X.w) X.A (f v u) Q X.xe s2) :
  wpAny (model X.prog X.w) X.A (eval a X.env) (fun v s₁=>wpAny (model X.prog X.w) X.A (eval b X.env) (fun u s₂=>wpAny (model X.prog X.w) X.A (f v u) Q X.xe s₂) X.xe s₁) X.xe s:=by
 refine thn (ha pins s σ H _ I h) fun v s1 ⟨x,H1,I1,r1,q1⟩=>?_
 refine thn (hb pins s1 σ H1 _ I1 q1) fun u s2 ⟨y,H2,I2,r2,q2⟩=>?_
 exact hf v u s2 x y H2 I2 r1 r2 q2
theorem cM {op:Operator}{r:R2} (ho:OpR X (binaryOp op) r) (ha:PE X a ta) (hb:PE X b tb):PE X (.BinOp a op b pos) (tOp r ta tb):=by
 intro pins s σ H Q I h
 exact wpAny_BinOp (QL ha hb I h fun v u s2 x y H2 I2 rx ry q=>ho pins s2 σ H2 x y v u Q I2 rx ry q)
theorem RV {op:UnaryOp}{r:V->Hp->VK->Prop} (ho:UnR X (unaryOp op) r) (ha:PE X a ta):PE X (.UnaryOp op a pos) (tUn r ta):=by
 intro pins s σ H Q I h
 exact UnaryOp_ (thn (ha pins s σ H _ I h) fun v s1 ⟨x,H1,I1,r1,q1⟩=>ho pins s1 σ H1 x v Q I1 r1 q1)
theorem opI {f:Value->Value->Sem Value}{C:Int->Int->Prop}{g:Int->Int->Int}
  (rule:∀ (i j:Int) (t u:Tok) (s:Shared) (Q:Value->Shared->Prop) (E:Value->Shared->Prop),C i j->Q (.int (g i j) s.toks) { s with toks:=s.toks+1 }->wpAny (model X.prog X.w) X.A (f (.int i t) (.int j u)) Q E s) :
  OpR X f (rI C fun i j=>.int (g i j)):=by
 intro pins s σ H x y v u Q I rx ry h
 obtain⟨i,j,rfl,rfl,hc,q⟩:=h
 obtain⟨t,rfl⟩:=rx
 obtain⟨t',rfl⟩:=ry
 exact rule i j t t' s _ _ hc ⟨.int (g i j),H,I.tok _,⟨_,rfl⟩,q⟩
theorem Pg {f:Value->Value->Sem Value}{g:Int->Int->Int}
  (rule:∀ (i j:Int) (t u:Tok) (s:Shared) (Q:Value->Shared->Prop) (E:Value->Shared->Prop),Q (.int (g i j) s.toks) { s with toks:=s.toks+1 }->wpAny (model X.prog X.w) X.A (f (.int i t) (.int j u)) Q E s) :
  OpR X f (rI0 fun i j=>.int (g i j)):=by
 intro pins s σ H x y v u Q I rx ry h
 obtain⟨i,j,rfl,rfl,q⟩:=h
 obtain⟨t,rfl⟩:=rx
 obtain⟨t',rfl⟩:=ry
 exact rule i j t t' s _ _ ⟨.int (g i j),H,I.tok _,⟨_,rfl⟩,q⟩
theorem KJ {f:Value->Value->Sem Value}{g:Int->Int->Bool}
  (rule:∀ (i j:Int) (t u:Tok) (s:Shared) (Q:Value->Shared->Prop) (E:Value->Shared->Prop),Q (.bool (g i j)) s->wpAny (model X.prog X.w) X.A (f (.int i t) (.int j u)) Q E s) :
  OpR X f (rI0 fun i j=>.bl (g i j)):=by
 intro pins s σ H x y v u Q I rx ry h
 obtain⟨i,j,rfl,rfl,q⟩:=h
 obtain⟨t,rfl⟩:=rx
 obtain⟨t',rfl⟩:=ry
 exact rule i j t t' s _ _ ⟨.bl (g i j),H,I,rfl,q⟩
def QS (i j:Int):Prop:=0<j/\j<1073741824
def Vg (i j:Int):Prop:=0<=j/\j<=1000000/\i.natAbs<2 ^ 64
def JR (i j:Int):Prop:=(-(2 ^ 64)<i/\i<2 ^ 64)\/(-(2 ^ 64)<j/\j<2 ^ 64)
theorem JR.ok {i j:Int} (h:JR i j):IntMulOk i j:=by
 rcases h with ⟨h1,h2⟩ | ⟨h1,h2⟩
 ·exact .of_left (intBits_le_64 h1 h2)
 ·exact .of_right (intBits_le_64 h1 h2)
theorem kO:OpR X (binaryOp .Add) (rI0 fun i j=>.int (i+j)):=Pg fun _ _ _ _ _ _ _ q=>add_int q
theorem O7:OpR X (binaryOp .Sub) (rI0 fun i j=>.int (i - j)):=Pg fun _ _ _ _ _ _ _ q=>sub_int q
theorem nY:OpR X (binaryOp .Mult) (rI JR fun i j=>.int (i * j)):=opI fun _ _ _ _ _ _ _ hc q=>mul_int q hc.ok
theorem p7:OpR X (binaryOp .FloorDiv) (rI QS fun i j=>.int (i / j)):=opI fun i j _ _ _ _ _ hc q=>by
 have h1:(0:Int)<j:=hc.1
 have h2:j<1073741824:=hc.2
 exact floordiv_int (by omega) (by rw [Int.fdiv_eq_ediv_of_nonneg i (by omega)]; exact q) (.inl (PyProof.noPylong_small (by omega)))
theorem jo:OpR X (binaryOp .Mod) (rI (fun _ j=>0<j) fun i j=>.int (i % j)):=opI fun i j _ _ _ _ _ hc q=>by
 have h1:(0:Int)<j:=hc
 exact mod_int' (by omega) (by rw [Int.fmod_eq_emod_of_nonneg i (by omega)]; exact q)
theorem O9:OpR X (binaryOp .Pow) (rI Vg fun i j=>.int (i ^ j.toNat)):=opI fun _ _ _ _ _ _ _ hc q=>pow_int_small hc.1 hc.2.1 hc.2.2 q
theorem Pb:OpR X (binaryOp .BitAnd) (rI0 fun i j=>.int (Ų i j)):=Pg fun _ _ _ _ _ _ _ q=>and_int q
theorem unI {f:Value->Sem Value}{g:Int->Int}
  (rule:∀ (i:Int) (t:Tok) (s:Shared) (Q:Value->Shared->Prop) (E:Value->Shared->Prop),Q (.int (g i) s.toks) { s with toks:=s.toks+1 }->wpAny (model X.prog X.w) X.A (f (.int i t)) Q E s) :
  UnR X f (rU fun i=>.int (g i)):=by
 intro pins s σ H x v Q I rx h
 obtain⟨i,rfl,q⟩:=h
 obtain⟨t,rfl⟩:=rx
 exact rule i t s _ _ ⟨.int (g i),H,I.tok _,⟨_,rfl⟩,q⟩
theorem Nt:UnR X (unaryOp .USub) (rU fun i=>.int (-i)):=unI fun _ _ _ _ _ q=>neg_int q
end
def Rm:V->V->Bool
 | .non,.non=>true | .non,.int _=>true | .int _,.non=>true | .non,.bl _=>true | .bl _,.non=>true | .non,.str _=>true | .str _,.non=>true
 | .int _,.int _=>true | .bl _,.bl _=>true | .str _,.str _=>true | .byt _,.byt _=>true
 | .int _,.str _=>true | .str _,.int _=>true | .bl _,.str _=>true | .str _,.bl _=>true
 | _,_=>false
def rEq:R2:=fun x y H Q=>Rm x y=true/\Q (.bl (decide (x=y))) H
def rNe:R2:=fun x y H Q=>Rm x y=true/\Q (.bl (!decide (x=y))) H
theorem CW {i j:Int}:decide (V.int i=V.int j)=(i == j):=by
 rw [ģ]
 simp
theorem Jw {i j:Bool}:decide (V.bl i=V.bl j)=(i == j):=by
 rw [ģ]
 simp
theorem CV {i j:Str}:decide (V.str i=V.str j)=(i == j):=by
 rw [ģ]
 simp
theorem CZ {i j:Array UInt8}:decide (V.byt i=V.byt j)=(i.toList == j.toList):=by
 rw [ģ]
 cases i
 cases j
 simp
section
variable {X:Cx}{a b c:Expr}{ta tb tc:TE}{pos:Pos}
theorem aO {pins:List (Addr×Obj)}{σ:St}{H:Hp}{s:Shared}{Q:VK}{k k':Bool} (I:Inv X pins σ H s) (q:Q (.bl k) H) (e:k=k'):EP X pins σ Q (.bool k') s:=by
 subst e
 exact⟨.bl k,H,I,rfl,q⟩
theorem BZ:OpR X (compareOp .Eq) rEq:=by
 intro pins s σ H x y v u Q I rx ry h
 obtain⟨hs,q⟩:=h
 cases x with
 | non =>
  cases rx
  cases y with
  | non=>cases ry; exact PySem.EqNone.eq_none_none (aO I q (by simp))
  | bl j=>cases ry; exact PySem.EqNone.eq_none_bool (aO I q (by simp))
  | int j=>obtain⟨t',rfl⟩:=ry; exact PySem.EqNone.eq_none_int (aO I q (by simp))
  | str j=>obtain⟨t',rfl⟩:=ry; exact PySem.EqNone.eq_none_str (aO I q (by simp))
  | _=>exact absurd (show false=true from hs) Ö
 | bl i =>
  cases rx
  cases y with
  | non=>cases ry; exact PySem.EqNone.eq_bool_none (aO I q (by simp))
  | bl j=>cases ry; exact eq_bool (aO I q Jw)
  | str j=>obtain⟨t',rfl⟩:=ry; exact PySem.EqMixed.eq_bool_str (aO I q (by simp))
  | _=>exact absurd (show false=true from hs) Ö
 | int i =>
  obtain⟨t,rfl⟩:=rx
  cases y with
  | non=>cases ry; exact PySem.EqNone.eq_int_none (aO I q (by simp))
  | int j=>obtain⟨t',rfl⟩:=ry; exact eq_int (aO I q CW)
  | str j=>obtain⟨t',rfl⟩:=ry; exact PySem.EqMixed.eq_int_str (aO I q (by simp))
  | _=>exact absurd (show false=true from hs) Ö
 | str i =>
  obtain⟨t,rfl⟩:=rx
  cases y with
  | non=>cases ry; exact PySem.EqNone.eq_str_none (aO I q (by simp))
  | bl j=>cases ry; exact PySem.EqMixed.eq_str_bool (aO I q (by simp))
  | int j=>obtain⟨t',rfl⟩:=ry; exact PySem.EqMixed.eq_str_int (aO I q (by simp))
  | str j=>obtain⟨t',rfl⟩:=ry; exact eq_str (aO I q CV)
  | _=>exact absurd (show false=true from hs) Ö
 | byt i =>
  obtain⟨t,rfl⟩:=rx
  cases y with
  | byt j=>obtain⟨t',rfl⟩:=ry; exact W.eq_bytes (aO I q CZ)
  | _=>exact absurd (show false=true from hs) Ö
 | _=>cases y <;> exact absurd (show false=true from hs) Ö
theorem BX:OpR X (compareOp .NotEq) rNe:=by
 intro pins s σ H x y v u Q I rx ry h
 obtain⟨hs,q⟩:=h
 cases x with
 | non =>
  cases rx
  cases y with
  | non=>cases ry; exact PySem.EqNone.ne_none_none (aO I q (by simp))
  | bl j=>cases ry; exact PySem.EqNone.ne_none_bool (aO I q (by simp))
  | int j=>obtain⟨t',rfl⟩:=ry; exact PySem.EqNone.ne_none_int (aO I q (by simp))
  | str j=>obtain⟨t',rfl⟩:=ry; exact PySem.EqNone.ne_none_str (aO I q (by simp))
  | _=>exact absurd (show false=true from hs) Ö
 | bl i =>
  cases rx
  cases y with
  | non=>cases ry; exact PySem.EqNone.ne_bool_none (aO I q (by simp))
  | bl j=>cases ry; exact ne_bool (aO I q (congrArg not Jw))
  | str j=>obtain⟨t',rfl⟩:=ry; exact PySem.EqMixed.ne_bool_str (aO I q (by simp))
  | _=>exact absurd (show false=true from hs) Ö
 | int i =>
  obtain⟨t,rfl⟩:=rx
  cases y with
  | non=>cases ry; exact PySem.EqNone.ne_int_none (aO I q (by simp))
  | int j=>obtain⟨t',rfl⟩:=ry; exact ne_int (aO I q (congrArg not CW))
  | str j=>obtain⟨t',rfl⟩:=ry; exact PySem.EqMixed.ne_int_str (aO I q (by simp))
  | _=>exact absurd (show false=true from hs) Ö
 | str i =>
  obtain⟨t,rfl⟩:=rx
  cases y with
  | non=>cases ry; exact PySem.EqNone.ne_str_none (aO I q (by simp))
  | bl j=>cases ry; exact PySem.EqMixed.ne_str_bool (aO I q (by simp))
  | int j=>obtain⟨t',rfl⟩:=ry; exact PySem.EqMixed.ne_str_int (aO I q (by simp))
  | str j=>obtain⟨t',rfl⟩:=ry; exact ne_str (aO I q (congrArg not CV))
  | _=>exact absurd (show false=true from hs) Ö
 | byt i =>
  obtain⟨t,rfl⟩:=rx
  cases y with
  | byt j=>obtain⟨t',rfl⟩:=ry; exact W.ne_bytes (aO I q (congrArg not CZ))
  | _=>exact absurd (show false=true from hs) Ö
 | _=>cases y <;> exact absurd (show false=true from hs) Ö
theorem xK:OpR X (compareOp .Lt) (rI0 fun i j=>.bl (decide (i<j))):=KJ fun _ _ _ _ _ _ _ q=>lt_int q
theorem Mt:OpR X (compareOp .LtE) (rI0 fun i j=>.bl (decide (i<=j))):=KJ fun _ _ _ _ _ _ _ q=>le_int q
theorem Mu:OpR X (compareOp .Gt) (rI0 fun i j=>.bl (decide (j<i))):=KJ fun _ _ _ _ _ _ _ q=>gt_int q
theorem Hr:OpR X (compareOp .GtE) (rI0 fun i j=>.bl (decide (j<=i))):=KJ fun _ _ _ _ _ _ _ q=>ge_int q
theorem Pa:OpR X (compareOp .Is) (fun x y H Q=>y=.non/\Q (.bl (decide (x=.non))) H):=by
 intro pins s σ H x y v u Q I rx ry h
 obtain⟨rfl,q⟩:=h
 cases ry
 refine is_none_gen (aO I q ?_)
 cases x <;> first
  | (cases rx; rfl)
  | (obtain⟨t,rfl⟩:=rx; rfl)
theorem bH (b:Expr) {op:CmpOp} (h:op≠.In:=by decide) (h2:op≠.NotIn:=by decide):behindInMarks op b=false:=by
 have e1:(op == CmpOp.In)=false:=by cases op <;> first | rfl | exact absurd rfl h
 have e2:(op == CmpOp.NotIn)=false:=by cases op <;> first | rfl | exact absurd rfl h2
 cases b <;> simp [behindInMarks,e1,e2]
theorem Ku {op:CmpOp}{r:R2} (ho:OpR X (compareOp op) r) (ha:PE X a ta) (hb:PE X b tb) (hm:behindInMarks op b=false):PE X (.Compare a [op] [b] pos) (tOp r ta tb):=by
 intro pins s σ H Q I h
 exact wpAny_Compare1 (QL ha hb I h fun v u s2 x y H2 I2 rx ry q=>ho pins s2 σ H2 x y v u Q I2 rx ry q) hm
def Gg (t:TE):TT:=fun σ H Q=>t σ H fun x H'=>∃ k,x=.bl k/\Q k H'
theorem pR {op:CmpOp}{r:R2} (ho:OpR X (compareOp op) r) (ha:PE X a ta) (hb:PE X b tb) (hm:behindInMarks op b=false):PT X (.Compare a [op] [b] pos) (Gg (tOp r ta tb)):=by
 intro pins s σ H Q I h
 refine wpAny_isTrue_Compare1 (thn (ha pins s σ H _ I h) fun v s1 ⟨x,H1,I1,r1,q1⟩=>thn (hb pins s1 σ H1 _ I1 q1) fun u s2 ⟨y,H2,I2,r2,q2⟩ =>
  thn (ho pins s2 σ H2 x y v u _ I2 r1 r2 q2) fun c s3 ⟨z,H3,I3,r3,k,e,q3⟩=>?_) hm
 subst e
 cases r3
 exact Ė ⟨H3,I3,q3⟩
def qt (r r':R2) (ta tb tc:TE):TE:=fun σ H Q=>ta σ H fun x H1=>tb σ H1 fun y H2=>r x y H2 fun z H3=>∃ k,z=.bl k /\
 (if k=true then tc σ H3 fun w' H4=>r' y w' H4 Q else Q (.bl false) H3)
theorem G7 {op op':CmpOp}{r r':R2} (ho:OpR X (compareOp op) r) (ho':OpR X (compareOp op') r') (ha:PE X a ta) (hb:PE X b tb) (hc:PE X c tc)
  (hm:lastMarks [op,op'] [b,c]=false:=by with_unfolding_all rfl):PE X (.Compare a [op,op'] [b,c] pos) (qt r r' ta tb tc):=by
 intro pins s σ H Q I h
 refine Compare_chain (thn (ha pins s σ H _ I h) fun v s1 ⟨x,H1,I1,r1,q1⟩=>chain_link (thn (hb pins s1 σ H1 _ I1 q1) fun u s2 ⟨y,H2,I2,r2,q2⟩ =>
  thn (ho pins s2 σ H2 x y v u _ I2 r1 r2 q2) fun d s3 ⟨z,H3,I3,r3,k,e,q3⟩=>?_)) hm
 subst e
 cases r3
 refine Ė ?_
 cases k with
 | false=>exact ite_ff ⟨.bl false,H3,I3,rfl,q3⟩
 | true=>exact ite_tt (chain_last (thn (hc pins s3 σ H3 _ I3 q3) fun w' s4 ⟨z',H4,I4,r4,q4⟩=>ho' pins s4 σ H4 y z' u w' Q I4 r2 r4 q4))
theorem GP {op op':CmpOp}{r r':R2} (ho:OpR X (compareOp op) r) (ho':OpR X (compareOp op') r') (ha:PE X a ta) (hb:PE X b tb) (hc:PE X c tc)
  (hm:lastMarks [op,op'] [b,c]=false:=by with_unfolding_all rfl):PT X (.Compare a [op,op'] [b,c] pos) (Gg (qt r r' ta tb tc)):=by
 intro pins s σ H Q I h
 refine isTrue_chain (thn (ha pins s σ H _ I h) fun v s1 ⟨x,H1,I1,r1,q1⟩=>test_link (thn (hb pins s1 σ H1 _ I1 q1) fun u s2 ⟨y,H2,I2,r2,q2⟩ =>
  thn (ho pins s2 σ H2 x y v u _ I2 r1 r2 q2) fun d s3 ⟨z,H3,I3,r3,k,e,q3⟩=>?_)) hm
 subst e
 cases r3
 refine Ė ?_
 cases k with
 | false =>
  obtain⟨k',e',q'⟩:=q3
  cases e'
  exact ite_ff ⟨H3,I3,q'⟩
 | true =>
  refine ite_tt (test_last (thn (hc pins s3 σ H3 _ I3 q3) fun w' s4 ⟨z',H4,I4,r4,q4⟩=>thn (ho' pins s4 σ H4 y z' u w' _ I4 r2 r4 q4) fun d' s5 ⟨z2,H5,I5,r5,k2,e2,q5⟩=>?_))
  subst e2
  cases r5
  exact Ė ⟨H5,I5,q5⟩
def TY (K:Ú) (x:V) (H:Hp) (k:Bool):Prop :=
 match x with
 | .non=>k=false
 | .bl b=>k=b
 | .int i=>k=(i != 0)
 | .str y=>y.length<=sizeLine/\k=((y.length:Int) != 0)
 | .byt y=>y.size<=sizeLine/\k=((y.size:Int) != 0)
 | .ref p=>(∃ xs,SqL K H p xs/\k=!xs.isEmpty)\/(∃ xs,SqT K H p xs/\k=!xs.isEmpty)\/∃ kvs,H p=some (.dK kvs)/\k=!kvs.isEmpty
 | _=>False
theorem Ad {κ:Type}{kvs:List (κ×V)}{vs:List (κ×Value)} (r:KV kvs vs):(!vs.isEmpty)=!kvs.isEmpty:=by
 cases r <;> rfl
theorem rm {xs:List V}{its:List Value} (r:Vals xs its):(!its.toArray.isEmpty)=!xs.isEmpty:=by
 cases r <;> simp
theorem vI:(sizeLine:Nat)<2 ^ 63:=by rw [ê]; decide
theorem Nv:Vc X (fun x H Q=>∃ k,TY X.K x H k/\Q k H):=by
 intro pins s σ H x v Q I rx h
 obtain⟨k,e,q⟩:=h
 have hl:=vI
 have hs:sizeLine=16777216:=ê
 cases x with
 | non =>
  cases rx
  have e':k=false:=e
  subst e'
  exact truthy_none ⟨H,I,q⟩
 | bl b =>
  cases rx
  have e':k=b:=e
  subst e'
  exact Ė ⟨H,I,q⟩
 | int i =>
  obtain⟨t,rfl⟩:=rx
  have e':k=(i != 0):=e
  subst e'
  exact PySem.P.truthy_int ⟨H,I,q⟩
 | str y =>
  obtain⟨t,rfl⟩:=rx
  obtain⟨hy,e'⟩:y.length<=sizeLine/\k=((y.length:Int) != 0):=e
  subst e'
  exact PySem.P.truthy_str (by omega) ⟨H,I.tok _,q⟩
 | byt y =>
  obtain⟨t,rfl⟩:=rx
  obtain⟨hy,e'⟩:y.size<=sizeLine/\k=((y.size:Int) != 0):=e
  subst e'
  exact W.truthy_bytes (by omega) ⟨H,I.tok _,q⟩
 | ref p =>
  cases rx
  have e':(∃ xs,SqL X.K H p xs/\k=!xs.isEmpty)\/(∃ xs,SqT X.K H p xs/\k=!xs.isEmpty)\/∃ kvs,H p=some (.dK kvs)/\k=!kvs.isEmpty:=e
  rcases e' with ⟨xs,hx,e'⟩ | ⟨xs,hx,e'⟩ | ⟨kvs,hx,e'⟩
  ·subst e'
   obtain⟨its,r,pl,hz⟩:=I.list hx
   have hlen:=r.length
   exact wpAny_truthy_list pl.isList (by simp only [Ñ]; omega) ⟨H,I.tok _,by rw [rm r]; exact q⟩
  ·subst e'
   obtain⟨its,r,pl,hz⟩:=I.tuple hx
   have hlen:=r.length
   exact truthy_tuple pl (by simp only [Ñ]; omega) ⟨H,I.tok _,by rw [rm r]; exact q⟩
  ·subst e'
   obtain⟨hz,hS,vs,r,m⟩:kvs.length<=sizeLine/\(p == sysModules)=false/\∃ vs,KV kvs vs/\s.heap.DictOf (bJ X.prog X.w) p vs:=I.hok p _ hx
   have hlen:kvs.length=vs.length:=Paired.length r
   exact wpAny_truthy_dict hS m (by omega) ⟨H,I.tok _,by rw [Ad r]; exact q⟩
 | _=>exact (show False from e).elim
theorem GK (ha:PE X a ta) (he:∀ whole,isTrue a X.env whole=(do let v ← whole; standAt a.pos; holding [v] (truthy v))) :
  PT X a (fun σ H Q=>ta σ H fun x H'=>∃ k,TY X.K x H' k/\Q k H'):=by
 intro pins s σ H Q I h
 exact isTrue_plain (thn (ha pins s σ H _ I h) fun v s1 ⟨x,H1,I1,r1,q1⟩=>Nv pins s1 σ H1 x v Q I1 r1 q1) (he _)
theorem vals1 {x:V}{us:List Value} (r:Vals [x] us):∃ u,us=[u]/\RelV x u:=by
 cases r with
 | cons r1 r2=>cases r2; exact⟨_,rfl,r1⟩
theorem vals2 {x y:V}{us:List Value} (r:Vals [x,y] us):∃ u w',us=[u,w']/\RelV x u/\RelV y w':=by
 cases r with
 | cons r1 r2 =>
  cases r2 with
  | cons r3 r4=>cases r4; exact⟨_,_,rfl,r1,r3⟩
theorem Fq (hc:X.calm=true):bN X (.builtin "max") (fun xs H Q=>∃ i j,xs=[.int i,.int j]/\Q (.int (if j > i then j else i)) H):=by
 intro pins s σ H xs us Q I r h
 obtain⟨i,j,rfl,q⟩:=h
 obtain⟨u,w',rfl,⟨t,rfl⟩,⟨t',rfl⟩⟩:=vals2 r
 refine max_two_ints (I.ok.hd hc) fun h' tk k=>⟨_,H,I.kept k,?_,q⟩
 by_cases hj:j > i
 ·rw [if_pos hj,if_pos hj]; exact⟨_,rfl⟩
 ·rw [if_neg hj,if_neg hj]; exact⟨_,rfl⟩
theorem Fo (hc:X.calm=true):bN X (.builtin "min") (fun xs H Q=>∃ i j,xs=[.int i,.int j]/\Q (.int (if j<i then j else i)) H):=by
 intro pins s σ H xs us Q I r h
 obtain⟨i,j,rfl,q⟩:=h
 obtain⟨u,w',rfl,⟨t,rfl⟩,⟨t',rfl⟩⟩:=vals2 r
 refine min_two_ints (I.ok.hd hc) fun h' tk k=>⟨_,H,I.kept k,?_,q⟩
 by_cases hj:j<i
 ·rw [if_pos hj,if_pos hj]; exact⟨_,rfl⟩
 ·rw [if_neg hj,if_neg hj]; exact⟨_,rfl⟩
end
structure ObjM (h:Heap) (x dx C:Addr) (mA:Str->Option Value):Prop where
 obj:h.get? x=some (W.instObj C dx)
 ns:h.Ns1 dx mA
 ne:dx≠x
theorem Eh {h:Heap}{dx:Addr}{mA:Str->Option Value} (n:h.Ns1 dx mA):∃ od,h.get? dx=some od/\∀ name,W.lookIn name od=some (mA name):=by
 obtain⟨o,es,ep,ho,hd,hk,_,hm⟩:=n
 refine⟨o,ho,fun name=>?_⟩
 have e:=hm name
 unfold nsFind findBy at e
 rw [← Array.find?_toList] at e
 unfold W.lookIn
 rw [hd]
 dsimp only
 split
 ·rename_i y q
  rw [q] at e
  exact congrArg some e
 ·rename_i q
  rw [q] at e
  have a:es.toList.any (·.refKey)=false:=by
   rw [List.any_eq_false]
   intro y hy
   obtain⟨z,t,hkey⟩:=hk y (Array.mem_toList_iff.mp hy)
   simp [DictEntry.refKey,hkey]
  have a':¬ es.toList.any (·.refKey)=true:=by rw [a]; exact Ö
  rw [if_neg a']
  exact congrArg some e
theorem ObjM.look {h:Heap}{x dx C:Addr}{mA:Str->Option Value} (I:ObjM h x dx C mA):∃ od,W.InstAt h x (W.instObj C dx) C (some od)/\∀ name,W.lookIn name od=some (mA name) :=
 let ⟨od,ho,hl⟩:=Eh I.ns
 ⟨od,⟨I.obj,rfl,rfl,ho⟩,hl⟩
section
variable {prog:Program}{w:World}{A:Around}{E:Value->Shared->Prop}{s:Shared}{K:Ú}{x dx C f:Addr}{mA:Str->Option Value}{name:Str}{v:Value}
end
theorem rT.some_of {v:V}{o:Option Value} (r:rT (some v) o):∃ u,o=some u/\RelV v u:=by
 cases o with
 | none=>exact (show False from r).elim
 | some u=>exact⟨u,rfl,r⟩
section
variable {P:Program}{w:World}{H H':Hp}{h h':Heap}{a C dx:Addr}{fs fs':List (Str×V)}
theorem Lw (hok:HOk P w H h) (e:H a=some (.ins C dx fs)):∃ mA,ObjM h a dx C mA/\(∀ f,rT (fs.lookup f) (mA f))/\PySem.Within mA (fs.map (·.1))/\fs.length<=1000/\H dx=some (.own a):=by
 obtain⟨d,z,ne,ob,mA,n,r,q⟩:=(show bf P w H h a (.ins C dx fs) from hok a _ e)
 exact⟨mA,⟨ob,n,ne⟩,r,q,z,d⟩
end
structure Cls (K:Ú) (C:Addr):Prop where
 pg:W.plainGet K C Str.empty=true
 hd:W.hasDictIn K C=true
 po:W.plainOver K C=true
 sa:W.findIn K (.ref C) "__setattr__"=some (some (.builtin "object.__setattr__"))
theorem Cls.get {K:Ú}{C:Addr} (c:Cls K C) (f:Str):W.plainGet K C f=true:=c.pg
structure Con (K:Ú) (C:Addr) (f:Str) (v:V) (u:Value):Prop where
 at_:W.findIn K (.ref C) f=some (some u)
 rel:RelV v u
 get:W.specialIn K u "__get__"=some none
 cp:W.copiedNames.contains f=false
structure Meth (K:Ú) (C:Addr) (m:Str) (f:Addr):Prop where
 at_:W.findIn K (.ref C) m=some (some (.ref f))
 fn:W.isFn K (.ref f)=true
 kp:W.keepIn K (.ref f)=true
section
variable {X:Cx}{pins:List (Addr×Obj)}{σ:St}{H:Hp}{s:Shared}{a C dx:Addr}{fs:List (Str×V)}{f:Str}{v:V}{A:Around}{E:Value->Shared->Prop}
end
section
variable {X:Cx}{o e value:Expr}{f:Str}{pos pos' tpos:Pos}{ta tv:TE}
end
section
variable {X:Cx}{pins:List (Addr×Obj)}{σ:St}{H:Hp}{s:Shared}{A:Around}{E:Value->Shared->Prop}{Q:Value->Shared->Prop}{c:Value}{b:Bool}
inductive TyOf (K:Ú) (H:Hp):V->Value->Prop where
 | non:TyOf K H .non (.type "NoneType")
 | bl (x:Bool):TyOf K H (.bl x) (.type "bool")
 | int (i:Int):TyOf K H (.int i) (.type "int")
 | str (x:Str):TyOf K H (.str x) (.type "str")
 | flt (x:UInt64):TyOf K H (.flt x) (.type "float")
 | lst {a:Addr}{xs:List V} (e:H a=some (.lst xs)):TyOf K H (.ref a) (.type "list")
 | frz {a:Addr}{o:Obj}{xs:List V} (e:H a=some (.frz o (.lst xs))):TyOf K H (.ref a) (.type "list")
 | tup {a:Addr}{xs:List V} (e:H a=some (.tup xs)):TyOf K H (.ref a) (.type "tuple")
 | dK {a:Addr}{kvs:List (Key×V)} (e:H a=some (.dK kvs)):TyOf K H (.ref a) (.type "dict")
 | dT {a:Addr}{kvs:List (List Key×V)} (e:H a=some (.dT kvs)):TyOf K H (.ref a) (.type "dict")
 | ins {a C dx:Addr}{fs:List (Str×V)} (e:H a=some (.ins C dx fs)) (cl:Cls K C) (ha:W.findIn K (.ref C) "__class__"=some (some (.builtin "object.__class__")))
   (hn:W.specialIn K (.builtin "object.__class__") "__get__"=some (some (.builtin "getset_descriptor.__get__"))) (htk:W.takesIn K (.builtin "object.__class__")=some true)
   (hm:W.mroIn K C (.type "object")=some true):TyOf K H (.ref a) (.ref C)
theorem Eo {x:V}{u t:Value} (I:Inv X pins σ H s) (rx:RelV x u) (ty:TyOf X.K H x t) (e:W.kitOne X.K t c=some b) (h:∀ tk,Q (.bool b) { s with toks:=tk }) :
  wpAny (model X.prog X.w) A (call (.builtin "isinstance") [u,c]) Q E s:=by
 cases ty with
 | non=>cases (show u=Ĕ from rx); exact Ŭ W.kitx_none I.kIn ŕ e (fun z=>nomatch z) h
 | bl y=>cases (show u=Value.bool y from rx); exact Ŭ W.kitx_bool I.kIn ŕ e (fun z=>nomatch z) h
 | int i=>obtain⟨t,q⟩:=(show ∃ t,u=İ i t from rx); cases q; exact Ŭ W.kitx_int I.kIn ŕ e (fun z=>nomatch z) h
 | str y=>obtain⟨t,q⟩:=(show ∃ t,u=Value.str y t from rx); cases q; exact Ŭ W.kitx_str I.kIn ŕ e (fun z=>nomatch z) h
 | flt y=>obtain⟨t,q⟩:=(show ∃ t,u=Value.float y t from rx); cases q; exact Ŭ W.kitx_float I.kIn ŕ e (fun z=>nomatch z) h
 | @lst a xs ea =>
  cases (show u=į a from rx)
  obtain⟨_,_,n,_,h1⟩:=(show bf X.prog X.w H s.heap a (.lst xs) from I.hok a _ ea)
  exact Ŭ W.kitx_list I.kIn ⟨_,h1,rfl⟩ e (fun z=>nomatch z) h
 | @frz a ob xs ea =>
  cases (show u=į a from rx)
  obtain⟨_,_,_,n,_,h1⟩:=(show bf X.prog X.w H s.heap a (.frz ob (.lst xs)) from I.hok a _ ea)
  exact Ŭ W.kitx_list I.kIn ⟨_,h1,rfl⟩ e (fun z=>nomatch z) h
 | @tup a xs ea =>
  cases (show u=į a from rx)
  obtain⟨_,_,_,p⟩:=(show bf X.prog X.w H s.heap a (.tup xs) from I.hok a _ ea)
  obtain⟨o,h1,h2,_⟩:=p
  exact Ŭ W.kitx_tuple I.kIn ⟨o,h1,h2⟩ e (fun z=>nomatch z) h
 | @dK a kvs ea =>
  cases (show u=į a from rx)
  obtain⟨_,_,vs,_,p⟩:=(show bf X.prog X.w H s.heap a (.dK kvs) from I.hok a _ ea)
  obtain⟨o,es,ep,h1,h2,_⟩:=p
  exact Ŭ W.kitx_dict I.kIn ⟨o,h1,h2.1⟩ e (fun z=>nomatch z) h
 | @dT a kvs ea =>
  cases (show u=į a from rx)
  obtain⟨_,_,xs,_,o,es,ep,h1,h2,_⟩:=(show bf X.prog X.w H s.heap a (.dT kvs) from I.hok a _ ea)
  exact Ŭ W.kitx_dict I.kIn ⟨o,h1,h2.1⟩ e (fun z=>nomatch z) h
 | @ins a C dx fs ea cl ha hn htk hm =>
  cases (show u=į a from rx)
  obtain⟨mA,O,_⟩:=Lw I.hok ea
  obtain⟨od,J,_⟩:=O.look
  exact Ŭ (W.kitx_own (cl.get _) cl.hd ha hn htk hm) I.kIn J e (fun z=>nomatch z) h
end
structure Room (k:Nat) (A:Around):Prop where
 hd:A.handled=none
 dp:A.depth+3 * k+5<recursionLimit
 un:A.units+16 * k+200<cLine
 gd:A.guards=some []
theorem Room.mono {j k:Nat}{A:Around} (r:Room k A) (h:j<=k):Room j A:=⟨r.hd,by have:=r.dp; omega,by have:=r.un; omega,r.gd⟩
theorem Room.deeper {k:Nat}{A:Around} (r:Room (k+1) A) (env:Env):Room k (A.deeper env) :=
 ⟨r.hd,by have:=r.dp; show A.depth+1+3 * k+5<_; omega,by have:=r.un; show A.units+3+16 * k+200<_; omega,r.gd⟩
theorem Room.depth {k:Nat}{A:Around} (r:Room k A):A.depth<recursionLimit:=by have:=r.dp; omega
theorem Room.units {k:Nat}{A:Around} (r:Room k A):A.units+64<cLine:=by have:=r.un; omega
def Gh:TA:=fun _ H Q=>Q [] H
def oW (ta:TE) (tr:TA):TA:=fun σ H Q=>ta σ H fun x H1=>tr σ H1 fun xs H2=>Q (x::xs) H2
section
variable {X:Cx}{e:Expr}{es:List Expr}{te:TE}{t:TA}{pos:Pos}
theorem gG:PA X [] Gh:=fun _ _ _ _ H Q I h=>Calls.spliced_nil ⟨[],H,I,.nil,h⟩
theorem cD (ha:PE X e te) (hr:PA X es t) (hs:starEach (e::es) X.env=(false,eval e X.env)::starEach es X.env:=by rfl):PA X (e::es) (oW te t):=by
 intro pos pins s σ H Q I h
 rw [hs]
 show wpAny _ _ (spliced ((false,eval e X.env)::backTo pos (starEach es X.env))) _ _ s
 refine Calls.spliced_cons (thn (ha pins s σ H _ I h) fun u s1 ⟨x,H1,I1,r1,q1⟩=>?_)
 exact thn (hr pos pins s1 σ H1 _ I1 q1) fun us s2 ⟨xs,H2,I2,r2,q2⟩=>⟨x::xs,H2,I2,.cons r1 r2,q2⟩
def T8 (t:TA):TE:=fun σ H Q=>t σ H fun xs H1=>xs.length<=sizeLine/\∀ p,H1 p=none->Q (.ref p) (upd H1 p (.tup xs))
def NK (t:TA):TE:=fun σ H Q=>t σ H fun xs H1=>xs.length<=sizeLine/\∀ p,H1 p=none->Q (.ref p) (upd H1 p (.lst xs))
theorem Ou {x1} (h:PA X es t):PE X (.Tuple es x1 pos) (T8 t):=by
 intro pins s σ H Q I hq
 refine wpAny_Tuple_spliced (thn (h pos pins s σ H _ I hq) fun us s1 ⟨xs,H1,I1,r,z,q⟩=>⟨by rw [← r.length]; exact z,?_⟩)
 have hf:H1 s1.heap.objs.size=none:=I1.hok.fresh (Í _)
 refine⟨.ref s1.heap.objs.size,upd H1 s1.heap.objs.size (.tup xs),I1.laid (t':=s1.toks) (fun b u e=>Ð _ e) (Í _) ?_,rfl,q _ hf⟩
 exact⟨z,us,r,⟨_,à _ rfl,rfl,_,rfl⟩⟩
theorem uU (h:PA X es t):PE X (.List es pos) (NK t):=by
 intro pins s σ H Q I hq
 refine wpAny_List_spliced (thn (h pos pins s σ H _ I hq) fun us s1 ⟨xs,H1,I1,r,z,q⟩=>⟨by rw [← r.length]; exact z,?_⟩)
 have hf:H1 s1.heap.objs.size=none:=I1.hok.fresh (Í _)
 refine⟨.ref s1.heap.objs.size,upd H1 s1.heap.objs.size (.lst xs),I1.laid (t':=s1.toks) (fun b u e=>Ð _ e) (Í _) ?_,rfl,q _ hf⟩
 exact⟨z,us,0,r,à _ rfl⟩
end
abbrev Sp:=List V->Hp->VK->XK->Prop
abbrev CXT:=List Env->Hp->Shared->XK->Value->Shared->Prop
structure Env0 (P:Program) (w:World) (K:Ú) (mg:Str->Option Value) (base:Heap) (A:Around) (outer:List Env) (s:Shared) (H:Hp):Prop where
 frames:A.frames=some outer
 mod:Mod K mg base
 bs:∀ b o,base.get? b=some o->s.heap.get? b=some o/\H b=none
 bsz:base.objs.size<=s.heap.objs.size
 mK:s.heap.FunFrames base outer
 frf:∀ b∈frs outer,H b=none
 hok:HOk P w H s.heap
 bare:AllBare s.gens
def CE (outer:List Env) (P:Program) (w:World) (H:Hp) (s:Shared) (Q:VK) (u:Value) (s':Shared):Prop :=
 ∃ v H',s'.os=s.os/\AllBare s'.gens/\Un (frs outer) [] H H' s.heap s'.heap/\HOk P w H' s'.heap/\RelV v u/\Q v H'
def CR (CX:CXT) (outer:List Env) (P:Program) (w:World) (H:Hp) (s:Shared) (Q:VK) (E:XK) (r:Result) (s':Shared):Prop :=
 match r with
 | .ok (.ret u)=>CE outer P w H s Q u s'
 | .ok _=>False
 | .error e=>CX outer H s E e s'
structure FnOk (P:Program) (w:World) (K:Ú) (mg:Str->Option Value) (base:Heap) (CX:CXT) (k:Nat) (f:Addr) (fd:FuncData) (ps:List Str) (sp:Sp):Prop where
 len:∀ vs H Q E,sp vs H Q E->vs.length=ps.length
 run:∀ (A:Around) (outer:List Env) (s:Shared) (H:Hp) (args:Args) (us:List Value) (vs:List V) (Q:VK) (E:XK),Room k A->Env0 P w K mg base A outer s H->BindsTo s fd args (ps.zip us)->Vals vs us->sp vs H Q E ->
  codeAny (model P w) A (.call (.ref f) args) (CR CX outer P w H s Q E) s
theorem FnOk.imp {P:Program}{w:World}{K:Ú}{mg:Str->Option Value}{base:Heap}{CX:CXT}{k:Nat}{f:Addr}{fd:FuncData}{ps:List Str}{sp sp':Sp} (F:FnOk P w K mg base CX k f fd ps sp)
  (h:∀ vs H Q E,sp' vs H Q E->sp vs H Q E):FnOk P w K mg base CX k f fd ps sp' :=
 ⟨fun vs H Q E q=>F.len vs H Q E (h _ _ _ _ q),fun A outer s H args us vs Q E hr he hb hv hs=>F.run A outer s H args us vs Q E hr he hb hv (h _ _ _ _ hs)⟩
section
variable {X:Cx}{pins:List (Addr×Obj)}{σ:St}{H:Hp}{s s':Shared}
theorem Inv.env0 (I:Inv X pins σ H s):Env0 X.prog X.w X.K X.mg X.base X.A X.stack s H :=
 ⟨I.ok.frames,I.ok.mod,I.bs,þ I.ok.bsz I.sz,I.stack,I.Bg,I.hok,I.bare⟩
theorem Inv.after {Q:VK}{u:Value} (I:Inv X pins σ H s) (h:CE X.stack X.prog X.w H s Q u s'):EP X pins σ Q u s':=by
 obtain⟨v,H',os,bare,un,hok,r,q⟩:=h
 obtain⟨hh,g,d,t,os'⟩:=s'
 obtain rfl:os'=s.os:=os
 exact⟨v,H',I.call (h':=hh) (g':=g) (d':=d) (t':=t) (ch:=[]) un hok bare (fun b z=>absurd z (by simp)),r,q⟩
end
def oX (sp:Sp) (dvs:List V) (E:XK) (t:TA):TE:=fun σ H Q=>t σ H fun vs H1=>sp (vs++dvs) H1 Q E
def Binds (K:Ú) (fd:FuncData) (ps:List Str) (ds:List Value):Prop :=
 ∀ (s:Shared) (us:List Value),K.In s.heap->(us++ds).length=ps.length->BindsTo s fd ⟨us,[]⟩ (ps.zip (us++ds))
theorem Binds.all {K:Ú}{fd:FuncData}{ps:List Str} (h:∀ us:List Value,us.length=ps.length->bindArgs fd ⟨us,[]⟩=pure (ps.zip us)):Binds K fd ps []:=fun s us _ hl=>by
 rw [ù] at hl ⊢
 exact .of_eq (h us hl)
def Passes (CX:CXT) (X:Cx) (E:XK):Prop:=∀ (pins:List (Addr×Obj)) (σ:St) (H:Hp) (s:Shared) (e:Value) (s':Shared),Inv X pins σ H s->CX X.stack H s E e s'->X.xe e s'
section
variable {X:Cx}{CX:CXT}{k:Nat}{f C:Addr}{fd:FuncData}{ps:List Str}{sp:Sp}{dvs:List V}{ds:List Value}{E:XK}{x m:Str}{p pos apos:Pos}{e o:Expr}{es:List Expr}{ta:TE}{t:TA}
theorem Gw {pins:List (Addr×Obj)}{σ:St}{H:Hp}{s:Shared}{Q:VK}{us:List Value}{vs:List V} (F:FnOk X.prog X.w X.K X.mg X.base CX k f fd ps sp) (hr:Room k X.A) (hb:Binds X.K fd ps ds) (hd:Vals dvs ds) (hx:Passes CX X E)
  (I:Inv X pins σ H s) (r:Vals vs us) (h:sp (vs++dvs) H Q E):wpAny (model X.prog X.w) X.A (call (.ref f) us) (EP X pins σ Q) X.xe s:=by
 have r2:Vals (vs++dvs) (us++ds):=r.append hd
 have hl:(us++ds).length=ps.length:=by rw [← r2.length]; exact F.len _ _ _ _ h
 refine wpAny_call (codeAny_mono (F.run X.A X.stack s H ⟨us,[]⟩ (us++ds) (vs++dvs) Q E hr I.env0 (hb s us I.kIn hl) r2 h) fun r s' hq=>?_)
 cases r with
 | error e=>exact hx pins σ H s e s' I hq
 | ok fl =>
  cases fl with
  | ret u=>exact I.after hq
  | next=>exact ń hq
  | brk=>exact ń hq
  | cont=>exact ń hq
theorem Kv (F:FnOk X.prog X.w X.K X.mg X.base CX k f fd ps sp) (hr:Room k X.A) (hg:Gl X x) (hm:X.mg x=some (.ref f)) (hk:W.keepIn X.K (.ref f)=true) (hb:Binds X.K fd ps ds) (hd:Vals dvs ds) (hx:Passes CX X E)
  (ha:PA X (e::es) t) (hdb:(x == ("__debug__":Str))=false:=by decide) (he:starEach (e::es) X.env=(false,eval e X.env)::starEach es X.env:=by rfl) (hpl:(backTo pos (starEach es X.env)).any (·.1)=false:=by rfl) :
  PE X (.Call (.Name x p) (e::es) [] pos) (oX sp dvs E t):=by
 intro pins s σ H Q I h
 refine Ō (Cg I hg hm ?_ hdb)
 refine W.callWith_K (h₀:=X.base) I.ok.mod.kin hk (thn (ha pos pins s σ H _ I h) fun us s1 ⟨vs,H1,I1,r,q⟩=>⟨I1.kIn,?_⟩) he hpl
 exact Gw F hr hb hd hx I1 r q
structure Mk (K:Ú) (C f:Addr):Prop where
 makes:W.makesIn K C=true
 init:W.findIn K (.ref C) "__init__"=some (some (.ref f))
 fn:W.isFn K (.ref f)=true
 kp:W.keepIn K (.ref C)=true
end
section
variable {X:Cx}{CX:CXT}{k:Nat}{f C:Addr}{fd:FuncData}{ps ks:List Str}{sp:Sp}{E:XK}{x m:Str}{p pos apos kpos:Pos}{e o:Expr}{es:List Expr}{kws:List Keyword}{te ta:TE}{t tk:TA}{nm:Option Str}
structure KBinds (K:Ú) (fd:FuncData) (ps ks:List Str) (g:List Value->List Value->List Value) (gV:List V->List V->List V):Prop where
 to:∀ (s:Shared) (us ws:List Value),K.In s.heap->(g us ws).length=ps.length->BindsTo s fd ⟨us,ks.zip ws⟩ (ps.zip (g us ws))
 rel:∀ {vs:List V}{us:List Value}{zs:List V}{ws:List Value},Vals vs us->Vals zs ws->Vals (gV vs zs) (g us ws)
variable {g:List Value->List Value->List Value}{gV:List V->List V->List V}
end
structure FnScope (N P:List Str) (sc:Scope):Prop where
 kind:sc.kind=.function
 co:sc.isCoroutine=false
 gen:sc.isGenerator=false
 nd:N.Nodup
 pre:N.take P.length=P
 par:∀ x∈P,sc.names.lookup x=some .local\/sc.names.lookup x=some .cell
 nofree:∀ y∈sc.names,y.2≠.free
theorem zC {N P:List Str}{sc:Scope} (a:sc.kind=.function:=by rfl) (b:sc.isCoroutine=false:=by rfl) (c:sc.isGenerator=false:=by rfl) (d:N.Nodup:=by decide +kernel) (e:N.take P.length=P:=by rfl) (f:∀ x∈P,sc.names.lookup x=some .local\/sc.names.lookup x=some .cell:=by decide +kernel) (g:∀ y∈sc.names,y.2≠.free:=by decide +kernel):FnScope N P sc:=⟨a,b,c,d,e,f,g⟩
theorem uq {kindOf:Str->Option NameKind}{x:Str}:∀ {binds:List (Str×Value)}{m:Str->Option Value},(∀ v,(x,v)∉binds)->bindL kindOf binds m x=m x
 | [],_,_=>rfl
 | (n,v)::r,m,h=>by
  unfold bindL
  rw [uq fun w hw=>h w (Ã _ hw)]
  split
  ·have:x≠n:=by rintro rfl; exact h v Æ
   simp [this]
  ·rfl
theorem ux {kindOf:Str->Option NameKind}{x:Str}:∀ {binds:List (Str×Value)}{m:Str->Option Value},(∀ v,(x,v)∉binds)->bindC kindOf binds m x=m x
 | [],_,_=>rfl
 | (n,v)::r,m,h=>by
  unfold bindC
  rw [ux fun w hw=>h w (Ã _ hw)]
  split
  ·rfl
  ·have:x≠n:=by rintro rfl; exact h v Æ
   simp [this]
theorem uw {kindOf:Str->Option NameKind}{x:Str}{v:Value}:∀ {P:List Str}{vs:List Value}{i:Nat}{m:Str->Option Value},P.Nodup->P[i]?=some x->vs[i]?=some v->kindOf x=some .local ->
  bindL kindOf (P.zip vs) m x=some v
 | [],_,_,_,_,h,_,_=>by simp at h
 | _::_,[],_,_,_,_,h,_=>by simp at h
 | p::P,w::vs,0,m,nd,h1,h2,hk=>by
  simp at h1 h2; subst h1; subst h2
  show bindL kindOf ((p,w)::P.zip vs) m p=_
  unfold bindL
  rw [uq fun v hv=>(ę.mp nd).1 (List.of_mem_zip hv).1,if_pos hk]
  simp
 | p::P,w::vs,i+1,m,nd,h1,h2,hk=>by
  show bindL kindOf ((p,w)::P.zip vs) m x=_
  unfold bindL
  exact uw (i:=i) (ę.mp nd).2 (by simpa using h1) (by simpa using h2) hk
theorem uy {kindOf:Str->Option NameKind}{x:Str}{v:Value}:∀ {P:List Str}{vs:List Value}{i:Nat}{m:Str->Option Value},P.Nodup->P[i]?=some x->vs[i]?=some v->kindOf x≠some .local ->
  bindC kindOf (P.zip vs) m x=some v
 | [],_,_,_,_,h,_,_=>by simp at h
 | _::_,[],_,_,_,_,h,_=>by simp at h
 | p::P,w::vs,0,m,nd,h1,h2,hk=>by
  simp at h1 h2; subst h1; subst h2
  show bindC kindOf ((p,w)::P.zip vs) m p=_
  unfold bindC
  rw [ux fun v hv=>(ę.mp nd).1 (List.of_mem_zip hv).1,if_neg hk]
  simp
 | p::P,w::vs,i+1,m,nd,h1,h2,hk=>by
  show bindC kindOf ((p,w)::P.zip vs) m x=_
  unfold bindC
  exact uy (i:=i) (ę.mp nd).2 (by simpa using h1) (by simpa using h2) hk
def start (N:List Str) (vs:List V):St:=vs.map some++É (N.length - vs.length) none
def Aw (CX:CXT) (P:Program) (w:World) (K:Ú) (mg:Str->Option Value) (base:Heap) (N:List Str) (qual:Str) (scope:Scope) (f:Addr) (cd:Value) (A:Around) (outer:List Env) (s:Shared) (H:Hp) (E:XK):Cx where
 prog:=P
 w:=w
 K:=K
 mg:=mg
 base:=base
 A:=A.deeper (envOfC qual scope s.heap.objs.size f cd)
 N:=N
 s₀:=s
 H₀:=H
 env:=envOfC qual scope s.heap.objs.size f cd
 outer:=outer
 stack:=envOfC qual scope s.heap.objs.size f cd::outer
 ex:=[]
 calm:=true
 fn:=fun _=>true
 pn:=[]
 xe:=fun e s'=>wpAny (model P w) (A.deeper (envOfC qual scope s.heap.objs.size f cd)) (leaving (envOfC qual scope s.heap.objs.size f cd) e) (fun _ s''=>CX outer H s E e s'') (fun e' s''=>CX outer H s E e' s'') s'
theorem yH {sc:Scope}{n:Nat}{x:Str} (h:sc.names.lookup x=some .cell):∃ c,(cellsFrom n sc.names []).lookup x=some c:=by
 have q:=W.cellsFrom_some sc.names n [] (.inl h)
 exact ũ.mp q
theorem Er {CX:CXT}{P:Program}{w:World}{K:Ú}{mg:Str->Option Value}{base:Heap}{N ps:List Str}{qual:Str}{scope:Scope}{f:Addr}{cd:Value}{A:Around}{outer:List Env}{s s1:Shared}{H:Hp}{E:XK}{us:List Value}{vs:List V}
  (S:FnScope N ps scope) (hd:A.handled=none) (e0:Env0 P w K mg base A outer s H) (hl:vs.length=ps.length) (r:Vals vs us)
  (x:InCallC s s.heap.objs.size (bindL (envOfC qual scope s.heap.objs.size f cd).kindOf (ps.zip us) fun _=>none) (cellsFrom (s.heap.objs.size+1) scope.names []) (bindC (envOfC qual scope s.heap.objs.size f cd).kindOf (ps.zip us) fun _=>none) s1) :
  Inv (Aw CX P w K mg base N qual scope f cd A outer s H E) [] (start N vs) H s1:=by
 have hpl:ps.length<=N.length:=by have:=congrArg List.length S.pre; rw [Ċ] at this; omega
 obtain⟨h1,tk,rfl,hk⟩:=x.done
 have noA:∀ b:Addr,b∉(Aw CX P w K mg base N qual scope f cd A outer s H E).ex:=fun b z=>absurd (show b∈([]:List Addr) from z) (by simp)
 refine⟨⟨e0.mod,S.kind,rfl,rfl,Í _,fun y z c h1 h2=>?_,fun y hy=>?_,fun y c _ h=>?_,fun _=>hd,Around.frames_deeper e0.frames,.inr ⟨rfl,rfl⟩,fun b z=>absurd z (noA b),e0.bs,e0.bsz,fun b _ _=>noA b,fun b z=>absurd z (noA b),e0.mK,e0.frf,fun q z=>nomatch (show q∈([]:List (Addr×Obj×HO)) from z)⟩,
  rfl,e0.bare,Un.kept hk,⟨_,x.toInCall.ns,fun i y v h1 h2 h3=>?_⟩,fun y c h=>⟨_,x.cell y c h⟩,e0.hok.fresh (Í _),fun y c h=>?_,fun p hp=>absurd (show p∈([]:List (Addr×Obj)) from hp) (by simp),e0.hok.kept hk,?_⟩
 ·exact name_of_addr x.apart (Ě h1) (Ě h2)
 ·have hy:scope.names.lookup y=some .cell\/scope.names.lookup y=some .free:=hy
  rcases hy with hy | hy
  ·exact yH hy
  ·exact absurd rfl (S.nofree _ (Ě hy))
 ·exact Nat.le_of_lt (x.above y c (Ě h))
 ·have hi:i<vs.length:=by
   unfold start at h2
   by_cases hi:i<vs.length
   ·exact hi
   ·rw [ë (by simpa using hi)] at h2
    rw [Ń] at h2
    split at h2 <;> cases h2
  have ha:vs[i]?=some v:=by
   unfold start at h2
   rw [ô (by simpa using hi),á] at h2
   cases e:vs[i]? with
   | none=>rw [e] at h2; cases h2
   | some a=>rw [e] at h2; cases h2; rfl
  obtain⟨u,hu,rv⟩:=r.get ha
  have hp:ps[i]?=some y:=by
   rw [← S.pre,List.getElem?_take_of_lt (by omega)]; exact h1
  have ndP:ps.Nodup:=by rw [← S.pre]; exact S.nd.sublist (List.take_sublist _ _)
  refine⟨u,rv,?_⟩
  rcases S.par y (Ì hp) with k | k
  ·exact .inl ⟨k,uw ndP hp hu k⟩
  ·obtain⟨c,e⟩:=yH (n:=s.heap.objs.size+1) k
   refine .inr ⟨.inl k,c,e,?_⟩
   have q:=x.cell y c e
   rw [uy ndP hp hu (by show scope.names.lookup y≠_; rw [k]; decide)] at q
   exact q
 ·exact e0.hok.fresh (Nat.le_of_lt (x.above y c (Ě h)))
 ·unfold start
  show _=N.length
  rw [È,Á,Ď]
  omega
theorem M6 {CX:CXT}{P:Program}{w:World}{K:Ú}{mg:Str->Option Value}{base:Heap}{k:Nat}{f:Addr}{name qual:Str}{params:Arguments}{body:List Stmt}{scope:Scope}{dV kV doc pm cdv ct oc:Value}{an od:Option Addr}
  {osl:Array (Option Value)}{N ps:List Str}{sp:Sp} (lk:K.lookup f=some ⟨oc,od,.func (W.fnOf name qual params body scope dV kV doc pm an cdv ct),osl⟩) (hcd:W.codeIn K cdv qual=true) (S:FnScope N ps scope)
  (len:∀ vs H Q E,sp vs H Q E->vs.length=ps.length)
  (hbody:∀ (A:Around) (outer:List Env) (s:Shared) (H:Hp) (vs:List V) (Q:VK) (E:XK),Room k (A.deeper (envOfC qual scope s.heap.objs.size f cdv))->sp vs H Q E ->
   ∃ t,PSs (Aw CX P w K mg base N qual scope f cdv A outer s H E) body t/\t { nx:=fun _ H'=>Q .non H',rt:=Q } (start N vs) H) :
  FnOk P w K mg base CX (k+1) f (W.fnOf name qual params body scope dV kV doc pm an cdv ct) ps sp:=by
 refine⟨len,fun A outer s H args us vs Q E hr e0 hb r hsp=>?_⟩
 have hl:=len _ _ _ _ hsp
 have KX:K.In s.heap:=e0.mod.kin.keeps fun b o e=>(e0.bs b o e).1
 have lim:s.heap.NoLimit:=e0.mod.nolimit.keeps fun b o e=>(e0.bs b o e).1
 have hkind:∀ y∈ps.zip us,scope.names.lookup y.1=some .local\/(scope.names.lookup y.1=some .cell/\((cellsFrom (s.heap.objs.size+1) scope.names []).lookup y.1).isSome=true):=fun ⟨n,v⟩ hy=>by
  rcases S.par n (List.of_mem_zip hy).1 with q | q
  ·exact .inl q
  ·exact .inr ⟨q,W.cellsFrom_some _ _ _ (.inl q)⟩
 refine codeAny_call_function hr.depth (KX _ _ lk) rfl S.co S.gen rfl (W.codeRec_of KX hcd) (hb _ _ _ _ ?_)
 refine wpAny_newFunctionEnv_cells S.kind hkind fun env he s1 x=>?_
 subst he
 refine⟨lim.keeps x.toInCall.keep,codeAny_func ?_⟩
 obtain⟨t,ht,hq⟩:=hbody A outer s H vs Q E (hr.deeper _) hsp
 have I:Inv (Aw CX P w K mg base N qual scope f cdv A outer s H E) [] (start N vs) H s1:=Er S hr.hd e0 hl r x
 refine ĸ (ht [] s1 (start N vs) H _ I hq) (fun fl s' hs=>?_) fun e s' hs=>hs
 have fin:∀ {σ':St}{H':Hp}{v:V}{u:Value},Inv (Aw CX P w K mg base N qual scope f cdv A outer s H E) [] σ' H' s'->RelV v u->Q v H'->CE outer P w H s Q u s' :=
  fun {σ' H' v u} J rv q=>⟨v,H',J.os,J.bare,J.base,J.hok,rv,q⟩
 cases fl with
 | ret u =>
  obtain⟨v,σ',H',J,rv,q⟩:=hs
  exact fin J rv q
 | next =>
  obtain⟨σ',H',J,q⟩:=hs
  exact fin (v:=V.non) (u:=Ĕ) J rfl q
 | brk =>
  obtain⟨_,_,_,q⟩:=hs
  exact ń q
 | cont =>
  obtain⟨_,_,_,q⟩:=hs
  exact ń q
section
variable {X:Cx}{x:Str}{p pos:Pos}{e:Expr}{es:List Expr}{t:TA}{id T:String}{r:List V->Hp->VK->Prop}
def tCB (r:List V->Hp->VK->Prop) (t:TA):TE:=fun σ H Q=>t σ H fun vs H1=>r vs H1 Q
theorem lW (hc:bN X (.builtin id) r) (hg:Gl X x) (hm:X.mg x=none) (hv:bootBuiltins x=some (.builtin id)) (ha:PA X (e::es) t) (hn:x≠"__name__":=by decide) (hdb:(x == ("__debug__":Str))=false:=by decide)
  (he:starEach (e::es) X.env=(false,eval e X.env)::starEach es X.env:=by rfl) (hpl:(backTo pos (starEach es X.env)).any (·.1)=false:=by rfl):PE X (.Call (.Name x p) (e::es) [] pos) (tCB r t):=by
 intro pins s σ H Q I h
 refine Ō (lg I hg hm hv ?_ hn hdb)
 exact PyProof.Rows.callWith_builtin1 (thn (ha pos pins s σ H _ I h) fun us s1 ⟨vs,H1,I1,r1,q1⟩=>hc pins s1 σ H1 vs us Q I1 r1 q1) he hpl
theorem nU (hc:bN X (.type T) r) (hg:Gl X x) (hm:X.mg x=none) (hv:bootBuiltins x=some (.type T)) (ha:PA X (e::es) t) (hn:x≠"__name__":=by decide) (hdb:(x == ("__debug__":Str))=false:=by decide)
  (he:starEach (e::es) X.env=(false,eval e X.env)::starEach es X.env:=by rfl) (hpl:(backTo pos (starEach es X.env)).any (·.1)=false:=by rfl):PE X (.Call (.Name x p) (e::es) [] pos) (tCB r t):=by
 intro pins s σ H Q I h
 refine Ō (lg I hg hm hv ?_ hn hdb)
 exact ľ (thn (ha pos pins s σ H _ I h) fun us s1 ⟨vs,H1,I1,r1,q1⟩=>hc pins s1 σ H1 vs us Q I1 r1 q1) he hpl
end
end L2
namespace HT
open PySem PyProof.Rows
section
open PySem.SeqAt
open PySem.AutoSeq1 (wpAny_loadPart')
open PySem.MeetsSeq PySem.MeetsSeq2 PySem.MeetsSeq3
end
section
variable {prog:Program}{w:World}{A:Around}{E:Value->Shared->Prop}{s:Shared}
theorem Mg {t b:Addr}{vs ws:List Value}{Q:Value->Shared->Prop} (ht:IsTup s.heap t vs.toArray) (hb:IsTup s.heap b ws.toArray) (hv:vs≠[])
  (h1:ws=[]->Q (.ref t) s) (h2:ws≠[]->Q (.ref s.heap.objs.size) { s with heap:=s.heap.push { cls:=.type "tuple",data:=.seq (vs++ws).toArray } })
  (hsz:vs.length+ws.length<=sizeLine):wpAny (model prog w) A (binaryOp .Add (.ref t) (.ref b)) Q E s:=by
 obtain⟨⟨cls,dd,data,sl⟩,ho,hc,n,hd⟩:=id ht
 obtain⟨⟨cls2,dd2,data2,sl2⟩,ho2,hc2,n2,hd2⟩:=id hb
 simp only at hc hd hc2 hd2
 subst hc hd hc2 hd2
 have e:vs.toArray++ws.toArray=(vs++ws).toArray:=by simp
 by_cases hw:ws=[]
 ·exact concat_meets ⟨_,ho,rfl⟩ ⟨_,ho2,rfl⟩ noFill_tuple_add seq_tuple_add PySem.F.slot_tuple_add PySem.F.entry_tuple_add (PySem.F.args_tuple_add_2 _ _)
   (tuple_addW1 t b vs.toArray ws.toArray n n2 dd dd2 sl sl2 (by simpa using hv) (by simp [hw])) ⟨ho,ho2,h1 hw⟩
 ·refine concat_meets ⟨_,ho,rfl⟩ ⟨_,ho2,rfl⟩ noFill_tuple_add seq_tuple_add PySem.F.slot_tuple_add PySem.F.entry_tuple_add (PySem.F.args_tuple_add_2 _ _)
   (tuple_addW2 t b vs.toArray ws.toArray n n2 dd dd2 sl sl2 (by simpa using hv) (by simpa using hw) (by rw [Ñ,Ñ]; exact hsz)) ⟨ho,ho2,?_⟩
  rw [e]
  exact h2 hw
def sIx (n d:Nat):Option Int->Nat
 | none=>d
 | some v=>if v<0 then (v+(n:Int)).toNat else min v.toNat n
theorem iz (n d k:Nat):sIx n d (some (k:Int))=min k n:=by
 show (if (k:Int)<0 then ((k:Int)+(n:Int)).toNat else min (k:Int).toNat n)=min k n
 rw [if_neg (by omega),Ù]
theorem N8 (n d:Nat) (hd:d<=n) (o:Option Int):sIx n d o<=n:=by
 cases o with
 | none=>exact hd
 | some v =>
  show (if v<0 then (v+(n:Int)).toNat else min v.toNat n)<=n
  by_cases hv:v<0
  ·rw [if_pos hv]; omega
  ·rw [if_neg hv]; exact Nat.min_le_right _ _
theorem Dd (v:Int) (n d:Nat):(if v<0 then max (v+(n:Int)) 0 else min v (n:Int))=((sIx n d (some v):Nat):Int):=by
 show (if v<0 then max (v+(n:Int)) 0 else min v (n:Int))=(((if v<0 then (v+(n:Int)).toNat else min v.toNat n):Nat):Int)
 by_cases hv:v<0
 ·simp only [if_pos hv]; omega
 ·simp only [if_neg hv]; omega
theorem Bc (lo hi:Option Int) (n:Nat):Builtin.Slice.sliceAdjust lo hi 1 (n:Int)=(((sIx n 0 lo:Nat):Int),((sIx n n hi:Nat):Int)):=by
 have h1:¬ ((1:Int)<0):=by omega
 unfold Builtin.Slice.sliceAdjust
 simp only [h1,if_false]
 refine Prod.ext ?_ ?_
 ·cases lo with
  | none=>rfl
  | some v=>exact Dd v n 0
 ·cases hi with
  | none=>rfl
  | some v=>exact Dd v n n
theorem zj (i j:Nat):Ŝ (i:Int) (j:Int) 1=j - i:=by
 unfold Ŝ
 have h1:(1:Int) > 0:=by omega
 simp only [h1,if_true,Int.ediv_one]
 split <;> omega
theorem qw {v:Value}{o:Option Int}{Q:Option Int->Shared->Prop} (p:IsPart v o) (h:Q o s):wpAny (model prog w) A (Builtin.Slice.slicePartIndex v) Q E s:=by
 cases p with
 | none=>exact slicePart_none h
 | int i t=>exact slicePart_int h
theorem nO {sl:Addr}{vl vu:Value}{lo hi:Option Int}{n:Nat}{Q:Int×Int×Nat->Shared->Prop} (hs:s.heap.IsSliceOf sl vl vu .none) (pl:IsPart vl lo) (pu:IsPart vu hi)
  (h:Q (((sIx n 0 lo:Nat):Int),1,sIx n n hi - sIx n 0 lo) s):wpAny (model prog w) A (Builtin.Slice.sliceApplied (.ref sl) (pure (n:Int))) Q E s:=by
 obtain⟨os,hos,hcs,hds⟩:=id hs
 unfold Builtin.Slice.sliceApplied Builtin.Slice.sliceFields
 refine Ä (Ä (wpAny_field hos hds (x:=vl) rfl (Ä (wpAny_field hos hds (x:=vu) rfl (Ä (wpAny_field hos hds (x:=.none) rfl (Ò ?_)))))))
 refine Ä (slicePart_none ?_)
 show wpAny _ _ (if ((1:Int) == 0)=true then _ else _) _ _ s
 rw [if_neg (by decide)]
 refine Ä (qw pl (Ä (qw pu (Ä (Ò ?_)))))
 show wpAny _ _ (match Builtin.Slice.sliceAdjust lo hi 1 (n:Int) with | (lo,hi)=>pure (lo,(1:Int),Ŝ lo hi 1)) _ _ s
 rw [Bc lo hi n]
 show wpAny _ _ (pure (((sIx n 0 lo:Nat):Int),(1:Int),Ŝ ((sIx n 0 lo:Nat):Int) ((sIx n n hi:Nat):Int) 1)) _ _ s
 rw [zj]
 exact Ò h
theorem GZ (xs:Array Value) (i k:Nat):((ä k).filterMap fun (m:Nat)=>xs[((i:Int)+(m:Int) * 1).toNat]?).toArray=((xs.toList.drop i).take k).toArray:=by
 have e:(fun (m:Nat)=>xs[((i:Int)+(m:Int) * 1).toNat]?)=fun m=>xs[i+m]?:=by
  funext m
  have:((i:Int)+(m:Int) * 1).toNat=i+m:=by omega
  rw [this]
 rw [e]
 have:=pick_run xs i k
 rw [List.filterMap_map] at this
 have e2:((fun x=>xs[x]?) ∘ fun x=>i+x)=fun m=>xs[i+m]?:=rfl
 rw [e2] at this
 rw [this]
theorem mJ {t sl:Addr}{items:Array Value}{vl vu:Value}{lo hi:Option Int}{Q:Value->Shared->Prop} (ht:IsTup s.heap t items) (hs:s.heap.IsSliceOf sl vl vu .none) (pl:IsPart vl lo) (pu:IsPart vu hi)
  (hw:¬ (sIx items.size 0 lo=0/\sIx items.size items.size hi=items.size))
  (h:Q (.ref s.heap.objs.size) { s with heap:=s.heap.push { cls:=.type "tuple",data:=.seq ((items.toList.drop (sIx items.size 0 lo)).take (sIx items.size items.size hi - sIx items.size 0 lo)).toArray } })
  (hsz:items.size<=sizeLine):wpAny (model prog w) A (getItem (.ref t) (.ref sl)) Q E s:=by
 have htake:sizeOk (.seq ((items.toList.drop (sIx items.size 0 lo)).take (sIx items.size items.size hi - sIx items.size 0 lo)).toArray):=by
  show ((items.toList.drop (sIx items.size 0 lo)).take (sIx items.size items.size hi - sIx items.size 0 lo)).toArray.size<=sizeLine
  rw [Ñ,Ċ,õ,Ķ]
  omega
 have hj:sIx items.size items.size hi<=items.size:=N8 _ _ (Í _) hi
 obtain⟨os,hos,hcs,hds⟩:=id hs
 have hTs:s.TypeIs (.ref sl) "slice":=⟨os,hos,hcs⟩
 unfold getItem
 try with_reducible refine Ġ ?_
 first | refine Ä (Ò ?_) | skip
 refine Ä (wpAny_sequenceKey ht.typeIs (by decide) ?_)
 refine Ä (wpAny_callSpecial?_slot (name:=í "__getitem__") ht.typeIs PyProof.Rows.slot_tuple_getitem
  (wpAny_call_entry PyProof.Rows.slot_tuple_getitem ht.typeIs entry_tuple_getitem ?_ (args_tuple_getitem _ _)))
 show wpAny _ _ (Builtin.Tuple.tupleItemsOf (.ref t) >>= _) _ _ s
 refine Ä (tupleItemsOf_ ht ?_)
 refine Ä (wpAny_typeOf hTs ?_)
 rw [if_pos (by decide)]
 refine Ä (nO hs pl pu ?_)
 have hno:¬ ((((sIx items.size 0 lo:Nat):Int) == 0&&(1:Int) == 1&&(sIx items.size items.size hi - sIx items.size 0 lo) == items.size)=true):=by
  intro q
  rw [Ý,Ý] at q
  have q1:((sIx items.size 0 lo:Nat):Int)=0:=eq_of_beq q.1.1
  have q2:sIx items.size items.size hi - sIx items.size 0 lo=items.size:=eq_of_beq q.2
  exact hw ⟨by omega,by omega⟩
 show wpAny _ _ (if (((sIx items.size 0 lo:Nat):Int) == 0&&(1:Int) == 1&&(sIx items.size items.size hi - sIx items.size 0 lo) == items.size)=true then _ else _) _ _ s
 rw [if_neg hno,GZ]
 first
  | exact Ä (m:=ş _) (wpAny_newObj_type (Ò ⟨_,rfl,Ò h⟩) htake)
  | exact Ä (m:=ş _) (wpAny_newObj_type (Ä (Ò (Ò ⟨_,rfl,Ò h⟩))) htake)
  | exact Ä (Ä (m:=ş _) (wpAny_newObj_type (Ò (Ò ⟨_,rfl,Ò h⟩)) htake))
  | exact Ä (Ä (m:=ş _) (wpAny_newObj_type (Ò ⟨_,rfl,Ò h⟩) htake))
end
end HT
namespace L2
open PySem PySem.Spec PyProof.Rows
abbrev TO:=St->Hp->(Option Int->Hp->Prop)->Prop
def PO (X:Cx) (e:Option Expr) (t:TO):Prop :=
 ∀ (pins:List (Addr×Obj)) (s:Shared) (σ:St) (H:Hp) (Q:Option Int->Hp->Prop),Inv X pins σ H s->t σ H Q ->
  wpAny (model X.prog X.w) X.A (evalPart e X.env) (fun u s'=>∃ o H',Inv X pins σ H' s'/\IsPart u o/\Q o H') X.xe s
def JZ:TO:=fun _ H Q=>Q none H
def Q6 (t:TE):TO:=fun σ H Q=>t σ H fun x H1=>∃ i,x=.int i/\Q (some i) H1
theorem intsAre_of {ns:List Int}:∀ {us:List Value},Vals (ns.map V.int) us->IntsAre us ns:=by
 induction ns with
 | nil=>intro us r; rw [List.map_nil] at r; cases r; exact .nil
 | cons n ns ih =>
  intro us r
  rw [ã] at r
  cases r with
  | cons r1 r2 =>
   obtain⟨t,e⟩:=r1
   subst e
   exact .cons n t (ih r2)
section
variable {X:Cx}{e:Expr}{te:TE}{lo hi:Option Expr}{tl th:TO}{pos p2:Pos}
theorem BJ:PO X none JZ:=by
 intro pins s σ H Q I h
 rw [evalPart_none]
 exact Ò ⟨none,H,I,.none,h⟩
theorem Bx (h:PE X e te):PO X (some e) (Q6 te):=by
 intro pins s σ H Q I hw
 rw [evalPart_some]
 refine thn (h pins s σ H _ I hw) fun u s1 ⟨x,H1,I1,r1,q1⟩=>?_
 obtain⟨i,rfl,q⟩:=q1
 obtain⟨t,rfl⟩:=r1
 exact⟨some i,H1,I1,.int i t,q⟩
def SlR (X:Cx) (r:V->Option Int->Option Int->Hp->VK->Prop):Prop :=
 ∀ (pins:List (Addr×Obj)) (s:Shared) (σ:St) (H:Hp) (x:V) (v vl vu:Value) (lo hi:Option Int) (sl:Addr) (Q:VK),Inv X pins σ H s->RelV x v->s.heap.IsSliceOf sl vl vu .none->IsPart vl lo->IsPart vu hi->r x lo hi H Q ->
  ∃ T id,typeLookup (.type T) "__getitem__"=pure (some (.builtin id))/\s.TypeIs v T/\wpAny (model X.prog X.w) X.A (getItem v (.ref sl)) (EP X pins σ Q) X.xe s
theorem SlR.or {r r':V->Option Int->Option Int->Hp->VK->Prop} (h:SlR X r) (h':SlR X r'):SlR X (fun x lo hi H Q=>r x lo hi H Q\/r' x lo hi H Q):=by
 intro pins s σ H x v vl vu lo hi sl Q I rx hs pl pu q
 rcases q with q | q
 ·exact h pins s σ H x v vl vu lo hi sl Q I rx hs pl pu q
 ·exact h' pins s σ H x v vl vu lo hi sl Q I rx hs pl pu q
def tSl (r:V->Option Int->Option Int->Hp->VK->Prop) (te:TE) (tl th:TO):TE:=fun σ H Q=>te σ H fun x H1=>tl σ H1 fun l H2=>th σ H2 fun u H3=>r x l u H3 Q
theorem qH {r:V->Option Int->Option Int->Hp->VK->Prop} (hr:SlR X r) (he:PE X e te) (hl:PO X lo tl) (hu:PO X hi th):PE X (.Subscript e (.Slice lo hi none p2) pos) (tSl r te tl th):=by
 intro pins s σ H Q I h
 refine Subscript_ (thn (he pins s σ H _ I h) fun v s1 ⟨x,H1,I1,r1,q1⟩=>?_)
 refine wpAny_Slice (thn (hl pins s1 σ H1 _ I1 q1) fun vl s2 ⟨l,H2,I2,pl,q2⟩=>thn (hu pins s2 σ H2 _ I2 q2) fun vu s3 ⟨u,H3,I3,pu,q3⟩=>?_)
 rw [evalPart_none]
 refine Ò ?_
 have I4:Inv X pins σ H3 { s3 with heap:=s3.heap.push { cls:=.type "slice",data:=.fields #[vl,vu,.none] } }:=I3.kept (t':=s3.toks) fun b ob q=>Ð _ q
 obtain⟨T,id,hT,ht,hg⟩:=hr pins { s3 with heap:=s3.heap.push { cls:=.type "slice",data:=.fields #[vl,vu,.none] } } σ H3 x v vl vu l u s3.heap.objs.size Q I4 r1 (Heap.IsSliceOf.new ..) pl pu q3
 show wpAny (model X.prog X.w) X.A (subscriptTail e (.Slice lo hi none p2) v (.ref s3.heap.objs.size)) (EP X pins σ Q) X.xe { s3 with heap:=s3.heap.push { cls:=.type "slice",data:=.fields #[vl,vu,.none] } }
 exact tail_any (ops:=[.ref s3.heap.objs.size,v]) ht hT hg (by with_unfolding_all rfl)
def oR (xs:List V) (lo hi:Option Int):List V:=(xs.drop (HT.sIx xs.length 0 lo)).take (HT.sIx xs.length xs.length hi - HT.sIx xs.length 0 lo)
theorem pC (xs:List V) (lo hi:Option Int):(oR xs lo hi).length<=xs.length:=by
 unfold oR
 rw [Ċ,õ]
 omega
def Uq (K:Ú):V->Option Int->Option Int->Hp->VK->Prop:=fun x lo hi H Q=>∃ a xs,x=.ref a/\SqT K H a xs /\
 ¬ (HT.sIx xs.length 0 lo=0/\HT.sIx xs.length xs.length hi=xs.length)/\∀ p,H p=none->Q (.ref p) (upd H p (.tup (oR xs lo hi)))
theorem N7:SlR X (Uq X.K):=by
 intro pins s σ H x v vl vu lo hi sl Q I rx hs pl pu h
 obtain⟨a,xs,rfl,hx,hw,q⟩:=h
 cases rx
 obtain⟨its,r,ht,hz⟩:=I.tuple hx
 have hlen:its.toArray.size=xs.length:=by rw [Ñ]; exact r.length.symm
 refine⟨"tuple",_,PyProof.Rows.slot_tuple_getitem.lookup,ht.typeIs,?_⟩
 refine HT.mJ ht hs pl pu (by rw [hlen]; exact hw) ?_ (by rw [hlen]; exact hz)
 rw [hlen]
 refine⟨.ref s.heap.objs.size,_,I.laid (t':=s.toks) (o:=.tup (oR xs lo hi)) (fun b ob q=>Ð _ q) (Í _) ?_,rfl,q _ (I.hok.fresh (Í _))⟩
 exact⟨þ (pC xs lo hi) hz,_,(r.drop (HT.sIx xs.length 0 lo)).take (HT.sIx xs.length xs.length hi - HT.sIx xs.length 0 lo),IsTup.new _ _⟩
def RL (K:Ú):R2:=fun x y H Q=>∃ a b xs ys,x=.ref a/\y=.ref b/\SqT K H a xs/\SqT K H b ys/\xs≠[]/\xs.length+ys.length<=sizeLine /\
 (ys=[]->Q (.ref a) H)/\(ys≠[]->∀ p,H p=none->Q (.ref p) (upd H p (.tup (xs++ys))))
theorem Vals.vB {xs:List V}{us:List Value} (r:Vals xs us):us=[]↔xs=[]:=by
 cases r with
 | nil=>simp
 | cons _ _=>simp
theorem KD:OpR X (binaryOp .Add) (RL X.K):=by
 intro pins s σ H x y v u Q I rx ry h
 obtain⟨a,b,xs,ys,rfl,rfl,ha,hb,hx,hz,q1,q2⟩:=h
 cases rx
 cases ry
 obtain⟨its,r1,p1,_⟩:=I.tuple ha
 obtain⟨its2,r2,p2,_⟩:=I.tuple hb
 refine HT.Mg p1 p2 (fun z=>hx (r1.vB.mp z)) (fun z=>⟨.ref a,H,I,rfl,q1 (r2.vB.mp z)⟩) (fun z=>?_) (by rw [← r1.length,← r2.length]; exact hz)
 refine⟨.ref s.heap.objs.size,_,I.laid (t':=s.toks) (o:=.tup (xs++ys)) (fun b ob q=>Ð _ q) (Í _) ?_,rfl,q2 (fun w=>z (r2.vB.mpr w)) _ (I.hok.fresh (Í _))⟩
 exact⟨by rw [È]; exact hz,_,r1.append r2,IsTup.new _ _⟩
end
def ixN (n:Nat) (i:Int):Option Nat:=if 0<=i then (if i<n then some i.toNat else none) else if -(n:Int)<=i then some (i+n).toNat else none
def atI {α:Type} (xs:List α) (i:Int):Option α:=(ixN xs.length i).bind fun j=>xs[j]?
theorem Ls {n:Nat}{i:Int}{j:Nat} (h:ixN n i=some j):seqIndex? i n=some j/\j<n/\-(n:Int)<=i/\i<n:=by
 unfold ixN at h
 by_cases h0:0<=i
 ·rw [if_pos h0] at h
  by_cases h1:i<n
  ·rw [if_pos h1] at h
   have e:i.toNat=j:=æ h
   exact⟨by rw [seqIndex_of h0 h1,e],by omega,by omega,h1⟩
  ·rw [if_neg h1] at h; cases h
 ·rw [if_neg h0] at h
  by_cases h1:-(n:Int)<=i
  ·rw [if_pos h1] at h
   have e:(i+n).toNat=j:=æ h
   exact⟨by rw [seqIndex_neg (by omega) h1,e],by omega,h1,by omega⟩
  ·rw [if_neg h1] at h; cases h
theorem Dh {α:Type}{xs:List α}{i:Int}{v:α} (h:atI xs i=some v):∃ j,seqIndex? i xs.length=some j/\xs[j]?=some v/\j<xs.length/\-(xs.length:Int)<=i/\i<xs.length:=by
 unfold atI at h
 cases e:ixN xs.length i with
 | none=>rw [e] at h; cases h
 | some j =>
  rw [e] at h
  obtain⟨h1,h2,h3,h4⟩:=Ls e
  exact⟨j,h1,h,h2,h3,h4⟩
theorem d7 {α:Type}{xs:List α}{j:Nat}{v:α} (h:xs[j]?=some v):atI xs (j:Int)=some v:=by
 have hj:j<xs.length:=(Î.mp h).1
 have e:ixN xs.length (j:Int)=some j:=by
  unfold ixN
  rw [if_pos (by omega),if_pos (by omega)]; simp
 unfold atI; rw [e]; exact h
theorem yN {α:Type} (xs:List α) (v:α):atI (xs++[v]) (-1)=some v:=by
 have hl:(xs++[v]).length=xs.length+1:=by simp
 have e:ixN (xs++[v]).length (-1)=some xs.length:=by
  unfold ixN
  rw [hl,if_neg (by decide),if_pos (by omega)]
  congr 1
  omega
 unfold atI
 rw [e]
 show (xs++[v])[xs.length]?=some v
 simp
def jV (b:Expr):Prop:=∀ o i,subscripted b false o i=operate [o,i] (getItem o i)
def IxR (X:Cx) (r:R2):Prop :=
 ∀ (value slice:Expr) (pins:List (Addr×Obj)) (s:Shared) (σ:St) (H:Hp) (x y:V) (v u:Value) (Q:VK),Inv X pins σ H s->RelV x v->RelV y u->r x y H Q ->
  subscripted slice false v u=operate [v,u] (getItem v u)->wpAny (model X.prog X.w) X.A (subscriptTail value slice v u) (EP X pins σ Q) X.xe s
def MtR (X:Cx) (id:String) (r:V->List V->Hp->VK->Prop):Prop :=
 ∀ (pins:List (Addr×Obj)) (s:Shared) (σ:St) (H:Hp) (x:V) (xs:List V) (v:Value) (us:List Value) (Q:VK),Inv X pins σ H s->RelV x v->Vals xs us->r x xs H Q ->
  wpAny (model X.prog X.w) X.A (call (.builtin id) (v::us)) (EP X pins σ Q) X.xe s
section
variable {X:Cx}{a b:Expr}{ta tb:TE}{pos:Pos}
theorem IxR.or {r r':R2} (h:IxR X r) (h':IxR X r'):IxR X (fun x y H Q=>r x y H Q\/r' x y H Q):=by
 intro value slice pins s σ H x y v u Q I rx ry q hs
 rcases q with q | q
 ·exact h value slice pins s σ H x y v u Q I rx ry q hs
 ·exact h' value slice pins s σ H x y v u Q I rx ry q hs
theorem xr {r:R2} (hr:IxR X r) (ha:PE X a ta) (hb:PE X b tb) (hs:jV b):PE X (.Subscript a b pos) (tOp r ta tb):=by
 intro pins s σ H Q I h
 exact Subscript_ (QL ha hb I h fun v u s2 x y H2 I2 rx ry q=>hr a b pins s2 σ H2 x y v u Q I2 rx ry q (hs _ _))
def RJ (K:Ú):R2:=fun x y H Q=>∃ p xs i v,x=.ref p/\y=.int i/\SqL K H p xs/\atI xs i=some v/\Q v H
def Us (K:Ú):R2:=fun x y H Q=>∃ p xs i v,x=.ref p/\y=.int i/\SqT K H p xs/\atI xs i=some v/\Q v H
theorem qb:IxR X (RJ X.K):=by
 intro value slice pins s σ H x y v u Q I rx ry h hs
 obtain⟨p,xs,i,z,rfl,rfl,hq,he,q⟩:=h
 cases rx
 obtain⟨t,rfl⟩:=ry
 obtain⟨its,r,pl,hz⟩:=I.list hq
 obtain⟨j,h1,h2,h3,h4,h5⟩:=Dh he
 obtain⟨w,ew,rw'⟩:=r.get h2
 have hl:=r.length
 have hn:=vI
 have fin:EP X pins σ Q w s:=⟨z,H,I,rw',q⟩
 by_cases h0:0<=i
 ·have hj:i.toNat=j:=by
   rw [seqIndex_of h0 h5] at h1
   exact æ h1
  exact item_listR pl.isList h0 (by omega) (by rw [hj]; simpa using ew) fin hs
 ·have hj:(i+(its.toArray.size:Int)).toNat=j:=by
   rw [seqIndex_neg (by omega) h4] at h1
   rw [Ñ,← hl]
   exact æ h1
  exact subscriptTail_builtinR (x:=w) pl.isList.typeIs slot_list_getitem.lookup
   (wpAny_getItem_list_neg (Q:=fun r s'=>r=w/\EP X pins σ Q r s') pl.isList (by omega) (by rw [Ñ] <;> omega) (by omega) (by rw [hj]; simpa using ew) ⟨rfl,fin⟩) hs
theorem Iw:IxR X (Us X.K):=by
 intro value slice pins s σ H x y v u Q I rx ry h hs
 obtain⟨p,xs,i,z,rfl,rfl,hq,he,q⟩:=h
 cases rx
 obtain⟨t,rfl⟩:=ry
 obtain⟨its,r,pl,hz⟩:=I.tuple hq
 obtain⟨j,h1,h2,h3,h4,h5⟩:=Dh he
 obtain⟨w,ew,rw'⟩:=r.get h2
 have hl:=r.length
 have hn:=vI
 have fin:EP X pins σ Q w s:=⟨z,H,I,rw',q⟩
 exact subscriptTail_builtinR (x:=w) pl.typeIs slot_tuple_getitem.lookup
  (getItem_tuple (j:=j) (Q:=fun r s'=>r=w/\EP X pins σ Q r s') pl (by omega) (by omega) (by rw [Ñ,← hl]; exact h1) (by simpa using ew) ⟨rfl,fin⟩) hs
theorem uM (lo hi:Option Int) (n:Nat):(sliceBounds lo hi none n).1=((HT.sIx n 0 lo:Nat):Int)/\(sliceBounds lo hi none n).2.1=((HT.sIx n n hi:Nat):Int)/\(sliceBounds lo hi none n).2.2=1:=by
 refine⟨?_,?_,rfl⟩
 ·cases lo with
  | none=>simp [sliceBounds,HT.sIx]
  | some i =>
   simp only [sliceBounds,HT.sIx,Option.getD_none,show (1:Int) > 0 by decide,if_true]
   by_cases h:i<0
   ·simp only [h,if_true] <;> omega
   ·simp only [h,if_false] <;> omega
 ·cases hi with
  | none=>simp [sliceBounds,HT.sIx]
  | some i =>
   simp only [sliceBounds,HT.sIx,Option.getD_none,show (1:Int) > 0 by decide,if_true]
   by_cases h:i<0
   ·simp only [h,if_true] <;> omega
   ·simp only [h,if_false] <;> omega
theorem su (its:List Value) (lo hi:Option Int):slicePick its.toArray lo hi none=((its.drop (HT.sIx its.length 0 lo)).take (HT.sIx its.length its.length hi - HT.sIx its.length 0 lo)).toArray:=by
 obtain⟨h1,h2,h3⟩:=uM lo hi its.toArray.size
 unfold slicePick
 rw [h1,h2,h3]
 simp only [sliceRange_one,pick_run,Ñ] <;> rfl
def Ur (K:Ú):V->Option Int->Option Int->Hp->VK->Prop:=fun x lo hi H Q=>∃ a xs,x=.ref a/\SqL K H a xs/\∀ p,H p=none->Q (.ref p) (upd H p (.lst (oR xs lo hi)))
theorem uN:SlR X (Ur X.K):=by
 intro pins s σ H x v vl vu lo hi sl Q I rx hs pl pu h
 obtain⟨a,xs,rfl,hx,q⟩:=h
 cases rx
 obtain⟨its,r,ht,hz⟩:=I.list hx
 have hlen:=r.length
 refine⟨"list",_,slot_list_getitem.lookup,ht.isList.typeIs,?_⟩
 refine wpAny_getItem_list_slice ht.isList hs pl pu .none (by simp) ?_ (by rw [Ñ] <;> omega)
 rw [su,← hlen]
 refine⟨.ref s.heap.objs.size,_,I.laid (t':=s.toks) (o:=.lst (oR xs lo hi)) (fun b ob q=>Ð _ q) (Í _) ?_,rfl,q _ (I.hok.fresh (Í _))⟩
 exact⟨þ (pC xs lo hi) hz,_,0,(r.drop (HT.sIx xs.length 0 lo)).take (HT.sIx xs.length xs.length hi - HT.sIx xs.length 0 lo),à _ rfl⟩
theorem mY:bN X (.builtin "len") (fun xs H Q=>∃ p ys,xs=[.ref p]/\(SqL X.K H p ys\/SqT X.K H p ys)/\Q (.int ys.length) H):=by
 intro pins s σ H xs us Q I r h
 obtain⟨p,ys,rfl,hq,q⟩:=h
 obtain⟨u,rfl,rx⟩:=vals1 r
 cases rx
 have hn:=vI
 rcases hq with hq | hq
 ·obtain⟨its,r',pl,hz⟩:=I.list hq
  have hlen:=r'.length
  exact Calls.call_len_list pl.isList (by simp only [Ñ] <;> omega) ⟨.int ys.length,H,I.tok _,⟨s.toks+1,by rw [Ñ,hlen]⟩,q⟩
 ·obtain⟨its,r',pl,hz⟩:=I.tuple hq
  have hlen:=r'.length
  exact len_tuple pl (by simp only [Ñ] <;> omega) ⟨.int ys.length,H,I.tok _,⟨s.toks+1,by rw [Ñ,hlen]⟩,q⟩
theorem mX:bN X (.type "list") (fun xs H Q=>∃ p ys,xs=[.ref p]/\(SqL X.K H p ys\/SqT X.K H p ys)/\∀ l,H l=none->Q (.ref l) (upd H l (.lst ys))):=by
 intro pins s σ H xs us Q I r h
 obtain⟨p,ys,rfl,hq,q⟩:=h
 obtain⟨u,rfl,rx⟩:=vals1 r
 cases rx
 have fin:∀ (its:List Value),Vals ys its->ys.length<=sizeLine->∀ (h':Heap) (c':Nat),(∀ b o',s.heap.get? b=some o'->h'.get? b=some o') ->
   h'.get? s.heap.objs.size=some { cls:=.type "list",dict:=none,data:=.seq its.toArray c',slots:=#[] }->EP X pins σ Q (.ref s.heap.objs.size) { s with heap:=h' }:=fun its r' hz h' c' kp e =>
  ⟨.ref s.heap.objs.size,_,I.laid (t':=s.toks) kp (Í _) (show bf X.prog X.w _ h' _ (.lst ys) from ⟨hz,its,c',r',e⟩),rfl,q _ (I.hok.fresh (Í _))⟩
 rcases hq with hq | hq
 ·obtain⟨its,r',pl,hz⟩:=I.list hq
  have hlen:=r'.length
  obtain⟨o,ho,hc,n,hd⟩:=pl.isList
  exact call_list_seq p (.inl rfl) ho hc hd (fun h' c' kp e=>fin its r' hz h' c' kp e) (by simp only [Ñ] <;> omega)
 ·obtain⟨its,r',pl,hz⟩:=I.tuple hq
  have hlen:=r'.length
  obtain⟨o,ho,hc,n,hd⟩:=pl
  exact call_list_seq p (.inr rfl) ho hc hd (fun h' c' kp e=>fin its r' hz h' c' kp e) (by simp only [Ñ] <;> omega)
theorem sU:bN X (.type "tuple") (fun xs H Q=>∃ p ys,xs=[.ref p]/\((SqL X.K H p ys/\∀ l,H l=none->Q (.ref l) (upd H l (.tup ys)))\/(SqT X.K H p ys/\Q (.ref p) H))):=by
 intro pins s σ H xs us Q I r h
 obtain⟨p,ys,rfl,h⟩:=h
 obtain⟨u,rfl,rx⟩:=vals1 r
 cases rx
 rcases h with ⟨hq,q⟩ | ⟨hq,q⟩
 ·obtain⟨its,r',pl,hz⟩:=I.list hq
  have hlen:=r'.length
  refine call_tuple_list pl.isList (fun h' kp=>?_) (by simp only [Ñ] <;> omega)
  have I1:Inv X pins σ H { s with heap:=h' }:=I.kept (t':=s.toks) kp
  have I2:Inv X pins σ (upd H h'.objs.size (.tup ys)) { s with heap:=h'.push { cls:=.type "tuple",data:=.seq its.toArray } } :=
   I1.laid (t':=s.toks) (fun b o e=>Ð _ e) (Í _) (show bf X.prog X.w _ _ _ (.tup ys) from ⟨hz,its,r',IsTup.new _ _⟩)
  exact⟨.ref h'.objs.size,_,I2,rfl,q _ (I1.hok.fresh (Í _))⟩
 ·obtain⟨its,r',pl,hz⟩:=I.tuple hq
  exact call_tuple_same pl ⟨.ref p,H,I,rfl,q⟩
def tyV (K:Ú) (T:String) (x:V) (H:Hp):Prop:=match x with
 | .str _=>T="str"
 | .int _=>T="int"
 | .ref p=>(T="list"/\∃ xs,SqL K H p xs)\/(T="tuple"/\∃ o,K.lookup p=some o/\o.cls=.type "tuple"/\o.dict=none) ∨
   (T="dict"/\((∃ kvs,H p=some (.dK kvs))\/∃ kvs,H p=some (.dT kvs)))\/(T="set"/\∃ S n,H p=some (.set S n))
 | _=>False
theorem Nu {pins:List (Addr×Obj)}{σ:St}{H:Hp}{s:Shared}{T:String}{x:V}{v:Value} (I:Inv X pins σ H s) (r:RelV x v) (ty:tyV X.K T x H) :
  s.TypeIs v T/\∀ a,v=.ref a->∃ ob,s.heap.get? a=some ob/\ob.dict=none:=by
 cases x with
 | str z =>
  obtain⟨t,rfl⟩:=r
  cases (show T="str" from ty)
  exact⟨typeIs_str s z t,fun _ e=>nomatch e⟩
 | int i =>
  obtain⟨t,rfl⟩:=r
  cases (show T="int" from ty)
  exact⟨typeIs_int s i t,fun _ e=>nomatch e⟩
 | ref p =>
  cases r
  rcases ty with ⟨rfl,xs,hq⟩ | ⟨rfl,o,hk,hc,hd⟩ | ⟨rfl,hk⟩ | ⟨rfl,S,n,hk⟩
  ·obtain⟨its,_,pl,_⟩:=I.list hq
   refine⟨pl.isList.typeIs,fun a e=>?_⟩
   cases e
   obtain⟨o,n,e,c,hd,_⟩:=pl
   exact⟨o,e,hd⟩
  ·refine⟨⟨o,I.kIn p o hk,hc⟩,fun a e=>?_⟩
   cases e
   exact⟨o,I.kIn _ o hk,hd⟩
  ·have z:∃ o,s.heap.get? p=some o/\o.ExactDict:=by
    rcases hk with ⟨kvs,hk⟩ | ⟨kvs,hk⟩
    ·obtain⟨_,_,_,_,o,_,_,e,ex,_⟩:=I.hok p _ hk
     exact⟨o,e,ex⟩
    ·obtain⟨_,_,_,_,o,_,_,e,ex,_⟩:=I.hok p _ hk
     exact⟨o,e,ex⟩
   obtain⟨o,e,ex⟩:=z
   refine⟨⟨o,e,ex.1⟩,fun a e2=>?_⟩
   cases e2
   exact⟨o,e,ex.2.1⟩
  ·obtain⟨o,_,_,_,e,ex,_⟩:=I.hok p _ hk
   refine⟨⟨o,e,ex.1⟩,fun a e2=>?_⟩
   cases e2
   exact⟨o,e,ex.2.1⟩
 | _=>exact ń ty
def tBM (K:Ú) (T:String) (r:V->List V->Hp->VK->Prop) (to:TE) (t:TA):TE:=fun σ H Q=>to σ H fun x H1=>tyV K T x H1/\t σ H1 fun xs H2=>r x xs H2 Q
variable {o e:Expr}{es:List Expr}{to:TE}{t:TA}{name:Str}{apos cpos:Pos}{T id:String}{r:V->List V->Hp->VK->Prop}
theorem gO (pa:PlainAttrs T) (slot:Slot T name id) (hty:typeOf (.builtin id)=pure (.type "method_descriptor")) (hm:MtR X id r) (ho:PE X o to) (ha:PA X (e::es) t)
  (hbase:attributeBase o name X.env (eval o X.env)=eval o X.env:=by rfl)
  (hfew:((backTo cpos (starEach (e::es) X.env)).all (fun x=>!x.1)&&(backToKw cpos (keywordEach [] X.env)).all (fun x=>x.1.isSome)
  &&decide ((e::es).length+([]:List Keyword).length+(if ([]:List Keyword).isEmpty then 0 else 1)<30))=true:=by rfl)
  (hline:(apos.endLine == cpos.line)=true:=by rfl) (hs:starEach (e::es) X.env=(false,eval e X.env)::starEach es X.env:=by rfl) (hplain:(backTo cpos (starEach es X.env)).any (·.1)=false:=by rfl) :
  PE X (.Call (.Attribute o name apos) (e::es) [] cpos) (tBM X.K T r to t):=by
 intro pins s σ H Q I h
 refine wpAny_Call_method_late hbase hfew hline rfl (thn (ho pins s σ H _ I h) fun v s1 ⟨x,H1,I1,r1,ty,q1⟩=>?_)
 obtain⟨h1,h2⟩:=Nu I1 r1 ty
 refine⟨T,id,pa,slot,hty,h1,h2,?_⟩
 have hA:=ha cpos pins s1 σ H1 _ I1 q1
 rw [hs] at hA ⊢
 refine Calls.callWith_builtin (by show (false || (backTo cpos (starEach es X.env)).any (·.1))=false; rw [hplain] <;> rfl) (Calls.evalArgs_plain ?_)
 exact thn hA fun us s2 ⟨vs,H2,I2,r2,q2⟩=>hm pins s2 σ H2 x vs v us Q I2 r1 r2 q2
/- xs.append(e),list.index on a module's tuple .. are MtR facts of 06m -/
end
def MtM (X:Cx) (id:String) (r:V->List V->Hp->VK->Prop):Prop :=
 ∀ (pins:List (Addr×Obj)) (s:Shared) (σ:St) (H:Hp) (x:V) (xs:List V) (v:Value) (us:List Value) (Q:VK),Inv X pins σ H s->RelV x v->Vals xs us->r x xs H Q ->
  wpAny (model X.prog X.w) X.A (call (.builtin id) (v::us)) (EP X pins σ Q) X.xe s
theorem Vals.one:∀ {x:V}{us:List Value},Vals [x] us->∃ u,us=[u]/\RelV x u
 | _,_,.cons r .nil=>⟨_,rfl,r⟩
theorem Vals.two:∀ {x y:V}{us:List Value},Vals [x,y] us->∃ u v,us=[u,v]/\RelV x u/\RelV y v
 | _,_,_,.cons r (.cons q .nil)=>⟨_,_,rfl,r,q⟩
theorem Vals.eraseIdx:∀ {xs:List V}{us:List Value} (i:Nat),Vals xs us->Vals (xs.eraseIdx i) (us.eraseIdx i)
 | _,_,_,.nil=>.nil
 | _,_,0,.cons _ t=>t
 | _,_,i+1,.cons r t=>.cons r (Vals.eraseIdx i t)
theorem Vals.reverse {xs:List V}{us:List Value} (h:Vals xs us):Vals xs.reverse us.reverse:=by
 induction h with
 | nil=>exact .nil
 | cons r t ih=>rw [ź,ź]; exact Vals.append ih (.cons r .nil)
theorem Vals.rep {xs:List V}{us:List Value} (h:Vals xs us):∀ k:Nat,Vals (É k xs).flatten (É k us).flatten
 | 0=>.nil
 | k+1=>by
  rw [ĩ,ĩ,Ĭ,Ĭ]
  exact Vals.append h (Vals.rep h k)
theorem tO {α:Type}:∀ (l:List α) (i:Nat),(l.eraseIdx i).length<=l.length
 | [],_=>Í _
 | _::_,0=>Ł _
 | _::r,i+1=>Nat.succ_le_succ (tO r i)
theorem foldl_rep (its:List Value):∀ (k:Nat) (acc:List Value),
  List.foldl (fun x1 x2=>x1++x2) acc.toArray (É k its.toArray)=(acc++(É k its).flatten).toArray
 | 0,acc=>by simp
 | k+1,acc=>by
  have e:acc.toArray++its.toArray=(acc++its).toArray:=by simp
  have e2:(acc++its)++(É k its).flatten=acc++(É (k+1) its).flatten:=by
   rw [ĩ,Ĭ,Ŏ]
  rw [← e2,← foldl_rep its k (acc++its),← e,ĩ,List.foldl_cons]
section
variable {X:Cx}{pins:List (Addr×Obj)}{σ:St}{H:Hp}{s:Shared}{l b:Addr}{xs ys zs:List V}
theorem Inv.Le {its its':List Value}{n:Nat}{f:Array Value->Array Value}{t':Nat} (I:Inv X pins σ H s) (hH:H l=some (.lst xs))
  (e:s.heap.get? l=some { cls:=.type "list",data:=.seq its.toArray n }) (hf:f its.toArray=its'.toArray) (hv:Vals ys its') (hz:ys.length<=sizeLine) :
  Inv X pins σ (upd H l (.lst ys)) { s with heap:=s.heap.update l (â f),toks:=t' }:=by
 have q:=PySem.IsL.update e f
 rw [hf] at q
 refine I.write (x:=l) (e:=l) (by rw [hH]; exact trivial) (.inl rfl) (fun b' u hb hu=>(ņ s.heap (â f) (Į hb)).trans hu) ⟨_,q⟩ ?_
 exact⟨hz,its',_,hv,q⟩
theorem Inv.SM {its:List Value}{t':Nat} (I:Inv X pins σ H s) (hv:Vals ys its) (hz:ys.length<=sizeLine) :
  Inv X pins σ (upd H s.heap.objs.size (.lst ys)) { s with heap:=s.heap.push { cls:=.type "list",data:=.seq its.toArray },toks:=t' } :=
 I.laid (fun _ _ q=>Ð _ q) (Í _) ⟨hz,its,0,hv,à _ rfl⟩
theorem Inv.fresh (I:Inv X pins σ H s):H s.heap.objs.size=none:=I.hok.fresh (Í _)
theorem Inv.yg (I:Inv X pins σ H s) (hH:H l=some (.lst xs)):xs.length<=sizeLine/\∃ (its:List Value) (n:Nat),Vals xs its/\xs.length=its.length/\s.heap.get? l=some { cls:=.type "list",data:=.seq its.toArray n }:=by
 obtain⟨z,its,n,r,e⟩:=I.hok l _ hH
 exact⟨z,its,n,r,r.length,e⟩
theorem xU {n:Nat} (h:n<=sizeLine):Š n=false:=by
 unfold Š
 exact decide_eq_false (by omega)
end
section
variable {X:Cx}
def pQ:V->List V->Hp->VK->Prop:=fun x vs H Q=>∃ l xs y,x=.ref l/\vs=[y]/\H l=some (.lst xs)/\xs.length<sizeLine/\Q .non (upd H l (.lst (xs++[y])))
theorem dR:MtM X "list.append" pQ:=by
 intro pins s σ H x vs v us Q I rx rv h
 obtain⟨l,xs,y,rfl,rfl,hH,hz,q⟩:=h
 cases rx
 obtain⟨u,rfl,ru⟩:=rv.one
 obtain⟨z,its,n,r,hl,e⟩:=I.yg hH
 refine call_meets F.slot_list_append ⟨_,e,rfl⟩ F.entry_list_append (F.args_list_append_2 _ _) (PySem.list_append l its.toArray n u (by rw [Ñ]; omega)) ⟨e,?_⟩
 refine⟨.non,_,I.Le (its':=its++[u]) hH e (by simp) (r.append (.cons ru .nil)) ?_,rfl,q⟩
 rw [È,Þ]
 omega
def Bu:V->List V->Hp->VK->Prop:=fun x vs H Q=>∃ l b xs zs,x=.ref l/\vs=[.ref b]/\H l=some (.lst xs)/\H b=some (.lst zs)/\xs.length+zs.length<=sizeLine/\Q .non (upd H l (.lst (xs++zs)))
theorem jQ:MtM X "list.extend" Bu:=by
 intro pins s σ H x vs v us Q I rx rv h
 obtain⟨l,b,xs,zs,rfl,rfl,hH,hB,hz,q⟩:=h
 cases rx
 obtain⟨u,rfl,ru⟩:=rv.one
 cases ru
 obtain⟨z,its,n,r,hl,e⟩:=I.yg hH
 obtain⟨z2,its2,n2,r2,hl2,e2⟩:=I.yg hB
 have hsz:its.toArray.size+its2.toArray.size<=sizeLine:=by rw [Ñ,Ñ]; omega
 have hlong:¬ (!its.toArray.isEmpty&&Š (its.toArray.size+its2.toArray.size))=true:=by
  rw [xU hsz,Bool.and_false]
  exact Ö
 refine call_meets F.slot_list_extend ⟨_,e,rfl⟩ F.entry_list_extend (F.args_list_extend_2 _ _)
  (AutoSeq1.list_extend_list_list_0 l its.toArray n b its2.toArray n2 hlong (by rw [Ñ]; omega) (by omega)) ⟨e,e2,?_⟩
 refine⟨.non,_,I.Le (its':=its++its2) hH e (by simp) (r.append r2) ?_,rfl,q⟩
 rw [È]
 omega
def RM:R2:=fun x y H Q=>∃ l b xs zs,x=.ref l/\y=.ref b/\H l=some (.lst xs)/\H b=some (.lst zs)/\xs.length+zs.length<=sizeLine/\∀ p,H p=none->Q (.ref p) (upd H p (.lst (xs++zs)))
theorem Ht:OpR X (binaryOp .Add) RM:=by
 intro pins s σ H x y v u Q I rx ry h
 obtain⟨l,b,xs,zs,rfl,rfl,hH,hB,hz,q⟩:=h
 cases rx
 cases ry
 obtain⟨z,its,n,r,hl,e⟩:=I.yg hH
 obtain⟨z2,its2,n2,r2,hl2,e2⟩:=I.yg hB
 refine PySem.P.add_list e e2 ?_ (by rw [Ñ,Ñ]; omega)
 have ea:its.toArray++its2.toArray=(its++its2).toArray:=by simp
 rw [ea]
 exact⟨.ref _,_,I.SM (t':=s.toks) (r.append r2) (by rw [È]; omega),rfl,q _ I.fresh⟩
def RD:R2:=fun x y H Q=>∃ l k xs,x=.ref l/\y=.int k/\H l=some (.lst xs)/\-(2 ^ 63)<=k/\k<2 ^ 63/\xs.length * k.toNat<=sizeLine /\
 ∀ p,H p=none->Q (.ref p) (upd H p (.lst (É k.toNat xs).flatten))
theorem len_rep {α:Type} (xs:List α) (k:Nat):(É k xs).flatten.length=k * xs.length:=by
 induction k with
 | zero=>simp
 | succ k ih=>rw [ĩ,Ĭ,È,ih,Nat.succ_mul,Nat.add_comm]
theorem O8:OpR X (binaryOp .Mult) RD:=by
 intro pins s σ H x y v u Q I rx ry h
 obtain⟨l,k,xs,rfl,rfl,hH,h1,h2,hz,q⟩:=h
 cases rx
 obtain⟨t,rfl⟩:=ry
 obtain⟨z,its,n,r,hl,e⟩:=I.yg hH
 have hlen:its.toArray.size * k.toNat<=sizeLine:=by rw [Ñ,← hl]; exact hz
 have hcap:¬ its.toArray.size * k.toNat > (2 ^ 63 - 1) / 8:=by
  have:(sizeLine:Nat)<=(2 ^ 63 - 1) / 8:=by decide
  omega
 have hfit:¬ (!Builtin.List.listFitsIndex k)=true:=by
  rw [fitsIndex_both h1 h2]
  exact Ö
 have hlong:¬ Š (its.toArray.size * k.toNat)=true:=by
  rw [xU hlen]
  exact Ö
 have hnew:List.foldl (fun x1 x2=>x1++x2) #[] (É (if its.toArray.isEmpty=true then 0 else k.toNat) its.toArray)=(É k.toNat its).flatten.toArray:=by
  have f0:∀ m:Nat,List.foldl (fun x1 x2=>x1++x2) #[] (É m its.toArray)=(É m its).flatten.toArray:=fun m=>by
   have:=foldl_rep its m []
   rw [ů] at this
   exact this
  rw [f0]
  cases its with
  | nil=>simp
  | cons a r'=>rw [if_neg (by simp)]
 refine wpAny_binaryOp_repeat_ref (T:="list") (U:="int") (by decide) ⟨_,e,rfl⟩ (fun s'=>typeIs_int s' k t) noFill_list_mul F.fills_int_mul F.slot_int_rmul repeat_list F.slot_int_index.lookup
  (call_meets F.slot_int_rmul (typeIs_int s k t) F.entry_int_rmul (F.args_int_rmul_2 _ _) (int___rmul___int_list k t l its.toArray n)
   ⟨e,rfl,⟨_,e,rfl⟩,call_meets F.slot_list_mul ⟨_,e,rfl⟩ F.entry_list_mul (F.args_list_mul_2 _ _) (AutoListH.list___mul___list_int_3 l its.toArray n k t hfit hcap hlong) ⟨e,?_⟩⟩)
 rw [hnew]
 exact⟨.ref _,_,I.SM (t':=s.toks) (r.rep k.toNat) (by rw [len_rep,Nat.mul_comm]; exact hz),rfl,q _ I.fresh⟩
end
section
variable {prog:Program}{w:World}{A:Around}{E:Value->Shared->Prop}{s:Shared}
end
section
variable {X:Cx}
end
end L2
namespace Att
open PySem PySem.W PySem.Calls PyProof.Rows
theorem pL {P:Params}{h:Heap}:∀ (ns:List Int) (vs:List Value),WellAll P h vs (ns.map WData.int)->IntsAre vs ns:=by
 intro ns
 induction ns with
 | nil =>
  intro vs w
  rw [List.map_nil] at w
  cases w
  exact .nil
 | cons n ns ih =>
  intro vs w
  rw [ã] at w
  cases w with
  | cons a b =>
   cases a
   exact .cons _ _ (ih _ b)
theorem Dr {l:OpenLaw}{n:Nat} (hn:l.most=some n) {P:Params}{h:Heap}{args:List WData}{vals:List Value}
  (hpre:l.row.toRowW.claim.pre args=true) (hwl:WellAll P h vals args) :
  ∃ a vs ns,vals=[į a]/\args=[WData.list (ns.map WData.int)]/\h.get? a=some { cls:=.type "list",data:=.seq vs.toArray }/\IntsAre vs ns/\ns.length<=n:=by
 have hsh:WShape.hasAll [] args [.list .int]=true:=(pre_splitW hpre).1
 have hc:l.pre.holds [] { args:=args }=true:=(pre_splitW hpre).2
 obtain⟨d,r,rfl,h1,h2⟩:=hasAllW_cons hsh
 obtain rfl:=hasAllW_nil h2
 obtain⟨xs,rfl,h3⟩:=hasW_list h1
 obtain⟨ns,rfl⟩:=items_int h3
 have hlen:ns.length<=n:=by
  unfold OpenLaw.pre at hc
  have h4:(WTm.not (.lt (.lit (.int (n:Int))) (.len (.arg 0)))).holds [] { args:=[.list (ns.map .int)] }=true:=by
   have h4:=(holds_andW hc).1
   rw [hn] at h4
   exact h4
  have h5:=condW_of h4 (w_not (w_lt w_lit (w_len_list (w_arg rfl))))
  rw [Á] at h5
  refine Nat.le_of_not_lt fun q=>?_
  have q':(n:Int)<((ns.length:Nat):Int):=by omega
  first
   | (rw [decide_eq_true q'] at h5; exact absurd h5 (by decide))
   | (simp at h5; omega)
 cases hwl with
 | cons w1 w2 =>
  cases w2
  cases w1 with
  | list ho hall=>exact⟨_,_,ns,rfl,rfl,ho,pL ns _ hall,hlen⟩
theorem Dt (l:OpenLaw) (args:List WData):l.row.toRowW.claim.post args (.bool true) args=true :=
 postW_of (r:=l.row.toRowW) (X:=(true == true))
  (show WShape.has [] (.bool true) .bool=true by first | rfl | decide | simp [WShape.has,WShape.arms,WShape.armsAll])
  (show (WTm.eq .res (.lit (.bool true))).value [] { args:=args,res:=some (.bool true),after:=args }=some (.bool (true == true)) from w_eq_bool (w_res rfl) w_lit) rfl
theorem yM {l:OpenLaw}{n:Nat}{q:Program}{loose:List Str}{XP:(Str->Option Value)->Heap->Prop}{YP:World->Heap->Prop}{d:DefRec}
  (hn:l.most=some n) (hdf:d.params.defaults=[])
  (call:∀ (w:World) (s₀ s₁:Shared) (mg mb:Str->Option Value) (fa:Addr) (o:Obj) (pm cd doc:Value) (a:Addr) (vs:List Value) (ns:List Int),
   Ground q loose [] XP w s₀ mg mb s₁.heap->YP w s₁.heap ->
   s₁.heap.get? fa=some o->o.data=.func (docDef d.name d.params d.body d.scope pm cd doc)->s₁.heap.CodeRec cd d.name->mg d.name=some (.ref fa) ->
   s₁.heap.get? a=some { cls:=.type "list",data:=.seq vs.toArray }->IntsAre vs ns->ns.length<=n->s₁.gens=#[] ->
   codeAny (model l.prog w) callerA (.call (.ref fa) ⟨[.ref a],[]⟩) (fun r s'=>r=.ok (.ret (.bool true))/\OldK s₁.heap s'.heap/\s'.os=s₁.os/\AllBare s'.gens) s₁) :
  WalkO q loose XP YP l.row.toRowW d [] (fun f vs=>PySem.call f vs):=by
 intro w s₀ s₁ mg mb G Y fa o pm cd doc dV kV ho hd hcd hD hmg hg args vals as hpre hlay hrd hwl hlo
 obtain rfl:dV=.none:=Dflts.none hD hdf
 obtain rfl:kV=.none:=Dflts.noKw hD
 obtain⟨a,vs,ns,rfl,rfl,hobj,hints,hlen⟩:=Dr hn hpre hwl
 refine enter_call (codeAny_mono (call w s₀ s₁ mg mb fa o pm cd doc a vs ns G Y ho (fd_plain hd) hcd hmg hobj hints hlen hg) fun r s' hq=>?_)
 obtain⟨rfl,h2,h3,h4⟩:=hq
 exact⟨.inl ⟨.bool true,.bool true,[],rfl,fun _=>rfl,.bool true,Dt l _,fun _=>⟨List.Pairwise.nil,fun _ hm=>(nomatch hm)⟩⟩,h2,h3,h4⟩
section
variable {prog:Program}{w:World}{A:Around}{E:Value->Shared->Prop}{s:Shared}{K:Frag}
def ledger (h:Heap) (L d:Addr):List (Addr×Obj):=(ä h.objs.size).filterMap fun a=>if a=L\/a=d then none else (h.get? a).map fun o=>(a,o)
end
end Att
namespace L2
open PySem PySem.Spec PyProof.Rows
theorem nC:∀ {vs:List Value}{ns:List Int},IntsAre vs ns->Vals (ns.map V.int) vs
 | _,_,.nil=>.nil
 | _,_,.cons n t h=>.cons ⟨t,rfl⟩ (nC h)
def gw (s:Stmt):Arguments:=match s with
 | .FunctionDef _ a _ _ _ _ _ _ _ _=>a
 | _=>{ posonlyargs:=[],args:=[],vararg:=none,kwonlyargs:=[],kw_defaults:=[],kwarg:=none,defaults:=[] }
def cI (s:Stmt):List Stmt:=match s with
 | .FunctionDef _ _ b _ _ _ _ _ _ _=>b
 | _=>[]
def ao (s:Stmt):Scope:=match s with
 | .FunctionDef _ _ _ _ _ _ sc _ _ _=>sc
 | _=>{ kind:=.function,names:=[],isGenerator:=false,isCoroutine:=false }
abbrev CX0:CXT:=fun _ _ _ _ _ _=>False
abbrev E0:XK:=fun _ _ _=>False
theorem Ms {X:Cx}:Passes CX0 X E0:=fun _ _ _ _ _ _ _ h=>h.elim
structure Fun (K:Ú) (x qual:Str) (st:Stmt) (f:Addr) (fd:FuncData):Prop where
 ex:∃ (oc:Value) (od:Option Addr) (kV doc pm:Value) (an:Option Addr) (cdv ct:Value) (osl:Array (Option Value)),
  fd=W.fnOf x qual (gw st) (cI st) (ao st) .none kV doc pm an cdv ct/\K.lookup f=some ⟨oc,od,.func fd,osl⟩/\W.codeIn K cdv qual=true
 kp:W.keepIn K (.ref f)=true
section
variable {P:Program}{w:World}{K:Ú}{mg:Str->Option Value}{base:Heap}
theorem Fun.ok {x qual:Str}{st:Stmt}{f:Addr}{fd:FuncData}{N ps:List Str}{k:Nat}{sp:Sp} (F:Fun K x qual st f fd) (S:FnScope N ps (ao st)) (len:∀ vs H Q E,sp vs H Q E->vs.length=ps.length)
  (hbody:∀ (cdv:Value) (A:Around) (outer:List Env) (s:Shared) (H:Hp) (vs:List V) (Q:VK) (E:XK),Room k (A.deeper (envOfC qual (ao st) s.heap.objs.size f cdv))->sp vs H Q E ->
   ∃ t,PSs (Aw CX0 P w K mg base N qual (ao st) f cdv A outer s H E).nox (cI st) t/\t { nx:=fun _ H'=>Q .non H',rt:=Q } (start N vs) H):FnOk P w K mg base CX0 (k+1) f fd ps sp:=by
 obtain⟨oc,od,kV,doc,pm,an,cdv,ct,osl,rfl,lk,hcd⟩:=F.ex
 refine M6 lk hcd S len fun A outer s H vs Q E hr hsp=>?_
 obtain⟨t,h,q⟩:=hbody cdv A outer s H vs Q E hr hsp
 exact⟨t,h.nox,q⟩
theorem Fun.binds {x qual:Str}{st:Stmt}{f:Addr}{fd:FuncData}{ps:List Str} (F:Fun K x qual st f fd)
  (h:∀ (kV doc pm:Value) (an:Option Addr) (cdv ct:Value) (us:List Value),us.length=ps.length->bindArgs (W.fnOf x qual (gw st) (cI st) (ao st) .none kV doc pm an cdv ct) ⟨us,[]⟩=pure (ps.zip us):=by intro _ _ _ _ _ _ us hl; first | (obtain⟨_,rfl⟩:=Nf.len1 us hl; rfl) | (obtain⟨_,_,rfl⟩:=Nf.len2 us hl; rfl) | (obtain⟨_,_,_,rfl⟩:=Nf.UL us hl; rfl)):Binds K fd ps []:=by
 obtain⟨oc,od,kV,doc,pm,an,cdv,ct,osl,rfl,lk,hcd⟩:=F.ex
 exact .all (h kV doc pm an cdv ct)
theorem Qn {x qual:Str}{st:Stmt}{f:Addr}{oc:Value}{od an:Option Addr}{osl:Array (Option Value)}{kV doc pm cdv ct:Value} (l:K.lookup f=some ⟨oc,od,.func (W.fnOf x qual (gw st) (cI st) (ao st) .none kV doc pm an cdv ct),osl⟩)
  (c:W.codeIn K cdv qual=true) (k:W.keepIn K (.ref f)=true):Fun K x qual st f (W.fnOf x qual (gw st) (cI st) (ao st) .none kV doc pm an cdv ct):=⟨⟨oc,od,kV,doc,pm,an,cdv,ct,osl,rfl,l,c⟩,k⟩
end
section
variable {X:Cx}
theorem pv (i:Nat) {x:Str}{pos:Pos} (hN:X.N[i]?=some x:=by rfl) (hv:Vis X.env.scope x:=by first | exact Ğ rfl | exact Or.inr (Ğ rfl) | exact Or.inr (Or.inr rfl)) (hd:(x == ("__debug__":Str))=false:=by decide)
  (hcd:(x == ("__classdict__":Str))=false:=by decide):PE X (.Name x pos) (iy i):=Ot hN hv hd hcd
end
theorem aN {A B:Prop} (h:B):if false=true then A else B:=by
 rw [if_neg Ö]
 exact h
theorem aM {A B:Prop} (h:A):if true=true then A else B:=by
 rw [if_pos rfl]
 exact h
theorem fQ {c A B:Prop} [Decidable c] (h1:c->A) (h2:¬ c->B):if c then A else B:=by
 by_cases h:c
 ·rw [if_pos h]
  exact h1 h
 ·rw [if_neg h]
  exact h2 h
def Same (H H':Hp):Prop:=∀ b o,H b=some o->H' b=some o
theorem Same.refl (H:Hp):Same H H:=fun _ _ h=>h
theorem Same.trans {H H1 H2:Hp} (a:Same H H1) (b:Same H1 H2):Same H H2:=fun c o h=>b c o (a c o h)
structure CB where
 cl:List (Str×Addr)
 C:Addr
 s:Shared
 H:Hp
 ex:List Addr
abbrev Cx.bA (X:Cx) (own M:List Str) (scope:Scope) (c:CB):Cx where
 prog:=X.prog
 w:=X.w
 K:=X.K
 mg:=X.mg
 base:=X.base
 A:=X.A
 N:=own++M
 s₀:=c.s
 H₀:=c.H
 env:=compEnvC scope c.cl c.C X.env
 outer:=X.stack
 stack:=X.stack
 ex:=c.ex
 fn:=fun x=>scope.names.lookup x == some .cell
 calm:=X.calm
 pn:=[]
 sf:=X.sf
 xe:=fun _ _=>False
abbrev Cx.comp (X:Cx) (own:List Str) (scope:Scope) (c:CB):Cx:=X.bA own X.N scope c
def dz (cells:List (Str×Addr)):List (Str×NameKind)->List (Str×Addr)->List (Str×Addr)
 | [],acc=>acc
 | (n,k)::r,acc=>if k == .free then dz cells r ((n,(cells.lookup n).getD 0)::acc) else dz cells r acc
theorem iQ {env:Env}:∀ (names:List (Str×NameKind)) (acc:List (Str×Addr)),(∀ x∈names,x.2=.free->∃ c,env.cells.lookup x.1=some c) ->
  (forIn names acc fun (p:Str×NameKind) (r:List (Str×Addr))=>match p with
   | (name,kind)=>if (kind == ú)=true then do let a ← cellOf env name; pure (ġ ((name,a)::r)) else pure (ġ r):Sem (List (Str×Addr)))=pure (dz env.cells names acc)
 | [],acc,_=>by simp [dz]
 | (n,k)::r,acc,h=>by
  rw [List.forIn_cons]
  by_cases hk:(k == ú)=true
  ·obtain⟨c,hc⟩:=h (n,k) Æ (by simpa using hk)
   have e:cellOf env n=pure c:=by unfold cellOf; rw [hc]
   have ih:=iQ (env:=env) r ((n,c)::acc) fun x hx=>h x (Ã _ hx)
   show ((if (k == ú)=true then do let a ← cellOf env n; pure (ġ ((n,a)::acc)) else pure (ġ acc)) >>= _:Sem _)=_
   rw [if_pos hk,e]
   unfold dz
   rw [if_pos hk,hc]
   exact ih
  ·have ih:=iQ (env:=env) r acc fun x hx=>h x (Ã _ hx)
   show ((if (k == ú)=true then do let a ← cellOf env n; pure (ġ ((n,a)::acc)) else pure (ġ acc)) >>= _:Sem _)=_
   rw [if_neg hk]
   unfold dz
   rw [if_neg hk]
   exact ih
theorem Az {scope:Scope}{env:Env} (h:∀ x∈scope.names,x.2=.free->∃ c,env.cells.lookup x.1=some c):closureFor scope env=pure (dz env.cells scope.names []):=by
 have e:=iQ (env:=env) scope.names [] h
 unfold closureFor
 show (forIn scope.names [] _ >>= fun cs=>pure cs:Sem _)=_
 have e2:(forIn scope.names ([]:List (Str×Addr)) fun (p:Str×NameKind) (r:List (Str×Addr))=>match p with
   | (name,kind)=>if (kind == ú)=true then do let a ← cellOf env name; pure (ġ ((name,a)::r)) else pure (ġ r):Sem (List (Str×Addr)))=pure (dz env.cells scope.names []):=e
 rw [e2]
 rfl
theorem mW {cells:List (Str×Addr)}{x:Str}{c:Addr}:∀ {names:List (Str×NameKind)}{acc:List (Str×Addr)},(dz cells names acc).lookup x=some c->acc.lookup x=some c\/((x,ú)∈names/\c=(cells.lookup x).getD 0)
 | [],acc,h=>.inl h
 | (n,k)::r,acc,h=>by
  unfold dz at h
  by_cases hk:(k == ú)=true
  ·rw [if_pos hk] at h
   have hk':k=.free:=by simpa using hk
   rcases mW h with q | ⟨q1,q2⟩
   ·rw [ï] at q
    cases hx:x == n with
    | true =>
     rw [hx] at q
     have e:x=n:=by simpa using hx
     subst e hk'
     exact .inr ⟨Æ,(æ q).symm⟩
    | false=>rw [hx] at q; exact .inl q
   ·exact .inr ⟨Ã _ q1,q2⟩
  ·rw [if_neg hk] at h
   rcases mW h with q | ⟨q1,q2⟩
   ·exact .inl q
   ·exact .inr ⟨Ã _ q1,q2⟩
theorem rO {cells:List (Str×Addr)}{x:Str}:∀ {names:List (Str×NameKind)}{acc:List (Str×Addr)},(acc.lookup x).isSome=true->((dz cells names acc).lookup x).isSome=true
 | [],_,h=>h
 | (n,k)::r,acc,h=>by
  unfold dz
  split
  ·refine rO ?_
   rw [ï]
   cases hx:x == n <;> simp [h]
  ·exact rO h
theorem jF {cells:List (Str×Addr)}{x:Str}:∀ {names:List (Str×NameKind)}{acc:List (Str×Addr)},(x,ú)∈names->((dz cells names acc).lookup x).isSome=true
 | (n,k)::r,acc,h=>by
  unfold dz
  rcases Ô.mp h with e | h
  ·cases e
   rw [if_pos (by rfl)]
   exact rO (by simp [ï])
  ·split
   ·exact jF h
   ·exact jF h
def fL (env:Env) (scope:Scope) (N:List Str):Bool :=
 (scope.kind == .function)&&scope.names.all fun y=>match y.2 with
  | .local=>!(N.contains y.1)&&(scope.names.lookup y.1 == some .local)
  | .cell=>!(N.contains y.1)&&(scope.names.lookup y.1 == some .cell)
  | .free=>(scope.names.lookup y.1 == some .free)&&(env.kindOf y.1 == some .cell || env.kindOf y.1 == some .free)
  | _=>true
theorem cY {env:Env}:∀ {names:List (Str×NameKind)}{x:Str}{q:NameKind},(names.map fun (n,k)=>if (k == ú&&env.scope.kind == .function&&env.kindOf n == some .cell) then (n,ć) else (n,k)).lookup x=some q ->
  ∃ k,(x,k)∈names/\names.lookup x=some k/\(q=k\/(q=.cell/\k=.free))
 | [],_,_,h=>by simp at h
 | (n,k)::r,x,q,h=>by
  have ih:=@cY env r x q
  have h':ų x ((if (k == ú&&env.scope.kind == .function&&env.kindOf n == some .cell)=true then (n,ć) else (n,k))::(r.map fun (n,k)=>if (k == ú&&env.scope.kind == .function&&env.kindOf n == some .cell) then (n,ć) else (n,k)))=some q:=h
  by_cases hc:(k == ú&&env.scope.kind == .function&&env.kindOf n == some .cell)=true
  ·rw [if_pos hc,ï] at h'
   cases hx:x == n with
   | true =>
    rw [hx] at h'
    have e:x=n:=by simpa using hx
    subst e
    have hk:k=.free:=by simp at hc; exact hc.1.1
    exact⟨k,Æ,by simp [ï],.inr ⟨(æ h').symm,hk⟩⟩
   | false =>
    rw [hx] at h'
    obtain⟨k',h1,h2,h3⟩:=ih h'
    exact⟨k',Ã _ h1,by rw [ï,hx]; exact h2,h3⟩
  ·rw [if_neg hc,ï] at h'
   cases hx:x == n with
   | true =>
    rw [hx] at h'
    have e:x=n:=by simpa using hx
    subst e
    exact⟨k,Æ,by simp [ï],.inl (æ h').symm⟩
   | false =>
    rw [hx] at h'
    obtain⟨k',h1,h2,h3⟩:=ih h'
    exact⟨k',Ã _ h1,by rw [ï,hx]; exact h2,h3⟩
theorem HOk.track {P:Program}{w:World}{H:Hp}{h:Heap}{a:Addr}{o:HO} (x:HOk P w H h) (hn:H a=none) (new:bf P w (upd H a o) h a o):HOk P w (upd H a o) h:=fun b u e=>by
 by_cases hb:b=a
 ·subst hb; rw [au] at e; cases e; exact new
 ·rw [aq hb] at e
  exact (x b u e).stay (fun c v _ q=>q) (fun c q=>by rw [aq (aD q hn)]; exact q) fun c xs q=>by rw [aq (aD q hn)]; exact q
theorem Fg {prog:Program}{w:World}{A:Around}{s:Shared}{elt target iter:Expr}{ifs:List Expr}{scope:Scope}{pos:Pos}{it acc:Value}{env:Env}{R:Result->Shared->Prop} (I:Nat->Shared->Prop)
  (turn:∀ n s,I n s->wpAny (model prog w) A (pyNext it) (fun r s₁=>match r with
   | none=>R (.ok .next) s₁
   | some v=>wpAny (model prog w) A (letOwnedTupleGo target it v) (fun _ s₀=>wpAny (model prog w) A (assign target env v) (fun _ s₂ =>
     wpAny (model prog w) A (forIn ifs true fun c r=>if r=true then do let ok ← isTrue c env (eval c env); pure (ġ ok) else pure (ġ r)) (fun ok s₃ =>
      if ok=true then wpAny (model prog w) A (eval elt env) (fun x s₄ =>
       wpAny (model prog w) A (call (.builtin "list.append") [acc,x]) (fun _ s₅=>∃ m,m<n/\I m s₅) (fun _ _=>False) s₄) (fun _ _=>False) s₃
      else ∃ m,m<n/\I m s₃) (fun _ _=>False) s₂) (fun _ _=>False) s₀) (fun _ _=>False) s₁) (fun _ _=>False) s)
  (n:Nat) (h:I n s):codeAny (model prog w) A (.compLoop (.ListComp elt [⟨target,iter,ifs,0⟩] scope pos) 0 it acc env) R s:=by
 refine codeAny_loop rfl I (fun n s hI=>?_) n h
 show wpAny _ A ((compTurn (.ListComp elt [⟨target,iter,ifs,0⟩] scope pos) 0 it acc env).onRaise (fun x=>do noteFrame x env; theTreesLotGoes x)) _ _ s
 refine wpAny_noted ?_
 rw [compTurn_list]
 refine Ä (wpAny_standAt (Ä (ĸ (turn n s hI) (fun r s₁ h₁=>?_) fun _ _ h'=>h'.elim)))
 cases r with
 | none=>exact Ò h₁
 | some v =>
  refine Ä (ĸ h₁ (fun _ s₀ h₀'=>?_) fun _ _ h'=>h'.elim)
  refine Ä (ĸ h₀' (fun _ s₂ h₂=>Ä (ĸ h₂ (fun ok s₃ h₃=>?_) fun _ _ h'=>h'.elim)) fun _ _ h'=>h'.elim)
  cases ok with
  | false=>exact Ò ⟨rfl,h₃⟩
  | true =>
   exact Ä (Ä (ĸ h₃ (fun x s₄ h₄=>Ä (ĸ h₄ (fun _ s₅ h₅=>Ò (Ò ⟨rfl,h₅⟩)) fun _ _ h'=>h'.elim)) fun _ _ h'=>h'.elim))
def PTs (X:Cx) (ifs:List Expr) (t:TT):Prop :=
 ∀ (pins:List (Addr×Obj)) (s:Shared) (σ:St) (H:Hp) (Q:Bool->Hp->Prop),Inv X pins σ H s->t σ H Q ->
  wpAny (model X.prog X.w) X.A (forIn ifs true fun c r=>if r=true then do let ok ← isTrue c X.env (eval c X.env); pure (ġ ok) else pure (ġ r)) (TP X pins σ Q) X.xe s
theorem Kf {X:Cx}:PTs X [] (fun _ H Q=>Q true H):=fun _ _ _ H _ I h=>wpAny_tests_nil ⟨H,I,h⟩
theorem Ke {X:Cx}{c:Expr}{t:TT} (hc:PT X c t):PTs X [c] t:=fun pins s σ H Q I h=>wpAny_tests_one (hc pins s σ H Q I h)
def T5 (J:It) (n:Nat) (g:CB->TG) (tt:CB->TT) (te:CB->TE) (σ:St) (Q:VK) (H:Hp):Prop:=∃ W:Nat->Nat->List V->Hp->Prop,(∃ m,W 0 m [] H)/\∀ (c:CB) i m ys H,W i m ys H ->
 (J.stop i H/\∀ p,H p=none->Q (.ref p) (upd H p (.lst ys))) ∨
 (J.go i H/\ys.length<sizeLine/\∃ N:List V->Hp->Prop,(∀ ys' H',N ys' H'->∃ m',m'<m/\W (i+1) m' ys' H')/\∀ x H',J.yld i H x H'->g c x (É n none++σ) H' fun σ2 H2=>tt c σ2 H2 fun b H3 =>
  if b=true then te c σ2 H3 fun v H4=>N (ys++[v]) H4 else N ys H3)
def tLC (n:Nat) (wi:TI) (g:CB->TG) (tt:CB->TT) (te:CB->TE):TE:=fun σ H Q=>wi σ H fun J H1=>T5 J n g tt te σ Q H1
section
variable {X:Cx}{own:List Str}{scope:Scope}{tg iter elt:Expr}{ifs:List Expr}{pos:Pos}{wi:TI}{g:CB->TG}{tt:CB->TT}{te:CB->TE}
def aY (env:Env) (scope:Scope) (N M:List Str):Bool :=
 fL env scope M&&((N.length == M.length)&&(N.zip M).all fun y=>y.1 == y.2 || ((y.2 == ("":Str))&&scope.names.all fun z=>!(z.1 == ("":Str))))
theorem yG {env:Env}{N:List Str} (h:fL env scope N=true):aY env scope N N=true:=by
 unfold aY
 rw [h,Bool.true_and,beq_self_eq_true,Bool.true_and,ċ]
 rintro ⟨a,b⟩ hy
 obtain⟨i,hi,e⟩:=List.mem_iff_getElem.mp hy
 rw [List.getElem_zip] at e
 cases e
 simp
variable {M:List Str}
theorem eZ (h:aY X.env scope X.N M=true):scope.kind=.function:=by
 unfold aY fL at h
 simp only [Ý,beq_iff_eq] at h
 exact h.1.1
theorem bO (h:aY X.env scope X.N M=true):∀ y∈scope.names,(y.2=.local->y.1∉M/\scope.names.lookup y.1=some .local)/\(y.2=.cell->y.1∉M/\scope.names.lookup y.1=some .cell)/\(y.2=.free->scope.names.lookup y.1=some .free/\(X.env.kindOf y.1=some .cell\/X.env.kindOf y.1=some .free)):=by
 unfold aY at h
 rw [Ý] at h
 have h:=h.1
 unfold fL at h
 rw [Ý,ċ] at h
 intro y hy
 have q:=h.2 y hy
 obtain⟨n,k⟩:=y
 cases k with
 | «local»=>simp at q ⊢; exact q
 | cell=>simp at q ⊢; exact q
 | free=>simp at q ⊢; exact q
 | globalExplicit=>simp
 | globalImplicit=>simp
theorem aZ:∀ (names:List (Str×NameKind)) (n:Nat) (acc:List (Str×Addr)),cellsFrom n names acc=cellsFrom n names []++acc
 | [],_,_=>rfl
 | (nm,k)::r,n,acc=>by
  show (if (k == ć)=true then cellsFrom (n+1) r ((nm,n)::acc) else cellsFrom n r acc)=(if (k == ć)=true then cellsFrom (n+1) r [(nm,n)] else cellsFrom n r [])++acc
  split
  ·rw [aZ r (n+1) ((nm,n)::acc),aZ r (n+1) [(nm,n)],Ŏ]
   rfl
  ·exact aZ r n acc
theorem fu:∀ (names:List (Str×NameKind)) (n:Nat) (x:Str) (c:Addr),(x,c)∈cellsFrom n names []->(x,ć)∈names/\n<=c
 | [],_,_,_,h=>nomatch h
 | (nm,k)::r,n,x,c,h=>by
  have h:(x,c)∈(if (k == ć)=true then cellsFrom (n+1) r [(nm,n)] else cellsFrom n r []):=h
  split at h
  ·rename_i hk
   rw [aZ] at h
   rcases Û.mp h with z | z
   ·obtain⟨h1,h2⟩:=fu r (n+1) x c z
    exact⟨Ã _ h1,by omega⟩
   ·have z:(x,c)=(nm,n):=by simpa using z
    cases z
    have hk:k=.cell:=by simpa using hk
    subst hk
    exact⟨Æ,Í _⟩
  ·obtain⟨h1,h2⟩:=fu r n x c h
   exact⟨Ã _ h1,h2⟩
theorem oU:∀ (names:List (Str×NameKind)) (n:Nat) (x y:Str) (c:Addr),(x,c)∈cellsFrom n names []->(y,c)∈cellsFrom n names []->x=y
 | [],_,_,_,_,h,_=>nomatch h
 | (nm,k)::r,n,x,y,c,h,h'=>by
  have h:(x,c)∈(if (k == ć)=true then cellsFrom (n+1) r [(nm,n)] else cellsFrom n r []):=h
  have h':(y,c)∈(if (k == ć)=true then cellsFrom (n+1) r [(nm,n)] else cellsFrom n r []):=h'
  by_cases hk:(k == ć)=true
  ·rw [if_pos hk,aZ] at h h'
   rcases Û.mp h with z | z <;> rcases Û.mp h' with z' | z'
   ·exact oU r (n+1) x y c z z'
   ·have:=(fu r (n+1) x c z).2
    have z':(y,c)=(nm,n):=by simpa using z'
    cases z'
    exact absurd this (Nat.not_succ_le_self _)
   ·have:=(fu r (n+1) y c z').2
    have z:(x,c)=(nm,n):=by simpa using z
    cases z
    exact absurd this (Nat.not_succ_le_self _)
   ·have z:(x,c)=(nm,n):=by simpa using z
    have z':(y,c)=(nm,n):=by simpa using z'
    cases z
    cases z'
    rfl
  ·rw [if_neg hk] at h h'
   exact oU r n x y c h h'
theorem jM:∀ (names:List (Str×NameKind)) (h:Heap) (b:Addr) (o:Obj),h.get? b=some o->(pushCells h names).get? b=some o
 | [],_,_,_,e=>e
 | (nm,k)::r,h,b,o,e=>by
  show (if (k == ć)=true then pushCells (h.push { cls:=Đ "cell",data:=Data.cell none }) r else pushCells h r).get? b=some o
  split
  ·exact jM r _ b o (Ð _ e)
  ·exact jM r h b o e
theorem nQ:∀ (names:List (Str×NameKind)) (h:Heap) (x:Str) (c:Addr),(x,c)∈cellsFrom h.objs.size names []->(pushCells h names).IsCell c none
 | [],_,_,_,e=>nomatch e
 | (nm,k)::r,h,x,c,e=>by
  have e:(x,c)∈(if (k == ć)=true then cellsFrom (h.objs.size+1) r [(nm,h.objs.size)] else cellsFrom h.objs.size r []):=e
  show (if (k == ć)=true then pushCells (h.push { cls:=Đ "cell",data:=Data.cell none }) r else pushCells h r).IsCell c none
  by_cases hk:(k == ć)=true
  ·rw [if_pos hk,aZ] at e
   rw [if_pos hk]
   rcases Û.mp e with z | z
   ·exact nQ r _ x c (by rw [ň]; exact z)
   ·have z:(x,c)=(nm,h.objs.size):=by simpa using z
    cases z
    exact⟨_,jM r _ _ _ (à _ rfl),rfl⟩
  ·rw [if_neg hk] at e ⊢
   exact nQ r h x c e
theorem zR {M:Model}{A:Around}{E:Value->Shared->Prop}{s:Shared}{scope:Scope}{globals:Addr}{closure:List (Str×Addr)}{qual:Str}{func:Option Addr}{code:Value}{around:Option Env}{builtins:Addr}{Q:Env->Shared->Prop}
  (h:Q (newEnv scope s.heap.objs.size globals (cellsFrom (s.heap.objs.size+1) scope.names closure) qual func code around builtins) { s with heap:=pushCells (s.heap.push { cls:=Đ (if around.isSome=true then "dict" else "frame"),data:=Data.dict #[] }) scope.names }) :
  wpAny M A (newFunctionEnv scope globals closure [] qual func code around builtins) Q E s:=by
 unfold newFunctionEnv
 refine Ä (wpAny_alloc ?_)
 refine Ä (wpAny_layCells _ (fun _ _ _=>rfl) _ _ _ _ ?_)
 rw [ň]
 exact Ä (Ò (Ò h))
theorem QJ {n:Nat}{names:List (Str×NameKind)}{cl:List (Str×Addr)}{x:Str}{c:Addr} (h:(cellsFrom n names cl).lookup x=some c):(x,c)∈cellsFrom n names []\/cl.lookup x=some c:=by
 rw [aZ,List.lookup_append] at h
 cases e:(cellsFrom n names []).lookup x with
 | none=>rw [e] at h; exact .inr h
 | some d =>
  rw [e] at h
  cases h
  exact .inl (Ě e)
theorem JC {n:Nat}{names:List (Str×NameKind)}{cl:List (Str×Addr)}{x:Str} (h:∀ c,(x,c)∈cellsFrom n names []->False):(cellsFrom n names cl).lookup x=cl.lookup x:=by
 rw [aZ,List.lookup_append]
 cases e:(cellsFrom n names []).lookup x with
 | none=>rfl
 | some d=>exact (h d (Ě e)).elim
theorem yw (h:aY X.env scope X.N M=true) {n:Nat}{x:Str} (hx:(x,ú)∈scope.names):∀ c,(x,c)∈cellsFrom n scope.names []->False:=fun c z=>by
 have h1:=((bO h _ hx).2.2 rfl).1
 have h2:=((bO h _ (fu _ _ _ _ z).1).2.1 rfl).2
 rw [h1] at h2
 cases h2
theorem jD (h:aY X.env scope X.N M=true):X.N.length=M.length:=by
 unfold aY at h
 rw [Ý,Ý] at h
 exact eq_of_beq h.2.1
theorem uh {i:Nat}{x:Str}{k:NameKind} (h:aY X.env scope X.N M=true) (hx:M[i]?=some x) (_:x∈M) (hn:(x,k)∈scope.names):X.N[i]?=some x:=by
 have hl:=jD h
 unfold aY at h
 rw [Ý,Ý,ċ] at h
 have hi:i<M.length:=(Î.mp hx).1
 have hx':M[i]=x:=(Î.mp hx).2
 have hi':i<X.N.length:=by omega
 have q:=h.2.2 (X.N[i],M[i]) (by
  refine List.mem_iff_getElem.mpr ⟨i,by rw [List.length_zip]; omega,?_⟩
  rw [List.getElem_zip])
 rw [Bool.or_eq_true] at q
 rcases q with q | q
 ·have q:X.N[i]=M[i]:=eq_of_beq q
  rw [Ç hi',q,hx']
 ·rw [Ý,ċ] at q
  have e:M[i]=("":Str):=eq_of_beq q.1
  have z:=q.2 (x,k) hn
  rw [← hx',e] at z
  simp at z
theorem Ay {pins:List (Addr×Obj)}{σ:St}{H:Hp}{s:Shared}{fp:List Addr}{h₁:Heap}{tk:Nat} (hk:aY X.env scope X.N M=true) (I:Inv X pins σ H s) (hf:∀ b∈fp,rW X pins H b) (hfo:∀ b∈fp,∃ o,s.heap.get? b=some o)
  (hns:h₁.Ns (s.heap.objs.size+1) fun _=>none) (old:∀ b o,s.heap.get? b=some o->h₁.get? b=some o) (hD:h₁.get? s.heap.objs.size=some { cls:=.type "list",data:=.seq #[] 0 }) (hnc:∀ x c,(x,c)∈cellsFrom (s.heap.objs.size+2) scope.names []->h₁.IsCell c none) :
  Inv (X.bA own M scope ⟨cellsFrom (s.heap.objs.size+2) scope.names (dz X.env.cells scope.names []),s.heap.objs.size+1,s,H,fp⟩) [(s.heap.objs.size,{ cls:=.type "list",data:=.seq #[] 0 })] (É own.length none++σ) H { s with heap:=h₁,toks:=tk }:=by
 have hkk:=eZ hk
 have hka:=bO hk
 have hhas:∀ x,(x,ú)∈scope.names->∃ c,X.env.cells.lookup x=some c:=fun x hx=>I.ok.has x ((hka _ hx).2.2 rfl).2
 have hcl:∀ x c,(dz X.env.cells scope.names []).lookup x=some c->X.env.cells.lookup x=some c/\(x,ú)∈scope.names:=fun x c e=>by
  rcases mW e with q | ⟨q1,q2⟩
  ·simp at q
  ·obtain⟨c',e'⟩:=hhas x q1
   rw [e'] at q2
   exact⟨by rw [e',q2]; rfl,q1⟩
 have hcc:∀ x c,(cellsFrom (s.heap.objs.size+2) scope.names (dz X.env.cells scope.names [])).lookup x=some c->(X.env.cells.lookup x=some c/\(x,ú)∈scope.names/\c<s.heap.objs.size)\/((x,c)∈cellsFrom (s.heap.objs.size+2) scope.names []/\(x,ć)∈scope.names/\s.heap.objs.size+2<=c):=fun x c e=>by
  rcases QJ e with z | z
  ·exact .inr ⟨z,fu _ _ _ _ z⟩
  ·obtain⟨h1,h2⟩:=hcl x c z
   obtain⟨v,o,ho,_⟩:=I.cell x c h1
   exact .inl ⟨h1,h2,Ï ho⟩
 have hvis:∀ x,(relabel scope X.env).names.lookup x=some .cell\/(relabel scope X.env).names.lookup x=some .free->(x,ú)∈scope.names\/(x,ć)∈scope.names:=fun x hx=>by
  have key:∀ q,(relabel scope X.env).names.lookup x=some q->q=.cell\/q=.free->(x,ú)∈scope.names\/(x,ć)∈scope.names:=fun q hq hq'=>by
   obtain⟨k,h1,h2,h3⟩:=cY (env:=X.env) (names:=scope.names) hq
   rcases h3 with h3 | ⟨_,h3⟩
   ·subst h3
    rcases hq' with z | z
    ·rw [z] at h1; exact .inr h1
    ·rw [z] at h1; exact .inl h1
   ·rw [h3] at h1; exact .inl h1
  rcases hx with hx | hx
  ·exact key _ hx (.inl rfl)
  ·exact key _ hx (.inr rfl)
 have hlt:∀ b o,s.heap.get? b=some o->b<s.heap.objs.size:=fun b o e=>Ï e
 refine⟨⟨I.ok.mod,hkk,I.ok.glob,I.ok.blt,Ł _,fun x y c h1 h2=>?inj,fun x hx=>?_,fun x c z e=>?cab,I.ok.hd,I.ok.frames,.inl rfl,fun b hb=>⟨?_,fun x c e=>?exf⟩,I.bs,
   þ I.ok.bsz I.sz,fun b o e hb=>?_,fun b hb hs=>?_,I.stack,I.Bg,fun q hq=>⟨(I.ok.sof q hq).1,I.base.frzs _ _ _ (I.ok.sof q hq).2.1,(I.ok.sof q hq).2.2⟩⟩,rfl,I.bare,Un.kept old,⟨_,hns,fun i x v h1 h2 h3=>?_⟩,fun x c e=>?_,?_,fun x c e=>?frc,fun p hp=>?_,I.hok.kept old,?_⟩
 case inj =>
  rcases hcc x c h1 with ⟨a1,_,a3⟩ | ⟨a1,_,a3⟩ <;> rcases hcc y c h2 with ⟨b1,_,b3⟩ | ⟨b1,_,b3⟩
  ·exact I.ok.inj x y c a1 b1
  ·exact absurd (è a3 (þ (Nat.le_add_right _ 2) b3)) (ă _)
  ·exact absurd (è b3 (þ (Nat.le_add_right _ 2) a3)) (ă _)
  ·exact oU _ _ _ _ _ a1 b1
 case cab =>
  show s.heap.objs.size<=c
  rcases hcc x c e with ⟨_,a2,_⟩ | ⟨_,_,a3⟩
  ·have h1:=((hka _ a2).2.2 rfl).1
   have z:(scope.names.lookup x == some ć)=true:=z
   rw [h1] at z
   exact absurd z (by decide)
  ·omega
 case exf =>
  rcases hcc x c e with ⟨a1,_,_⟩ | ⟨_,_,a3⟩
  ·exact (hf b hb).2.2.2.2.1 x c a1
  ·obtain⟨o,e⟩:=hfo b hb
   have:=hlt b o e
   intro z
   subst z
   exact absurd (è this (þ (Nat.le_add_right _ 2) a3)) (ă _)
 case frc =>
  rcases hcc x c e with ⟨a1,_,_⟩ | ⟨_,_,a3⟩
  ·exact I.freeC x c a1
  ·exact I.hok.fresh (by omega)
 ·have hx':(relabel scope X.env).names.lookup x=some .cell\/(relabel scope X.env).names.lookup x=some .free:=hx
  refine ũ.mp (W.cellsFrom_some _ _ _ ?_)
  rcases hvis x hx' with z | z
  ·exact .inr (jF z)
  ·exact .inl ((hka _ z).2.1 rfl).2
 ·obtain⟨o,e⟩:=hfo b hb
  exact ß (Ă (hlt b o e))
 ·have hb':b∈fp:=hb
  rcases (hf b hb').2.2.2.1 with z | z
  ·exact I.ok.noex b o e z
  ·exact absurd (è (Ï (I.ok.bs b o e).1) z) (ă _)
 ·have hb':b∈fp:=hb
  rcases Ô.mp (I.uG b hs) with z | z
  ·exact (hf b hb').2.1 z
  ·exact (hf b hb').2.2.1 z
 ·have hi:own.length<=i:=by
   by_cases hi:i<own.length
   ·rw [ô (by simpa using hi),Ń] at h2
    split at h2 <;> cases h2
   ·omega
  have h1':M[i - own.length]?=some x:=by
   have q:(own++M)[i]?=some x:=h1
   rwa [ë hi] at q
  have h2':σ[i - own.length]?=some (some v):=by
   rw [ë (by simpa using hi)] at h2
   simpa using h2
  have h3':Vis (relabel scope X.env) x:=h3
  have hfr:(x,ú)∈scope.names:=by
   rcases h3' with z | z
   ·obtain⟨k,q1,q2,q3⟩:=cY (env:=X.env) (names:=scope.names) z
    rcases q3 with q3 | ⟨q3,_⟩
    ·subst q3
     exact absurd (Ì h1') ((hka _ q1).1 rfl).1
    ·cases q3
   ·rcases hvis x z with y | y
    ·exact y
    ·exact absurd (Ì h1') ((hka _ y).2.1 rfl).1
  have hkx:=((hka _ hfr).2.2 rfl).2
  obtain⟨m,hm,hl⟩:=I.loc
  obtain⟨u,ru,lu⟩:=hl _ x v (uh hk h1' (Ì h1') hfr) h2' (by rcases hkx with z | z; exact .inr (.inl z); exact .inr (.inr z))
  refine⟨u,ru,.inr ⟨?_,?_⟩⟩
  ·rcases h3' with z | z | z
   ·obtain⟨k,q1,q2,q3⟩:=cY (env:=X.env) (names:=scope.names) z
    rcases q3 with q3 | ⟨q3,_⟩
    ·subst q3
     exact absurd (Ì h1') ((hka _ q1).1 rfl).1
    ·cases q3
   ·exact .inl z
   ·exact .inr z
  ·rcases lu with ⟨z,_⟩ | ⟨_,c,e,ic⟩
   ·rcases hkx with q | q
    ·rw [q] at z; cases z
    ·rw [q] at z; cases z
   ·obtain⟨c',e'⟩:=ũ.mp (jF (cells:=X.env.cells) (acc:=[]) hfr)
    have e2:=(hcl x c' e').1
    rw [e] at e2
    cases e2
    obtain⟨o,ho,hd⟩:=ic
    exact⟨c,(JC (yw hk hfr)).trans e',o,old _ _ ho,hd⟩
 ·rcases hcc x c e with ⟨z,_,_⟩ | ⟨z,_,_⟩
  ·obtain⟨v,o,ho,hd⟩:=I.cell x c z
   exact⟨v,o,old _ _ ho,hd⟩
  ·exact⟨none,hnc x c z⟩
 ·exact I.hok.fresh (Ł _)
 ·have hp':p=(s.heap.objs.size,{ cls:=.type "list",data:=.seq #[] 0 }):=by simpa using hp
  subst hp'
  refine⟨hD,I.hok.fresh (Í _),ß (Ŕ _),fun z=>?_,fun v z=>nomatch z⟩
  obtain⟨_,o,ho,_⟩:=I.stack.mem z
  exact absurd (Ï ho) (ă _)
 ·show (É own.length none++σ).length=(own++M).length
  rw [È,È,Ď,I.len,jD hk]
theorem Ax {pins pn:List (Addr×Obj)}{σ σ':St}{H H':Hp}{s s':Shared}{fp:List Addr}{cl:List (Str×Addr)}{ys:List V}{us:List Value}{n:Nat} (I:Inv X pins σ H s) (hf:∀ b∈fp,rW X pins H b)
  (J:Inv (X.bA own M scope ⟨cl,s.heap.objs.size+1,s,H,fp⟩) pn σ' H' s') (hp:(s.heap.objs.size,({ cls:=.type "list",data:=.seq us.toArray n }:Obj))∈pn) (hv:Vals ys us) (hz:ys.length<=sizeLine) :
  Inv X pins σ (upd H' s.heap.objs.size (.lst ys)) s'/\H' s.heap.objs.size=none:=by
 obtain⟨hD,hDn,_⟩:=J.pin _ (å _ hp)
 refine⟨I.call' J.os ⟨fun b o e n hb hx=>J.base.keep b o e n hb hx,fun b o e n hb hx=>J.base.slot b o e n hb hx,fun b o e n hx=>?_,fun b o e hx=>J.base.there b o e hx,fun b xs e=>?_,fun b o u e=>?_,fun b ps e=>?_⟩ ?_ J.bare ?_,hDn⟩
 ·rw [aq (ß (Ï e))]
  exact J.base.free b o e n hx
 ·have q:=J.base.tups b xs e
  rw [aq (aD q hDn)]
  exact q
 ·have q:=J.base.frzs b o u e
  rw [aq (aD q hDn)]
  exact q
 ·obtain⟨more,q⟩:=J.base.tbls b ps e
  exact⟨more,by rw [aq (aD q hDn)]; exact q⟩
 ·exact J.hok.track hDn ⟨hz,us,n,hv,hD⟩
 ·intro b hb
  exact⟨(hf b hb).2.2.2.1,(hf b hb).2.1,(hf b hb).2.2.2.2.1,(hf b hb).2.2.2.2.2⟩
theorem rN {pins pn:List (Addr×Obj)}{σ σ':St}{H H':Hp}{s s':Shared}{fp:List Addr}{cl:List (Str×Addr)} (hk:aY X.env scope X.N M=true) (I:Inv X pins σ H s) (hf:∀ b∈fp,rW X pins H b)
  (hcl:∀ x,(x,ú)∈scope.names->∃ c,cl.lookup x=some c/\X.env.cells.lookup x=some c)
  (J:Inv (X.bA own M scope ⟨cl,s.heap.objs.size+1,s,H,fp⟩) pn σ' H' s'):Inv (X.bA own M scope ⟨cl,s.heap.objs.size+1,s,H,fp⟩) pn (É own.length none++σ) H' s':=by
 have hka:=bO hk
 refine⟨J.ok,J.os,J.bare,J.base,?_,J.cell,J.free,J.freeC,J.pin,J.hok,?_⟩
 ·obtain⟨mC,hmC,_⟩:=J.loc
  refine⟨mC,hmC,fun i x v h1 h2 h3=>?_⟩
  have hi:own.length<=i:=by
   by_cases hi:i<own.length
   ·rw [ô (by simpa using hi),Ń] at h2
    split at h2 <;> cases h2
   ·omega
  have h1':M[i - own.length]?=some x:=by
   have q:(own++M)[i]?=some x:=h1
   rwa [ë hi] at q
  have h2':σ[i - own.length]?=some (some v):=by
   rw [ë (by simpa using hi)] at h2
   simpa using h2
  have h3':Vis (relabel scope X.env) x:=h3
  have nloc:¬ (relabel scope X.env).names.lookup x=some .local:=fun z=>by
   obtain⟨k,q1,q2,q3⟩:=cY (env:=X.env) (names:=scope.names) z
   rcases q3 with q3 | ⟨q3,_⟩
   ·subst q3
    exact absurd (Ì h1') ((hka _ q1).1 rfl).1
   ·cases q3
  have hkk:(relabel scope X.env).names.lookup x=some .cell\/(relabel scope X.env).names.lookup x=some .free:=by
   rcases h3' with z | z
   ·exact absurd z nloc
   ·exact z
  have hfr:(x,ú)∈scope.names:=by
   have key:∀ q,(relabel scope X.env).names.lookup x=some q->q=.cell\/q=.free->(x,ú)∈scope.names:=fun q hq hq'=>by
    obtain⟨k,h1,h2,h3⟩:=cY (env:=X.env) (names:=scope.names) hq
    rcases h3 with h3 | ⟨_,h3⟩
    ·subst h3
     rcases hq' with z | z
     ·rw [z] at h1; exact absurd (Ì h1') ((hka _ h1).2.1 rfl).1
     ·rw [z] at h1; exact h1
    ·rw [h3] at h1; exact h1
   rcases hkk with hx | hx
   ·exact key _ hx (.inl rfl)
   ·exact key _ hx (.inr rfl)
  have hkx:=((hka _ hfr).2.2 rfl).2
  obtain⟨m,hm,hl⟩:=I.loc
  obtain⟨u,ru,lu⟩:=hl _ x v (uh hk h1' (Ì h1') hfr) h2' (by rcases hkx with z | z; exact .inr (.inl z); exact .inr (.inr z))
  refine⟨u,ru,.inr ⟨hkk,?_⟩⟩
  rcases lu with ⟨z,_⟩ | ⟨_,c,e,ic⟩
  ·rcases hkx with q | q
   ·rw [q] at z; cases z
   ·rw [q] at z; cases z
  ·obtain⟨c',e',e2⟩:=hcl x hfr
   rw [e] at e2
   cases e2
   obtain⟨o,ho,hd⟩:=ic
   obtain⟨sl,q⟩:=J.base.any ho (I.freeC x c e) fun z=>(hf c z).2.2.2.2.1 x c e rfl
   exact⟨c,e',_,q,hd⟩
 ·show (É own.length none++σ).length=(own++M).length
  rw [È,È,Ď,I.len,jD hk]
theorem ud {pins:List (Addr×Obj)}{σ:St}{H:Hp}{s:Shared}{it:Addr}{fp:List Addr}{tn:Nat->Heap->Prop}{J:It}{W:Nat->Nat->List V->Hp->Prop}{E:Value->Shared->Prop}{RR:Value->Addr->Result->Shared->Prop}{Cm:Cx->Prop} (hc:∀ c,Cm (X.bA own M scope c))
  (hk:aY X.env scope X.N M=true) (hg:∀ c,PG (X.bA own M scope c) tg (g c)) (ht:∀ c,PTs (X.bA own M scope c) ifs (tt c)) (he:∀ c,PE (X.bA own M scope c) elt (te c))
  (I:Inv X pins σ H s) (T:TurnG Cm X.prog X.w X.K tg J fp it tn) (st:tn 0 s.heap) (hf:∀ b∈fp,rW X pins H b) {m0:Nat} (w0:W 0 m0 [] H) {D:List V->Hp->Prop}
  (turn:∀ (c:CB) i m ys H,W i m ys H->(J.stop i H/\D ys H) ∨
   (J.go i H/\ys.length<sizeLine/\∃ N:List V->Hp->Prop,(∀ ys' H',N ys' H'->∃ m',m'<m/\W (i+1) m' ys' H')/\∀ x H',J.yld i H x H'->g c x (É own.length none++σ) H' fun σ2 H2=>tt c σ2 H2 fun b H3 =>
    if b=true then te c σ2 H3 fun v H4=>N (ys++[v]) H4 else N ys H3))
  (fin:∀ s' m' ys H',(s'.heap.Ns (s.heap.objs.size+1) m')->H' (s.heap.objs.size+1)=none->H' s.heap.objs.size=none->Inv X pins σ (upd H' s.heap.objs.size (.lst ys)) s'->D ys H'->RR (.ref s.heap.objs.size) (s.heap.objs.size+1) (.ok .next) s') :
  wpAny (model X.prog X.w) X.A (newList []) (fun acc s₃=>wpAny (model X.prog X.w) X.A (newFunctionEnv scope X.env.globals (dz X.env.cells scope.names []) [] X.env.qual none .none (some X.env)) (fun cenv s₄ =>
   codeAny (model X.prog X.w) X.A (.compStart (.ListComp elt [⟨tg,iter,ifs,0⟩] scope pos) 0 (.ref it) acc { cenv with scope:=relabel scope X.env }) (RR acc cenv.locals) s₄) E s₃) E s:=by
 have hkk:=eZ hk
 have hka:=bO hk
 refine wpAny_newObj_type (zR ?_)
 dsimp only
 have hC:(s.heap.push { cls:=.type "list",dict:=none,data:=.seq ([]:List Value).toArray }).objs.size=s.heap.objs.size+1:=ň ..
 rw [hC]
 generalize hH2:s.heap.push { cls:=.type "list",dict:=none,data:=.seq ([]:List Value).toArray }=H2 at hC ⊢
 generalize hH3:H2.push { cls:=Đ (if (some X.env:Option Env).isSome=true then "dict" else "frame"),data:=Data.dict #[] }=H3
 generalize hh1:pushCells H3 scope.names=h₁
 have hC3:H3.objs.size=s.heap.objs.size+2:=by rw [← hH3,ň,hC]
 have old3:∀ b o,H3.get? b=some o->h₁.get? b=some o:=fun b o e=>hh1 ▸ jM _ _ _ _ e
 have old2:∀ b o,H2.get? b=some o->h₁.get? b=some o:=fun b o e=>old3 b o (hH3 ▸ Ð _ e)
 have old:∀ b o,s.heap.get? b=some o->h₁.get? b=some o:=fun b o e=>old2 b o (hH2 ▸ Ð _ e)
 have hacc:h₁.get? s.heap.objs.size=some { cls:=.type "list",data:=.seq #[] 0 }:=old2 _ _ (hH2 ▸ à _ rfl)
 have hns:h₁.Ns (s.heap.objs.size+1) fun _=>none:=by
  have z:=Heap.Ns.new H2 (Đ (if (some X.env:Option Env).isSome=true then "dict" else "frame"))
  rw [hC,hH3] at z
  exact z.keeps old3
 have hnc:∀ x c,(x,c)∈cellsFrom (s.heap.objs.size+2) scope.names []->h₁.IsCell c none:=fun x c e=>by
  rw [← hC3] at e
  exact hh1 ▸ nQ _ _ _ _ e
 have hfo:∀ b∈fp,∃ o,s.heap.get? b=some o:=fun b hb=>let ⟨o,e,_⟩:=T.obj 0 _ st b hb; ⟨o,e⟩
 have st₁:tn 0 h₁:=T.keep 0 _ _ st fun b _ o e=>old b o e
 have I₁:=Ay (own:=own) (tk:=s.toks) hk I hf hfo hns old hacc hnc
 have loop:∀ s₃:Shared,s₃={ s with heap:=h₁,toks:=s.toks } ->
   codeAny (model X.prog X.w) X.A (.compLoop (.ListComp elt [⟨tg,iter,ifs,0⟩] scope pos) 0 (.ref it) (.ref s.heap.objs.size) (compEnvC scope (cellsFrom (s.heap.objs.size+2) scope.names (dz X.env.cells scope.names [])) (s.heap.objs.size+1) X.env))
    (RR (.ref s.heap.objs.size) (s.heap.objs.size+1)) s₃:=by
  rintro s₃ rfl
  have neD:∀ b∈fp,b≠s.heap.objs.size:=fun b hb=>by
   obtain⟨o,e⟩:=hfo b hb
   exact ß (Ï e)
  have stat:∀ {H':Hp}{o:Obj},(∀ b∈fp,H' b=none)->∀ b∈fp,rW (X.bA own M scope ⟨cellsFrom (s.heap.objs.size+2) scope.names (dz X.env.cells scope.names []),s.heap.objs.size+1,s,H,fp⟩) [(s.heap.objs.size,o)] H' b:=fun {H' o} hn b hb =>
   ⟨hn b hb,(I₁.ok.exf b hb).1,I₁.ok.exfs b hb,.inl hb,(I₁.ok.exf b hb).2,fun p hp=>by
    have hp':p=(s.heap.objs.size,o):=by simpa using hp
    subst hp'
    exact Į (neD b hb)⟩
  refine Fg (fun k s'=>∃ i ys us n H',Inv (X.bA own M scope ⟨cellsFrom (s.heap.objs.size+2) scope.names (dz X.env.cells scope.names []),s.heap.objs.size+1,s,H,fp⟩) [(s.heap.objs.size,{ cls:=.type "list",data:=.seq (us:List Value).toArray n })] (É own.length none++σ) H' s' /\
    Vals ys us/\ys.length<=sizeLine/\tn i s'.heap/\(∀ b∈fp,H' b=none)/\W i k ys H') ?_ m0 ⟨0,[],[],0,H,I₁,.nil,Ć _,st₁,fun b hb=>(hf b hb).1,w0⟩
  rintro k s3 ⟨i,ys,us,n,H3,I3,hv,hz,st3,fr3,w3⟩
  rcases turn ⟨cellsFrom (s.heap.objs.size+2) scope.names (dz X.env.cells scope.names []),s.heap.objs.size+1,s,H,fp⟩ i k ys H3 w3 with ⟨stop,d⟩ | ⟨go,hlt,N,hN,step⟩
  ·refine thn (T.done (X.bA own M scope ⟨cellsFrom (s.heap.objs.size+2) scope.names (dz X.env.cells scope.names []),s.heap.objs.size+1,s,H,fp⟩) rfl rfl rfl (hc _) i _ s3 _ H3 _ I3 (stat fr3) st3 stop) fun r s4 ⟨hr,I4⟩=>?_
   subst hr
   obtain⟨m',hm',_⟩:=I4.loc
   obtain⟨J4,hDn⟩:=Ax I hf I4 (ç.mpr rfl) hv hz
   exact fin s4 m' ys H3 hm' I4.free hDn J4 d
  ·refine thn (T.item (X.bA own M scope ⟨cellsFrom (s.heap.objs.size+2) scope.names (dz X.env.cells scope.names []),s.heap.objs.size+1,s,H,fp⟩) rfl rfl rfl (hc _) i _ s3 _ H3 _ I3 (stat fr3) st3 go) fun r s4 ⟨u,hr,h4⟩=>?_
   subst hr
   refine thn h4 fun _ s5 ⟨x,H5,I5,r5,y5,st5,fr5⟩=>?_
   have I5':=I5.pinned (stat fr5) (T.obj _ _ st5)
   refine thn (hg _ _ s5 _ H5 x u _ I5' r5 (step x H5 y5)) fun _ s6 ⟨σ6,H6,I6,q6⟩=>?_
   refine thn (ht _ _ s6 σ6 H6 _ I6 q6) fun b s7 ⟨H7,I7,q7⟩=>?_
   -- the turn's end: the iterator's records stand,the names are forgotten
   have clH:∀ x,(x,ú)∈scope.names->∃ c,(cellsFrom (s.heap.objs.size+2) scope.names (dz X.env.cells scope.names [])).lookup x=some c/\X.env.cells.lookup x=some c:=fun x hx=>by
    obtain⟨c,e⟩:=I.ok.has x ((hka _ hx).2.2 rfl).2
    obtain⟨c',e'⟩:=ũ.mp (jF (cells:=X.env.cells) (acc:=[]) hx)
    rcases mW e' with q | ⟨_,q⟩
    ·simp at q
    ·rw [e] at q
     exact⟨c',(JC (yw hk hx)).trans e',by rw [e,q]; rfl⟩
   have keepT:∀ {H':Hp}{σ':St}{s':Shared}{pn:List (Addr×Obj)},(∀ p∈jj fp s5.heap,p∈pn)->Inv (X.bA own M scope ⟨cellsFrom (s.heap.objs.size+2) scope.names (dz X.env.cells scope.names []),s.heap.objs.size+1,s,H,fp⟩) pn σ' H' s'->tn (i+1) s'.heap/\∀ b∈fp,H' b=none:=fun {H' σ' s' pn} hs I' =>
    ⟨T.keep _ _ _ st5 fun b hb o e=>(I'.pin (b,o) (å _ (hs _ (iK hb e)))).1,fun b hb=>by
     obtain⟨o,e,_⟩:=T.obj _ _ st5 b hb
     exact (I'.pin (b,o) (å _ (hs _ (iK hb e)))).2.1⟩
   cases b with
   | false =>
    rw [if_neg Ö]
    rw [if_neg Ö] at q7
    obtain⟨m',hm',w7⟩:=hN _ _ q7
    obtain⟨t7,f7⟩:=keepT (fun p hp=>å _ hp) I7
    exact⟨m',hm',i+1,ys,us,n,H7,rN hk I hf clH I7.lK,hv,hz,t7,f7,w7⟩
   | true =>
    rw [if_pos rfl]
    rw [if_pos rfl] at q7
    refine thn (he _ _ s7 σ6 H7 _ I7 q7) fun u8 s8 ⟨v8,H8,I8,r8,q8⟩=>?_
    obtain⟨m',hm',w8⟩:=hN _ _ q8
    obtain⟨t8,f8⟩:=keepT (fun p hp=>å _ hp) I8
    obtain⟨hD8,nD8,lD8,fD8,_⟩:=I8.pin (s.heap.objs.size,{ cls:=.type "list",data:=.seq us.toArray n }) (å _ (Ā _ (ç.mpr rfl)))
    refine append_at (hsz:=by rw [Ñ,← hv.length]; exact Nat.le_of_lt hlt) hD8 fun h9 hs9 hD9=>?_
    have J8:Inv (X.bA own M scope ⟨cellsFrom (s.heap.objs.size+2) scope.names (dz X.env.cells scope.names []),s.heap.objs.size+1,s,H,fp⟩) (jj fp s5.heap) σ6 H8 s8:=I8.pW fun p hp=>I8.pin p (å _ (å _ hp))
    have J9:Inv (X.bA own M scope ⟨cellsFrom (s.heap.objs.size+2) scope.names (dz X.env.cells scope.names []),s.heap.objs.size+1,s,H,fp⟩) (jj fp s5.heap) σ6 H8 { s8 with heap:=h9 }:=J8.turned (t':=s8.toks) (it:=s.heap.objs.size) (fun b o hb e=>(hs9.2 b hb).trans e) nD8 lD8 (.inr (Í _))
     (fun x c e z=>by
      obtain⟨v,o,ho,hd⟩:=J8.cell x c e
      rw [z,hD8] at ho
      cases ho
      cases hd)
     (fun p hp=>by
      have hp':p∈jj fp s5.heap:=by simpa using hp
      exact neD _ (tH hp').1)
    obtain⟨t9,f9⟩:=keepT (fun p hp=>hp) J9
    have e9:h9.get? s.heap.objs.size=some { cls:=.type "list",data:=.seq (us++[u8]).toArray (n+1) }:=by
     rw [hD9,List.push_toArray]
    have J9':Inv (X.bA own M scope ⟨cellsFrom (s.heap.objs.size+2) scope.names (dz X.env.cells scope.names []),s.heap.objs.size+1,s,H,fp⟩) [(s.heap.objs.size,{ cls:=.type "list",data:=.seq (us++[u8]).toArray (n+1) })] σ6 H8 { s8 with heap:=h9 }:=J9.pW fun p hp=>by
     have hp':p=(s.heap.objs.size,{ cls:=.type "list",data:=.seq (us++[u8]).toArray (n+1) }):=by simpa using hp
     subst hp'
     exact⟨e9,nD8,lD8,fD8,fun v z=>nomatch z⟩
    exact⟨m',hm',i+1,ys++[v8],us++[u8],n+1,H8,rN hk I hf clH J9',hv.append (.cons r8 .nil),by rw [È,Þ]; exact hlt,t9,f9,w8⟩
 exact codeAny_compStart_list (loop _ rfl) (T.self _ 0 _ _ _ st₁ (loop _ rfl))
theorem ug {pins:List (Addr×Obj)}{σ:St}{H:Hp}{s:Shared} (hk:aY X.env scope X.N M=true) (I:Inv X pins σ H s):closureFor scope X.env=pure (dz X.env.cells scope.names []) :=
 Az fun x hx hf=>I.ok.has x.1 ((bO hk x hx).2.2 hf).2
theorem uf {pins:List (Addr×Obj)}{σ:St}{H:Hp}{s s':Shared}{C:Addr}{h':Heap}{m:Str->Option Value} (I:Inv X pins σ H s') (hs:X.s₀.heap.objs.size<=C) (hC:C≠X.env.locals) (hcl:∀ x c,X.env.cells.lookup x=some c->c≠C) (hp:∀ p∈X.pn++pins,p.1≠C) (hn:H C=none)
  (hb:Heap.SameBut C s'.heap h'):Inv X pins σ H { s' with heap:=h' }:=I.turned (t':=s'.toks) (fun b o hb' e=>(hb.2 b hb').trans e) hn hC (.inr hs) hcl hp
theorem G5 (own M:List Str) (hc:X.calm=true) (hi:PI X tg iter wi) (hg:∀ c,PG (X.bA own M scope c) tg (g c)) (ht:∀ c,PTs (X.bA own M scope c) ifs (tt c)) (he:∀ c,PE (X.bA own M scope c) elt (te c))
  (hk:aY X.env scope X.N M=true:=by rfl) (hs:∀ x,foldedSetIterable iter X.env x=pure x:=by intro _; rfl) :
  PE X (.ListComp elt [⟨tg,iter,ifs,0⟩] scope pos) (tLC own.length wi g tt te):=by
 intro pins s σ H Q I h
 rw [eval_ListComp]
 have hka:=bO hk
 refine wpAny_comprehension_free (use:=none) rfl hs (ug hk I) (eZ hk) (fun x hx hl=>((hka x hx).1 hl).2) (thn (hi pins s σ H _ I h) fun v s1 h1=>thn h1 fun itv s2 h2=>?_)
 obtain⟨it,fp,tn,J,H2,e,I2,T,st2,f2,W,⟨m0,w0⟩,turn⟩:=h2
 subst e
 refine ud (RR:=fun acc C=>compPost (model X.prog X.w) X.A X.xe none (EP X pins σ Q) acc C) (D:=fun ys H=>∀ p,H p=none->Q (.ref p) (upd H p (.lst ys))) (fun _=>hc) hk hg ht he I2 T st2 f2 w0 turn ?_
 intro s' m' ys H' hns hCn hDn J' d
 have lt2:∀ {b:Addr}{o:Obj},s2.heap.get? b=some o->b≠s2.heap.objs.size+1:=fun e=>ß (Ă (Ï e))
 refine⟨m',hns,fun h' hb=>⟨.ref s2.heap.objs.size,_,uf (m:=m') (s:=s2) J' (þ I2.sz (Ł _)) (Į (ß (Ă I2.lt))) (fun x c e=>?_) (fun p hp=>?_) ?_ hb,rfl,d _ hDn⟩⟩
 ·obtain⟨v,o,ho,_⟩:=I2.cell x c e
  exact lt2 ho
 ·exact lt2 (I2.pin p hp).1
 ·rw [aq (Nat.ne_of_gt (Ŕ _))]
  exact hCn
theorem Kg {Cm:Cx->Prop} (own M:List Str) {i:Nat}{y:Str}{py spos:Pos} (hc:∀ c,Cm (X.bA own M scope c)) (hN:X.N.Nodup) (hiN:X.N[i]?=some y) (hx:Loc X.env.scope y) (hi:PIG Cm X tg iter wi) (hg:∀ c,PG (X.bA own M scope c) tg (g c)) (ht:∀ c,PTs (X.bA own M scope c) ifs (tt c)) (he:∀ c,PE (X.bA own M scope c) elt (te c))
  (hsw:swapsWith (.ListComp elt [⟨tg,iter,ifs,0⟩] scope pos) (some (.Name y py)) spos.line X.env=pure true:=by rfl)
  (hk:aY X.env scope X.N M=true:=by rfl) (hs:∀ x,foldedSetIterable iter X.env x=pure x:=by intro _; rfl) (hf:X.fn y=true\/X.env.scope.names.lookup y=some .local:=by first | exact .inl rfl | exact .inr rfl | assumption) :
  PS X (.Assign [.Name y py] (.ListComp elt [⟨tg,iter,ifs,0⟩] scope pos) spos) (qu (tLC own.length wi g tt te) (iV i)):=by
 intro pins s σ H D I h
 rw [exec_Assign_Name_used _ _ _ _ hsw]
 have hka:=bO hk
 refine Ä (wpAny_standAt (Ä ?_))
 show wpAny _ X.A (do let _ ← comprehension (.ListComp elt [⟨tg,iter,ifs,0⟩] scope pos) scope X.env _ (newList []) false (eval iter X.env) (some (assign (.Name y py) X.env))) _ _ s
 refine Ä (ĸ (wpAny_comprehension_free (use:=some (assign (.Name y py) X.env)) (Q:=fun _ s'=>SP X pins D .next s') rfl hs (ug hk I) (eZ hk) (fun x hx hl=>((hka x hx).1 hl).2)
  (thn (hi pins s σ H _ I h) fun v s1 h1=>thn h1 fun itv s2 h2=>?_)) (fun _ s' hq=>Ò (Ò hq)) fun _ _ e=>e)
 obtain⟨it,fp,tn,J,H2,e,I2,T,st2,f2,W,⟨m0,w0⟩,turn⟩:=h2
 subst e
 refine ud (RR:=fun acc C=>compPost (model X.prog X.w) X.A X.xe (some (assign (.Name y py) X.env)) (fun _ s'=>SP X pins D .next s') acc C) (D:=fun ys H=>∀ p,H p=none->iV i (.ref p) σ (upd H p (.lst ys)) D.nx) hc hk hg ht he I2 T st2 f2 w0 turn ?_
 intro s' m' ys H' hns hCn hDn J' d
 have lt2:∀ {b:Addr}{o:Obj},s2.heap.get? b=some o->b≠s2.heap.objs.size+1:=fun e=>ß (Ă (Ï e))
 show wpAny _ X.A (assign (.Name y py) X.env (.ref s2.heap.objs.size)) _ _ _
 refine wpAny_assign_Name (sZ (v:=.ref s2.heap.objs.size) J' (fun j h=>xV hN h hiN) hiN hx rfl (fun s'' J'' ⟨a,hsb,ha⟩=>?_) hf)
 have hLne:X.env.locals≠s2.heap.objs.size+1:=ß (Ă I2.lt)
 have hCa:s2.heap.objs.size+1≠a:=by
  rcases ha with ha | ha
  ·rw [ha]; exact Į hLne
  ·obtain⟨v,o,ho,_⟩:=I2.cell _ _ ha
   exact Į (lt2 ho)
 refine⟨m',hns.sameBut hsb hCa,fun h' hb=>⟨_,_,uf (m:=m') (s:=s2) J'' (þ I2.sz (Ł _)) (Į hLne) (fun x c e=>?_) (fun p hp=>?_) ?_ hb,d _ hDn⟩⟩
 ·obtain⟨v,o,ho,_⟩:=I2.cell x c e
  exact lt2 ho
 ·exact lt2 (I2.pin p hp).1
 ·rw [aq (Nat.ne_of_gt (Ŕ _))]
  exact hCn
theorem GX (own M:List Str) {i:Nat}{y:Str}{py spos:Pos} (hc:X.calm=true) (hN:X.N.Nodup) (hiN:X.N[i]?=some y) (hx:Loc X.env.scope y) (hi:PI X tg iter wi) (hg:∀ c,PG (X.bA own M scope c) tg (g c)) (ht:∀ c,PTs (X.bA own M scope c) ifs (tt c)) (he:∀ c,PE (X.bA own M scope c) elt (te c))
  (hsw:swapsWith (.ListComp elt [⟨tg,iter,ifs,0⟩] scope pos) (some (.Name y py)) spos.line X.env=pure true:=by rfl)
  (hk:aY X.env scope X.N M=true:=by rfl) (hs:∀ x,foldedSetIterable iter X.env x=pure x:=by intro _; rfl) (hf:X.fn y=true\/X.env.scope.names.lookup y=some .local:=by first | exact .inl rfl | exact .inr rfl | assumption) :
  PS X (.Assign [.Name y py] (.ListComp elt [⟨tg,iter,ifs,0⟩] scope pos) spos) (qu (tLC own.length wi g tt te) (iV i)):=Kg own M (fun _=>hc) hN hiN hx hi hg ht he hsw hk hs hf
theorem RX (own:List Str) (hc:X.calm=true) (hi:PI X tg iter wi) (hg:∀ c,PG (X.comp own scope c) tg (g c)) (ht:∀ c,PTs (X.comp own scope c) ifs (tt c)) (he:∀ c,PE (X.comp own scope c) elt (te c))
  (hk:fL X.env scope X.N=true:=by rfl) (hs:∀ x,foldedSetIterable iter X.env x=pure x:=by intro _; rfl) :
  PE X (.ListComp elt [⟨tg,iter,ifs,0⟩] scope pos) (tLC own.length wi g tt te):=G5 own X.N hc hi hg ht he (yG hk) hs
theorem Bv (own:List Str) {i:Nat}{y:Str}{py spos:Pos} (hc:X.calm=true) (hN:X.N.Nodup) (hiN:X.N[i]?=some y) (hx:Loc X.env.scope y) (hi:PI X tg iter wi) (hg:∀ c,PG (X.comp own scope c) tg (g c)) (ht:∀ c,PTs (X.comp own scope c) ifs (tt c)) (he:∀ c,PE (X.comp own scope c) elt (te c))
  (hsw:swapsWith (.ListComp elt [⟨tg,iter,ifs,0⟩] scope pos) (some (.Name y py)) spos.line X.env=pure true:=by rfl)
  (hk:fL X.env scope X.N=true:=by rfl) (hs:∀ x,foldedSetIterable iter X.env x=pure x:=by intro _; rfl) (hf:X.fn y=true\/X.env.scope.names.lookup y=some .local:=by first | exact .inl rfl | exact .inr rfl | assumption) :
  PS X (.Assign [.Name y py] (.ListComp elt [⟨tg,iter,ifs,0⟩] scope pos) spos) (qu (tLC own.length wi g tt te) (iV i)):=GX own X.N hc hN hiN hx hi hg ht he hsw (yG hk) hs hf
end
section
variable {X:Cx}{tg:Expr}{K:Ú}{g:CB->TG}{tt:CB->TT}{te:CB->TE}{σ:St}{H:Hp}{Q:VK}{n:Nat}
def U4 (K:Ú) (tl:TE):TI:=fun σ H R=>tl σ H fun x H1=>∃ a,x=.ref a/\(((∃ xs,SqL K H1 a xs)/\R (Itl K a) H1)\/((∃ xs,SqT K H1 a xs)/\R (Itt K a) H1))
theorem Ol {l:Expr}{tl:TE} (hl:PE X l tl):PI X tg l (U4 X.K tl):=by
 intro pins s σ H R I h
 refine thn (hl pins s σ H _ I h) fun v s1 ⟨x,H1,I1,r1,q1⟩=>?_
 obtain⟨a,e,q1⟩:=q1
 subst e
 cases r1
 rcases q1 with ⟨⟨xs,hq⟩,q⟩ | ⟨⟨xs,hq⟩,q⟩
 ·obtain⟨its,rv,p,hz⟩:=I1.list hq
  refine wpAny_pyIter_list p.isList ?_
  refine⟨s1.heap.objs.size,[s1.heap.objs.size],_,_,H1,rfl,I1.kept (t':=s1.toks) fun b o e=>Ð _ e,Dk a _,⟨_,à _ rfl,rfl,rfl⟩,fun b hb=>?_,q⟩
  have e:b=s1.heap.objs.size:=by simpa using hb
  subst e
  exact I1.Qp (Í _) (I1.hok.fresh (Í _))
 ·obtain⟨its,rv,p,hz⟩:=I1.tuple hq
  refine wpAny_pyIter_tuple (show s1.heap.IsTuple a its.toArray from p) ?_
  refine⟨s1.heap.objs.size,[s1.heap.objs.size],_,_,H1,rfl,I1.kept (t':=s1.toks) fun b o e=>Ð _ e,yS a _,⟨_,à _ rfl,rfl,rfl⟩,fun b hb=>?_,q⟩
  have e:b=s1.heap.objs.size:=by simpa using hb
  subst e
  exact I1.Qp (Í _) (I1.hok.fresh (Í _))
end
end L2
namespace NfSort
open PySem PySem.W PyProof.Rows
def kwp {α:Type} (n:Nat) (key:Nat->Int):KasT α->(α->Prop)->Prop
 | .ret a,Q=>Q a
 | .ask i j k,Q=>i<n/\j<n/\kwp n key (k (decide (key i<key j))) Q
theorem bQ {α:Type}{n:Nat}{key:Nat->Int}{Q Q':α->Prop} (h:∀ a,Q a->Q' a):∀ {t:KasT α},kwp n key t Q->kwp n key t Q'
 | .ret a,q=>h a q
 | .ask _ _ k,q=>⟨q.1,q.2.1,bQ h q.2.2⟩
theorem gY {α β:Type}{n:Nat}{key:Nat->Int}{f:α->KasT β}{Q:β->Prop}:∀ {t:KasT α},kwp n key t (fun a=>kwp n key (f a) Q)->kwp n key (t.bind f) Q
 | .ret a,q=>q
 | .ask _ _ k,q=>⟨q.1,q.2.1,gY q.2.2⟩
theorem vM {α:Type}{n:Nat}{key:Nat->Int}{cmp:Nat->Nat->(Bool->Shared->Prop)->Shared->Prop}{s:Shared}{G:α->Shared->Prop} (hc:∀ i j C,i<n->j<n->C (decide (key i<key j)) s->cmp i j C s) :
  ∀ {t:KasT α},kwp n key t (fun a=>G a s)->t.kasWp cmp G s
 | .ret _,q=>q
 | .ask i j k,q=>hc i j _ q.1 q.2.1 (vM hc q.2.2)
section
variable {n:Nat}{key:Nat->Int}{p:Array Nat}
def Pm (n:Nat) (p:Array Nat):Prop:=p.Perm (ä n).toArray
def kk (key:Nat->Int) (p:Array Nat) (i:Nat):Int:=key (p.getD i 0)
theorem Pm.size (h:Pm n p):p.size=n:=by
 have:=Array.Perm.size_eq h
 simpa using this
theorem getD_eq (p:Array Nat) (i:Nat):p.getD i 0=(p[i]?).getD 0:=by
 by_cases h:i<p.size <;> simp [Array.getD,h]
theorem Pm.lt (h:Pm n p) {i:Nat} (hi:i<n):p.getD i 0<n:=by
 have hs:=h.size
 have hi':i<p.size:=by omega
 have hm:p[i]∈p.toList:=by
  have:=Array.getElem_mem hi'
  simpa using this
 have hp:p.toList.Perm (ä n):=by
  have:=Array.perm_iff_toList_perm.mp h
  simpa using this
 have e:p.getD i 0=p[i]:=by simp [Array.getD,hi']
 rw [e]
 exact č.mp (hp.mem_iff.mp hm)
theorem Pm.rev (h:Pm n p) (i j:Nat):Pm n (kas_rev p i j):=Array.Perm.trans (mirror_perm _ _ _ _) h
theorem Pm.bub (h:Pm n p) (i j:Nat):Pm n (bubble p i j):=Array.Perm.trans (bubble_perm _ _ _) h
theorem vN (h:Pm n p) {i j:Nat} (hj:j<=n) (t:Nat):kk key (kas_rev p i j) t=if i<=t/\t<j then kk key p (i+j - 1 - t) else kk key p t:=by
 unfold kk kas_rev
 rw [getD_eq,getElem?_mirror_all (by rw [h.size]; exact hj)]
 split
 ·rw [getD_eq]
 ·rw [getD_eq]
theorem Qc (h:Pm n p) {k l:Nat} (hk:k<n) (hl:l<=k) (t:Nat):kk key (bubble p k (k - l)) t=if t=l then kk key p k else if l<t/\t<=k then kk key p (t - 1) else kk key p t:=by
 unfold kk
 rw [getD_eq,getElem?_bubble (by rw [h.size]; exact hk) _ (by omega)]
 have e:k - (k - l)=l:=by omega
 rw [e]
 split
 ·rw [getD_eq]
 ·split
  ·rw [getD_eq]
  ·rw [getD_eq]
def Up (key:Nat->Int) (p:Array Nat) (m:Nat):Prop:=∀ i j,i<=j->j<m->kk key p i<=kk key p j
def Dn (key:Nat->Int) (p:Array Nat) (m:Nat):Prop:=∀ i j,i<=j->j<m->kk key p j<=kk key p i
def Rn (key:Nat->Int) (p:Array Nat) (m q:Nat):Prop:=q+1<=m/\∀ t,m<=t+q+1->t<m->kk key p t=kk key p (m - 1)
theorem Up.more {a:Nat} (h:Up key p a) (h1:1<=a) (hx:kk key p (a - 1)<=kk key p a):Up key p (a+1):=fun i j hij hj=>by
 by_cases hja:j<a
 ·exact h i j hij hja
 ·obtain rfl:j=a:=by omega
  by_cases hi:i=j
  ·subst hi; exact ě _
  ·exact Int.le_trans (h i (j - 1) (by omega) (by omega)) hx
theorem Dn.more {a:Nat} (h:Dn key p a) (h1:1<=a) (hx:kk key p a<=kk key p (a - 1)):Dn key p (a+1):=fun i j hij hj=>by
 by_cases hja:j<a
 ·exact h i j hij hja
 ·obtain rfl:j=a:=by omega
  by_cases hi:i=j
  ·subst hi; exact ě _
  ·exact Int.le_trans hx (h i (j - 1) (by omega) (by omega))
theorem Bb (hp:Pm n p):∀ (f a:Nat),1<=a->a+f<=n->Up key p a->kwp n key (kas_asc p f a) (fun m=>a<=m/\m<=a+f/\Up key p m/\(m<a+f->kk key p m<kk key p (m - 1)))
 | 0,a,h1,hf,hu=>⟨Í _,Í _,hu,fun h=>absurd h (by omega)⟩
 | f+1,a,h1,hf,hu=>by
  refine⟨hp.lt (by omega),hp.lt (by omega),?_⟩
  by_cases hc:key (p.getD a 0)<key (p.getD (a - 1) 0)
  ·(rw [decide_eq_true hc]; dsimp only; rw [if_pos rfl])
   exact⟨Í _,by omega,hu,fun _=>hc⟩
  ·(rw [decide_eq_false hc]; dsimp only; rw [if_neg Ö])
   refine bQ (fun m ⟨a1,a2,a3,a4⟩=>⟨by omega,by omega,a3,fun h=>a4 (by omega)⟩) (Bb hp f (a+1) (by omega) (by omega) (hu.more h1 (Int.not_lt.mp hc)))
theorem Br (hp:Pm n p) {a q:Nat} (ha:a<=n) (hr:Rn key p a q) (t:Nat):kk key (kas_rev p (a - (q+1)) a) t=kk key p t:=by
 rw [vN hp ha]
 split
 ·rename_i h
  rw [hr.2 t (by omega) h.2]
  exact hr.2 _ (by have:=hr.1; omega) (by omega)
 ·rfl
theorem Dn.eq {p':Array Nat}{m:Nat} (h:Dn key p m) (e:∀ t,kk key p' t=kk key p t):Dn key p' m:=fun i j a b=>by rw [e,e]; exact h i j a b
theorem CQ:∀ (f:Nat) (p:Array Nat) (a q:Nat),Pm n p->1<=a->a+f<=n->Dn key p a->Rn key p a q ->
  kwp n key (kas_desc f p a q) (fun r=>Pm n r.1/\a<=r.2.1/\r.2.1<=a+f/\Dn key r.1 r.2.1/\Rn key r.1 r.2.1 r.2.2)
 | 0,p,a,q,hp,h1,hf,hd,hr=>⟨hp,Í _,Í _,hd,hr⟩
 | f+1,p,a,q,hp,h1,hf,hd,hr=>by
  refine⟨hp.lt (by omega),hp.lt (by omega),?_⟩
  have fin:∀ {p':Array Nat}{q':Nat},Pm n p'->Dn key p' (a+1)->Rn key p' (a+1) q'->kwp n key (kas_desc f p' (a+1) q') (fun r=>Pm n r.1/\a<=r.2.1/\r.2.1<=a+(f+1)/\Dn key r.1 r.2.1/\Rn key r.1 r.2.1 r.2.2):=fun x y z =>
   bQ (fun r ⟨a1,a2,a3,a4,a5⟩=>⟨a1,by omega,by omega,a4,a5⟩) (CQ f _ (a+1) _ x (by omega) (by omega) y z)
  have rn0:∀ p':Array Nat,Rn key p' (a+1) 0:=fun p'=>⟨by omega,fun t h1 h2=>by
   have e:t=a+1 - 1:=by omega
   rw [e]⟩
  by_cases hc:key (p.getD a 0)<key (p.getD (a - 1) 0)
  ·(rw [decide_eq_true hc]; dsimp only; rw [if_pos rfl])
   have hc':kk key p a<kk key p (a - 1):=hc
   by_cases hq:q > 0
   ·rw [if_pos hq]
    have e:=Br (key:=key) hp (by omega) hr
    exact fin (hp.rev _ _) ((hd.more h1 (Int.le_of_lt hc')).eq e) (rn0 _)
   ·rw [if_neg hq]
    exact fin hp (hd.more h1 (Int.le_of_lt hc')) (rn0 _)
  ·(rw [decide_eq_false hc]; dsimp only; rw [if_neg Ö])
   refine⟨hp.lt (by omega),hp.lt (by omega),?_⟩
   by_cases hc2:key (p.getD (a - 1) 0)<key (p.getD a 0)
   ·(rw [decide_eq_true hc2]; dsimp only; rw [if_pos rfl])
    exact⟨hp,Í _,(by show a<=a+(f+1); omega),hd,hr⟩
   ·(rw [decide_eq_false hc2]; dsimp only; rw [if_neg Ö])
    have e:kk key p a=kk key p (a - 1):=Int.le_antisymm (Int.not_lt.mp hc2) (Int.not_lt.mp hc)
    refine fin hp (hd.more h1 (Int.le_of_eq e)) ⟨by have:=hr.1; omega,fun t t1 t2=>?_⟩
    show _=kk key p a
    by_cases ht:t=a
    ·rw [ht]
    ·rw [e]
     exact hr.2 t (by omega) (by omega)
theorem wN {a:Nat} (hp:Pm n p) (h1:1<=a) (ha:a<=n) (hd:Dn key p a):kwp n key (kas_tail3 a n p) (fun r=>Pm n r.2/\1<=r.1/\r.1<=n/\Up key r.2 r.1):=by
 unfold kas_tail3
 have hu:Up key (kas_rev p 0 a) a:=fun i j hij hj=>by
  rw [vN hp ha,vN hp ha,if_pos ⟨by omega,by omega⟩,if_pos ⟨by omega,hj⟩]
  exact hd _ _ (by omega) (by omega)
 refine gY (bQ (fun m ⟨a1,a2,a3,_⟩=>?_) (Bb (hp.rev 0 a) (n - a) a h1 (by omega) hu))
 exact⟨hp.rev 0 a,by omega,by omega,a3⟩
theorem pB {a:Nat} (hp:Pm n p) (ha:a+1<=n) (hd:Dn key p (a+1)):kwp n key (kas_descPart a n p) (fun r=>Pm n r.2/\1<=r.1/\r.1<=n/\Up key r.2 r.1):=by
 unfold kas_descPart
 refine gY (bQ (fun r ⟨a1,a2,a3,a4,a5⟩=>?_) (CQ (n - (a+1)) p (a+1) 0 hp (by omega) (by omega) hd ⟨by omega,fun t h1 h2=>by
  have e:t=a+1 - 1:=by omega
  rw [e]⟩))
 split
 ·exact wN (a1.rev _ _) (by omega) (by omega) (a4.eq (Br a1 (by omega) a5))
 ·exact wN a1 (by omega) (by omega) a4
theorem JB (hp:Pm n p) (h1:1<=n):kwp n key (kas_count n p) (fun r=>Pm n r.2/\1<=r.1/\r.1<=n/\Up key r.2 r.1):=by
 unfold kas_count
 have u1:Up key p 1:=fun i j hij hj=>by
  have e:i=j:=by omega
  rw [e]; exact ě _
 refine gY (bQ (fun m ⟨a1,a2,a3,a4⟩=>?_) (Bb hp (n - 1) 1 (Í _) (by omega) u1))
 by_cases hm:m=n
 ·rw [if_pos (by simpa using hm)]
  exact⟨hp,by omega,by omega,a3⟩
 ·rw [if_neg (by simpa using hm)]
  have hlt:=a4 (by omega)
  by_cases hm1:m > 1
  ·rw [if_pos hm1]
   refine⟨hp.lt (by omega),hp.lt (by omega),?_⟩
   by_cases hc:key (p.getD 0 0)<key (p.getD (m - 1) 0)
   ·(rw [decide_eq_true hc]; dsimp only; rw [if_pos rfl])
    exact⟨hp,by omega,by omega,a3⟩
   ·(rw [decide_eq_false hc]; dsimp only; rw [if_neg Ö])
    have hall:∀ t,t<m->kk key p t=kk key p 0:=fun t ht=>by
     have e1:=a3 0 t (by omega) ht
     have e2:=a3 t (m - 1) (by omega) (by omega)
     have e3:kk key p (m - 1)<=kk key p 0:=Int.not_lt.mp hc
     omega
    have e:∀ t,kk key (kas_rev p 0 m) t=kk key p t:=fun t=>by
     rw [vN hp (by omega)]
     split
     ·rename_i h
      rw [hall t h.2,hall _ (by omega)]
     ·rfl
    refine pB (hp.rev 0 m) (by omega) (Dn.eq (p:=p) (Dn.more (fun i j hij hj=>?_) (by omega) (Int.le_of_lt hlt)) e)
    rw [hall i (by omega),hall j hj]
    exact ě _
  ·rw [if_neg hm1]
   obtain rfl:m=1:=by omega
   refine pB hp (by omega) (Dn.more (fun i j hij hj=>?_) (by omega) (Int.le_of_lt hlt))
   have e:i=j:=by omega
   rw [e]; exact ě _
theorem qG {k:Nat} (hp:Pm n p) (hk:k<n) (hu:Up key p k):∀ (f l r:Nat),l<=r->r<=k->r<=l+f->(∀ t,t<l->kk key p t<=kk key p k)->(∀ t,r<=t->t<k->kk key p k<kk key p t) ->
  kwp n key (kas_place p k f l r) (fun l'=>l'<=k/\(∀ t,t<l'->kk key p t<=kk key p k)/\(∀ t,l'<=t->t<k->kk key p k<kk key p t))
 | 0,l,r,h1,h2,h3,h4,h5=>⟨by omega,h4,fun t a b=>h5 t (by omega) b⟩
 | f+1,l,r,h1,h2,h3,h4,h5=>by
  unfold kas_place
  by_cases hlr:l ≥ r
  ·rw [if_pos hlr]
   exact⟨by omega,h4,fun t a b=>h5 t (by omega) b⟩
  ·rw [if_neg hlr]
   have hm:(l+r) / 2<r:=by omega
   refine⟨hp.lt hk,hp.lt (by omega),?_⟩
   by_cases hc:key (p.getD k 0)<key (p.getD ((l+r) / 2) 0)
   ·(rw [decide_eq_true hc]; dsimp only; rw [if_pos rfl])
    have hc':kk key p k<kk key p ((l+r) / 2):=hc
    exact qG hp hk hu f l _ (by omega) (by omega) (by omega) h4 fun t a b=>Int.lt_of_lt_of_le hc' (hu _ t a b)
   ·(rw [decide_eq_false hc]; dsimp only; rw [if_neg Ö])
    have hc':kk key p ((l+r) / 2)<=kk key p k:=Int.not_lt.mp hc
    exact qG hp hk hu f _ r (by omega) (by omega) (by omega) (fun t a=>Int.le_trans (hu t _ (by omega) (by omega)) hc') h5
theorem JG:∀ (f:Nat) (p:Array Nat) (k:Nat),Pm n p->k+f<=n->Up key p k->kwp n key (kas_bin f p k) (fun p'=>Pm n p'/\Up key p' (k+f))
 | 0,p,k,hp,hk,hu=>⟨hp,hu⟩
 | f+1,p,k,hp,hk,hu=>by
  unfold kas_bin
  refine gY (bQ (fun l ⟨a1,a2,a3⟩=>?_) (qG hp (by omega) hu k 0 k (Ć _) (Í _) (by omega) (fun t h=>absurd h (by omega)) (fun t h1 h2=>absurd h1 (by omega))))
  have e:=Qc (key:=key) hp (k:=k) (by omega) a1
  have hu':Up key (bubble p k (k - l)) (k+1):=fun i j hij hj=>by
   rw [e,e]
   by_cases hi:i=l
   ·rw [if_pos hi]
    by_cases hj':j=l
    ·rw [if_pos hj']; exact ě _
    ·rw [if_neg hj',if_pos ⟨by omega,by omega⟩]
     exact Int.le_of_lt (a3 _ (by omega) (by omega))
   ·rw [if_neg hi]
    by_cases hi2:l<i/\i<=k
    ·rw [if_pos hi2,if_neg (by omega),if_pos ⟨by omega,by omega⟩]
     exact hu _ _ (by omega) (by omega)
    ·rw [if_neg hi2]
     by_cases hj':j=l
     ·rw [if_pos hj']
      exact a2 i (by omega)
     ·rw [if_neg hj']
      by_cases hj2:l<j/\j<=k
      ·rw [if_pos hj2]
       exact hu _ _ (by omega) (by omega)
      ·rw [if_neg hj2]
       exact hu _ _ hij (by omega)
  refine bQ (fun p' ⟨b1,b2⟩=>⟨b1,?_⟩) (JG f _ (k+1) (hp.bub _ _) (by omega) hu')
  have e2:k+(f+1)=k+1+f:=by omega
  rw [e2]; exact b2
theorem Bj (h1:1<=n):kwp n key (kas_sort n) (fun p=>Pm n p/\Up key p n):=by
 unfold kas_sort
 refine gY (bQ (fun r ⟨a1,a2,a3,a4⟩=>?_) (JB (p:=(ä n).toArray) (Array.Perm.refl _) h1))
 have e:max r.1 1=r.1:=by omega
 rw [e]
 split
 ·refine bQ (fun p' ⟨b1,b2⟩=>⟨b1,?_⟩) (JG (n - r.1) r.2 r.1 a1 (by omega) a4)
  have e2:r.1+(n - r.1)=n:=by omega
  rw [e2] at b2; exact b2
 ·have e2:r.1=n:=by omega
  rw [e2] at a4
  exact⟨a1,a4⟩
end
end NfSort
namespace L2
open PySem PySem.Spec PyProof.Rows
section
variable {prog:Program}{w:World}{A:Around}{E:Value->Shared->Prop}{s:Shared}
end
section
variable {X:Cx}{pos:Pos}
def I9 (K:Ú) (n:Nat) (t:TGs):TG:=fun v σ H Q=>∃ a xs,v=.ref a/\SqL K H a xs/\xs.length=n/\t xs σ H Q
end
section
variable {X:Cx}
theorem wA:bN X (.builtin "isinstance") (fun xs H Q=>∃ x c t b,xs=[x,.ty c]/\TyOf X.K H x t/\W.kitOne X.K t (.type c)=some b/\Q (.bl b) H):=by
 intro pins s σ H xs us Q I r h
 obtain⟨x,c,t,b,rfl,ty,e,q⟩:=h
 obtain⟨u,u2,rfl,rx,rc⟩:=vals2 r
 cases rc
 exact Eo I rx ty e fun tk=>⟨.bl b,H,I.tok _,rfl,q⟩
theorem Ho:OpR X (compareOp .Is) (fun x y H Q=>∃ a b,x=.bl a/\y=.bl b/\Q (.bl (decide (a=b))) H):=by
 intro pins s σ H x y v u Q I rx ry h
 obtain⟨a,b,rfl,rfl,q⟩:=h
 cases rx
 cases ry
 refine Ò ?_
 refine⟨.bl (decide (a=b)),H,I,?_,q⟩
 cases a <;> cases b <;> rfl
theorem xM:OpR X (compareOp .IsNot) (fun x y H Q=>∃ a b,x=.bl a/\y=.bl b/\Q (.bl (!decide (a=b))) H):=by
 intro pins s σ H x y v u Q I rx ry h
 obtain⟨a,b,rfl,rfl,q⟩:=h
 cases rx
 cases ry
 refine Ò ?_
 refine⟨.bl (!decide (a=b)),H,I,?_,q⟩
 cases a <;> cases b <;> rfl
theorem Bd:∀ {bs:List Bool}{us:List Value},Vals (bs.map V.bl) us->us=bs.map Value.bool
 | [],_,h=>by cases h; rfl
 | b::bs,_,h=>by
  cases h with
  | cons r t =>
   cases r
   rw [Bd t]
   rfl
theorem all_range (bs:List Bool):(ä bs.length).all (fun i=>bs.getD i true)=bs.all id:=by
 rw [ģ]
 simp only [ċ,č]
 constructor
 ·intro h x hx
  obtain⟨i,hi,e⟩:=List.mem_iff_getElem.mp hx
  have q:=h i hi
  simp [hi] at q
  rw [← e]; exact q
 ·intro h i hi
  have q:=h bs[i] (ĥ hi)
  simpa [hi] using q
theorem Ft (hc:X.calm=true):bN X (.builtin "all") (fun xs H Q=>∃ (p:Addr) (bs:List Bool),xs=[.ref p]/\SqL X.K H p (bs.map V.bl)/\Q (.bl (bs.all id)) H):=by
 intro pins s σ H xs us Q I r h
 obtain⟨p,bs,rfl,hp,q⟩:=h
 obtain⟨u,rfl,rx⟩:=vals1 r
 cases rx
 obtain⟨its,rv,pl,hz⟩:=I.list hp
 have e:=Bd rv
 subst e
 have hlt:p≠s.heap.objs.size:=by obtain⟨o,ho,_⟩:=pl.isList; exact ß (Ï ho)
 refine call_all_walk (wpAny_pyIter_list pl.isList ?_)
 refine⟨_,_,_,_,_,_,fun i=>bs.getD i true,rfl,Walks.list (A:=X.A.in1) (I.ok.hd hc) _ p hlt _,⟨⟨_,à _ rfl,rfl,rfl⟩,pl.isList.push _⟩,?_,fun h' tk hk=>?_⟩
 ·intro i v s Q E hP hQ
  have hP':(bs.map Value.bool)[i]?=some v:=by simpa using hP
  rw [á] at hP'
  cases hb:bs[i]? with
  | none=>rw [hb] at hP'; cases hP'
  | some b =>
   rw [hb] at hP'
   cases hP'
   refine Ė ?_
   have e:bs.getD i true=b:=by rw [Ë,hb]; rfl
   have hQ':Q (bs.getD i true) s:=hQ
   rw [e] at hQ'
   exact hQ'
 ·have e:(ä (bs.map Value.bool).toArray.size).all (fun i=>bs.getD i true)=bs.all id:=by
   rw [Ñ,Á]
   exact all_range bs
  rw [e]
  refine⟨.bl (bs.all id),H,I.kept fun b o eb=>hk b o ?_ (Ð _ eb),rfl,q⟩
  intro hm
  have:b=s.heap.objs.size:=by simpa using hm
  exact absurd (Ï eb) (by rw [this]; exact ă _)
theorem uo (hc:X.calm=true):bN X (.builtin "min") (fun xs H Q=>∃ p a b,xs=[.ref p]/\SqT X.K H p [.int a,.int b]/\Q (.int (if b<a then b else a)) H):=by
 intro pins s σ H xs us Q I r h
 obtain⟨p,a,b,rfl,hp,q⟩:=h
 obtain⟨u,rfl,rx⟩:=vals1 r
 cases rx
 obtain⟨its,rv,pl,hz⟩:=I.tuple hp
 obtain⟨v1,v2,rfl,⟨t1,rfl⟩,⟨t2,rfl⟩⟩:=vals2 rv
 have pl':s.heap.IsTuple p (intItems #[(a,t1),(b,t2)]):=by
  have z:s.heap.IsTuple p #[İ a t1,İ b t2]:=pl
  simpa [intItems] using z
 have hlt:p<s.heap.objs.size:=by obtain⟨o,ho,_⟩:=pl; exact Ï ho
 refine call_min_walk (wpAny_pyIter_tuple pl' ?_)
 refine⟨_,[s.heap.objs.size,p],[s.heap.objs.size],_,_,_,_,rfl,Walks.tuple (A:=X.A.in1) (I.ok.hd hc) _ p (ß hlt) (intItems #[(a,t1),(b,t2)]),⟨⟨_,à _ rfl,rfl,rfl⟩,pl'.push _⟩,fun c hc=>?_,by simp [intItems],
  CmpOf.ints_lt (numAt #[(a,t1),(b,t2)]) (fun _ _=>intItems_at),fun v h' tk hP hk=>?_⟩
 ·show c<(s.heap.push _).objs.size
  rw [ň]
  rcases Ô.mp hc with rfl | hc
  ·exact Ŕ _
  ·have:c=p:=by simpa using hc
   rw [this]; exact Ă hlt
 ·have hv:v=if b<a then İ b t2 else İ a t1:=by
   have hP':(intItems #[(a,t1),(b,t2)])[argBest (fun i j=>decide (numAt #[(a,t1),(b,t2)] i<numAt #[(a,t1),(b,t2)] j)) 1]?=some v:=by
    have hsz2:(intItems #[(a,t1),(b,t2)]).size - 1=1:=by simp [intItems]
    rw [← hsz2]; exact hP
   by_cases hba:b<a
   ·have e:argBest (fun i j=>decide (numAt #[(a,t1),(b,t2)] i<numAt #[(a,t1),(b,t2)] j)) 1=1:=by simp [argBest,numAt,hba]
    rw [e] at hP'
    simpa [intItems,hba] using hP'.symm
   ·have e:argBest (fun i j=>decide (numAt #[(a,t1),(b,t2)] i<numAt #[(a,t1),(b,t2)] j)) 1=0:=by simp [argBest,numAt,hba]
    rw [e] at hP'
    simpa [intItems,hba] using hP'.symm
  subst hv
  refine⟨.int (if b<a then b else a),H,I.kept fun b o eb=>hk b o ?_ (Ð _ eb),?_,q⟩
  ·intro hm
   have:b=s.heap.objs.size:=by simpa using hm
   exact absurd (Ï eb) (by rw [this]; exact ă _)
  ·by_cases hba:b<a
   ·rw [if_pos hba,if_pos hba]; exact⟨_,rfl⟩
   ·rw [if_neg hba,if_neg hba]; exact⟨_,rfl⟩
theorem Fp (hc:X.calm=true):bN X (.builtin "max") (fun xs H Q=>∃ p a b,xs=[.ref p]/\SqT X.K H p [.int a,.int b]/\Q (.int (if b > a then b else a)) H):=by
 intro pins s σ H xs us Q I r h
 obtain⟨p,a,b,rfl,hp,q⟩:=h
 obtain⟨u,rfl,rx⟩:=vals1 r
 cases rx
 obtain⟨its,rv,pl,hz⟩:=I.tuple hp
 obtain⟨v1,v2,rfl,⟨t1,rfl⟩,⟨t2,rfl⟩⟩:=vals2 rv
 have pl':s.heap.IsTuple p (intItems #[(a,t1),(b,t2)]):=by
  have z:s.heap.IsTuple p #[İ a t1,İ b t2]:=pl
  simpa [intItems] using z
 have hlt:p<s.heap.objs.size:=by obtain⟨o,ho,_⟩:=pl; exact Ï ho
 refine call_max_walk (wpAny_pyIter_tuple pl' ?_)
 refine⟨_,[s.heap.objs.size,p],[s.heap.objs.size],_,_,_,_,rfl,Walks.tuple (A:=X.A.in1) (I.ok.hd hc) _ p (ß hlt) (intItems #[(a,t1),(b,t2)]),⟨⟨_,à _ rfl,rfl,rfl⟩,pl'.push _⟩,fun c hc=>?_,by simp [intItems],
  CmpOf.ints_gt (numAt #[(a,t1),(b,t2)]) (fun _ _=>intItems_at),fun v h' tk hP hk=>?_⟩
 ·show c<(s.heap.push _).objs.size
  rw [ň]
  rcases Ô.mp hc with rfl | hc
  ·exact Ŕ _
  ·have:c=p:=by simpa using hc
   rw [this]; exact Ă hlt
 ·have hv:v=if b > a then İ b t2 else İ a t1:=by
   have hP':(intItems #[(a,t1),(b,t2)])[argBest (fun i j=>decide (numAt #[(a,t1),(b,t2)] i > numAt #[(a,t1),(b,t2)] j)) 1]?=some v:=by
    have hsz2:(intItems #[(a,t1),(b,t2)]).size - 1=1:=by simp [intItems]
    rw [← hsz2]; exact hP
   by_cases hba:b > a
   ·have e:argBest (fun i j=>decide (numAt #[(a,t1),(b,t2)] i > numAt #[(a,t1),(b,t2)] j)) 1=1:=by simp [argBest,numAt,hba]
    rw [e] at hP'
    simpa [intItems,hba] using hP'.symm
   ·have e:argBest (fun i j=>decide (numAt #[(a,t1),(b,t2)] i > numAt #[(a,t1),(b,t2)] j)) 1=0:=by simp [argBest,numAt,hba]
    rw [e] at hP'
    simpa [intItems,hba] using hP'.symm
  subst hv
  refine⟨.int (if b > a then b else a),H,I.kept fun b o eb=>hk b o ?_ (Ð _ eb),?_,q⟩
  ·intro hm
   have:b=s.heap.objs.size:=by simpa using hm
   exact absurd (Ï eb) (by rw [this]; exact ă _)
  ·by_cases hba:b > a
   ·rw [if_pos hba,if_pos hba]; exact⟨_,rfl⟩
   ·rw [if_neg hba,if_neg hba]; exact⟨_,rfl⟩
theorem Qh {prog:Program}{w:World}{A:Around}{E:Value->Shared->Prop}{s:Shared}{l:Addr}{n:Nat}{x:Int}{t:Tok}{u:Value}{Q:Value->Shared->Prop}{its:List Value} (ho:s.heap.get? l=some { cls:=.type "list",data:=.seq its.toArray n })
  (hfit:¬ (!Builtin.List.listFitsIndex x)=true) (hsz:its.toArray.size<=sizeLine)
  (h:Q .none { s with heap:=s.heap.update l (â fun xs=>(xs.extract 0 (if x<0 then (x+(xs.size:Int)).toNat else min x.toNat xs.size)).push u++xs.extract (if x<0 then (x+(xs.size:Int)).toNat else min x.toNat xs.size)),toks:=s.toks }) :
  wpAny (model prog w) A (call (.builtin "list.insert") [.ref l,.int x t,u]) Q E s:=by
 generalize its.toArray=ia at ho hsz
 exact call_meets PySem.F.slot_list_insert ⟨_,ho,rfl⟩ PySem.F.entry_list_insert (PySem.F.args_list_insert_3 _ _ _) (PySem.AutoSeq1.list_insert_list_int_val_1 l ia n x t u hfit hsz) ⟨ho,h⟩
def Bt:V->List V->Hp->VK->Prop:=fun x vs H Q=>∃ l xs k y,x=.ref l/\vs=[.int (k:Nat),y]/\H l=some (.lst xs)/\k<=xs.length/\xs.length<sizeLine/\Q .non (upd H l (.lst (xs.take k++y::xs.drop k)))
theorem Eb:MtM X "list.insert" Bt:=by
 intro pins s σ H x vs v us Q I rx rv h
 obtain⟨l,xs,k,y,rfl,rfl,hH,hk,hz,q⟩:=h
 cases rx
 obtain⟨u1,u,rfl,⟨t,rfl⟩,ru⟩:=rv.two
 obtain⟨z,its,n,r,hl,e⟩:=I.yg hH
 have h24:(sizeLine:Nat)=16777216:=ê
 have hfit:¬ (!Builtin.List.listFitsIndex (k:Int))=true:=by
  have q1:decide (-(2 ^ 63:Int)<=(k:Int))=true:=decide_eq_true (by omega)
  have q2:decide ((k:Int)<2 ^ 63)=true:=decide_eq_true (by omega)
  unfold Builtin.List.listFitsIndex
  rw [q1,q2]
  exact Ö
 have hsz:its.toArray.size<=sizeLine:=by
  have e1:its.toArray.size=xs.length:=(Ñ ..).trans hl.symm
  rw [e1]
  exact z
 have hx0:¬ ((k:Int)<0):=by omega
 have hxk:(k:Int).toNat=k:=Ù k
 generalize hx:(k:Int)=x at hfit hx0 hxk
 refine Qh (its:=its) e hfit hsz ?_
 refine⟨.non,_,I.Le (its':=its.take k++u::its.drop k) hH e ?_ ?_ ?_,rfl,q⟩
 ·have hm:min k its.length=k:=by omega
  have e2:=W.kl_ins_eq its k u
  simp only [hx0,if_false,hxk,Ñ,hm]
  exact e2
 ·exact (r.take k).append (.cons ru (r.drop k))
 ·rw [È,Ü,Ċ,õ]
  omega
end
abbrev Tie:=Int×Int
def Pr (H:Hp) (v:V) (t:Tie):Prop:=∃ p,v=.ref p/\H p=some (.tup [.int t.1,.int t.2])
abbrev Prs (H:Hp):List V->List Tie->Prop:=Paired (Pr H)
def aJ (t:Tie):Int:=64 * t.1+t.2
def nq (t:Tie):Prop:=0<=t.2/\t.2<64
theorem code_inj {a b:Tie} (ha:nq a) (hb:nq b) (h:aJ a=aJ b):a=b:=by
 obtain⟨a1,a2⟩:=a
 obtain⟨b1,b2⟩:=b
 unfold nq aJ at *
 simp only at *
 have e:a1=b1:=by omega
 have e2:a2=b2:=by omega
 rw [e,e2]
def jH (h:Heap) (u:Value) (t:Tie):Prop:=∃ a o t1 t2 n,u=.ref a/\h.get? a=some o/\o.cls=.type "tuple"/\o.data=.seq #[.int t.1 t1,.int t.2 t2] n
theorem jH.keep {h h':Heap}{u:Value}{t:Tie} (x:jH h u t) (k:∀ a o,h.get? a=some o->o.cls=.type "tuple"->h'.get? a=some o):jH h' u t:=by
 obtain⟨a,o,t1,t2,n,e,ho,hc,hd⟩:=x
 exact⟨a,o,t1,t2,n,e,k a o ho hc,hc,hd⟩
theorem Om {α β:Type}{F:α->β->Prop}{l₁:List α}{l₂:List β} (h:Paired F l₁ l₂):∀ {i:Nat}{b:β},l₂[i]?=some b->∃ a,l₁[i]?=some a/\F a b:=by
 induction h with
 | nil=>intro i x e; simp at e
 | cons r t ih =>
  intro i x e
  cases i with
  | zero=>simp at e; subst e; exact⟨_,rfl,r⟩
  | succ i =>
   obtain⟨c,e1,f⟩:=ih (by simpa using e)
   exact⟨c,by simpa using e1,f⟩
theorem xq {α β:Type}{F:α->β->Prop}{l₁:List α}{l₂:List β} (h:Paired F l₁ l₂) (da:α) (db:β):∀ (p:List Nat),(∀ i∈p,i<l₂.length)->Paired F (p.map fun i=>l₁.getD i da) (p.map fun i=>l₂.getD i db)
 | [],_=>.nil
 | i::p,hp=>by
  have hi:i<l₂.length:=hp i Æ
  obtain⟨a,e,f⟩:=Om h (i:=i) (b:=l₂[i]) (by simp [hi])
  refine .cons ?_ (xq h da db p fun j hj=>hp j (Ã _ hj))
  have e1:l₁.getD i da=a:=by rw [Ë,e]; rfl
  have e2:l₂.getD i db=l₂[i]:=by simp [hi]
  show F (l₁.getD i da) (l₂.getD i db)
  rw [e1,e2]
  exact f
theorem N5 {α:Type}:∀ us:List α,Ĳ (fun x=>x.snd) (us.zip us)=us
 | []=>rfl
 | u::us=>by rw [List.zip_cons_cons,ã,N5 us]
theorem cg {α:Type} (l:List α) (d:α):(ä l.length).map (fun i=>l.getD i d)=l:=by
 apply List.ext_getElem
 ·simp
 ·intro i h1 h2
  simp at h1 ⊢
  simp [h1]
section
variable {X:Cx}{pins:List (Addr×Obj)}{σ:St}{H:Hp}{s:Shared}
theorem Inv.pairs (I:Inv X pins σ H s):∀ {vs:List V}{ts:List Tie}{us:List Value},Prs H vs ts->Vals vs us->Paired (jH s.heap) us ts
 | _,_,_,.nil,r=>by cases r; exact .nil
 | _,_,_,.cons p q,r=>by
  cases r with
  | cons r rr =>
   refine .cons ?_ (I.pairs q rr)
   obtain⟨a,rfl,e⟩:=p
   cases r
   obtain⟨_,its,rv,⟨o,ho,hc,n,hd⟩⟩:=I.hok a _ e
   obtain⟨v1,v2,rfl,⟨t1,rfl⟩,⟨t2,rfl⟩⟩:=vals2 rv
   exact⟨a,o,t1,t2,n,rfl,ho,hc,hd⟩
end
section
variable {prog:Program}{w:World}{A:Around}{E:Value->Shared->Prop}{s:Shared}
theorem H9 {x y:Value}{a b:Tie}{Q:Bool->Shared->Prop} (hx:jH s.heap x a) (hy:jH s.heap y b) (na:nq a) (nb:nq b) (h:Q (decide (aJ a<aJ b)) s):wpAny (model prog w) A (keyLt' (tuples' true) x y) Q E s:=by
 obtain⟨p,o,t1,t2,n,rfl,ho,hc,hd⟩:=hx
 obtain⟨p',o',t1',t2',n',rfl,ho',hc',hd'⟩:=hy
 obtain⟨a1,a2⟩:=a
 obtain⟨b1,b2⟩:=b
 unfold nq at na nb
 simp only at na nb
 refine W.kat_lt ho hd ho' hd' ?_
 refine W.kat_cons (wpAny_eqBool_int ?_)
 by_cases e1:a1=b1
 ·subst e1
  rw [beq_self_eq_true]
  refine W.kat_yes (W.kat_cons (wpAny_eqBool_int ?_))
  by_cases e2:a2=b2
  ·subst e2
   rw [beq_self_eq_true]
   refine W.kat_yes (W.kat_nil ?_)
   have e:decide (aJ (a1,a2)<aJ (a1,a2))=false:=decide_eq_false (Int.lt_irrefl _)
   rw [e] at h
   exact h
  ·rw [beq_eq_false_iff_ne.mpr e2]
   refine W.kat_no (W.kat_one _ _ (lt_int ?_))
   have e:decide (aJ (a1,a2)<aJ (a1,b2))=decide (a2<b2):=by
    apply decide_eq_decide.mpr
    unfold aJ
    omega
   rw [e] at h
   exact h
 ·rw [beq_eq_false_iff_ne.mpr e1]
  refine W.kat_no (oneLt_int ?_)
  have e:decide (aJ (a1,a2)<aJ (b1,b2))=decide (a1<b1):=by
   apply decide_eq_decide.mpr
   unfold aJ
   simp only
   constructor
   ·intro h; omega
   ·intro h; omega
  rw [e] at h
  exact h
theorem Iu:∀ {us:List Value}{ts:List Tie},Paired (jH s.heap) us ts->∃ fs,W.KatTups s.heap us fs/\fs.length=us.length/\∀ v∈fs,∃ i t,v=İ i t
 | _,_,.nil=>⟨[],.nil,rfl,fun _ h=>nomatch h⟩
 | _,_,.cons p q=>by
  obtain⟨a,o,t1,t2,n,rfl,ho,hc,hd⟩:=p
  obtain⟨fs,k,hl,hv⟩:=Iu q
  refine⟨_::fs,.cons ho hc hd (f:=İ _ t1) rfl k,by simp [hl],fun v hv'=>?_⟩
  rcases Ô.mp hv' with rfl | h
  ·exact⟨_,_,rfl⟩
  ·exact hv v h
theorem Dq {a:Addr}{us:List Value}{ts:List Tie}{n:Nat}{P:PySem.Fin->Shared->Prop} (ho:s.heap.get? a=some (seqObj "list" us.toArray n))
  (hp:Paired (jH s.heap) us ts) (hn:∀ t∈ts,nq t) (h64:us.length<64)
  (h:∀ p:List Nat,p.Perm (ä us.length)->(∀ i j,i<=j->j<us.length->aJ (ts.getD (p.getD i 0) (0,0))<=aJ (ts.getD (p.getD j 0) (0,0))) ->
   P (.done (.ret .none)) { s with heap:=sortedHeap s.heap a us (p.map fun i=>us.getD i Ĕ).toArray }) :
  wpAny (model prog w) A (Builtin.«list.sort» ⟨[.ref a],[]⟩) P E s:=by
 have hlen:=hp.length
 have h24:=ê
 rw [list_sort_plain]
 have ha:a<s.heap.objs.size:=Ï ho
 refine Ä (listItems_at ho rfl ?_)
 refine Ä (ŷ ho rfl ?_ (by rw [Ñ,ê]; omega) (Ć _))
 obtain⟨e1,ho1⟩:∃ e1,(s.heap.update a (â fun _=>(#[]:Array Value))).get? a=some (seqObj "list" #[] e1):=⟨_,get?_update_seq ho (fun _=>#[])⟩
 refine Ä (seqEpoch_at ho1 rfl ?_)
 refine Ä (wpAny_newTuple ?_ (by show us.length<=_; rw [ê]; omega))
 refine Ä (wpAny_newList ?_ (Ć _))
 refine Ġ ?_
 have ho6:(((s.heap.update a (â fun _=>(#[]:Array Value))).push (seqObj "tuple" us.toArray 0)).push (seqObj "list" #[] 0)).get? a=some (seqObj "list" #[] e1):=by
  rw [Ē _ _ _ (by rw [size_push',đ]; exact ß (Ă ha)),Ē _ _ _ (by rw [đ]; exact ß ha)]
  exact ho1
 have kept:∀ b o,s.heap.get? b=some o->o.cls=.type "tuple"->(((s.heap.update a (â fun _=>(#[]:Array Value))).push (seqObj "tuple" us.toArray 0)).push (seqObj "list" #[] 0)).get? b=some o:=fun b o q hc=>by
  have hlt:b<s.heap.objs.size:=Ï q
  have hne:b≠a:=fun z=>by
   rw [z,ho] at q
   cases q
   have z2:(Đ "list")=Đ "tuple":=hc
   injection z2 with z3
   exact absurd z3 (by decide)
  rw [Ē _ _ _ (by rw [size_push',đ]; exact ß (Ă hlt)),Ē _ _ _ (by rw [đ]; exact ß hlt),Heap.get?_update_ne _ _ _ _ hne]
  exact q
 show wpAny (model prog w) A _ P E { s with heap:=((s.heap.update a (â fun _=>(#[]:Array Value))).push (seqObj "tuple" us.toArray 0)).push (seqObj "list" #[] 0) }
 dsimp only
 have hsz:us.toArray.size=us.length:=by simp
 have hp6:Paired (jH (((s.heap.update a (â fun _=>(#[]:Array Value))).push (seqObj "tuple" us.toArray 0)).push (seqObj "list" #[] 0))) us ts:=Paired.zV hp fun u t x=>x.keep kept
 by_cases h2:us.toArray.size<2
 ·rw [if_pos h2,if_pos h2]
  refine Ä (Ò ?_)
  rw [StateT.run_pure]
  refine Ä (Ò ?_)
  dsimp only
  have eout:(arrOf (SortSt.mk' general' (us.toArray.zip us.toArray) #[] 7 none)).map (·.2)=((ä us.length).map fun i=>us.getD i Ĕ).toArray:=by
   rw [cg]
   show (us.toArray.zip us.toArray).map (·.2)=us.toArray
   apply Array.toList_inj.mp
   simp
   exact N5 us
  rw [eout]
  refine Ä (seqEpoch_at ho6 rfl ?_)
  refine Ä (ŷ ho6 rfl ?_ (Ć _) (by rw [Ñ,Á,ł,ê]; omega))
  simp only [bne_self_eq_false,ė,if_false]
  refine Ò (h _ (List.Perm.refl _) fun i j hij hj=>?_)
  have:i=j:=by omega
  subst this
  exact ě _
 ·rw [if_neg h2,if_neg h2]
  have h2':2<=us.length:=by omega
  obtain⟨fs,hk,hfl,hfi⟩:=Iu (s:={ s with heap:=((s.heap.update a (â fun _=>(#[]:Array Value))).push (seqObj "tuple" us.toArray 0)).push (seqObj "list" #[] 0) }) hp6
  refine Ä (W.kat_kind (T:=.type "int") hk (by omega) (fun v hv=>by obtain⟨i,t,rfl⟩:=hfi v hv; exact W.Looks.of_pure rfl) rfl ?_)
  have hcmp:∀ i j C,i<us.length->j<us.length->C (decide (aJ (ts.getD i (0,0))<aJ (ts.getD j (0,0)))) { s with heap:=((s.heap.update a (â fun _=>(#[]:Array Value))).push (seqObj "tuple" us.toArray 0)).push (seqObj "list" #[] 0) } ->
    W.kas_cmp prog w A (tuples' true) (us.toArray.zip us.toArray) i j C { s with heap:=((s.heap.update a (â fun _=>(#[]:Array Value))).push (seqObj "tuple" us.toArray 0)).push (seqObj "list" #[] 0) }:=fun i j C hi hj hC=>by
   unfold W.kas_cmp
   rw [W.kat_item rfl,W.kat_item rfl]
   have key:∀ k,k<us.length->jH (((s.heap.update a (â fun _=>(#[]:Array Value))).push (seqObj "tuple" us.toArray 0)).push (seqObj "list" #[] 0)) (us.getD k Ĕ) (ts.getD k (0,0))/\nq (ts.getD k (0,0)):=fun k hk=>by
    have hk':k<ts.length:=by omega
    have ek:ts.getD k (0,0)=ts[k]:=by simp [hk']
    obtain⟨u,eu,pu⟩:=Om hp6 (i:=k) (b:=ts[k]) (by simp [hk'])
    have eu':us.getD k Ĕ=u:=by rw [Ë,eu]; rfl
    rw [ek,eu']
    exact⟨pu,hn _ (ĥ hk')⟩
   exact H9 (key i hi).1 (key j hj).1 (key i hi).2 (key j hj).2 hC
  have G:=W.kas_runs (prog:=prog) (w:=w) (A:=A) (E:=E) (κ:=tuples' true) (it:=us.toArray.zip us.toArray) (n:=us.length) (s:={ s with heap:=((s.heap.update a (â fun _=>(#[]:Array Value))).push (seqObj "tuple" us.toArray 0)).push (seqObj "list" #[] 0) })
   (Q:=fun _ st' s'=>∃ p:Array Nat,s'={ s with heap:=((s.heap.update a (â fun _=>(#[]:Array Value))).push (seqObj "tuple" us.toArray 0)).push (seqObj "list" #[] 0) }/\arrOf st'=p.map (W.kas_item (us.toArray.zip us.toArray))/\failedOf st'=none/\NfSort.Pm us.length p/\NfSort.Up (fun i=>aJ (ts.getD i (0,0))) p us.length)
   (G:=fun p s'=>s'={ s with heap:=((s.heap.update a (â fun _=>(#[]:Array Value))).push (seqObj "tuple" us.toArray 0)).push (seqObj "list" #[] 0) }/\NfSort.Pm us.length p/\NfSort.Up (fun i=>aJ (ts.getD i (0,0))) p us.length) h2' h64 (fun p' st' s' a1 a2 a3 a4=>⟨p',a4.1,a2,a3,a4.2⟩)
   (NfSort.vM hcmp (NfSort.bQ (fun p hp=>⟨rfl,hp⟩) (NfSort.Bj (by omega))))
  have est:SortSt.mk' (tuples' true) (us.toArray.zip us.toArray) #[] 7 none=W.kas_st (tuples' true) (us.toArray.zip us.toArray) (List.toArray (ä us.length)):=by
   have e:=W.kas_range (us.toArray.zip us.toArray)
   rw [show (us.toArray.zip us.toArray).size=us.length by simp] at e
   show SortSt.mk' (tuples' true) (us.toArray.zip us.toArray) #[] 7 none=SortSt.mk' (tuples' true) ((List.toArray (ä us.length)).map (W.kas_item (us.toArray.zip us.toArray))) #[] 7 none
   rw [e]
  have eT:tuples' (Đ "int" != Đ "tuple")=tuples' true:=rfl
  rw [eT,est]
  refine Ä (ĸ G ?_ fun _ _ e=>e)
  rintro ⟨⟨⟩,st'⟩ s' ⟨p,rfl,har,hf,hpm,hup⟩
  dsimp only
  have hout:=W.kat_snds (ks:=us) (vs:=us) rfl har
  rw [hout]
  have hsz2:p.size=us.length:=hpm.size
  refine Ä (seqEpoch_at ho6 rfl ?_)
  refine Ä (ŷ ho6 rfl ?_ (Ć _) (by rw [Ñ,Á,Ķ,hsz2,ê]; omega))
  rw [hf]
  simp only [bne_self_eq_false,ė,if_false]
  refine Ò (h p.toList ?_ fun i j hij hj=>?_)
  ·have:=Array.perm_iff_toList_perm.mp hpm
   simpa using this
  ·have q:=hup i j hij hj
   unfold NfSort.kk at q
   have eg:∀ k,p.toList.getD k 0=p.getD k 0:=fun k=>by
    rw [NfSort.getD_eq,Ë]
    simp
   rw [eg,eg]
   exact q
theorem jE {l:Addr}{vs:List Value}{Q:List Value->Shared->Prop} (hl:IsTup s.heap l vs.toArray)
  (h:Q vs { s with heap:=(s.heap.push (seqObj "list" #[] 0)).update s.heap.objs.size (â (·++vs.toArray)) }) (hsz:vs.length<=sizeLine) :
  wpAny (model prog w) A (collect (.ref l)) Q E s:=by
 obtain⟨o,ho,hc,n,hd⟩:=id hl
 unfold collect
 refine Ä (wpAny_runValue (Ź entry_proto_collect' ?_))
 show wpAny _ _ (do again (.builtin "list.__iadd__" ⟨[← newList [],.ref l],[]⟩)) _ _ s
 refine Ä (wpAny_newList (Ò ⟨Code.quiet_builtin _ (by decide +kernel),Ź entry_list_iadd' ?_⟩))
 show wpAny _ _ (œ (.ref s.heap.objs.size) (.ref l) (.ref s.heap.objs.size)) _ _ { s with heap:=s.heap.push (seqObj "list" #[] 0) }
 unfold œ
 have ho':(s.heap.push (seqObj "list" #[] 0)).get? l=some o:=Ð _ ho
 refine Ä (wpAny_typeOf (T:="tuple") ⟨o,ho',hc⟩ ?_)
 have ht:(Đ "tuple" == Đ "tuple")=true:=by rfl
 rw [if_pos (by rw [ht]; simp)]
 refine Ä (listItems_at ho' hd ?_)
 refine Ä (listItems_at (xs:=#[]) (n:=0) (à _ rfl) rfl ?_)
 rw [if_neg (by simp)]
 refine Ä (ŷ (xs:=#[]) (n:=0) (à _ rfl) rfl ?_ (Ć _) (by show (#[]++vs.toArray).size<=sizeLine+1; simp only [Array.size_append,Ñ,List.length_nil]; omega))
 refine Ò ?_
 show wpAny (model prog w) A (do
   let o ← load s.heap.objs.size
   match o.data with
   | .seq xs _=>pure xs.toList
   | _=>unsupported "internal:collect") Q E { s with heap:=(s.heap.push (seqObj "list" #[] 0)).update s.heap.objs.size (â (·++vs.toArray)) }
 refine Ä (wpAny_load (get?_update_seq (à _ rfl) _) ?_)
 show wpAny _ _ (pure ((#[]:Array Value)++vs.toArray).toList) Q E _
 rw [show ((#[]:Array Value)++vs.toArray).toList=vs by simp]
 exact Ò h
theorem uK {l:Addr}{us:List Value}{ts:List Tie}{Q:Value->Shared->Prop} (hl:s.heap.IsList l us.toArray\/IsTup s.heap l us.toArray) (hp:Paired (jH s.heap) us ts) (hn:∀ t∈ts,nq t) (h64:us.length<64)
  (h:∀ p:List Nat,p.Perm (ä us.length)->(∀ i j,i<=j->j<us.length->aJ (ts.getD (p.getD i 0) (0,0))<=aJ (ts.getD (p.getD j 0) (0,0))) ->
   Q (.ref (s.heap.objs.size+1)) { s with heap:=sortedAll s.heap us (p.map fun i=>us.getD i Ĕ).toArray }) :
  wpAny (model prog w) A (call (.builtin "sorted") [.ref l]) Q E s:=by
 have h24:=ê
 refine Calls.call_function_entry kind_sorted plain_sorted entry_sorted (args_sorted1 _) ?_
 unfold Builtin.«sorted»
 refine Ä (m:=checkCount "sorted" 1 1 _) (Ò ?_)
 have hsz:((s.heap.push (seqObj "list" #[] 0)).update s.heap.objs.size (â (·++us.toArray))).objs.size=s.heap.objs.size+1:=by
  rw [đ,size_push']
 have hoL:(((s.heap.push (seqObj "list" #[] 0)).update s.heap.objs.size (â (·++us.toArray))).push (seqObj "list" us.toArray 0)).get? (s.heap.objs.size+1)=some (seqObj "list" us.toArray 0):=by
  rw [← hsz]; exact à _ rfl
 have keep:∀ b o,s.heap.get? b=some o->(((s.heap.push (seqObj "list" #[] 0)).update s.heap.objs.size (â (·++us.toArray))).push (seqObj "list" us.toArray 0)).get? b=some o:=fun b o q=>by
  have hlt:b<s.heap.objs.size:=Ï q
  rw [Ē _ _ _ (by rw [hsz]; exact ß (Ă hlt)),Heap.get?_update_ne _ _ _ _ (ß hlt),Ē _ _ _ (ß hlt)]
  exact q
 have go:∀ {Q':List Value->Shared->Prop},Q' us { s with heap:=(s.heap.push (seqObj "list" #[] 0)).update s.heap.objs.size (â (·++us.toArray)) }->wpAny (model prog w) A.in1 (collect (.ref l)) Q' (fun e s'=>E e s') s:=fun {Q'} hq=>by
  rcases hl with hl | hl
  ·exact collect_list hl hq (by omega)
  ·exact jE hl hq (by omega)
 refine Ä (go ?_)
 refine Ä (wpAny_newList ?_ (by omega))
 show wpAny _ _ _ _ _ { s with heap:=((s.heap.push (seqObj "list" #[] 0)).update s.heap.objs.size (â (·++us.toArray))).push (seqObj "list" us.toArray 0) }
 rw [hsz]
 refine Ä (Ġ (wpAny_call_entry slot_list_sort ⟨_,hoL,rfl⟩ entry_list_sort (Dq hoL (Paired.zV hp fun u t x=>x.keep fun a o e _=>keep a o e) hn h64 fun p a1 a2=>⟨_,rfl,?_⟩) (args_list_sort _)))
 exact Ò ⟨_,rfl,h p a1 a2⟩
end
section
variable {X:Cx}
theorem wU {ts:List Tie}{p:List Nat} (hp:p.Perm (ä ts.length)) (h:∀ i j,i<=j->j<ts.length->aJ (ts.getD (p.getD i 0) (0,0))<=aJ (ts.getD (p.getD j 0) (0,0))) :
  (p.map fun i=>ts.getD i (0,0)).Perm ts/\(p.map fun i=>ts.getD i (0,0)).Pairwise (fun a b=>aJ a<=aJ b):=by
 refine⟨?_,?_⟩
 ·have q:=hp.map fun i=>ts.getD i (0,0)
  rw [cg] at q
  exact q
 ·have hl:p.length=ts.length:=by simpa using hp.length_eq
  rw [List.pairwise_iff_getElem]
  intro i j hi hj hij
  rw [Á] at hi hj
  have q:=h i j (by omega) (by omega)
  have ei:p.getD i 0=p[i]:=by simp [hi]
  have ej:p.getD j 0=p[j]:=by simp [hj]
  rw [ei,ej] at q
  simpa using q
theorem wj:bN X (.builtin "sorted") (fun xs H Q=>∃ (p:Addr) (vs:List V) (ts:List Tie),xs=[.ref p]/\(SqL X.K H p vs\/SqT X.K H p vs)/\Prs H vs ts/\(∀ t∈ts,nq t)/\ts.length<64 /\
  ∀ l ws us,H l=none->Prs H ws us->us.Perm ts->us.Pairwise (fun a b=>aJ a<=aJ b)->Q (.ref l) (upd H l (.lst ws))):=by
 intro pins s σ H xs us Q I r h
 obtain⟨p,vs,ts,rfl,hp,hpr,hn,h64,q⟩:=h
 obtain⟨u,rfl,rx⟩:=vals1 r
 cases rx
 have h24:=ê
 have fin:∀ its:List Value,Vals vs its->(s.heap.IsList p its.toArray\/IsTup s.heap p its.toArray)->wpAny (model X.prog X.w) X.A (call (.builtin "sorted") [.ref p]) (EP X pins σ Q) X.xe s:=fun its rv hl=>by
  have hpv:=I.pairs hpr rv
  have hlen:=hpr.length
  have hlen2:=rv.length
  refine uK hl hpv hn (by omega) fun pp hpp hord=>?_
  have eits:its.length=ts.length:=by omega
  rw [eits] at hpp hord
  obtain⟨hperm,hpw⟩:=wU hpp hord
  have hlt:∀ i∈pp,i<ts.length:=fun i hi=>č.mp (hpp.mem_iff.mp hi)
  have hw:=xq hpr V.non (0,0) pp hlt
  have hvv:Vals (pp.map fun i=>vs.getD i V.non) (pp.map fun i=>its.getD i Ĕ):=xq rv V.non Ĕ pp fun i hi=>by have:=hlt i hi; omega
  obtain⟨e,he⟩:=sortedAll_at s.heap its (pp.map fun i=>its.getD i Ĕ).toArray
  refine⟨.ref (s.heap.objs.size+1),upd H (s.heap.objs.size+1) (.lst (pp.map fun i=>vs.getD i V.non)),I.laid (t':=s.toks) (fun b o eb=>sortedAll_old eb) (Ł _) ?_,rfl,q _ _ _ (I.hok.fresh (Ł _)) hw hperm hpw⟩
  refine⟨?_,_,e,hvv,he⟩
  have hl3:pp.length=ts.length:=by simpa using hpp.length_eq
  rw [Á]
  omega
 rcases hp with hp | hp
 ·obtain⟨its,rv,pl,hz⟩:=I.list hp
  exact fin its rv (.inl pl.isList)
 ·obtain⟨its,rv,pl,hz⟩:=I.tuple hp
  exact fin its rv (.inr pl)
def pD (t:Tie):PyData:=.tuple [.int t.1,.int t.2]
theorem Ab:∀ ts:List Tie,Ĩ (ts.map pD)=true
 | []=>rfl
 | t::ts=>by
  show (PyData.canLay0 (pD t)&&Ĩ (ts.map pD))=true
  rw [Ab ts]
  rfl
theorem rK:∀ ts:List Tie,ķ (ts.map pD)<=1
 | []=>Ć _
 | t::ts=>by
  show max (PyData.depth (pD t)) (ķ (ts.map pD))<=1
  have h1:=rK ts
  have h2:PyData.depth (pD t)=1:=rfl
  omega
theorem Jl:∀ ts us:List Tie,PyData.eqvAll (ts.map pD) (us.map pD)=decide (ts=us)
 | [],[]=>rfl
 | [],_::_=>rfl
 | _::_,[]=>rfl
 | t::ts,u::us=>by
  show (ü (pD t) (pD u)&&PyData.eqvAll (ts.map pD) (us.map pD))=_
  rw [Jl ts us]
  have e:ü (pD t) (pD u)=decide (t=u):=by
   show ((t.1 == u.1)&&((t.2 == u.2)&&true))=_
   rw [Bool.and_true,ģ]
   simp [Prod.ext_iff]
  rw [e,ģ]
  simp
inductive DatV (K:Ú) (H:Hp):V->PyData->Prop
 | lst {a:Addr}{vs:List V}{ts:List Tie}:SqL K H a vs->Prs H vs ts->DatV K H (.ref a) (.list (ts.map pD))
 | tup {a:Addr}{vs:List V}{ts:List Tie}:SqT K H a vs->Prs H vs ts->DatV K H (.ref a) (.tuple (ts.map pD))
 | web {a b:Addr}{n:Int}{vs:List V}{ts:List Tie}:SqT K H a [.int n,.ref b]->SqT K H b vs->Prs H vs ts->DatV K H (.ref a) (.tuple [.int n,.tuple (ts.map pD)])
theorem LR (ts us:List Tie):ü (.list (ts.map pD)) (.list (us.map pD))=decide (ts=us):=Jl ts us
end
end L2
namespace L2
open PySem PySem.Spec PyProof.Rows HT
section
variable {prog:Program}{w:World}{A:Around}{E:Value->Shared->Prop}{s:Shared}
end
section
variable {X:Cx}{e:Expr}{te:TE}{p1 p2 p3 pos:Pos}
end
end L2
namespace PySem
open Sem (wp)
open AutoSeq1 (wpAny_loadPart')
section
variable {prog:Program}{w:World}{A:Around}{E:Value->Shared->Prop}{s:Shared}
end
end PySem
namespace L2
open PySem PySem.Spec PyProof.Rows
section
variable {κ:Type} [DecidableEq κ]
def iZ (kvs:List (κ×V)) (k:κ):Option V:=(kvs.find? fun kv=>decide (kv.1=k)).map (·.2)
def putK (kvs:List (κ×V)) (k:κ) (v:V):List (κ×V) :=
 if (kvs.any fun kv=>decide (kv.1=k))=true then kvs.map (fun kv=>if kv.1=k then (kv.1,v) else kv) else kvs++[(k,v)]
theorem ql {p:κ×V}{r:List (κ×V)}{k:κ} (e:p.1=k):iZ (p::r) k=some p.2:=by simp [iZ,ō,e]
theorem qm {p:κ×V}{r:List (κ×V)}{k:κ} (e:¬ p.1=k):iZ (p::r) k=iZ r k:=by simp [iZ,ō,e]
theorem lJ (k:κ):∀ kvs:List (κ×V),(kvs.any fun kv=>decide (kv.1=k))=(iZ kvs k).isSome
 | []=>rfl
 | p::r=>by
  rw [List.any_cons]
  by_cases e:p.1=k
  ·simp only [ql e,decide_eq_true e,Bool.true_or,Option.isSome_some]
  ·rw [qm e,decide_eq_false e,Bool.false_or]; exact lJ k r
theorem ju (kvs:List (κ×V)) (k:κ) (v:V):(putK kvs k v).length<=kvs.length+1:=by
 unfold putK
 split
 ·rw [Á]; omega
 ·rw [È,Ü,List.length_nil]; omega
theorem rT.Ep {o:Option V}{u:Option Value} (r:rT o u):o.isSome=u.isSome:=by
 cases o with
 | none=>cases u with
  | none=>rfl
  | some _=>exact (show False from r).elim
 | some _=>cases u with
  | none=>exact (show False from r).elim
  | some _=>rfl
theorem KV.val {kvs:List (κ×V)}{vs:List (κ×Value)} (r:KV kvs vs) (k:κ):rT (iZ kvs k) (valueAt vs k):=by
 unfold KV at r
 induction r with
 | nil=>exact ŕ
 | @cons p q ps qs h t ih =>
  obtain⟨h1,h2⟩:=h
  by_cases e:p.1=k
  ·have e':q.1=k:=h1.symm.trans e
   have b:valueAt (q::qs) k=some q.2:=by simp [valueAt,ō,e']
   rw [ql e,b]; exact h2
  ·have e':¬ q.1=k:=fun z=>e (h1.trans z)
   have b:valueAt (q::qs) k=valueAt qs k:=by simp [valueAt,ō,e']
   rw [qm e,b]; exact ih
theorem KV.any {kvs:List (κ×V)}{vs:List (κ×Value)} (r:KV kvs vs) (k:κ):(kvs.any fun kv=>decide (kv.1=k))=vs.any fun kv=>decide (kv.1=k):=by
 unfold KV at r
 induction r with
 | nil=>rfl
 | cons h t ih=>rw [List.any_cons,List.any_cons,ih,h.1]
theorem KV.repl {kvs:List (κ×V)}{vs:List (κ×Value)} (r:KV kvs vs) (k:κ) {y:V}{u:Value} (ry:RelV y u) :
  KV (kvs.map fun kv=>if kv.1=k then (kv.1,y) else kv) (vs.map fun kv=>if kv.1=k then (kv.1,u) else kv):=by
 unfold KV at r ⊢
 induction r with
 | nil=>exact .nil
 | @cons p q ps qs h t ih =>
  rw [ã,ã]
  refine .cons ?_ ih
  obtain⟨h1,h2⟩:=h
  by_cases e:p.1=k
  ·rw [if_pos e,if_pos (h1.symm.trans e)]; exact⟨h1,ry⟩
  ·rw [if_neg e,if_neg (fun z=>e (h1.trans z))]; exact⟨h1,h2⟩
theorem KV.put {kvs:List (κ×V)}{vs:List (κ×Value)} (r:KV kvs vs) (k:κ) {y:V}{u:Value} (ry:RelV y u):KV (putK kvs k y) (stored vs k u):=by
 unfold putK stored
 rw [r.any k]
 by_cases e:(vs.any fun kv=>decide (kv.1=k))=true
 ·rw [if_pos e,if_pos e]; exact r.repl k ry
 ·rw [if_neg e,if_neg e]; exact Paired.snoc r ⟨rfl,ry⟩
theorem KV.length {kvs:List (κ×V)}{vs:List (κ×Value)} (r:KV kvs vs):kvs.length=vs.length:=Paired.length r
end
theorem Cj {P:Program}{w:World}{k:Key}{u:Value} (r:RelV (kV k) u):(bJ P w).is k u=true:=by
 cases k with
 | inl i=>obtain⟨t,e⟩:=(show ∃ t,u=İ i t from r); subst e; exact yc P w i t
 | inr x=>obtain⟨t,e⟩:=(show ∃ t,u=Value.str x t from r); subst e; exact xZ P w x t
theorem tU {P:Program}{w:World}:∀ {ks:List Key}{us:List Value},Vals (ks.map kV) us->ItemsAre (bJ P w) ks us
 | [],_,r=>by rw [List.map_nil] at r; cases r; exact .nil
 | k::ks,_,r=>by
  rw [ã] at r
  cases r with
  | cons h t=>exact .cons (Cj h) (tU t)
abbrev KT (H:Hp):List (List Key×V)->List (List Key×Addr×Value)->Prop:=Paired fun p q=>p.1=q.1/\H q.2.1=some (.tup (p.1.map kV))/\RelV p.2 q.2.2
theorem KT.val {H:Hp}{kvs:List (List Key×V)}{xs:List (List Key×Addr×Value)} (r:KT H kvs xs) (k:List Key):rT (iZ kvs k) ((atKey xs k).map (·.2)):=by
 induction r with
 | nil=>exact ŕ
 | @cons p q ps qs h t ih =>
  obtain⟨h1,_,h2⟩:=h
  by_cases e:p.1=k
  ·have e':q.1=k:=h1.symm.trans e
   have b:atKey (q::qs) k=some q.2:=by simp [atKey,ō,e']
   rw [ql e,b]; exact h2
  ·have e':¬ q.1=k:=fun z=>e (h1.trans z)
   have b:atKey (q::qs) k=atKey qs k:=by simp [atKey,ō,e']
   rw [qm e,b]; exact ih
theorem KT.repl {H:Hp}{kvs:List (List Key×V)}{xs:List (List Key×Addr×Value)} (r:KT H kvs xs) (k:List Key) {y:V}{u:Value} (ry:RelV y u) :
  KT H (kvs.map fun kv=>if kv.1=k then (kv.1,y) else kv) (xs.map (putAt k u)):=by
 induction r with
 | nil=>exact .nil
 | @cons p q ps qs h t ih =>
  rw [ã,ã]
  refine .cons ?_ ih
  obtain⟨h1,h2,h3⟩:=h
  unfold putAt
  by_cases e:p.1=k
  ·rw [if_pos e,if_pos (h1.symm.trans e)]; exact⟨h1,h2,ry⟩
  ·rw [if_neg e,if_neg (fun z=>e (h1.trans z))]; exact⟨h1,h2,h3⟩
theorem KT.put {H:Hp}{kvs:List (List Key×V)}{xs:List (List Key×Addr×Value)} (r:KT H kvs xs) (k:List Key) {b:Addr}{y:V}{u:Value} (hb:H b=some (.tup (k.map kV))) (ry:RelV y u) :
  KT H (putK kvs k y) (storedH xs k b u):=by
 have e:(kvs.any fun kv=>decide (kv.1=k))=(atKey xs k).isSome:=by
  rw [lJ,(r.val k).Ep,Option.isSome_map]
 unfold putK storedH
 rw [e]
 by_cases q:(atKey xs k).isSome=true
 ·rw [if_pos q,if_pos q]; exact r.repl k ry
 ·rw [if_neg q,if_neg q]; exact Paired.snoc r ⟨rfl,hb,ry⟩
theorem KT.keeps {H H':Hp}{kvs:List (List Key×V)}{xs:List (List Key×Addr×Value)} (r:KT H kvs xs) (ht:∀ b ys,H b=some (.tup ys)->H' b=some (.tup ys)):KT H' kvs xs :=
 Paired.zV r fun _ _ z=>⟨z.1,ht _ _ z.2.1,z.2.2⟩
section
variable {P:Program}{w:World}{H:Hp}{h:Heap}{a:Addr}
theorem Mp {u:HO} (ok:HOk P w H h) (e:Rd H a u):bf P w H h a u:=e.ok ok
theorem Jr {kvs:List (Key×V)} (ok:HOk P w H h) (e:Rd H a (.dK kvs)):kvs.length<=sizeLine/\(a == sysModules)=false/\∃ vs,KV kvs vs/\h.DictOf (bJ P w) a vs :=
 show bf P w H h a (.dK kvs) from Mp ok e
theorem Nh {kvs:List (Key×V)} (ok:HOk P w H h) (e:H a=some (.dK kvs)):kvs.length<=sizeLine/\(a == sysModules)=false/\∃ vs,KV kvs vs/\h.DictOf (bJ P w) a vs:=Jr ok (.inl e)
theorem Ac {ks:List Key} (ok:HOk P w H h) (e:H a=some (.tup (ks.map kV))):(tupleKind (bJ P w)).is h ks a:=by
 obtain⟨_,its,r,o,h1,h2,n,h3⟩:=(show bf P w H h a (.tup (ks.map kV)) from ok a _ e)
 exact⟨o,its.toArray,n,h1,h2,h3,by simpa using tU r⟩
theorem Jq {kvs:List (List Key×V)} (ok:HOk P w H h) (e:Rd H a (.dT kvs)):kvs.length<=sizeLine/\(a == sysModules)=false /\
  ∃ xs,KT H kvs xs/\h.DictOfH (tupleKind (bJ P w)) a xs:=by
 obtain⟨z,y,xs,r,o,es,ep,h1,h2,h3,h4,h5⟩:=(show bf P w H h a (.dT kvs) from Mp ok e)
 refine⟨z,y,xs,r,o,es,ep,h1,h2,h3,h4,fun x hx=>?_,h5⟩
 have all:∀ {l:List (List Key×V)}{m:List (List Key×Addr×Value)},KT H l m->∀ x∈m,(tupleKind (bJ P w)).is h x.1 x.2.1:=by
  intro l m q
  induction q with
  | nil=>intro x hx; exact nomatch hx
  | @cons p q ps qs hq t ih =>
   intro x hx
   rcases Ô.mp hx with e | hx
   ·subst e
    exact Ac ok (by rw [← hq.1]; exact hq.2.1)
   ·exact ih x hx
 exact all r x hx
theorem Tq {kvs:List (List Key×V)} (ok:HOk P w H h) (e:H a=some (.dT kvs)):kvs.length<=sizeLine/\(a == sysModules)=false /\
  ∃ xs,KT H kvs xs/\h.DictOfH (tupleKind (bJ P w)) a xs:=Jq ok (.inl e)
end
def rY (H:Hp) (a:Addr) (y:V) (r:Option V):Prop :=
 (∃ kvs k,Rd H a (.dK kvs)/\y=kV k/\r=iZ kvs k)\/∃ kvs k b,Rd H a (.dT kvs)/\y=.ref b/\H b=some (.tup (k.map kV))/\r=iZ kvs k
def yP (H:Hp) (a:Addr) (y v:V) (H':Hp):Prop :=
 (∃ kvs k,H a=some (.dK kvs)/\y=kV k/\kvs.length<sizeLine/\H'=upd H a (.dK (putK kvs k v))) ∨
 ∃ kvs k b,H a=some (.dT kvs)/\y=.ref b/\H b=some (.tup (k.map kV))/\kvs.length<sizeLine/\H'=upd H a (.dT (putK kvs k v))
theorem rY.k {H:Hp}{a:Addr}{kvs:List (Key×V)}{k:Key} (e:H a=some (.dK kvs)):rY H a (kV k) (iZ kvs k):=.inl ⟨kvs,k,.inl e,rfl,rfl⟩
theorem yP.k {H:Hp}{a:Addr}{kvs:List (Key×V)}{k:Key}{v:V} (e:H a=some (.dK kvs)) (hl:kvs.length<sizeLine):yP H a (kV k) v (upd H a (.dK (putK kvs k v))):=.inl ⟨kvs,k,e,rfl,hl,rfl⟩
section
variable {X:Cx}{pins:List (Addr×Obj)}{σ:St}{H:Hp}{s:Shared}{a:Addr}{y v:V}{u r:Value}{o:Option V}{A:Around}{E:Value->Shared->Prop}
theorem Inv.big (I:Inv X pins σ H s):sysModules<s.heap.objs.size:=by
 have h:mainGlobals<s.heap.objs.size:=(I.mod.glob.keeps I.bk).lt
 exact Nat.lt_trans (by decide) h
theorem Fb {Q:Value->Shared->Prop} (hu:A.units+1<cLine) (I:Inv X pins σ H s) (g:rY H a y (some v)) (ry:RelV y u) (h:∀ w' s',Inv X pins σ H s'->RelV v w'->Q w' s') :
  wpAny (model X.prog X.w) A (getItem (.ref a) u) Q E s:=by
 rcases g with ⟨kvs,k,e,ey,l⟩ | ⟨kvs,k,b,e,ey,eb,l⟩
 ·subst ey
  obtain⟨z,hd,vs,rel,dd⟩:=Jr I.hok e
  obtain⟨w',hw,rw'⟩:=rT.some_of (v:=v) (o:=valueAt vs k) (by rw [l]; exact rel.val k)
  exact wpAny_getItem_of (Cj ry) dd.mapOf hw (h w' _ (I.tok _) rw')
 ·subst ey
  cases (show u=į b from ry)
  obtain⟨z,hd,xs,rel,dd⟩:=Jq I.hok e
  obtain⟨w',hw,rw'⟩:=rT.some_of (v:=v) (o:=(atKey xs k).map (·.2)) (by rw [l]; exact rel.val k)
  obtain⟨p,hp,hp2⟩:=Option.map_eq_some_iff.mp hw
  refine wpAny_getItem_heap (tupleKind_room_in1 hu) (Ac I.hok eb) dd hp ?_
  rw [hp2]
  exact h w' _ (I.tok _) rw'
theorem v9 {h':Heap}{t':Nat}{ob:HO} (I:Inv X pins σ H s) (mu:Mut (H a)) (hs:Heap.SameBut a s.heap h') (he:∃ q,h'.get? a=some q) (new:bf X.prog X.w (upd H a ob) h' a ob) :
  Inv X pins σ (upd H a ob) { s with heap:=h',toks:=t' } :=
 I.write (x:=a) (e:=a) mu (.inl rfl) (fun b q hb z=>(hs.2 b hb).trans z) he new
theorem Js {P:Program}{w:World}{H':Hp}{h':Heap}{kvs:List (Key×V)}{vs:List (Key×Value)} (z:kvs.length<=sizeLine) (hd:(a == sysModules)=false) (rel:KV kvs vs) (dd:h'.DictOf (bJ P w) a vs) :
  bf P w H' h' a (.dK kvs):=⟨z,hd,vs,rel,dd⟩
theorem EY {H':Hp}{Q:Unit->Shared->Prop} (hu:A.units+1<cLine) (I:Inv X pins σ H s) (g:yP H a y v H') (ry:RelV y u) (rv:RelV v r) (h:∀ s',Inv X pins σ H' s'->Q () s') :
  wpAny (model X.prog X.w) A (setItem (.ref a) u r) Q E s:=by
 rcases g with ⟨kvs,k,e,ey,l,eH⟩ | ⟨kvs,k,b,e,ey,eb,l,eH⟩
 ·subst ey eH
  obtain⟨z,hd,vs,rel,dd⟩:=Nh I.hok e
  have hz:vs.length<=sizeLine:=by rw [← rel.length]; exact z
  have hl:(putK kvs k v).length<=sizeLine:=by have:=ju kvs k v; omega
  refine wpAny_setItem_pairs (hsz:=hz) (Cj ry) dd fun h' dd' hs=>h _ ?_
  have he:∃ q,h'.get? a=some q:=let ⟨q,_,_,hq,_⟩:=dd'; ⟨q,hq⟩
  exact v9 I (by rw [e]; exact ŕ) hs he (Js hl hd (rel.put k rv) dd')
 ·subst ey eH
  cases (show u=į b from ry)
  obtain⟨z,hd,xs,rel,dd⟩:=Tq I.hok e
  have hz:xs.length<=sizeLine:=by rw [← Paired.length rel]; exact z
  have hl:(putK kvs k v).length<=sizeLine:=by have:=ju kvs k v; omega
  refine wpAny_setItem_heap (hsz:=hz) (tupleKind_room_in1 hu) (Ac I.hok eb) dd fun h' dd' hs=>h _ ?_
  obtain⟨q,es,ep,hq,h2,h3,h4,_,h5⟩:=dd'
  refine v9 I (by rw [e]; exact ŕ) hs ⟨q,hq⟩ ⟨hl,hd,_,(rel.put k eb rv).keeps fun c ys ec=>?_,q,es,ep,hq,h2,h3,h4,h5⟩
  rw [aq (Ss ec e (fun z=>nomatch z))]
  exact ec
end
section
variable {X:Cx}{pins:List (Addr×Obj)}{σ:St}{H:Hp}{s:Shared}{a:Addr}{kvs:List (Key×V)}{k:Key}{u:Value}{A:Around}{E:Value->Shared->Prop}
end
def T4 (i:Expr):Prop:=∀ ov iv,subscripted i false ov iv=operate [ov,iv] (getItem ov iv)
theorem J1 {prog:Program}{w:World}{A:Around}{E:Value->Shared->Prop}{s:Shared}{env:Env}{value slice:Expr}{pos:Pos}{T id:String}{Q:Value->Shared->Prop}
  (hl:typeLookup (.type T) "__getitem__"=pure (some (.builtin id))) (hs:T4 slice)
  (h:wpAny (model prog w) A (eval value env) (fun o s₁=>wpAny (model prog w) A (eval slice env) (fun i s₂=>s₂.TypeIs o T/\wpAny (model prog w) A (getItem o i) Q E s₂) E s₁) E s) :
  wpAny (model prog w) A (eval (.Subscript value slice pos) env) Q E s:=by
 refine Subscript_ (ĸ h (fun o s₁ h₁=>ĸ h₁ (fun i s₂ h₂=>?_) fun _ _ x=>x) fun _ _ x=>x)
 obtain⟨hT,h₂⟩:=h₂
 unfold subscriptTail
 refine Ä ?_
 rw [getitemInPython_of_ne hT.not_modules]
 refine Ä (wpAny_specialOf hT hl ?_)
 have fin:wpAny (model prog w) A (subscripted slice false o i) (fun r s₃=>wpAny (model prog w) A (letTemporaryGo value o r >>= fun _=>pure r) Q E s₃) E s₂:=by
  rw [hs o i]
  exact wpAny_operating (ĸ h₂ (fun r s₃ h₃=>Ä (wpAny_letTemporaryGo (Ò h₃))) fun _ _ x=>x)
 first
  | exact Ò (Ä fin)
  | exact Ä (Ò (Ä fin))
  | exact Ä fin
theorem yE {X:Cx}{pins:List (Addr×Obj)}{σ:St}{H:Hp}{s:Shared}{a:Addr}{y:V}{o:Option V} (I:Inv X pins σ H s) (g:rY H a y o):s.TypeIs (.ref a) "dict":=by
 rcases g with ⟨kvs,k,e,_,_⟩ | ⟨kvs,k,b,e,_,_,_⟩
 ·obtain⟨_,_,vs,_,dd⟩:=Jr I.hok e
  exact dd.typeIs
 ·obtain⟨_,_,xs,_,dd⟩:=Jq I.hok e
  exact dd.typeIs
def Rg (td ty:TE):TE:=fun σ H Q=>td σ H fun x H1=>ty σ H1 fun y H2=>∃ a v,x=.ref a/\rY H2 a y (some v)/\Q v H2
def Rx (td ty tv:TE):TS:=fun D σ H=>tv σ H fun v H1=>td σ H1 fun x H2=>ty σ H2 fun y H3=>∃ a H4,x=.ref a/\yP H3 a y v H4/\D.nx σ H4
section
variable {X:Cx}{o i e value:Expr}{pos pos' tpos:Pos}{td ty tv:TE}
theorem iB (hu:X.A.units+1<cLine) (ho:PE X o td) (hi:PE X i ty) (hs:T4 i):PE X (.Subscript o i pos) (Rg td ty):=by
 intro pins s σ H Q I h
 refine J1 PySem.F.slot_dict_getitem.lookup hs (thn (ho pins s σ H _ I h) fun u s1 ⟨x,H1,I1,rx,q1⟩=>thn (hi pins s1 σ H1 _ I1 q1) fun iv s2 ⟨y,H2,I2,ry,a,v,ex,g,q2⟩=>?_)
 subst ex
 obtain rfl:u=į a:=rx
 exact⟨yE I2 g,Fb hu I2 g ry fun w' s3 I3 rw'=>⟨v,H2,I3,rw',q2⟩⟩
theorem uT (hu:X.A.units+1<cLine) (ho:PE X o td) (hi:PE X i ty) (hv:PE X value tv) (hs:swapsWith value (some (.Subscript o i pos')) pos.line X.env=pure false) :
  PS X (.Assign [.Subscript o i pos'] value pos) (Rx td ty tv):=by
 intro pins s σ H D I h
 refine wpAny_Assign_Subscript (thn (hv pins s σ H _ I h) fun r s1 ⟨v,H1,I1,rv,q1⟩=>thn (ho pins s1 σ H1 _ I1 q1) fun u s2 ⟨x,H2,I2,rx,q2⟩=>thn (hi pins s2 σ H2 _ I2 q2) fun iv s3 ⟨y,H3,I3,ry,a,H4,ex,g,q3⟩=>?_) hs
 subst ex
 obtain rfl:u=į a:=rx
 exact EY hu I3 g ry rv fun s4 I4=>⟨σ,H4,I4,q3⟩
end
theorem Jt {P:Program}{w:World}{H:Hp} (h:Heap) (hb:sysModules<h.objs.size):bf P w H (h.push { cls:=.type "dict",data:=.dict #[] }) h.objs.size (.dK []) :=
 ⟨Ć _,beq_eq_false_iff_ne.mpr (Į (ß hb)),[],.nil,Heap.DictOf.new h⟩
section
variable {X:Cx}{pos:Pos}
end
def yV:List (TE×TE)->St->Hp->(List (V×V)->Hp->Prop)->Prop
 | [],_,H,Q=>Q [] H
 | (tk,tv)::r,σ,H,Q=>tk σ H fun x H1=>tv σ H1 fun y H2=>yV r σ H2 fun ps H3=>Q ((x,y)::ps) H3
abbrev VV:List (V×V)->List (Value×Value)->Prop:=Paired fun p q=>RelV p.1 q.1/\RelV p.2 q.2
def PPs (X:Cx) (pos:Pos) (keys:List (Option Expr)) (values:List Expr) (trs:List (TE×TE)):Prop :=
 ∀ (pins:List (Addr×Obj)) (s:Shared) (σ:St) (H:Hp) (Q:List (V×V)->Hp->Prop),Inv X pins σ H s->yV trs σ H Q ->
  wpAny (model X.prog X.w) X.A (evalPairs (pairTrees keys values X.env pos)) (fun vs s'=>∃ ps H',Inv X pins σ H' s'/\VV ps vs/\Q ps H') X.xe s
theorem Kh {X:Cx}{pos:Pos}:PPs X pos [] [] []:=fun pins s σ H Q I h=>pairTrees_nil_walk ⟨[],H,I,.nil,h⟩
theorem qF {X:Cx}{pos:Pos}{k v:Expr}{ks:List (Option Expr)}{vs:List Expr}{tk tv:TE}{trs:List (TE×TE)} (hk:PE X k tk) (hv:PE X v tv) (hr:PPs X pos ks vs trs) :
  PPs X pos (some k::ks) (v::vs) ((tk,tv)::trs):=fun pins s σ H Q I h =>
 pairTrees_cons_walk (thn (hk pins s σ H _ I h) fun u s1 ⟨x,H1,I1,rx,q1⟩=>thn (hv pins s1 σ H1 _ I1 q1) fun w2 s2 ⟨y,H2,I2,ry,q2⟩ =>
  thn (hr pins s2 σ H2 _ I2 q2) fun ws s3 ⟨ps,H3,I3,rel,q3⟩=>⟨(x,y)::ps,H3,I3,.cons ⟨rx,ry⟩ rel,q3⟩)
def kZ (kvs more:List (Key×V)):List (Key×V):=more.foldl (fun acc kv=>putK acc kv.1 kv.2) kvs
theorem KV.merge:∀ {more:List (Key×V)}{rs:List (Key×Value)}{kvs:List (Key×V)}{vs:List (Key×Value)},KV more rs->KV kvs vs->KV (kZ kvs more) (merged vs rs):=by
 intro more rs kvs vs r
 unfold KV at r
 induction r generalizing kvs vs with
 | nil=>intro q; exact q
 | @cons p q ps qs h t ih =>
  intro r0
  have e:KV (putK kvs p.1 p.2) (stored vs q.1 q.2):=by
   have:=r0.put p.1 h.2
   rw [← h.1]; exact this
  exact ih e
theorem j8:∀ (more kvs:List (Key×V)),(kZ kvs more).length<=kvs.length+more.length
 | [],kvs=>by show kvs.length<=kvs.length+0; omega
 | p::r,kvs=>by
  have h1:=j8 r (putK kvs p.1 p.2)
  have h2:=ju kvs p.1 p.2
  show (kZ (putK kvs p.1 p.2) r).length<=_
  rw [Ü]; omega
theorem rP {P:Program}{w:World}:∀ {kvs:List (Key×V)}{ws:List (Value×Value)},VV (kvs.map fun kv=>(kV kv.1,kv.2)) ws->∃ rs,Carries (bJ P w) ws rs/\KV kvs rs
 | [],_,r=>by rw [List.map_nil] at r; cases r; exact⟨[],ŕ,.nil⟩
 | p::kvs,_,r=>by
  rw [ã] at r
  cases r with
  | @cons a b as bs h t =>
   obtain⟨rs,c,q⟩:=rP (P:=P) (w:=w) t
   obtain⟨b1,b2⟩:=b
   exact⟨(p.1,b2)::rs,⟨Cj h.1,rfl,c⟩,.cons ⟨rfl,h.2⟩ q⟩
def Rf (trs:List (TE×TE)):TE:=fun σ H Q=>∀ p,H p=none->yV trs σ (upd H p (.dK [])) fun ps H2=>H2 p=some (.dK [])/\∃ kvs:List (Key×V),ps=kvs.map (fun kv=>(kV kv.1,kv.2))/\kvs.length<=15/\Q (.ref p) (upd H2 p (.dK (kZ [] kvs)))
theorem Ks {X:Cx}{pos:Pos}{keys:List (Option Expr)}{values:List Expr}{trs:List (TE×TE)} (h:PPs X pos keys values trs) (hall:keys.all (·.isSome)=true) (hl:keys.length=values.length) (h0:keys≠[])
  (h15:keys.length<=15):PE X (.Dict keys values pos) (Rf trs):=by
 intro pins s σ H Q I q
 have hn:=I.hok.fresh (Í s.heap.objs.size)
 have I1:=I.laid (a:=s.heap.objs.size) (o:=.dK []) (h':=s.heap.push { cls:=.type "dict",data:=.dict #[] }) (t':=s.toks) (fun _ _ q=>Ð _ q) (Í _) (Jt s.heap I.big)
 refine wpAny_Dict_walk (knd:=bJ X.prog X.w) hall hl h0 h15 (thn (h pins _ σ _ _ I1 (q _ hn)) fun ws s2 ⟨ps,H2,I2,rel,e,kvs,ep,lk,q2⟩=>?_)
 subst ep
 obtain⟨rs,c,rk⟩:=rP (P:=X.prog) (w:=X.w) rel
 obtain⟨z,hd,vs0,r0,dd⟩:=Nh I2.hok e
 cases r0
 refine⟨rs,c,dd,fun h' dd' hs=>⟨.ref s.heap.objs.size,_,?_,rfl,q2⟩⟩
 have hz:(kZ [] kvs).length<=sizeLine:=by
  have h1:=j8 kvs []
  rw [List.length_nil] at h1
  rw [ê]; omega
 have he:∃ q,h'.get? s.heap.objs.size=some q:=let ⟨q,_,_,hq,_⟩:=dd'; ⟨q,hq⟩
 exact v9 I2 (by rw [e]; exact ŕ) hs he (Js hz hd (rk.merge .nil) dd')
structure M1 (X:Cx) (o:Expr) (m:Str) (apos:Pos) (e:Expr) (cpos:Pos):Prop where
 base:attributeBase o m X.env (eval o X.env)=eval o X.env
 few:((backTo cpos (starEach [e] X.env)).all (fun x=>!x.1)&&(backToKw cpos (keywordEach [] X.env)).all (fun x=>x.1.isSome)
 &&decide (([e]:List Expr).length+([]:List Keyword).length+(if ([]:List Keyword).isEmpty then 0 else 1)<30))=true
 line:(apos.endLine == cpos.line)=true
 trees:backTo cpos (starEach [e] X.env)=[(false,eval e X.env)]
structure M2 (X:Cx) (o:Expr) (m:Str) (apos:Pos) (e f:Expr) (cpos:Pos):Prop where
 base:attributeBase o m X.env (eval o X.env)=eval o X.env
 few:((backTo cpos (starEach [e,f] X.env)).all (fun x=>!x.1)&&(backToKw cpos (keywordEach [] X.env)).all (fun x=>x.1.isSome)
 &&decide (([e,f]:List Expr).length+([]:List Keyword).length+(if ([]:List Keyword).isEmpty then 0 else 1)<30))=true
 line:(apos.endLine == cpos.line)=true
 trees:backTo cpos (starEach [e,f] X.env)=[(false,eval e X.env),(false,eval f X.env)]
section
variable {X:Cx}{pins:List (Addr×Obj)}{σ:St}{H:Hp}{s:Shared}{a:Addr}{y d:V}{u r:Value}{o:Option V}{A:Around}{E:Value->Shared->Prop}
end
section
variable {X:Cx}{o e f:Expr}{apos cpos:Pos}{td ty tx:TE}
end
section
variable {X:Cx}{pins:List (Addr×Obj)}{σ:St}{H:Hp}{s:Shared}{a:Addr}{kvs:List (Key×V)}{A:Around}{E:Value->Shared->Prop}
end
section
variable {X:Cx}{pins:List (Addr×Obj)}{σ:St}{H:Hp}{s:Shared}{a:Addr}{y:V}{u:Value}{A:Around}{E:Value->Shared->Prop}
end
section
variable {prog:Program}{w:World}{A:Around}{E:Value->Shared->Prop}{s:Shared}
end
section
variable {X:Cx}
theorem wz:bN X (.builtin "sorted") (fun xs H Q=>∃ (p:Addr) (ns:List Int),xs=[.ref p]/\SqL X.K H p (ns.map V.int)/\ns.length<64 /\
  ∀ (l:Addr) (out:List Int),H l=none->out.Perm ns->out.Pairwise (·<=·)->Q (.ref l) (upd H l (.lst (out.map V.int)))):=by
 intro pins s σ H xs us Q I r h
 obtain⟨p,ns,rfl,hp,h64,q⟩:=h
 obtain⟨u,rfl,rx⟩:=vals1 r
 cases rx
 obtain⟨its,rv,pl,hz⟩:=I.list hp
 have hI:IntsAre its ns:=intsAre_of rv
 have hl:=rv.length
 rw [Á] at hl
 refine sorted_ints (vs:=its) (ns:=ns) pl.isList hI (by omega) fun out ns' a1 a2 a3=>?_
 obtain⟨e,he⟩:=sortedAll_at s.heap its out
 have hv:=nC a1
 have hlo:=hv.length
 rw [Á] at hlo
 have hpl:=a2.length_eq
 have h24:=ê
 refine⟨.ref (s.heap.objs.size+1),upd H (s.heap.objs.size+1) (.lst (ns'.map V.int)),I.laid (t':=s.toks) (fun b o eb=>sortedAll_old eb) (Ł _) ⟨?_,out.toList,e,hv,by simpa using he⟩,rfl,q _ _ (I.hok.fresh (Ł _)) a2 a3⟩
 rw [Á]
 omega
end
section
variable {X:Cx}
def iD (l:List Int):PyData:=.list (l.map Â)
inductive DatL (K:Ú) (H:Hp):V->PyData->Prop
 | flt {a:Addr}{l:List Int}:SqL K H a (l.map V.int)->DatL K H (.ref a) (iD l)
 | lists {a:Addr}{as:List Addr}{ls:List (List Int)}:SqL K H a (as.map V.ref)->Paired (fun (a:Addr) (l:List Int)=>SqL K H a (l.map V.int)) as ls->DatL K H (.ref a) (.list (ls.map iD))
end
end L2
namespace PySem
open PyProof.Rows
def Vd (h:Heap) (e:Addr):Prop:=∃ oe vs,h.get? e=some oe/\oe.data=.fields vs/\vs[2]?=some .none
section
variable {M:Model}{A:Around}{E:Value->Shared->Prop}{s:Shared}{base:Heap}{env:Env}{outer:List Env}{L e:Addr}{Q:Unit->Shared->Prop}
end
end PySem
namespace L2
open PySem PySem.Spec PyProof.Rows
def Ve (base:Heap) (l:List Env) (e:Addr) (cls a0:Value) (h:Heap):Prop:=base.StaysIn h/\base.get? e=none/\h.FunFrames base l/\h.TracedW base e cls a0/\Vd h e
def CX1 (P:Program) (w:World):CXT:=fun outer H s E e s'=>∃ (a:Addr) (cls a0:Value) (H1:Hp) (hb:Heap),e=.ref a/\s'.os=s.os/\AllBare s'.gens/\Un (frs outer) [] H H1 s.heap s'.heap/\HOk P w H1 hb/\Ve hb outer a cls a0 s'.heap /\
 (∀ b o,s.heap.get? b=some o->H b=none->b∉frs outer->hb.get? b=some o)/\(∀ b o,s.heap.get? b=some o->b∉frs outer->∃ o',hb.get? b=some o')/\E cls none H1
structure Lets (X:Cx) (E:XK):Prop where
 xe:∀ e s',wpAny (model X.prog X.w) X.A (leaving X.env e) (fun _ s''=>CX1 X.prog X.w X.outer X.H₀ X.s₀ E e s'') (fun e' s''=>CX1 X.prog X.w X.outer X.H₀ X.s₀ E e' s'') s'->X.xe e s'
 stk:X.stack=X.env::X.outer
 fr:X.env.frame=some X.env.locals
 ex:X.ex=[]
section
variable {X:Cx}{pins:List (Addr×Obj)}{σ:St}{H H1:Hp}{s:Shared}{E:XK}
end
structure ExcCls (K:Ú) (C:Addr) (newId:String) (bmB:List Value):Prop where
 ex:∃ (nm q:Str) (N:Addr) (bs bm:List Value) (hdct:Bool) (sn:List Str) (sub:List Value) (ab:Bool) (col:Option Bool) (dd:Option Addr) (k0 k1 k2 k3 k5:Option Value),
  K.lookup C=some (excClassObj nm q C N bs bm hdct sn sub ab col dd k0 k1 k2 k3 k5 newId)/\W.tailIn K bmB bm=true/\W.nsOkIn K N=true/\W.nsIn K N "__init__"=some none/\bm.contains (.type "BaseException")=true
section
variable {X:Cx}{E:XK}{x:Str}{C:Addr}{newId Bn initId:String}{bmB:List Value}{e:Expr}{es:List Expr}{t:TA}{np cpos pos:Pos}
end
section
variable {X:Cx}{pins:List (Addr×Obj)}{σ:St}{H:Hp}{s:Shared}{ev:Value}
theorem Inv.track {a:Addr}{o:HO} (I:Inv X pins σ H s) (hn:H a=none) (h0:∀ ob,X.s₀.heap.get? a≠some ob) (hL:a≠X.env.locals) (hC:∀ x c,X.env.cells.lookup x=some c->c≠a) (hp:∀ p∈X.pn++pins,p.1≠a)
  (new:bf X.prog X.w (upd H a o) s.heap a o):Inv X pins σ (upd H a o) s:=by
 refine⟨I.ok,I.os,I.bare,⟨I.base.keep,I.base.slot,fun b ob e n hx=>?_,I.base.there,fun b xs e=>?_,fun b ob u e=>?_,fun b ps e=>?_⟩,I.loc,I.cell,?_,fun x c e=>?_,fun p q=>?_,I.hok.track hn new,I.len⟩
 ·rw [aq (show b≠a from fun z=>h0 ob (by rw [← z]; exact e))]
  exact I.base.free b ob e n hx
 ·have q:=I.base.tups b xs e
  rw [aq (aD q hn)]
  exact q
 ·have q:=I.base.frzs b ob u e
  rw [aq (aD q hn)]
  exact q
 ·obtain⟨m,q⟩:=I.base.tbls b ps e
  exact⟨m,by rw [aq (aD q hn)]; exact q⟩
 ·rw [aq (Į hL)]
  exact I.free
 ·rw [aq (hC x c e)]
  exact I.freeC x c e
 ·obtain⟨q1,q2,q3⟩:=I.pin p q
  exact⟨q1,by rw [aq (hp p q)]; exact q2,q3⟩
end
section
variable {X:Cx}{k:Nat}{f CF:Addr}{fd:FuncData}{ps:List Str}{sp:Sp}{E:XK}{x hx n:Str}{p np cpos epos hpos pos:Pos}{e:Expr}{es:List Expr}{t:TA}{b₀:Stmt}{suite:List Stmt}{ts:TS}{j:Nat}
end
end L2
namespace L2
open PySem PySem.W PySem.Spec PyProof.Rows
structure ExcK (K:Ú) (C:Addr):Prop where
 ex:∃ (nm q:Str) (N AF:Addr) (bs bmB:List Value) (hdct:Bool) (sn:List Str) (sub:List Value) (ab:Bool) (col:Option Bool) (dd ddF:Option Addr) (k0 k1 k2 k3 k5:Option Value) (newId B:String) (c0:Value) (cd:ClassData) (slF:Array (Option Value)),
  K.lookup C=some (excClassObj nm q C N bs (.ref AF::bmB) hdct sn sub ab col dd k0 k1 k2 k3 k5 newId)/\K.lookup AF=some ⟨c0,ddF,.cls cd,slF⟩/\nsOkIn K cd.ns=true/\(∀ n∈quietNames,nsIn K cd.ns n=some none)/\ExcAttrBase B bmB
 ga:findIn K (.ref C) "__getattribute__"=some (some (.builtin "BaseException.__getattribute__"))
 hook:findIn K (.ref C) "__getattr__"=some none
 cls:findIn K (.ref C) "__class__"=some (some (.builtin "object.__class__"))
 mro:mroIn K C (.type "object")=some true
section
variable {prog:Program}{w:World}{K:Ú}{a C:Addr}{A:Around}{E:Value->Shared->Prop}{s:Shared}
end
section
variable {X:Cx}
def Mq:R2:=fun x y H Q=>∃ a b xs ys,x=.ref a/\y=.ref b/\H a=some (.tup xs)/\H b=some (.tup ys)/\xs.length+ys.length<=sizeLine/\∀ c H',(∀ d u,H d=some u->H' d=some u)->H' c=some (.tup (xs++ys))->Q (.ref c) H'
theorem KH:OpR X (binaryOp .Add) Mq:=by
 intro pins s σ H x y v u Q I rx ry h
 obtain⟨a,b,xs,ys,rfl,rfl,ha,hb,hz,q⟩:=h
 cases rx
 cases ry
 obtain⟨its,r1,p1,_⟩:=I.tuple (SqT.of ha)
 obtain⟨its2,r2,p2,_⟩:=I.tuple (SqT.of hb)
 by_cases hx:xs=[]
 ·subst hx
  cases r1
  obtain⟨m,F⟩:=I.fr
  refine add_tuples (vs:=[]) F HX p1 p2 (fun _=>⟨.ref b,H,I,rfl,q b H (fun _ _ z=>z) (by simpa using hb)⟩) (fun z=>absurd rfl z) (fun z=>absurd rfl z) (by rw [← r2.length]; simpa using hz)
 ·refine KD pins s σ H (.ref a) (.ref b) (.ref a) (.ref b) Q I rfl rfl ⟨a,b,xs,ys,rfl,rfl,SqT.of ha,SqT.of hb,hx,hz,fun e=>?_,fun _ p hp=>?_⟩
  ·subst e
   exact q a H (fun _ _ z=>z) (by rw [ù]; exact ha)
  ·exact q p _ (fun d u z=>by rw [aq (aD z hp)]; exact z) au
end
section
variable {K:Ú}{C c:Addr}{dd:Option Addr}{cd:ClassData}{sl:Array (Option Value)}
end
end L2
namespace Dl
open PySem L2 PyProof.Rows
abbrev D:=PyData
def kD:Key->D
 | .inl i=>.int i
 | .inr x=>.str x
mutual
inductive Rp (ok:Addr->Prop) (H:Hp):V->D->Prop
 | non:Rp ok H .non .none
 | bl (b:Bool):Rp ok H (.bl b) (.bool b)
 | int (i:Int):Rp ok H (.int i) (.int i)
 | str (x:Str):Rp ok H (.str x) (.str x)
 | lst {a:Addr}{vs:List V}{ds:List D} (o:ok a) (h:H a=some (.lst vs)) (r:Rps ok H vs ds):Rp ok H (.ref a) (.list ds)
 | tup {a:Addr}{vs:List V}{ds:List D} (h:H a=some (.tup vs)) (r:Rps ok H vs ds):Rp ok H (.ref a) (.tuple ds)
 | dct {a:Addr}{kvs:List (Key×V)}{ds:List (D×D)} (o:ok a) (h:H a=some (.dK kvs)) (r:Rkv ok H kvs ds):Rp ok H (.ref a) (.dict ds)
inductive Rps (ok:Addr->Prop) (H:Hp):List V->List D->Prop
 | nil:Rps ok H [] []
 | cons {v:V}{d:D}{vs:List V}{ds:List D} (h:Rp ok H v d) (t:Rps ok H vs ds):Rps ok H (v::vs) (d::ds)
inductive Rkv (ok:Addr->Prop) (H:Hp):List (Key×V)->List (D×D)->Prop
 | nil:Rkv ok H [] []
 | cons {k:Key}{v:V}{d:D}{vs:List (Key×V)}{ds:List (D×D)} (h:Rp ok H v d) (t:Rkv ok H vs ds):Rkv ok H ((k,v)::vs) ((kD k,d)::ds)
end
section
variable {ok ok':Addr->Prop}{H H':Hp}
mutual
theorem Rp.mono (f:∀ a,ok a->ok' a) (g:∀ a o,ok a->H a=some o->H' a=some o) (t:∀ a xs,H a=some (.tup xs)->H' a=some (.tup xs)):∀ {v:V}{d:D},Rp ok H v d->Rp ok' H' v d
 | _,_,.non=>.non
 | _,_,.bl b=>.bl b
 | _,_,.int i=>.int i
 | _,_,.str x=>.str x
 | _,_,.lst o h r=>.lst (f _ o) (g _ _ o h) (Rps.mono f g t r)
 | _,_,.tup h r=>.tup (t _ _ h) (Rps.mono f g t r)
 | _,_,.dct o h r=>.dct (f _ o) (g _ _ o h) (Rkv.mono f g t r)
theorem Rps.mono (f:∀ a,ok a->ok' a) (g:∀ a o,ok a->H a=some o->H' a=some o) (t:∀ a xs,H a=some (.tup xs)->H' a=some (.tup xs)):∀ {v:List V}{d:List D},Rps ok H v d->Rps ok' H' v d
 | _,_,.nil=>.nil
 | _,_,.cons h r=>.cons (Rp.mono f g t h) (Rps.mono f g t r)
theorem Rkv.mono (f:∀ a,ok a->ok' a) (g:∀ a o,ok a->H a=some o->H' a=some o) (t:∀ a xs,H a=some (.tup xs)->H' a=some (.tup xs)):∀ {v:List (Key×V)}{d:List (D×D)},Rkv ok H v d->Rkv ok' H' v d
 | _,_,.nil=>.nil
 | _,_,.cons h r=>.cons (Rp.mono f g t h) (Rkv.mono f g t r)
end
theorem Rps.length:∀ {vs:List V}{ds:List D},Rps ok H vs ds->vs.length=ds.length
 | _,_,.nil=>rfl
 | _,_,.cons _ t=>by rw [Ü,Ü,Rps.length t]
theorem Rps.getD:∀ {vs:List V}{ds:List D}{i:Nat}{d:D},Rps ok H vs ds->ds[i]?=some d->∃ v,vs[i]?=some v/\Rp ok H v d
 | _,_,i,v,.nil,e=>by simp at e
 | _,_,0,v,.cons h t,e=>by simp at e; subst e; exact⟨_,rfl,h⟩
 | _,_,i+1,v,.cons h t,e=>by
  obtain⟨d,a,b⟩:=Rps.getD (i:=i) (d:=v) t (by simpa using e)
  exact⟨d,by simpa using a,b⟩
theorem Rps.app:∀ {vs ws:List V}{ds es:List D},Rps ok H vs ds->Rps ok H ws es->Rps ok H (vs++ws) (ds++es)
 | _,_,_,_,.nil,s=>s
 | _,_,_,_,.cons h t,s=>.cons h (Rps.app t s)
theorem Rps.snoc {vs:List V}{ds:List D}{v:V}{d:D} (h:Rps ok H vs ds) (r:Rp ok H v d):Rps ok H (vs++[v]) (ds++[d]):=h.app (.cons r .nil)
theorem Rps.take:∀ {vs:List V}{ds:List D} (n:Nat),Rps ok H vs ds->Rps ok H (vs.take n) (ds.take n)
 | _,_,0,_=>by simp; exact .nil
 | _,_,_+1,.nil=>by simp; exact .nil
 | _,_,n+1,.cons r t=>.cons r (Rps.take n t)
theorem Rps.drop:∀ {vs:List V}{ds:List D} (n:Nat),Rps ok H vs ds->Rps ok H (vs.drop n) (ds.drop n)
 | _,_,0,r=>r
 | _,_,_+1,.nil=>by simp; exact .nil
 | _,_,n+1,.cons _ t=>Rps.drop n t
theorem Rps.ofMap {α:Type}{f:α->V}{g:α->D} (h:∀ x,Rp ok H (f x) (g x)):∀ l:List α,Rps ok H (l.map f) (l.map g)
 | []=>.nil
 | x::l=>.cons (h x) (Rps.ofMap h l)
theorem Rp.int' {v:V}{i:Int} (r:Rp ok H v (.int i)):v=.int i:=by cases r; rfl
theorem Rp.bl' {v:V}{i:Bool} (r:Rp ok H v (.bool i)):v=.bl i:=by cases r; rfl
theorem Rp.str' {v:V}{i:Str} (r:Rp ok H v (.str i)):v=.str i:=by cases r; rfl
theorem Rp.cj {v:V}{ds:List D} (r:Rp ok H v (.list ds)):∃ a vs,v=.ref a/\ok a/\H a=some (.lst vs)/\Rps ok H vs ds:=by
 cases r with
 | lst o h r=>exact⟨_,_,rfl,o,h,r⟩
theorem Rp.fC {v:V}{ds:List D} (r:Rp ok H v (.tuple ds)):∃ a vs,v=.ref a/\H a=some (.tup vs)/\Rps ok H vs ds:=by
 cases r with
 | tup h r=>exact⟨_,_,rfl,h,r⟩
theorem Rps.ints:∀ {vs:List V}{ns:List Int},Rps ok H vs (ns.map Â)->vs=ns.map V.int
 | [],[],_=>rfl
 | _,n::ns,.cons h t=>by
  have e:=h.int'
  subst e
  rw [Rps.ints t]
  rfl
theorem Rps.two {vs:List V}{d e:D} (r:Rps ok H vs [d,e]):∃ v w,vs=[v,w]/\Rp ok H v d/\Rp ok H w e:=by
 cases r with
 | cons h t =>
  cases t with
  | cons h2 t2 =>
   cases t2
   exact⟨_,_,rfl,h,h2⟩
end
mutual
def iY:D->Bool
 | .none=>true
 | .bool _=>true
 | .int _=>true
 | .str _=>true
 | .list _=>false
 | .tuple ds=>eG ds
 | .dict _=>false
def eG:List D->Bool
 | []=>true
 | d::ds=>iY d&&eG ds
end
section
variable {ok:Addr->Prop}{H:Hp}
mutual
theorem Rp.imm:∀ {v:V}{d:D},Rp ok H v d->iY d=true->Rp (fun _=>False) H v d
 | _,_,.non,_=>.non
 | _,_,.bl b,_=>.bl b
 | _,_,.int i,_=>.int i
 | _,_,.str x,_=>.str x
 | _,_,.tup h r,e=>.tup h (Rps.imm r e)
theorem Rps.imm:∀ {v:List V}{d:List D},Rps ok H v d->eG d=true->Rps (fun _=>False) H v d
 | _,_,.nil,_=>.nil
 | _,_,.cons h r,e=>.cons (Rp.imm h (by simp only [eG,Ý] at e; exact e.1)) (Rps.imm r (by simp only [eG,Ý] at e; exact e.2))
end
end
def Fxd (o:HO):Prop:=∃ x φ,o=.frz x (.ext φ)
structure Pn where
 fp:Addr->Prop
 PI:Hp->Prop
 pv:V
 mono:∀ H H',PI H->(∀ b o,(fp b\/Fxd o)->H b=some o->H' b=some o)->PI H'
 is:∀ H b,PI H->fp b->∃ o,H b=some o/\(∀ xs,o≠.tup xs)/\¬ Fxd o
class Gr where
 G:Pn->Hp->Prop
instance (priority:=low) grT:Gr:=⟨fun _ _=>True⟩
def fJ:Pn:=⟨fun _=>False,fun _=>True,.non,fun _ _ _ _=>trivial,fun _ _ _ h=>h.elim⟩
def Kp (p:Pn) (H H':Hp):Prop:=∀ b o,H b=some o->¬ p.fp b->H' b=some o
theorem Kp.refl {p:Pn}{H:Hp}:Kp p H H:=fun _ _ h _=>h
theorem Kp.trans {p:Pn}{H H1 H2:Hp} (a:Kp p H H1) (b:Kp p H1 H2):Kp p H H2:=fun c o h n=>b c o (a c o h n) n
theorem Kp.of {p:Pn}{H H':Hp} (s:Same H H'):Kp p H H':=fun b o h _=>s b o h
inductive Sl where
 | any
 | im (d:D)
 | sh (d:D)
 | sn (d:D)
 | dw (r:Nat) (d:D)
 | pen (C:Pn->Prop)
 | rw (r:Nat) (L:List (List D))
 | tw (r:Nat) (L:List (List D))
 | scr (v:V) (b:Bool)
 | sp (r:Nat) (b:Bool) (ds:List D)
inductive Kd where
 | imm | new | reg (r:Nat) | n0 | snw | shr | wk
 deriving DecidableEq
def Kd.le:Kd->Kd->Bool
 | .imm,_=>true
 | .new,.new=>true
 | .new,.n0=>true
 | .new,.snw=>true
 | .new,.shr=>true
 | .new,.wk=>true
 | .reg r,.reg q=>r == q
 | .reg _,.n0=>true
 | .reg _,.wk=>true
 | .snw,.snw=>true
 | .snw,.n0=>true
 | .snw,.shr=>true
 | .snw,.wk=>true
 | .n0,.n0=>true
 | .n0,.wk=>true
 | .shr,.shr=>true
 | .shr,.wk=>true
 | .wk,.wk=>true
 | _,_=>false
def Kd.join (a b:Kd):Kd:=if a.le b then b else if b.le a then a else if a.le .n0&&b.le .n0 then .n0 else if a.le .shr&&b.le .shr then .shr else .wk
def norm (k:Kd) (d:D):Kd:=match k with
 | .imm=>.imm
 | k=>if iY d then .imm else k
theorem dF {k:Kd}{d:D} (h:iY d=true):norm k d=.imm:=by
 cases k <;> first
  | rfl
  | exact if_pos h
theorem mG {k:Kd}{d:D} (h:¬ iY d=true):norm k d=k:=by
 cases k <;> first
  | rfl
  | exact if_neg h
def okK (p:Pn) (H0:Hp) (own:Addr->Option Nat) (Hb:Hp):Kd->Addr->Prop
 | .imm=>fun _=>False
 | .new=>fun a=>Hb a=none
 | .reg r=>fun a=>own a=some r
 | .n0=>fun a=>H0 a=none/\¬ p.fp a
 | .snw=>fun a=>H0 a=none/\¬ p.fp a/\own a=none
 | .shr=>fun a=>¬ p.fp a/\own a=none
 | .wk=>fun a=>¬ p.fp a
structure At (p:Pn) (H0:Hp) (own:Addr->Option Nat) (Hb H:Hp):Prop where
 k0:∀ b o,H0 b=some o->¬ p.fp b->Hb b=some o
 kp:Kp p Hb H
 penb:p.PI Hb
 pen:p.PI H
 ow:∀ a r,own a=some r->H0 a=none/\¬ p.fp a/\Hb a≠none
section
variable {p:Pn}{H0 Hb H H':Hp}{own:Addr->Option Nat}
theorem At.nfp (A:At p H0 own Hb H) {a:Addr} (h:H a=none):¬ p.fp a:=fun z=>by
 obtain⟨o,e,_⟩:=p.is H a A.pen z
 rw [h] at e
 cases e
theorem At.free (A:At p H0 own Hb H) {a:Addr} (h:H a=none):Hb a=none:=by
 have hn:=A.nfp h
 cases e:Hb a with
 | none=>rfl
 | some o=>rw [A.kp a o e hn] at h; cases h
theorem At.nfb (A:At p H0 own Hb H) {a:Addr} (h:Hb a=none):¬ p.fp a:=fun z=>by
 obtain⟨o,e,_⟩:=p.is Hb a A.penb z
 rw [h] at e
 cases e
theorem At.Hj (A:At p H0 own Hb H) {a:Addr} (h:Hb a=none):own a=none:=by
 cases e:own a with
 | none=>rfl
 | some r=>exact absurd h (A.ow a r e).2.2
theorem At.h0 (A:At p H0 own Hb H) {a:Addr} (h:Hb a=none):H0 a=none:=by
 cases e:H0 a with
 | none=>rfl
 | some o=>rw [A.k0 a o e (A.nfb h)] at h; cases h
theorem bU (A:At p H0 own Hb H) {j k:Kd} (h:j.le k=true) {a:Addr} (o:okK p H0 own Hb j a):okK p H0 own Hb k a:=by
 cases j with
 | imm=>exact ń o
 | new =>
  cases k with
  | imm=>cases h
  | new=>exact o
  | reg r=>cases h
  | n0=>exact⟨A.h0 o,A.nfb o⟩
  | snw=>exact⟨A.h0 o,A.nfb o,A.Hj o⟩
  | shr=>exact⟨A.nfb o,A.Hj o⟩
  | wk=>exact A.nfb o
 | reg r =>
  cases k with
  | reg q =>
   have e:r=q:=by simpa [Kd.le] using h
   subst e
   exact o
  | n0=>exact⟨(A.ow a r o).1,(A.ow a r o).2.1⟩
  | wk=>exact (A.ow a r o).2.1
  | _=>cases h
 | n0 =>
  cases k with
  | n0=>exact o
  | wk=>exact o.2
  | _=>cases h
 | snw =>
  cases k with
  | snw=>exact o
  | n0=>exact⟨o.1,o.2.1⟩
  | shr=>exact o.2
  | wk=>exact o.2.1
  | _=>cases h
 | shr =>
  cases k with
  | shr=>exact o
  | wk=>exact o.1
  | _=>cases h
 | wk =>
  cases k with
  | wk=>exact o
  | _=>cases h
theorem jP (A:At p H0 own Hb H) {k:Kd}{a:Addr} (o:okK p H0 own Hb k a):¬ p.fp a:=by
 have:k.le .wk=true:=by cases k <;> rfl
 exact bU A this o
theorem lU (A:At p H0 own Hb H) {j k:Kd} (h:j.le k=true) {v:V}{d:D}{H2:Hp} (r:Rp (okK p H0 own Hb j) H2 v d):Rp (okK p H0 own Hb k) H2 v d :=
 r.mono (fun a o=>bU A h o) (fun _ _ _ e=>e) fun _ _ e=>e
theorem eX (a b:Kd):a.le (a.join b)=true/\b.le (a.join b)=true:=by
 unfold Kd.join
 by_cases h:a.le b=true
 ·rw [if_pos h]; exact⟨h,by cases b <;> simp [Kd.le]⟩
 ·rw [if_neg h]
  by_cases h2:b.le a=true
  ·rw [if_pos h2]; exact⟨by cases a <;> simp [Kd.le],h2⟩
  ·rw [if_neg h2]
   by_cases h3:(a.le .n0&&b.le .n0)=true
   ·rw [if_pos h3]; exact Ý _ _ ▸ h3
   ·rw [if_neg h3]
    by_cases h4:(a.le .shr&&b.le .shr)=true
    ·rw [if_pos h4]; exact Ý _ _ ▸ h4
    ·rw [if_neg h4]; exact⟨by cases a <;> rfl,by cases b <;> rfl⟩
theorem aV {k:Kd}{v:V}{d:D}{H2:Hp} (r:Rp (okK p H0 own Hb k) H2 v d):Rp (okK p H0 own Hb (norm k d)) H2 v d:=by
 by_cases h:iY d=true
 ·rw [dF h]; exact r.imm h
 ·rw [mG h]; exact r
theorem jx (A:At p H0 own Hb H) (k:Kp p H H'):∀ a xs,H a=some (.tup xs)->H' a=some (.tup xs):=fun a xs h=>k a _ h fun z=>by
 obtain⟨o,e,n⟩:=p.is H a A.pen z
 rw [h] at e
 exact n.1 xs (æ e).symm
theorem o8 (A:At p H0 own Hb H) (k:Kp p H H') {j:Kd}{v:V}{d:D} (r:Rp (okK p H0 own Hb j) H v d):Rp (okK p H0 own Hb j) H' v d :=
 r.mono (fun _ o=>o) (fun a o h e=>k a o e (jP A h)) (jx A k)
theorem bW (A:At p H0 own Hb H) (k:Kp p H H') {j:Kd}{v:List V}{d:List D} (r:Rps (okK p H0 own Hb j) H v d):Rps (okK p H0 own Hb j) H' v d :=
 r.mono (fun _ o=>o) (fun a o h e=>k a o e (jP A h)) (jx A k)
theorem At.go (A:At p H0 own Hb H) (k:Kp p H H') (i:p.PI H'):At p H0 own Hb H':=⟨A.k0,A.kp.trans k,A.penb,i,A.ow⟩
theorem At.base {H1:Hp} (A:At p H0 own Hb H) (B:At p H0 own H H1):At p H0 own Hb H1:=⟨A.k0,A.kp.trans B.kp,A.penb,B.pen,A.ow⟩
theorem Hz (A:At p H0 own Hb H) {k:Kd}{a:Addr} (o:okK p H0 own H k a):okK p H0 own Hb k a:=by
 cases k <;> first
  | exact o
  | exact A.free o
theorem jL (A:At p H0 own Hb H) {k:Kd}{v:V}{d:D}{H2:Hp} (r:Rp (okK p H0 own H k) H2 v d):Rp (okK p H0 own Hb k) H2 v d :=
 r.mono (fun a o=>Hz A o) (fun _ _ _ e=>e) fun _ _ e=>e
theorem At.new (A:At p H0 own Hb H) {a:Addr} (h:H a=none) (o:HO):Kp p H (upd H a o)/\p.PI (upd H a o)/\okK p H0 own Hb .new a :=
 have s:Same H (upd H a o):=fun b u q=>by rw [aq (aD q h)]; exact q
 ⟨Kp.of s,p.mono H _ A.pen fun b u _ q=>s b u q,A.free h⟩
end
structure RowsH (own:Addr->Option Nat) (r:Nat) (H:Hp) (st:Addr) (as:List Addr) (L:List (List D)):Prop where
 top:H st=some (.lst (as.map V.ref))
 nd:(st::as).Nodup
 ow:∀ a∈st::as,own a=some r
 len:as.length=L.length
 row:∀ (j:Nat) (a:Addr) (ds:List D),as[j]?=some a->L[j]?=some ds->∃ vs,H a=some (.lst vs)/\Rps (fun _=>False) H vs ds
theorem RowsH.mono {own own':Addr->Option Nat}{r:Nat}{H H':Hp}{st:Addr}{as:List Addr}{L:List (List D)} (h:RowsH own r H st as L) (g:∀ a o,own a=some r->H a=some o->own' a=some r/\H' a=some o) (t:∀ a xs,H a=some (.tup xs)->H' a=some (.tup xs)):RowsH own' r H' st as L:=by
 have live:∀ a∈st::as,∃ o,H a=some o:=fun a ha=>by
  rcases Ô.mp ha with rfl | ha
  ·exact⟨_,h.top⟩
  ·obtain⟨j,hj⟩:=ŀ ha
   have hl:=(Î.mp hj).1
   obtain⟨vs,e,_⟩:=h.row j a _ hj (Ç (by rw [← h.len]; exact hl))
   exact⟨_,e⟩
 refine⟨(g st _ (h.ow st Æ) h.top).2,h.nd,fun a ha=>?_,h.len,fun j a ds e1 e2=>?_⟩
 ·obtain⟨o,e⟩:=live a ha
  exact (g a o (h.ow a ha) e).1
 ·obtain⟨vs,e,r'⟩:=h.row j a ds e1 e2
  exact⟨vs,(g a _ (h.ow a (Ã _ (Ì e1))) e).2,r'.mono (fun _ o=>o) (fun _ _ o=>o.elim) t⟩
theorem nP {ok:Addr->Prop}{H:Hp}:∀ (as:List Addr) (L:List (List D)),as.length=L.length->(∀ a∈as,ok a)->(∀ (j:Nat) (a:Addr) (ds:List D),as[j]?=some a->L[j]?=some ds->∃ vs,H a=some (.lst vs)/\Rps (fun _=>False) H vs ds)->Rps ok H (as.map V.ref) (L.map ē)
 | [],[],_,_,_=>.nil
 | a::as,d::L,hl,h,r=>by
  obtain⟨vs,e,rs⟩:=r 0 a d rfl rfl
  exact .cons (.lst (h a Æ) e (rs.mono (fun _ o=>o.elim) (fun _ _ o=>o.elim) fun _ _ e=>e)) (nP as L (by simpa using hl) (fun b hb=>h b (Ã _ hb)) fun j b ds e1 e2=>r (j+1) b ds e1 e2)
 | [],_::_,hl,_,_=>by cases hl
 | _::_,[],hl,_,_=>by cases hl
theorem RowsH.rp {own:Addr->Option Nat}{r:Nat}{H:Hp}{st:Addr}{as:List Addr}{L:List (List D)} (h:RowsH own r H st as L):Rp (fun a=>own a=some r) H (.ref st) (.list (L.map ē)) :=
 .lst (h.ow st Æ) h.top (nP as L h.len (fun a ha=>h.ow a (Ã _ ha)) h.row)
structure RowsT (own:Addr->Option Nat) (r:Nat) (H:Hp) (st:Addr) (as:List Addr) (L:List (List D)):Prop where
 top:H st=some (.tup (as.map V.ref))
 nd:as.Nodup
 ow:∀ a∈as,own a=some r
 len:as.length=L.length
 row:∀ (j:Nat) (a:Addr) (ds:List D),as[j]?=some a->L[j]?=some ds->∃ vs,H a=some (.lst vs)/\Rps (fun _=>False) H vs ds
theorem RowsT.mono {own own':Addr->Option Nat}{r:Nat}{H H':Hp}{st:Addr}{as:List Addr}{L:List (List D)} (h:RowsT own r H st as L) (g:∀ a o,own a=some r->H a=some o->own' a=some r/\H' a=some o) (t:∀ a xs,H a=some (.tup xs)->H' a=some (.tup xs)):RowsT own' r H' st as L:=by
 refine⟨t st _ h.top,h.nd,fun a ha=>?_,h.len,fun j a ds e1 e2=>?_⟩
 ·obtain⟨j,hj⟩:=ŀ ha
  have hl:=(Î.mp hj).1
  obtain⟨vs,e,_⟩:=h.row j a _ hj (Ç (by rw [← h.len]; exact hl))
  exact (g a _ (h.ow a ha) e).1
 ·obtain⟨vs,e,r'⟩:=h.row j a ds e1 e2
  exact⟨vs,(g a _ (h.ow a (Ì e1)) e).2,r'.mono (fun _ o=>o) (fun _ _ o=>o.elim) t⟩
theorem RowsT.rp {own:Addr->Option Nat}{r:Nat}{H:Hp}{st:Addr}{as:List Addr}{L:List (List D)} (h:RowsT own r H st as L):Rp (fun a=>own a=some r) H (.ref st) (.tuple (L.map ē)) :=
 .tup h.top (nP as L h.len h.ow h.row)
def okS (p:Pn) (H0:Hp) (own:Addr->Option Nat) (b:Bool) (a:Addr):Prop:=(b=true->H0 a=none)/\¬ p.fp a/\own a=none
def jG (p:Pn) (H0:Hp) (own:Addr->Option Nat) (σ:L2.St) (H:Hp) (i:Nat):Sl->Prop
 | .any=>True
 | .im d=>∃ v,σ[i]?=some (some v)/\Rp (fun _=>False) H v d
 | .sh d=>∃ v,σ[i]?=some (some v)/\Rp (fun a=>¬ p.fp a/\own a=none) H v d
 | .sn d=>∃ v,σ[i]?=some (some v)/\Rp (fun a=>H0 a=none/\¬ p.fp a/\own a=none) H v d
 | .dw r d=>∃ v,σ[i]?=some (some v)/\Rp (fun a=>own a=some r) H v d
 | .pen C=>σ[i]?=some (some p.pv)/\C p
 | .rw r L=>∃ st as,σ[i]?=some (some (.ref st))/\RowsH own r H st as L
 | .tw r L=>∃ st as,σ[i]?=some (some (.ref st))/\RowsT own r H st as L
 | .scr v b=>σ[i]?=some (some v)/\(b=true->p=fJ)
 | .sp r b ds=>∃ l vs,σ[i]?=some (some (.ref l))/\own l=some r/\H l=some (.lst vs)/\Rps (okS p H0 own b) H vs ds
structure EnvD [Gr] (p:Pn) (H0:Hp) (own:Addr->Option Nat) (σ:L2.St) (H:Hp) (ρ:List Sl):Prop where
 k0:∀ b o,H0 b=some o->¬ p.fp b->H b=some o
 pen:p.PI H
 ow:∀ a r,own a=some r->H0 a=none/\¬ p.fp a/\H a≠none
 slot:∀ i s,ρ[i]?=some s->jG p H0 own σ H i s
 len:ρ.length=σ.length
 gr:Gr.G p H0
variable [Gr]
section
variable {p:Pn}{H0 H H':Hp}{own:Addr->Option Nat}{σ:L2.St}{ρ:List Sl}
theorem EnvD.at (E:EnvD p H0 own σ H ρ):At p H0 own H H:=⟨E.k0,Kp.refl,E.pen,E.pen,E.ow⟩
theorem EnvD.go (E:EnvD p H0 own σ H ρ) (k:Kp p H H') (i:p.PI H'):EnvD p H0 own σ H' ρ:=by
 have A:=E.at
 have tp:=jx A k
 refine⟨fun b o e n=>k b o (E.k0 b o e n) n,i,fun a r e=>?_,fun j s e=>?_,E.len,E.gr⟩
 ·obtain⟨h1,h2,h3⟩:=E.ow a r e
  refine⟨h1,h2,fun z=>?_⟩
  cases q:H a with
  | none=>exact h3 q
  | some o=>rw [k a o q h2] at z; cases z
 ·have q:=E.slot j s e
  cases s with
  | any=>trivial
  | im d=>exact let ⟨v,a,b⟩:=q; ⟨v,a,b.mono (fun _ o=>o) (fun _ _ o=>o.elim) tp⟩
  | sh d=>exact let ⟨v,a,b⟩:=q; ⟨v,a,b.mono (fun _ o=>o) (fun c u o e=>k c u e o.1) tp⟩
  | sn d=>exact let ⟨v,a,b⟩:=q; ⟨v,a,b.mono (fun _ o=>o) (fun c u o e=>k c u e o.2.1) tp⟩
  | dw r d=>exact let ⟨v,a,b⟩:=q; ⟨v,a,b.mono (fun _ o=>o) (fun c u o e=>k c u e (E.ow c r o).2.1) tp⟩
  | pen C=>exact q
  | rw r L=>exact let ⟨st,as,a,b⟩:=q; ⟨st,as,a,b.mono (fun c u o e=>⟨o,k c u e (E.ow c r o).2.1⟩) tp⟩
  | tw r L=>exact let ⟨st,as,a,b⟩:=q; ⟨st,as,a,b.mono (fun c u o e=>⟨o,k c u e (E.ow c r o).2.1⟩) tp⟩
  | scr v b=>exact q
  | sp r b ds=>exact let ⟨l,vs,a,o,h,z⟩:=q; ⟨l,vs,a,o,k l _ h (E.ow l r o).2.1,z.mono (fun _ o=>o) (fun c u o e=>k c u e o.2.1) tp⟩
end
abbrev DK:=Kd->D->Prop
abbrev DE:=List Sl->DK->Prop
def bI (t:DE):TE:=fun σ H Q=>∃ p H0 own ρ P,EnvD p H0 own σ H ρ/\t ρ P/\∀ k d v H',P k d->At p H0 own H H'->Rp (okK p H0 own H k) H' v d->Q v H'
abbrev PD (X:Cx) (e:Expr) (t:DE):Prop:=PE X e (bI t)
abbrev DA:=List Sl->(List (Kd×D)->Prop)->Prop
inductive RpK (p:Pn) (H0:Hp) (own:Addr->Option Nat) (Hb H:Hp):List V->List (Kd×D)->Prop
 | nil:RpK p H0 own Hb H [] []
 | cons {v:V}{kd:Kd×D}{vs:List V}{ks:List (Kd×D)} (h:Rp (okK p H0 own Hb kd.1) H v kd.2) (t:RpK p H0 own Hb H vs ks):RpK p H0 own Hb H (v::vs) (kd::ks)
def gW (t:DA):TA:=fun σ H Q=>∃ p H0 own ρ P,EnvD p H0 own σ H ρ/\t ρ P/\∀ ks vs H',P ks->At p H0 own H H'->RpK p H0 own H H' vs ks->Q vs H'
abbrev PDA (X:Cx) (es:List Expr) (t:DA):Prop:=PA X es (gW t)
abbrev DT:=List Sl->(Bool->Prop)->Prop
def liftT (t:DT):TT:=fun σ H Q=>∃ p H0 own ρ P,EnvD p H0 own σ H ρ/\t ρ P/\∀ b H',P b->At p H0 own H H'->Q b H'
abbrev PDT (X:Cx) (e:Expr) (t:DT):Prop:=PT X e (liftT t)
theorem PE.wk {X:Cx}{e:Expr}{t t':TE} (h:PE X e t) (w:∀ σ H Q,t' σ H Q->t σ H Q):PE X e t':=fun pins s σ H Q I q=>h pins s σ H Q I (w σ H Q q)
theorem PT.wk {X:Cx}{e:Expr}{t t':TT} (h:PT X e t) (w:∀ σ H Q,t' σ H Q->t σ H Q):PT X e t':=fun pins s σ H Q I q=>h pins s σ H Q I (w σ H Q q)
theorem PA.wk {X:Cx}{e:List Expr}{t t':TA} (h:PA X e t) (w:∀ σ H Q,t' σ H Q->t σ H Q):PA X e t':=fun pos pins s σ H Q I q=>h pos pins s σ H Q I (w σ H Q q)
section
variable {X:Cx}{pos:Pos}{a b:Expr}{ta tb:DE}
theorem RpK.go {p:Pn}{H0 Hb H H':Hp}{own:Addr->Option Nat} (A:At p H0 own Hb H) (k:Kp p H H'):∀ {vs:List V}{ks:List (Kd×D)},RpK p H0 own Hb H vs ks->RpK p H0 own Hb H' vs ks
 | _,_,.nil=>.nil
 | _,_,.cons h t=>.cons (o8 A k h) (RpK.go A k t)
theorem RpK.base {p:Pn}{H0 Hb H H':Hp}{own:Addr->Option Nat} (A:At p H0 own Hb H):∀ {vs:List V}{ks:List (Kd×D)},RpK p H0 own H H' vs ks->RpK p H0 own Hb H' vs ks
 | _,_,.nil=>.nil
 | _,_,.cons h t=>.cons (jL A h) (RpK.base A t)
def tV (i:Nat):DE:=fun ρ P=>match ρ[i]? with
 | some (.im d)=>P .imm d
 | some (.sh d)=>P .shr d
 | some (.sn d)=>P .snw d
 | some (.dw r d)=>P (.reg r) d
 | some (.rw r L)=>P (.reg r) (.list (L.map ē))
 | some (.tw r L)=>P (.reg r) (.tuple (L.map ē))
 | some (.sp r b ds)=>P (if b=true then .n0 else .wk) (.list ds)
 | _=>False
theorem OJ {i:Nat}{x:Str}{ps:Pos} (h:PE X (.Name x ps) (iy i)):PD X (.Name x ps) (tV i):=PE.wk h (by
 rintro σ H Q ⟨p,H0,own,ρ,P,E,t,q⟩
 unfold tV at t
 split at t
 ·rename_i d e; obtain⟨v,e1,r⟩:=E.slot i _ e; exact⟨v,e1,q _ _ _ _ t E.at r⟩
 ·rename_i d e; obtain⟨v,e1,r⟩:=E.slot i _ e; exact⟨v,e1,q _ _ _ _ t E.at r⟩
 ·rename_i d e; obtain⟨v,e1,r⟩:=E.slot i _ e; exact⟨v,e1,q _ _ _ _ t E.at r⟩
 ·rename_i d e; obtain⟨v,e1,r⟩:=E.slot i _ e; exact⟨v,e1,q _ _ _ _ t E.at r⟩
 ·rename_i r L e; obtain⟨st,as,e1,h⟩:=E.slot i _ e; exact⟨_,e1,q _ _ _ _ t E.at h.rp⟩
 ·rename_i r L e; obtain⟨st,as,e1,h⟩:=E.slot i _ e; exact⟨_,e1,q _ _ _ _ t E.at h.rp⟩
 ·rename_i r b ds e
  obtain⟨l,vs,e1,o,h,z⟩:=E.slot i _ e
  refine⟨_,e1,q _ _ _ _ t E.at ?_⟩
  cases b with
  | true=>exact .lst ⟨(E.ow l r o).1,(E.ow l r o).2.1⟩ h (z.mono (fun c n=>⟨n.1 rfl,n.2.1⟩) (fun _ _ _ e=>e) fun _ _ e=>e)
  | false=>exact .lst (E.ow l r o).2.1 h (z.mono (fun c n=>n.2.1) (fun _ _ _ e=>e) fun _ _ e=>e)
 ·exact t.elim)
def tK (d:D):DE:=fun _ P=>P .imm d
theorem qL {e:Expr}{v:V}{d:D} (h:PE X e (tC v)) (r:∀ H,Rp (fun _=>False) H v d):PD X e (tK d):=PE.wk h (by
 rintro σ H Q ⟨p,H0,own,ρ,P,E,t,q⟩
 exact q _ _ _ _ t E.at (r H))
theorem aC {i:Int}{j:Nat}:PD X (.Constant (.int i) j pos) (tK (.int i)):=qL bT fun _=>.int i
theorem xG {i:Bool}{j:Nat}:PD X (.Constant (.bool i) j pos) (tK (.bool i)):=qL RZ fun _=>.bl i
theorem Hf {j:Nat}:PD X (.Constant .none j pos) (tK .none):=qL Ox fun _=>.non
abbrev G2:=Kd->D->Kd->D->DK->Prop
def t2 (g:G2) (ta tb:DE):DE:=fun ρ P=>ta ρ fun k1 d1=>tb ρ fun k2 d2=>g k1 d1 k2 d2 P
def Ok2 (g:G2) (r:R2):Prop:=∀ p H0 own Hb H x y k1 d1 k2 d2 P Q,At p H0 own Hb H->Rp (okK p H0 own Hb k1) H x d1->Rp (okK p H0 own Hb k2) H y d2->g k1 d1 k2 d2 P ->
 (∀ k d v H',P k d->Kp p H H'->p.PI H'->Rp (okK p H0 own Hb k) H' v d->Q v H')->r x y H Q
theorem tM {g:G2}{r:R2} (ok:Ok2 g r):∀ σ H Q,bI (t2 g ta tb) σ H Q->tOp r (bI ta) (bI tb) σ H Q:=by
 rintro σ H Q ⟨p,H0,own,ρ,P,E,t,q⟩
 refine⟨p,H0,own,ρ,_,E,t,fun k1 d1 v1 H1 t1 A1 r1=>?_⟩
 have E1:=E.go A1.kp A1.pen
 refine⟨p,H0,own,ρ,_,E1,t1,fun k2 d2 v2 H2 t2 A2 r2=>?_⟩
 have A:At p H0 own H H2:=A1.base A2
 exact ok p H0 own H H2 v1 v2 k1 d1 k2 d2 P Q A (o8 A1 A2.kp r1) (jL A1 r2) t2 fun k d v H' h k3 i3 r3=>q k d v H' h (A.go k3 i3) r3
theorem lZ {op:Operator}{r:R2}{g:G2} (ho:OpR X (binaryOp op) r) (ok:Ok2 g r) (ha:PD X a ta) (hb:PD X b tb):PD X (.BinOp a op b pos) (t2 g ta tb):=PE.wk (cM ho ha hb) (tM ok)
theorem gD {op:CmpOp}{r:R2}{g:G2} (ho:OpR X (compareOp op) r) (ok:Ok2 g r) (ha:PD X a ta) (hb:PD X b tb) (hm:behindInMarks op b=false):PD X (.Compare a [op] [b] pos) (t2 g ta tb):=PE.wk (Ku ho ha hb hm) (tM ok)
def cR (t:DE):DT:=fun ρ P=>t ρ fun _ d=>match d with
 | .bool b=>P b
 | _=>False
theorem qX {t:DE}:∀ σ H Q,liftT (cR t) σ H Q->(bI t) σ H (fun x H'=>∃ k,x=.bl k/\Q k H'):=by
 rintro σ H Q ⟨p,H0,own,ρ,P,E,t,q⟩
 refine⟨p,H0,own,ρ,_,E,t,fun k d v H' h A r=>?_⟩
 cases d with
 | bool b=>exact⟨b,r.bl',q b H' h A⟩
 | _=>exact h.elim
theorem dX {op:CmpOp}{r:R2}{g:G2} (ho:OpR X (compareOp op) r) (ok:Ok2 g r) (ha:PD X a ta) (hb:PD X b tb) (hm:behindInMarks op b=false):PDT X (.Compare a [op] [b] pos) (cR (t2 g ta tb)) :=
 PT.wk (pR ho ha hb hm) fun σ H Q h=>tM ok σ H _ (qX σ H Q h)
theorem eO {e:Expr}{t:DE} (h:PD X e t) (he:∀ whole,isTrue e X.env whole=(do let v ← whole; standAt e.pos; holding [v] (truthy v)):=by intro _; rfl):PDT X e (cR t) :=
 PT.wk (Od h he) fun σ H Q q=>qX σ H Q q
def Mf (t:DT):DT:=fun ρ P=>t ρ fun b=>P (!b)
theorem gj {t:DT} (ha:PDT X a t):PDT X (.UnaryOp .Not a pos) (Mf t):=PT.wk (Oe ha) (by
 rintro σ H Q ⟨p,H0,own,ρ,P,E,t,q⟩
 exact⟨p,H0,own,ρ,_,E,t,fun b H' h A=>q _ H' h A⟩)
abbrev PDW (X:Cx) (e:Expr) (t:DT):Prop:=PW X e (liftT t)
theorem PW.wk {X:Cx}{e:Expr}{t t':TT} (h:PW X e t) (w:∀ σ H Q,t' σ H Q->t σ H Q):PW X e t':=fun wh pins s σ H Q I q=>h wh pins s σ H Q I (w σ H Q q)
def Jy (t u:DT):DT:=fun ρ P=>t ρ fun b=>if b=true then u ρ P else P false
def dOr (t u:DT):DT:=fun ρ P=>t ρ fun b=>if b=true then P true else u ρ P
section
variable {rest:List Expr}{t u:DT}
theorem d8 (ha:PDT X a t):PDW X (.BoolOp .And [a] pos) t:=Kc ha
theorem eN (ha:PDT X a t):PDW X (.BoolOp .Or [a] pos) t:=Ob ha
theorem Ik:∀ σ H Q,liftT (Jy t u) σ H Q->Ri (liftT t) (liftT u) σ H Q:=by
 rintro σ H Q ⟨p,H0,own,ρ,P,E,t,q⟩
 refine⟨p,H0,own,ρ,_,E,t,fun b H' h A=>?_⟩
 cases b with
 | true=>exact aM ⟨p,H0,own,ρ,P,E.go A.kp A.pen,by simpa using h,fun c H2 h2 A2=>q c H2 h2 (A.base A2)⟩
 | false=>exact aN (q false H' (by simpa using h) A)
theorem Lh:∀ σ H Q,liftT (dOr t u) σ H Q->tOr (liftT t) (liftT u) σ H Q:=by
 rintro σ H Q ⟨p,H0,own,ρ,P,E,t,q⟩
 refine⟨p,H0,own,ρ,_,E,t,fun b H' h A=>?_⟩
 cases b with
 | true=>exact aM (q true H' (by simpa using h) A)
 | false=>exact aN ⟨p,H0,own,ρ,P,E.go A.kp A.pen,by simpa using h,fun c H2 h2 A2=>q c H2 h2 (A.base A2)⟩
theorem gb (ha:PDT X a t) (hb:PDW X (.BoolOp .And (b::rest) pos) u):PDW X (.BoolOp .And (a::b::rest) pos) (Jy t u):=PW.wk (Oc ha hb) Ik
theorem iC (ha:PDT X a t) (hb:PDW X (.BoolOp .Or (b::rest) pos) u):PDW X (.BoolOp .Or (a::b::rest) pos) (dOr t u):=PW.wk (RN ha hb) Lh
theorem PDW.pt {e:Expr}{t:DT} (h:PDW X e t):PDT X e t:=PW.pt h
end
end
variable [Gr]
section
variable {X:Cx}{pos:Pos}{a b e:Expr}{es:List Expr}{ta tb te:DE}{t:DA}
def cu:DA:=fun _ P=>P []
def aG (te:DE) (t:DA):DA:=fun ρ P=>te ρ fun k d=>t ρ fun ks=>P ((k,d)::ks)
theorem ak:PDA X [] cu:=PA.wk gG (by
 rintro σ H Q ⟨p,H0,own,ρ,P,E,t,q⟩
 exact q [] [] H t E.at .nil)
theorem aj (ha:PD X e te) (hr:PDA X es t) (hs:zS X e es:=by rfl):PDA X (e::es) (aG te t):=PA.wk (cD ha hr hs) (by
 rintro σ H Q ⟨p,H0,own,ρ,P,E,t,q⟩
 refine⟨p,H0,own,ρ,_,E,t,fun k d v H1 h A r=>?_⟩
 refine⟨p,H0,own,ρ,_,E.go A.kp A.pen,h,fun ks vs H2 h2 A2 r2=>?_⟩
 exact q _ _ H2 h2 (A.base A2) (.cons (o8 A A2.kp r) (RpK.base A r2)))
def joins:List (Kd×D)->Kd
 | []=>.imm
 | kd::ks=>kd.1.join (joins ks)
theorem RpK.all {p:Pn}{H0 Hb H H2:Hp}{own:Addr->Option Nat} (A:At p H0 own Hb H):∀ {vs:List V}{ks:List (Kd×D)}{k:Kd},(joins ks).le k=true->RpK p H0 own Hb H2 vs ks->Rps (okK p H0 own Hb (joins ks)) H2 vs (ks.map (·.2))
 | _,_,_,_,.nil=>.nil
 | _,kd::ks,k,e,.cons h t=>by
  have j:=eX kd.1 (joins ks)
  exact .cons (lU A j.1 h) ((RpK.all A (k:=joins ks) (by cases joins ks <;> simp [Kd.le]) t).mono (fun a o=>bU A j.2 o) (fun _ _ _ e=>e) fun _ _ e=>e)
theorem Kd.le_refl (k:Kd):k.le k=true:=by cases k <;> simp [Kd.le]
theorem RpK.length {p:Pn}{H0 Hb H2:Hp}{own:Addr->Option Nat}:∀ {vs:List V}{ks:List (Kd×D)},RpK p H0 own Hb H2 vs ks->vs.length=ks.length
 | _,_,.nil=>rfl
 | _,_,.cons _ t=>by rw [Ü,Ü,RpK.length t]
def Mi (t:DA):DE:=fun ρ P=>t ρ fun ks=>ks.length<=1000/\P ((joins ks).join .new) (.list (ks.map (·.2)))
def nF (t:DA):DE:=fun ρ P=>t ρ fun ks=>ks.length<=1000/\P (norm (joins ks) (.tuple (ks.map (·.2)))) (.tuple (ks.map (·.2)))
theorem dB (h:PDA X es t):PD X (.List es pos) (Mi t):=PE.wk (uU h) (by
 rintro σ H Q ⟨p,H0,own,ρ,P,E,t,q⟩
 refine⟨p,H0,own,ρ,_,E,t,fun ks vs H1 h A r=>?_⟩
 have h24:=ê
 have hl:=r.length
 refine⟨by have:=h.1; omega,fun l hl=>?_⟩
 obtain⟨k2,i2,nw⟩:=A.new hl (.lst vs)
 have j:=eX (joins ks) .new
 refine q _ _ _ _ h.2 (A.go k2 i2) (.lst (bU A j.2 nw) au ?_)
 exact (bW A k2 (RpK.all A (Kd.le_refl _) r)).mono (fun a o=>bU A j.1 o) (fun _ _ _ e=>e) fun _ _ e=>e)
theorem bF {x1} (h:PDA X es t):PD X (.Tuple es x1 pos) (nF t):=PE.wk (Ou h) (by
 rintro σ H Q ⟨p,H0,own,ρ,P,E,t,q⟩
 refine⟨p,H0,own,ρ,_,E,t,fun ks vs H1 h A r=>?_⟩
 have h24:=ê
 have hl:=r.length
 refine⟨by have:=h.1; omega,fun l hl=>?_⟩
 obtain⟨k2,i2,nw⟩:=A.new hl (.tup vs)
 exact q _ _ _ _ h.2 (A.go k2 i2) (aV (.tup au (bW A k2 (RpK.all A (Kd.le_refl _) r)))))
abbrev GC:=List (Kd×D)->DK->Prop
def tCl (g:GC) (t:DA):DE:=fun ρ P=>t ρ fun ks=>g ks P
def OkC (g:GC) (r:List V->Hp->VK->Prop):Prop:=∀ p H0 own Hb H vs ks P Q,At p H0 own Hb H->RpK p H0 own Hb H vs ks->g ks P ->
 (∀ k d v H',P k d->Kp p H H'->p.PI H'->Rp (okK p H0 own Hb k) H' v d->Q v H')->r vs H Q
theorem M4 {g:GC}{r:List V->Hp->VK->Prop} (ok:OkC g r):∀ σ H Q,bI (tCl g t) σ H Q->tCB r (gW t) σ H Q:=by
 rintro σ H Q ⟨p,H0,own,ρ,P,E,t,q⟩
 refine⟨p,H0,own,ρ,_,E,t,fun ks vs H1 h A r=>?_⟩
 exact ok p H0 own H H1 vs ks P Q A r h fun k d v H' h2 k2 i2 r2=>q k d v H' h2 (A.go k2 i2) r2
theorem bZ {r:List V->Hp->VK->Prop}{id:String}{x:Str}{ps:Pos}{g:GC} (hc:bN X (.builtin id) r) (ok:OkC g r) (hg:Gl X x) (hm:X.mg x=none) (hv:bootBuiltins x=some (.builtin id)) (ha:PDA X (e::es) t) (hn:x≠"__name__":=by decide) (hdb:zB x:=by decide)
  (he:zS X e es:=by rfl) (hpl:zP X pos es:=by rfl):PD X (.Call (.Name x ps) (e::es) [] pos) (tCl g t):=PE.wk (lW hc hg hm hv ha hn hdb he hpl) (M4 ok)
theorem xu {r:List V->Hp->VK->Prop}{id:String}{x:Str}{ps:Pos}{g:GC} (hc:bN X (.type id) r) (ok:OkC g r) (hg:Gl X x) (hm:X.mg x=none) (hv:bootBuiltins x=some (.type id)) (ha:PDA X (e::es) t) (hn:x≠"__name__":=by decide) (hdb:zB x:=by decide)
  (he:zS X e es:=by rfl) (hpl:zP X pos es:=by rfl):PD X (.Call (.Name x ps) (e::es) [] pos) (tCl g t):=PE.wk (nU hc hg hm hv ha hn hdb he hpl) (M4 ok)
def spD (t:List D->(D->Prop)->Prop):Sp:=fun vs H Q _=>∃ ds P,Rps (fun _=>True) H vs ds/\t ds P/\∀ d v H',P d->Same H H'->Rp (fun a=>H a=none) H' v d->Q v H'
def spP (C:Pn->Prop) (t:List D->(D->Prop)->Prop):Sp:=fun vs H Q _=>∃ p vs' ds P,C p/\vs=p.pv::vs'/\p.PI H/\Rps (fun a=>¬ p.fp a) H vs' ds/\t ds P/\∀ d v H',P d->Kp p H H'->p.PI H'->Rp (fun a=>H a=none) H' v d->Q v H'
def tFn (f:List D->(D->Prop)->Prop) (t:DA):DE:=fun ρ P=>t ρ fun ks=>f (ks.map (·.2)) fun d=>P (norm .new d) d
theorem RpK.rps {p:Pn}{H0 Hb H H2:Hp}{own:Addr->Option Nat} (A:At p H0 own Hb H):∀ {vs:List V}{ks:List (Kd×D)},RpK p H0 own Hb H2 vs ks->Rps (fun a=>¬ p.fp a) H2 vs (ks.map (·.2))
 | _,_,.nil=>.nil
 | _,_,.cons h t=>.cons (h.mono (fun a o=>jP A o) (fun _ _ _ e=>e) fun _ _ e=>e) (RpK.rps A t)
theorem Li {f:List D->(D->Prop)->Prop}:∀ σ H Q,bI (tFn f t) σ H Q->oX (spD f) [] E0 (gW t) σ H Q:=by
 rintro σ H Q ⟨p,H0,own,ρ,P,E,t,q⟩
 refine⟨p,H0,own,ρ,_,E,t,fun ks vs H1 h A r=>?_⟩
 show spD f (vs++[]) H1 Q E0
 rw [ù]
 refine⟨ks.map (·.2),_,(RpK.rps A r).mono (fun _ _=>trivial) (fun _ _ _ e=>e) fun _ _ e=>e,h,fun d v H' h2 s r2=>?_⟩
 have k2:Kp p H1 H':=Kp.of s
 refine q _ d v H' h2 (A.go k2 (p.mono H1 H' A.pen fun b o _ e=>s b o e)) (aV ?_)
 exact r2.mono (fun a o=>A.free o) (fun _ _ _ e=>e) fun _ _ e=>e
def Gj (C:Pn->Prop) (f:List D->(D->Prop)->Prop) (i:Nat) (t:DA):DE:=fun ρ P=>ρ[i]?=some (.pen C)/\tFn f t ρ P
theorem Ij {C:Pn->Prop}{f:List D->(D->Prop)->Prop}{i:Nat}:∀ σ H Q,bI (Gj C f i t) σ H Q->oX (spP C f) [] E0 (oW (iy i) (gW t)) σ H Q:=by
 rintro σ H Q ⟨p,H0,own,ρ,P,E,⟨hp,t⟩,q⟩
 obtain⟨hs,c⟩:=E.slot i _ hp
 refine⟨p.pv,hs,p,H0,own,ρ,_,E,t,fun ks vs H1 h A r=>?_⟩
 show spP C f ((p.pv::vs)++[]) H1 Q E0
 rw [ù]
 refine⟨p,vs,ks.map (·.2),_,c,rfl,A.pen,RpK.rps A r,h,fun d v H' h2 k2 i2 r2=>?_⟩
 exact q _ d v H' h2 (A.go k2 i2) (aV (r2.mono (fun a o=>A.free o) (fun _ _ _ e=>e) fun _ _ e=>e))
def gI (C:Int->Int->Prop) (f:Int->Int->D):G2:=fun _ d1 _ d2 P=>match d1,d2 with
 | .int i,.int j=>C i j/\P .imm (f i j)
 | _,_=>False
def gI0 (f:Int->Int->D):G2:=fun _ d1 _ d2 P=>match d1,d2 with
 | .int i,.int j=>P .imm (f i j)
 | _,_=>False
theorem okI {C:Int->Int->Prop}{f:Int->Int->D}{g:Int->Int->V} (h:∀ i j H,Rp (fun _=>False) H (g i j) (f i j)):Ok2 (gI C f) (rI C g):=by
 intro p H0 own Hb H x y k1 d1 k2 d2 P Q A r1 r2 t q
 unfold gI at t
 split at t
 ·rename_i i j
  exact⟨i,j,r1.int',r2.int',t.1,q _ _ _ _ t.2 Kp.refl A.pen (h i j H)⟩
 ·exact t.elim
theorem vA {f:Int->Int->D}{g:Int->Int->V} (h:∀ i j H,Rp (fun _=>False) H (g i j) (f i j)):Ok2 (gI0 f) (rI0 g):=by
 intro p H0 own Hb H x y k1 d1 k2 d2 P Q A r1 r2 t q
 unfold gI0 at t
 split at t
 ·rename_i i j
  exact⟨i,j,r1.int',r2.int',q _ _ _ _ t Kp.refl A.pen (h i j H)⟩
 ·exact t.elim
theorem zE (ha:PD X a ta) (hb:PD X b tb):PD X (.BinOp a .Add b pos) (t2 (gI0 fun i j=>.int (i+j)) ta tb):=lZ kO (vA fun i j _=>.int _) ha hb
theorem cT (ha:PD X a ta) (hb:PD X b tb):PD X (.BinOp a .Sub b pos) (t2 (gI0 fun i j=>.int (i - j)) ta tb):=lZ O7 (vA fun i j _=>.int _) ha hb
theorem O2 (ha:PD X a ta) (hb:PD X b tb):PD X (.BinOp a .Mult b pos) (t2 (gI JR fun i j=>.int (i * j)) ta tb):=lZ nY (okI fun i j _=>.int _) ha hb
theorem mD (ha:PD X a ta) (hb:PD X b tb):PD X (.BinOp a .FloorDiv b pos) (t2 (gI QS fun i j=>.int (i / j)) ta tb):=lZ p7 (okI fun i j _=>.int _) ha hb
theorem u6 (ha:PD X a ta) (hb:PD X b tb):PD X (.BinOp a .Mod b pos) (t2 (gI (fun _ j=>0<j) fun i j=>.int (i % j)) ta tb):=lZ jo (okI fun i j _=>.int _) ha hb
theorem tG (ha:PD X a ta) (hb:PD X b tb):PD X (.Compare a [.Lt] [b] pos) (t2 (gI0 fun i j=>.bool (decide (i<j))) ta tb):=gD xK (vA fun i j _=>.bl _) ha hb (bH _)
theorem BL (ha:PD X a ta) (hb:PD X b tb):PD X (.Compare a [.LtE] [b] pos) (t2 (gI0 fun i j=>.bool (decide (i<=j))) ta tb):=gD Mt (vA fun i j _=>.bl _) ha hb (bH _)
theorem Hh (ha:PD X a ta) (hb:PD X b tb):PD X (.Compare a [.GtE] [b] pos) (t2 (gI0 fun i j=>.bool (decide (j<=i))) ta tb):=gD Hr (vA fun i j _=>.bl _) ha hb (bH _)
theorem qI (ha:PD X a ta) (hb:PD X b tb):PDT X (.Compare a [.Lt] [b] pos) (cR (t2 (gI0 fun i j=>.bool (decide (i<j))) ta tb)):=dX xK (vA fun i j _=>.bl _) ha hb (bH _)
theorem iG (ha:PD X a ta) (hb:PD X b tb):PDT X (.Compare a [.Gt] [b] pos) (cR (t2 (gI0 fun i j=>.bool (decide (j<i))) ta tb)):=dX Mu (vA fun i j _=>.bl _) ha hb (bH _)
theorem zu (ha:PD X a ta) (hb:PD X b tb):PDT X (.Compare a [.GtE] [b] pos) (cR (t2 (gI0 fun i j=>.bool (decide (j<=i))) ta tb)):=dX Hr (vA fun i j _=>.bl _) ha hb (bH _)
def scD:D->D->Option Bool
 | .int i,.int j=>some (decide (i=j))
 | .bool i,.bool j=>some (decide (i=j))
 | .str i,.str j=>some (decide (i=j))
 | _,_=>none
def gEq (neg:Bool):G2:=fun _ d1 _ d2 P=>match scD d1 d2 with
 | some b=>P .imm (.bool (if neg then !b else b))
 | none=>False
theorem PB:Ok2 (gEq false) rEq:=by
 intro p H0 own Hb H x y k1 d1 k2 d2 P Q A r1 r2 t q
 unfold gEq scD at t
 split at t
 ·rename_i b e
  split at e <;> first | cases e | skip
  ·rw [r1.int',r2.int']
   refine⟨rfl,?_⟩
   have e2:∀ i j:Int,decide (V.int i=V.int j)=decide (i=j):=fun i j=>by simp
   rw [e2]; exact q _ _ _ _ t Kp.refl A.pen (.bl _)
  ·rw [r1.bl',r2.bl']
   refine⟨rfl,?_⟩
   have e2:∀ i j:Bool,decide (V.bl i=V.bl j)=decide (i=j):=fun i j=>by simp
   rw [e2]; exact q _ _ _ _ t Kp.refl A.pen (.bl _)
  ·rw [r1.str',r2.str']
   refine⟨rfl,?_⟩
   have e2:∀ i j:Str,decide (V.str i=V.str j)=decide (i=j):=fun i j=>by simp
   rw [e2]; exact q _ _ _ _ t Kp.refl A.pen (.bl _)
 ·exact t.elim
theorem Pz:Ok2 (gEq true) rNe:=by
 intro p H0 own Hb H x y k1 d1 k2 d2 P Q A r1 r2 t q
 unfold gEq scD at t
 split at t
 ·rename_i b e
  split at e <;> first | cases e | skip
  ·rw [r1.int',r2.int']
   refine⟨rfl,?_⟩
   have e2:∀ i j:Int,decide (V.int i=V.int j)=decide (i=j):=fun i j=>by simp
   rw [e2]; exact q _ _ _ _ t Kp.refl A.pen (.bl _)
  ·rw [r1.bl',r2.bl']
   refine⟨rfl,?_⟩
   have e2:∀ i j:Bool,decide (V.bl i=V.bl j)=decide (i=j):=fun i j=>by simp
   rw [e2]; exact q _ _ _ _ t Kp.refl A.pen (.bl _)
  ·rw [r1.str',r2.str']
   refine⟨rfl,?_⟩
   have e2:∀ i j:Str,decide (V.str i=V.str j)=decide (i=j):=fun i j=>by simp
   rw [e2]; exact q _ _ _ _ t Kp.refl A.pen (.bl _)
 ·exact t.elim
theorem R4 (ha:PD X a ta) (hb:PD X b tb):PD X (.Compare a [.Eq] [b] pos) (t2 (gEq false) ta tb):=gD BZ PB ha hb (bH _)
theorem R3 (ha:PD X a ta) (hb:PD X b tb):PD X (.Compare a [.NotEq] [b] pos) (t2 (gEq true) ta tb):=gD BX Pz ha hb (bH _)
theorem uW (ha:PD X a ta) (hb:PD X b tb):PDT X (.Compare a [.Eq] [b] pos) (cR (t2 (gEq false) ta tb)):=dX BZ PB ha hb (bH _)
theorem OD (ha:PD X a ta) (hb:PD X b tb):PDT X (.Compare a [.NotEq] [b] pos) (cR (t2 (gEq true) ta tb)):=dX BX Pz ha hb (bH _)
def gIx:G2:=fun k1 d1 _ d2 P=>match d1,d2 with
 | .list ds,.int i=>∃ d,atI ds i=some d/\P (norm k1 d) d
 | .tuple ds,.int i=>∃ d,atI ds i=some d/\P (norm k1 d) d
 | _,_=>False
theorem Rps.atI {ok:Addr->Prop}{H:Hp}{vs:List V}{ds:List D}{i:Int}{d:D} (r:Rps ok H vs ds) (h:L2.atI ds i=some d):∃ v,L2.atI vs i=some v/\Rp ok H v d:=by
 unfold L2.atI at h ⊢
 rw [r.length]
 cases e:ixN ds.length i with
 | none=>rw [e] at h; cases h
 | some j =>
  rw [e] at h
  obtain⟨v,h1,h2⟩:=r.getD (i:=j) (d:=d) h
  exact⟨v,h1,h2⟩
def S8:G2:=fun k1 d1 _ d2 P=>match d1,d2 with
 | .list ds,.int i=>∃ d,atI ds i=some d/\P (norm k1 d) d
 | _,_=>False
def S7:G2:=fun k1 d1 _ d2 P=>match d1,d2 with
 | .tuple ds,.int i=>∃ d,atI ds i=some d/\P (norm k1 d) d
 | _,_=>False
theorem vd (ha:PD X a ta) (hb:PD X b tb) (hs:jV b):PD X (.Subscript a b pos) (t2 S8 ta tb):=PE.wk (xr qb ha hb hs) (tM (by
 intro p H0 own Hb H x y k1 d1 k2 d2 P Q A r1 r2 t q
 unfold S8 at t
 split at t
 ·rename_i ds i
  obtain⟨d,hd,t⟩:=t
  obtain⟨c,vs,rfl,o,hc,rs⟩:=r1.cj
  obtain⟨v,hv,rv⟩:=rs.atI hd
  exact⟨c,vs,i,v,rfl,r2.int',SqL.of hc,hv,q _ _ _ _ t Kp.refl A.pen (aV rv)⟩
 ·exact t.elim))
theorem fH (ha:PD X a ta) (hb:PD X b tb) (hs:jV b):PD X (.Subscript a b pos) (t2 S7 ta tb):=PE.wk (xr Iw ha hb hs) (tM (by
 intro p H0 own Hb H x y k1 d1 k2 d2 P Q A r1 r2 t q
 unfold S7 at t
 split at t
 ·rename_i ds i
  obtain⟨d,hd,t⟩:=t
  obtain⟨c,vs,rfl,hc,rs⟩:=r1.fC
  obtain⟨v,hv,rv⟩:=rs.atI hd
  exact⟨c,vs,i,v,rfl,r2.int',SqT.of hc,hv,q _ _ _ _ t Kp.refl A.pen (aV rv)⟩
 ·exact t.elim))
theorem fO {p:Pn}{H0 Hb H:Hp}{own:Addr->Option Nat}{vs:List V}{kd:Kd×D} (r:RpK p H0 own Hb H vs [kd]):∃ v,vs=[v]/\Rp (okK p H0 own Hb kd.1) H v kd.2:=by
 cases r with
 | cons h t=>cases t; exact⟨_,rfl,h⟩
theorem Gz {p:Pn}{H0 Hb H:Hp}{own:Addr->Option Nat}{vs:List V}{kd ke:Kd×D} (r:RpK p H0 own Hb H vs [kd,ke]):∃ v w,vs=[v,w]/\Rp (okK p H0 own Hb kd.1) H v kd.2/\Rp (okK p H0 own Hb ke.1) H w ke.2:=by
 cases r with
 | cons h t =>
  cases t with
  | cons h2 t2=>cases t2; exact⟨_,_,rfl,h,h2⟩
def Ai:GC:=fun ks P=>match ks with
 | [(_,.list ds)]=>P .imm (.int ds.length)
 | [(_,.tuple ds)]=>P .imm (.int ds.length)
 | _=>False
theorem R7 {K:Ú}:OkC Ai (fun xs H Q=>∃ p ys,xs=[.ref p]/\(SqL K H p ys\/SqT K H p ys)/\Q (.int ys.length) H):=by
 intro p H0 own Hb H vs ks P Q A r t q
 unfold Ai at t
 split at t
 ·obtain⟨v,rfl,r'⟩:=fO r
  obtain⟨c,vs,rfl,o,hc,rs⟩:=r'.cj
  exact⟨c,vs,rfl,.inl (SqL.of hc),by rw [rs.length]; exact q _ _ _ _ t Kp.refl A.pen (.int _)⟩
 ·obtain⟨v,rfl,r'⟩:=fO r
  obtain⟨c,vs,rfl,hc,rs⟩:=r'.fC
  exact⟨c,vs,rfl,.inr (SqT.of hc),by rw [rs.length]; exact q _ _ _ _ t Kp.refl A.pen (.int _)⟩
 ·exact t.elim
theorem kJ {ps:Pos} (hm:X.mg "len"=none) (ha:PDA X [a] t) (hg:Gl X "len":=by rfl) (he:zS X a []:=by rfl) (hpl:zP X pos []:=by rfl):PD X (.Call (.Name "len" ps) [a] [] pos) (tCl Ai t) :=
 bZ mY R7 hg hm PySem.boot_len ha (by decide) (by decide) he hpl
end
variable [Gr]
section
variable {ok ok':Addr->Prop}{H H':Hp}
mutual
theorem Rp.dh (f:∀ a o,ok a->H a=some o->ok' a/\H' a=some o) (t:∀ a xs,H a=some (.tup xs)->H' a=some (.tup xs)):∀ {v:V}{d:D},Rp ok H v d->Rp ok' H' v d
 | _,_,.non=>.non
 | _,_,.bl b=>.bl b
 | _,_,.int i=>.int i
 | _,_,.str x=>.str x
 | _,_,.lst o h r=>.lst (f _ _ o h).1 (f _ _ o h).2 (Rps.dh f t r)
 | _,_,.tup h r=>.tup (t _ _ h) (Rps.dh f t r)
 | _,_,.dct o h r=>.dct (f _ _ o h).1 (f _ _ o h).2 (Rkv.dh f t r)
theorem Rps.dh (f:∀ a o,ok a->H a=some o->ok' a/\H' a=some o) (t:∀ a xs,H a=some (.tup xs)->H' a=some (.tup xs)):∀ {v:List V}{d:List D},Rps ok H v d->Rps ok' H' v d
 | _,_,.nil=>.nil
 | _,_,.cons h r=>.cons (Rp.dh f t h) (Rps.dh f t r)
theorem Rkv.dh (f:∀ a o,ok a->H a=some o->ok' a/\H' a=some o) (t:∀ a xs,H a=some (.tup xs)->H' a=some (.tup xs)):∀ {v:List (Key×V)}{d:List (D×D)},Rkv ok H v d->Rkv ok' H' v d
 | _,_,.nil=>.nil
 | _,_,.cons h r=>.cons (Rp.dh f t h) (Rkv.dh f t r)
end
end
structure DEnds where
 nx:List Sl->Prop
 rt:D->Prop
 bk:List Sl->Prop:=fun _=>False
 ct:List Sl->Prop:=fun _=>False
abbrev DS:=DEnds->List Sl->Prop
structure FrS (p:Pn) (own:Addr->Option Nat) (H:Hp) (own':Addr->Option Nat) (H':Hp):Prop where
 keep:∀ b o,H b=some o->¬ p.fp b->own b=none->H' b=some o/\own' b=none
 tup:∀ a xs,H a=some (.tup xs)->H' a=some (.tup xs)
theorem FrS.trans {p:Pn}{o1 o2 o3:Addr->Option Nat}{H1 H2 H3:Hp} (a:FrS p o1 H1 o2 H2) (b:FrS p o2 H2 o3 H3):FrS p o1 H1 o3 H3:=⟨fun c o h n e=>let ⟨x,y⟩:=a.keep c o h n e; b.keep c o x n y,fun c xs e=>b.tup c xs (a.tup c xs e)⟩
theorem FrS.refl {p:Pn}{o1:Addr->Option Nat}{H1:Hp}:FrS p o1 H1 o1 H1:=⟨fun _ _ h _ e=>⟨h,e⟩,fun _ _ e=>e⟩
theorem At.tups {p:Pn}{H0 H H':Hp}{own:Addr->Option Nat} (A:At p H0 own H H'):∀ a xs,H a=some (.tup xs)->H' a=some (.tup xs):=jx (⟨A.k0,Kp.refl,A.penb,A.penb,A.ow⟩:At p H0 own H H) A.kp
structure RPost (p:Pn) (H0 H':Hp) (v:V) (d:D):Prop where
 k0:∀ b o,H0 b=some o->¬ p.fp b->H' b=some o
 pen:p.PI H'
 rp:Rp (fun a=>H0 a=none/\¬ p.fp a) H' v d
structure Wish (p:Pn) (H0:Hp) (own:Addr->Option Nat) (H:Hp) (P:DEnds) (Q:Ends):Prop where
 nx:∀ own' σ' H' ρ',EnvD p H0 own' σ' H' ρ'->FrS p own H own' H'->P.nx ρ'->Q.nx σ' H'
 rt:∀ d v H',P.rt d->RPost p H0 H' v d->Q.rt v H'
 bk:∀ own' σ' H' ρ',EnvD p H0 own' σ' H' ρ'->FrS p own H own' H'->P.bk ρ'->Q.bk σ' H'
 ct:∀ own' σ' H' ρ',EnvD p H0 own' σ' H' ρ'->FrS p own H own' H'->P.ct ρ'->Q.ct σ' H'
theorem Wish.go {p:Pn}{H0 H H':Hp}{own own':Addr->Option Nat}{P:DEnds}{Q:Ends} (w:Wish p H0 own H P Q) (f:FrS p own H own' H'):Wish p H0 own' H' P Q :=
 ⟨fun o s h r e g n=>w.nx o s h r e (f.trans g) n,w.rt,fun o s h r e g n=>w.bk o s h r e (f.trans g) n,fun o s h r e g n=>w.ct o s h r e (f.trans g) n⟩
def j7 (t:DS):TS:=fun Q σ H=>∃ p H0 own ρ P,EnvD p H0 own σ H ρ/\t P ρ/\Wish p H0 own H P Q
abbrev PDS (X:Cx) (st:Stmt) (t:DS):Prop:=PS X st (j7 t)
abbrev iu (X:Cx) (st:List Stmt) (t:DS):Prop:=PSs X st (j7 t)
theorem PSs.wk' {X:Cx}{ss:List Stmt}{t t':TS} (h:PSs X ss t) (w:∀ D σ H,t' D σ H->t D σ H):PSs X ss t':=fun pins s σ H D I q=>h pins s σ H D I (w D σ H q)
theorem PS.wk' {X:Cx}{ss:Stmt}{t t':TS} (h:PS X ss t) (w:∀ D σ H,t' D σ H->t D σ H):PS X ss t':=fun pins s σ H D I q=>h pins s σ H D I (w D σ H q)
theorem At.frs {p:Pn}{H0 H H':Hp}{own:Addr->Option Nat} (A:At p H0 own H H'):FrS p own H own H':=⟨fun b o h n e=>⟨A.kp b o h n,e⟩,A.tups⟩
section
variable {X:Cx}{pos:Pos}{st:Stmt}{rest:List Stmt}{e:Expr}{te:DE}{t u:DS}
def mV:DS:=fun P ρ=>P.nx ρ
def pN (t u:DS):DS:=fun P ρ=>t { P with nx:=u P } ρ
theorem dJ:iu X [] mV:=PSs.wk' pU (by
 rintro Q σ H ⟨p,H0,own,ρ,P,E,t,w⟩
 exact w.nx own σ H ρ E FrS.refl t)
theorem aK (h1:PDS X st t) (h2:iu X rest u):iu X (st::rest) (pN t u):=PSs.wk' (qC h1 h2) (by
 rintro Q σ H ⟨p,H0,own,ρ,P,E,t,w⟩
 exact⟨p,H0,own,ρ,_,E,t,⟨fun o s h r e g n=>⟨p,H0,o,r,P,e,n,w.go g⟩,w.rt,w.bk,w.ct⟩⟩)
theorem aH (h1:PDS X st t):iu X [st] t:=fZ h1
theorem mR:PDS X st (fun _ _=>False):=PS.wk' GR (by
 rintro Q σ H ⟨p,H0,own,ρ,P,E,t,w⟩
 exact t)
def sS (te:DE):DS:=fun P ρ=>te ρ fun k d=>k.le .n0=true/\P.rt d
theorem bB (he:PD X e te):PDS X (.Return (some e) pos) (sS te):=PS.wk' (kE he) (by
 rintro Q σ H ⟨p,H0,own,ρ,P,E,t,w⟩
 refine⟨p,H0,own,ρ,_,E,t,fun k d v H' h A r=>w.rt d v H' h.2 ⟨fun b o e n=>A.kp b o (A.k0 b o e n) n,A.pen,?_⟩⟩
 exact lU A h.1 r)
def dIf (c:DT) (t u:DS):DS:=fun P ρ=>c ρ fun b=>if b=true then t P ρ else u P ρ
theorem gn {c:Expr}{a b:List Stmt}{tc:DT} (hc:PDT X c tc) (ha:iu X a t) (hb:iu X b u):PDS X (.If c a b pos) (dIf tc t u):=PS.wk' (Bw hc ha hb) (by
 rintro Q σ H ⟨p,H0,own,ρ,P,E,t,w⟩
 refine⟨p,H0,own,ρ,_,E,t,fun b H' h A=>?_⟩
 cases b with
 | true=>exact aM ⟨p,H0,own,ρ,P,E.go A.kp A.pen,by simpa using h,w.go A.frs⟩
 | false=>exact aN ⟨p,H0,own,ρ,P,E.go A.kp A.pen,by simpa using h,w.go A.frs⟩)
def Nj (te:DE):DS:=fun P ρ=>te ρ fun _ _=>P.nx ρ
theorem qj (he:PD X e te) (hs:swapsWith e none pos.line X.env=pure false:=by rfl):PDS X (.Expr e pos) (Nj te):=PS.wk' (bV he hs) (by
 rintro Q σ H ⟨p,H0,own,ρ,P,E,t,w⟩
 exact⟨p,H0,own,ρ,_,E,t,fun k d v H' h A r=>w.nx own σ H' ρ (E.go A.kp A.pen) A.frs h⟩)
def Sl.region:Sl->Option Nat
 | .dw r _=>some r
 | .rw r _=>some r
 | .tw r _=>some r
 | .sp r _ _=>some r
 | _=>none
def jy (r:Nat) (ρ:List Sl) (i:Nat):Bool:=(ρ.set i .any).all fun s=>s.region != some r
def stK (rg:Option Nat) (ρ:List Sl) (i:Nat) (k:Kd) (d:D):Option Sl:=match k with
 | .imm=>some (.im d)
 | .new=>match rg with
  | some r=>if jy r ρ i=true then some (.dw r d) else none
  | none=>some (.sn d)
 | .reg r=>some (.dw r d)
 | .snw=>some (.sn d)
 | .shr=>some (.sh d)
 | _=>none
def Av (i:Nat) (rg:Option Nat) (te:DE):DS:=fun P ρ=>te ρ fun k d=>match stK rg ρ i (norm k d) d with
 | some s=>P.nx (ρ.set i s)
 | none=>False
section
variable {p:Pn}{H0 H H1:Hp}{own:Addr->Option Nat}{σ:L2.St}{ρ:List Sl}{i:Nat}
theorem EnvD.set {v:V}{s:Sl} (E:EnvD p H0 own σ H ρ) (hs:i<σ.length->jG p H0 own (σ.set i (some v)) H i s):EnvD p H0 own (σ.set i (some v)) H (ρ.set i s):=by
 refine⟨E.k0,E.pen,E.ow,fun j s' e=>?_,by simpa using E.len,E.gr⟩
 by_cases hj:j=i
 ·subst hj
  have hl:j<ρ.length:=by
   have:=(Î.mp e).1
   simpa using this
  rw [ą hl] at e
  cases e
  exact hs (by rw [← E.len]; exact hl)
 ·rw [Ŀ (Į hj)] at e
  have q:=E.slot j s' e
  have eq:(σ.set i (some v))[j]?=σ[j]?:=Ŀ (Į hj)
  cases s' <;> simp only [jG,eq] at q ⊢ <;> exact q
def cX (r:Nat) (H H1:Hp) (own:Addr->Option Nat):Addr->Option Nat:=fun a=>match H a,H1 a with
 | none,some _=>some r
 | _,_=>own a
theorem bD {r:Nat}{a:Addr}{o:HO} (h:H a=some o):cX r H H1 own a=own a:=by unfold cX; rw [h]
theorem g8 {r:Nat}{a:Addr}{o:HO} (h:H a=none) (h1:H1 a=some o):cX r H H1 own a=some r:=by unfold cX; rw [h,h1]
theorem EnvD.adopt (r:Nat) (E:EnvD p H0 own σ H ρ) (A:At p H0 own H H1):EnvD p H0 (cX r H H1 own) σ H1 ρ:=by
 have tp:=jx E.at A.kp
 refine⟨fun b o e n=>A.kp b o (E.k0 b o e n) n,A.pen,fun a q e=>?_,fun j s e=>?_,E.len,E.gr⟩
 ·cases h:H a with
  | some o =>
   rw [bD h] at e
   obtain⟨x,y,z⟩:=E.ow a q e
   refine⟨x,y,by rw [A.kp a o h y]; exact fun z=>nomatch z⟩
  | none =>
   cases h1:H1 a with
   | none =>
    have e':own a=some q:=by rw [← e]; unfold cX; rw [h,h1]
    exact absurd h (E.ow a q e').2.2
   | some o=>exact⟨E.at.h0 h,E.at.nfb h,fun z=>nomatch z⟩
 ·have q:=E.slot j s e
  cases s with
  | any=>trivial
  | im d=>exact let ⟨v,a,b⟩:=q; ⟨v,a,b.mono (fun _ o=>o) (fun _ _ o=>o.elim) tp⟩
  | sh d=>exact let ⟨v,a,b⟩:=q; ⟨v,a,b.dh (fun c o n h=>⟨⟨n.1,by rw [bD h]; exact n.2⟩,A.kp c o h n.1⟩) tp⟩
  | sn d=>exact let ⟨v,a,b⟩:=q; ⟨v,a,b.dh (fun c o n h=>⟨⟨n.1,n.2.1,by rw [bD h]; exact n.2.2⟩,A.kp c o h n.2.1⟩) tp⟩
  | dw r' d=>exact let ⟨v,a,b⟩:=q; ⟨v,a,b.dh (fun c o n h=>⟨by rw [bD h]; exact n,A.kp c o h (E.ow c r' n).2.1⟩) tp⟩
  | pen C=>exact q
  | rw r' L=>exact let ⟨st,as,a,b⟩:=q; ⟨st,as,a,b.mono (fun c o n h=>⟨by rw [bD h]; exact n,A.kp c o h (E.ow c r' n).2.1⟩) tp⟩
  | tw r' L=>exact let ⟨st,as,a,b⟩:=q; ⟨st,as,a,b.mono (fun c o n h=>⟨by rw [bD h]; exact n,A.kp c o h (E.ow c r' n).2.1⟩) tp⟩
  | scr v b=>exact q
  | sp r' b ds=>exact let ⟨l,vs,a,o,h,z⟩:=q; ⟨l,vs,a,by rw [bD h]; exact o,A.kp l _ h (E.ow l r' o).2.1,z.dh (fun c u n e=>⟨⟨n.1,n.2.1,by rw [bD e]; exact n.2.2⟩,A.kp c u e n.2.1⟩) tp⟩
theorem JN {r:Nat}{k:Kd}{v:V}{d:D} (h:k.le .new=true) (A:At p H0 own H H1) (x:Rp (okK p H0 own H k) H1 v d):Rp (fun a=>cX r H H1 own a=some r) H1 v d :=
 (lU A h x).dh (fun a o n e=>⟨g8 n e,e⟩) fun _ _ e=>e
theorem jU {r:Nat} (A:At p H0 own H H1):FrS p own H (cX r H H1 own) H1:=⟨fun b o h n e=>⟨A.kp b o h n,by rw [bD h]; exact e⟩,A.tups⟩
theorem EnvD.drop (E:EnvD p H0 own σ H ρ):EnvD p H0 own σ H (ρ.set i .any):=by
 refine⟨E.k0,E.pen,E.ow,fun j s' e=>?_,by simpa using E.len,E.gr⟩
 by_cases hj:j=i
 ·subst hj
  have hl:j<ρ.length:=by
   have:=(Î.mp e).1
   simpa using this
  rw [ą hl] at e
  cases e
  trivial
 ·rw [Ŀ (Į hj)] at e
  exact E.slot j s' e
def aQ (r:Nat) (own:Addr->Option Nat):Addr->Option Nat:=fun a=>if own a=some r then none else own a
theorem EnvD.clear {r:Nat} (E:EnvD p H0 own σ H ρ) (h:ρ.all (fun s=>s.region != some r)=true):EnvD p H0 (aQ r own) σ H ρ:=by
 refine⟨E.k0,E.pen,fun a q e=>?_,fun j s e=>?_,E.len,E.gr⟩
 ·unfold aQ at e
  split at e
  ·cases e
  ·exact E.ow a q e
 ·have q:=E.slot j s e
  have z:=ċ.mp h s (Ì e)
  have c0:∀ a,own a=none->aQ r own a=none:=fun a n=>by unfold aQ; rw [n]; simp
  cases s with
  | any=>trivial
  | im d=>exact q
  | sh d=>exact let ⟨v,a,b⟩:=q; ⟨v,a,b.mono (fun c n=>⟨n.1,c0 c n.2⟩) (fun _ _ _ e=>e) fun _ _ e=>e⟩
  | sn d=>exact let ⟨v,a,b⟩:=q; ⟨v,a,b.mono (fun c n=>⟨n.1,n.2.1,c0 c n.2.2⟩) (fun _ _ _ e=>e) fun _ _ e=>e⟩
  | dw r' d =>
   have hne:r'≠r:=by simpa [Sl.region] using z
   exact let ⟨v,a,b⟩:=q; ⟨v,a,b.mono (fun c n=>by unfold aQ; rw [n,if_neg (by simpa using hne)]) (fun _ _ _ e=>e) fun _ _ e=>e⟩
  | pen C=>exact q
  | rw r' L =>
   have hne:r'≠r:=by simpa [Sl.region] using z
   exact let ⟨st,as,a,b⟩:=q; ⟨st,as,a,b.mono (fun c o n e=>⟨by unfold aQ; rw [n,if_neg (by simpa using hne)],e⟩) fun _ _ e=>e⟩
  | tw r' L =>
   have hne:r'≠r:=by simpa [Sl.region] using z
   exact let ⟨st,as,a,b⟩:=q; ⟨st,as,a,b.mono (fun c o n e=>⟨by unfold aQ; rw [n,if_neg (by simpa using hne)],e⟩) fun _ _ e=>e⟩
  | scr v b=>exact q
  | sp r' b ds =>
   have hne:r'≠r:=by simpa [Sl.region] using z
   exact let ⟨l,vs,a,o,h,y⟩:=q; ⟨l,vs,a,by unfold aQ; rw [o,if_neg (by simpa using hne)],h,y.mono (fun c n=>⟨n.1,n.2.1,c0 c n.2.2⟩) (fun _ _ _ e=>e) fun _ _ e=>e⟩
theorem fj {r:Nat}:FrS p own H (aQ r own) H:=⟨fun b o h n e=>⟨h,by unfold aQ; rw [e]; simp⟩,fun _ _ e=>e⟩
end
theorem cU {i:Nat} (rg:Option Nat) (h:PS X st (qu (bI te) (iV i))):PDS X st (Av i rg te):=PS.wk' h (by
 rintro Q σ H ⟨p,H0,own,ρ,P,E,t,w⟩
 refine⟨p,H0,own,ρ,_,E,t,fun k d v H1 h A r=>?_⟩
 have r:=aV r
 generalize norm k d=k' at h r
 show Q.nx (σ.set i (some v)) H1
 have E1:=E.go A.kp A.pen
 have fin:∀ s,jG p H0 own (σ.set i (some v)) H1 i s\/¬ i<σ.length->P.nx (ρ.set i s)->Q.nx (σ.set i (some v)) H1:=fun s hs hn =>
  w.nx own _ H1 _ (E1.set fun hl=>hs.elim id fun z=>absurd hl z) A.frs hn
 have here:i<σ.length->(σ.set i (some v))[i]?=some (some v):=fun hl=>ą hl
 by_cases hl:i<σ.length
 ·cases k' with
  | imm=>exact fin (.im d) (.inl ⟨v,here hl,r⟩) h
  | new =>
   cases rg with
   | none=>exact fin (.sn d) (.inl ⟨v,here hl,lU A (k:=.snw) rfl r⟩) h
   | some q =>
    simp only [stK] at h
    by_cases hf:jy q ρ i=true
    ·rw [if_pos hf] at h
     have E2:EnvD p H0 (aQ q own) σ H (ρ.set i .any):=(E.drop (i:=i)).clear hf
     have A2:At p H0 (aQ q own) H H1:=⟨A.k0,A.kp,A.penb,A.pen,E2.ow⟩
     have E3:=E2.adopt q A2
     have r2:Rp (okK p H0 (aQ q own) H .new) H1 v d:=r
     have E4:EnvD p H0 (cX q H H1 (aQ q own)) (σ.set i (some v)) H1 ((ρ.set i .any).set i (.dw q d)):=E3.set fun _=>⟨v,here hl,JN (k:=.new) rfl A2 r2⟩
     rw [List.set_set] at E4
     exact w.nx _ _ H1 _ E4 (fj.trans (jU A2)) h
    ·rw [if_neg hf] at h
     exact h.elim
  | reg q=>exact fin (.dw q d) (.inl ⟨v,here hl,r⟩) h
  | n0=>exact h.elim
  | snw=>exact fin (.sn d) (.inl ⟨v,here hl,r⟩) h
  | shr=>exact fin (.sh d) (.inl ⟨v,here hl,r⟩) h
  | wk=>exact h.elim
 ·cases hs:stK rg ρ i k' d with
  | none=>rw [hs] at h; exact h.elim
  | some s=>rw [hs] at h; exact fin s (.inr hl) h)
end
variable [Gr]
section
variable {ok ok':Addr->Prop}{H:Hp}
mutual
theorem Rp.inj:∀ {v:V}{d d':D},Rp ok H v d->Rp ok' H v d'->d=d'
 | _,_,_,.non,.non=>rfl
 | _,_,_,.bl b,.bl _=>rfl
 | _,_,_,.int i,.int _=>rfl
 | _,_,_,.str x,.str _=>rfl
 | _,_,_,.lst o h r,.lst o' h' r'=>by
  rw [h] at h'; cases h'
  rw [Rps.inj r r']
 | _,_,_,.lst o h r,.tup h' r'=>by rw [h] at h'; cases h'
 | _,_,_,.lst o h r,.dct o' h' r'=>by rw [h] at h'; cases h'
 | _,_,_,.tup h r,.lst o' h' r'=>by rw [h] at h'; cases h'
 | _,_,_,.tup h r,.tup h' r'=>by
  rw [h] at h'; cases h'
  rw [Rps.inj r r']
 | _,_,_,.tup h r,.dct o' h' r'=>by rw [h] at h'; cases h'
 | _,_,_,.dct o h r,.lst o' h' r'=>by rw [h] at h'; cases h'
 | _,_,_,.dct o h r,.tup h' r'=>by rw [h] at h'; cases h'
 | _,_,_,.dct o h r,.dct o' h' r'=>by
  rw [h] at h'; cases h'
  rw [Rkv.inj r r']
theorem Rps.inj:∀ {v:List V}{d d':List D},Rps ok H v d->Rps ok' H v d'->d=d'
 | _,_,_,.nil,.nil=>rfl
 | _,_,_,.cons h t,.cons h' t'=>by rw [Rp.inj h h',Rps.inj t t']
theorem Rkv.inj:∀ {v:List (Key×V)}{d d':List (D×D)},Rkv ok H v d->Rkv ok' H v d'->d=d'
 | _,_,_,.nil,.nil=>rfl
 | _,_,_,.cons h t,.cons h' t'=>by rw [Rp.inj h h',Rkv.inj t t']
end
variable {l:Addr}{T:D}
mutual
theorem Rp.avoid (h0:Rp ok' H (.ref l) T):∀ {v:V}{d:D},Rp ok H v d->sizeOf d<sizeOf T->Rp (fun a=>ok a/\a≠l) H v d
 | _,_,.non,_=>.non
 | _,_,.bl b,_=>.bl b
 | _,_,.int i,_=>.int i
 | _,_,.str x,_=>.str x
 | _,_,.lst (ds:=ds) o h r,s=>.lst ⟨o,fun z=>by
   subst z
   have e:=Rp.inj (Rp.lst o h r) h0
   rw [e] at s
   exact absurd s (ă _)⟩ h (Rps.avoid h0 r (by simp only [PyData.list.sizeOf_spec] at s; omega))
 | _,_,.tup (ds:=ds) h r,s=>.tup h (Rps.avoid h0 r (by simp only [PyData.tuple.sizeOf_spec] at s; omega))
 | _,_,.dct (ds:=ds) o h r,s=>.dct ⟨o,fun z=>by
   subst z
   have e:=Rp.inj (Rp.dct o h r) h0
   rw [e] at s
   exact absurd s (ă _)⟩ h (Rkv.avoid h0 r (by simp only [PyData.dict.sizeOf_spec] at s; omega))
theorem Rps.avoid (h0:Rp ok' H (.ref l) T):∀ {v:List V}{d:List D},Rps ok H v d->sizeOf d<sizeOf T->Rps (fun a=>ok a/\a≠l) H v d
 | _,_,.nil,_=>.nil
 | _,_,.cons h t,s=>.cons (Rp.avoid h0 h (by simp only [Ŷ] at s; omega)) (Rps.avoid h0 t (by simp only [Ŷ] at s; omega))
theorem Rkv.avoid (h0:Rp ok' H (.ref l) T):∀ {v:List (Key×V)}{d:List (D×D)},Rkv ok H v d->sizeOf d<sizeOf T->Rkv (fun a=>ok a/\a≠l) H v d
 | _,_,.nil,_=>.nil
 | _,_,.cons h t,s=>.cons (Rp.avoid h0 h (by simp only [Ŷ,Prod.mk.sizeOf_spec] at s; omega)) (Rkv.avoid h0 t (by simp only [Ŷ] at s; omega))
end
end
def forget (r:Nat) (ρ:List Sl):List Sl:=ρ.map fun s=>if s.region=some r then .any else s
section
variable {p:Pn}{H0 H H1:Hp}{own:Addr->Option Nat}{σ:L2.St}{ρ:List Sl}{i:Nat}
theorem EnvD.write {r:Nat}{l:Addr}{u o':HO} (E:EnvD p H0 own σ H ρ) (hl:own l=some r) (ho:H l=some u) (hu:∀ xs,u≠.tup xs) (hc:¬ Fxd u:=by rintro ⟨_,_,z⟩; cases z):EnvD p H0 own σ (upd H l o') (forget r ρ):=by
 have h0:=E.ow l r hl
 have tp:∀ a xs,H a=some (.tup xs)->upd H l o' a=some (.tup xs):=fun a xs e=>by
  rw [aq]; exact e
  intro z; subst z; rw [ho] at e; exact hu xs (æ e)
 refine⟨fun b o e n=>?_,p.mono H _ E.pen fun b o f e=>?_,fun a q e=>?_,fun j s e=>?_,by unfold forget; rw [Á]; exact E.len,E.gr⟩
 ·rw [aq]; exact E.k0 b o e n
  intro z; subst z; rw [h0.1] at e; cases e
 ·rw [aq]; exact e
  intro z; subst z; exact f.elim h0.2.1 fun c=>hc (by rw [ho] at e; cases e; exact c)
 ·obtain⟨x,y,z⟩:=E.ow a q e
  refine⟨x,y,?_⟩
  by_cases hh:a=l
  ·subst hh; rw [au]; exact fun z=>nomatch z
  ·rw [aq hh]; exact z
 ·unfold forget at e
  rw [á] at e
  cases hr:ρ[j]? with
  | none=>rw [hr] at e; cases e
  | some s0 =>
   rw [hr] at e
   have e:=æ e
   have q:=E.slot j s0 hr
   have ne:∀ c,own c≠some r->c≠l:=fun c n z=>by subst z; exact n hl
   cases s0 with
   | any=>simp only [Sl.region] at e; subst e; trivial
   | im d =>
    have e:Sl.im d=s:=e
    subst e
    exact let ⟨v,a,b⟩:=q; ⟨v,a,b.mono (fun _ o=>o) (fun _ _ o=>o.elim) tp⟩
   | sh d =>
    have e:Sl.sh d=s:=e
    subst e
    exact let ⟨v,a,b⟩:=q; ⟨v,a,b.mono (fun _ o=>o) (fun c o n e=>by rw [aq (ne c (by rw [n.2]; exact fun z=>nomatch z))]; exact e) tp⟩
   | sn d =>
    have e:Sl.sn d=s:=e
    subst e
    exact let ⟨v,a,b⟩:=q; ⟨v,a,b.mono (fun _ o=>o) (fun c o n e=>by rw [aq (ne c (by rw [n.2.2]; exact fun z=>nomatch z))]; exact e) tp⟩
   | dw r' d =>
    by_cases hrr:r'=r
    ·subst hrr
     have e:(if (some r':Option Nat)=some r' then Sl.any else Sl.dw r' d)=s:=e
     rw [if_pos rfl] at e
     subst e
     trivial
    ·have e:(if (some r':Option Nat)=some r then Sl.any else Sl.dw r' d)=s:=e
     rw [if_neg (by simpa using hrr)] at e
     subst e
     exact let ⟨v,a,b⟩:=q; ⟨v,a,b.mono (fun _ o=>o) (fun c o n e=>by rw [aq (ne c (by rw [n]; simpa using hrr))]; exact e) tp⟩
   | pen C =>
    have e:Sl.pen C=s:=e
    subst e
    exact q
   | scr v b =>
    have e:Sl.scr v b=s:=e
    subst e
    exact q
   | sp r' b ds =>
    by_cases hrr:r'=r
    ·subst hrr
     have e:(if (some r':Option Nat)=some r' then Sl.any else Sl.sp r' b ds)=s:=e
     rw [if_pos rfl] at e
     subst e
     trivial
    ·have e:(if (some r':Option Nat)=some r then Sl.any else Sl.sp r' b ds)=s:=e
     rw [if_neg (by simpa using hrr)] at e
     subst e
     exact let ⟨l',vs,a,o,h,y⟩:=q; ⟨l',vs,a,o,by rw [aq (ne l' (by rw [o]; simpa using hrr))]; exact h,y.mono (fun _ o=>o) (fun c o n e=>by rw [aq (ne c (by rw [n.2.2]; exact fun z=>nomatch z))]; exact e) tp⟩
   | rw r' L =>
    by_cases hrr:r'=r
    ·subst hrr
     have e:(if (some r':Option Nat)=some r' then Sl.any else Sl.rw r' L)=s:=e
     rw [if_pos rfl] at e
     subst e
     trivial
    ·have e:(if (some r':Option Nat)=some r then Sl.any else Sl.rw r' L)=s:=e
     rw [if_neg (by simpa using hrr)] at e
     subst e
     exact let ⟨st,as,a,b⟩:=q; ⟨st,as,a,b.mono (fun c o n e=>⟨n,by rw [aq (ne c (by rw [n]; simpa using hrr))]; exact e⟩) tp⟩
   | tw r' L =>
    by_cases hrr:r'=r
    ·subst hrr
     have e:(if (some r':Option Nat)=some r' then Sl.any else Sl.tw r' L)=s:=e
     rw [if_pos rfl] at e
     subst e
     trivial
    ·have e:(if (some r':Option Nat)=some r then Sl.any else Sl.tw r' L)=s:=e
     rw [if_neg (by simpa using hrr)] at e
     subst e
     exact let ⟨st,as,a,b⟩:=q; ⟨st,as,a,b.mono (fun c o n e=>⟨n,by rw [aq (ne c (by rw [n]; simpa using hrr))]; exact e⟩) tp⟩
theorem nA {r:Nat}{l:Addr}{u o':HO} (hl:own l=some r) (ho:H l=some u) (hu:∀ xs,u≠.tup xs):FrS p own H own (upd H l o'):=by
 refine⟨fun b o h n e=>⟨?_,e⟩,fun a xs e=>?_⟩
 ·rw [aq]; exact h
  intro z; subst z; rw [hl] at e; cases e
 ·rw [aq]; exact e
  intro z; subst z; rw [ho] at e; exact hu xs (æ e)
theorem EnvD.put {v:V}{s:Sl} (E:EnvD p H0 own σ H ρ) (hs:jG p H0 own σ H i s):EnvD p H0 own σ H (ρ.set i s):=by
 refine⟨E.k0,E.pen,E.ow,fun j s' e=>?_,by simpa using E.len,E.gr⟩
 by_cases hj:j=i
 ·subst hj
  have hl:j<ρ.length:=by
   have:=(Î.mp e).1
   simpa using this
  rw [ą hl] at e
  cases e
  exact hs
 ·rw [Ŀ (Į hj)] at e
  exact E.slot j s' e
theorem EnvD.uQ {r:Nat}{l:Addr}{vs vs':List V}{ds ds':List D} (E:EnvD p H0 own σ H ρ) (A:At p H0 own H H1) (hv:σ[i]?=some (some (.ref l))) (hl:own l=some r) (ho:H l=some (.lst vs)) (rs:Rps (fun a=>own a=some r) H vs ds)
  (hs:∀ H2,(∀ {w:V}{d:D},Rp (fun a=>own a=some r) H w d->sizeOf d<sizeOf (ē ds)->Rp (fun a=>cX r H H1 own a=some r) H2 w d)->(∀ {w:V}{d:D},Rp (okK p H0 own H .new) H1 w d->Rp (fun a=>cX r H H1 own a=some r) H2 w d)->Rps (fun a=>cX r H H1 own a=some r) H2 vs' ds') :
  EnvD p H0 (cX r H H1 own) σ (upd H1 l (.lst vs')) ((forget r ρ).set i (.dw r (.list ds')))/\FrS p own H (cX r H H1 own) (upd H1 l (.lst vs')):=by
 have h1:H1 l=some (.lst vs):=A.kp l _ ho (E.ow l r hl).2.1
 have hl':cX r H H1 own l=some r:=by rw [bD ho]; exact hl
 have E1:=(E.adopt r A).write (o':=.lst vs') hl' h1 (fun xs z=>nomatch z)
 have tp:∀ a xs,H1 a=some (.tup xs)->upd H1 l (.lst vs') a=some (.tup xs):=fun a xs e=>by
  rw [aq]; exact e
  intro z; subst z; rw [h1] at e; cases e
 refine⟨E1.put (v:=.ref l) ⟨.ref l,hv,.lst hl' au (hs _ ?_ ?_)⟩,(jU A).trans (nA hl' h1 fun xs z=>nomatch z)⟩
 ·intro w d x sz
  have x1:=Rp.avoid (Rp.lst (ok:=fun a=>own a=some r) hl ho rs) x sz
  exact x1.dh (fun a o n e=>⟨by rw [bD e]; exact n.1,by rw [aq n.2]; exact A.kp a o e (E.ow a r n.1).2.1⟩) fun a xs e=>tp a xs (jx E.at A.kp a xs e)
 ·intro w d x
  exact x.dh (fun a o n e=>⟨g8 n e,by rw [aq (fun z=>by subst z; rw [ho] at n; cases n)]; exact e⟩) tp
end
section
variable {X:Cx}{pos:Pos}{st:Stmt}{e:Expr}{te:DE}{i:Nat}{ta:DA}
theorem nH {d:D}{ds:List D} (h:d∈ds):sizeOf d<sizeOf (ē ds):=by
 have:=List.sizeOf_lt_of_mem h
 simp only [PyData.list.sizeOf_spec]
 omega
theorem pP {ok ok':Addr->Prop}{H H2:Hp}{T:D} (f:∀ {w:V}{d:D},Rp ok H w d->sizeOf d<sizeOf T->Rp ok' H2 w d):∀ {vs:List V}{ds:List D},Rps ok H vs ds->(∀ d∈ds,sizeOf d<sizeOf T)->Rps ok' H2 vs ds
 | _,_,.nil,_=>.nil
 | _,_,.cons h t,s=>.cons (f h (s _ Æ)) (pP f t fun d hd=>s d (Ã _ hd))
def QF (i:Nat) (te:DE):DS:=fun P ρ=>match ρ[i]? with
 | some (.dw r (.list ds))=>te ρ fun k d=>(norm k d).le .new=true/\ds.length<1000/\P.nx ((forget r ρ).set i (.dw r (.list (ds++[d]))))
 | _=>False
theorem cG (h:PS X st (qp (tBM X.K "list" pQ (iy i) (gW (aG te cu))))):PDS X st (QF i te):=PS.wk' h (by
 rintro Q σ H ⟨p,H0,own,ρ,P,E,t,w⟩
 unfold QF at t
 split at t
 ·rename_i r ds hr
  obtain⟨v,hv,x⟩:=E.slot i _ hr
  obtain⟨l,vs,rfl,hl,ho,rs⟩:=x.cj
  refine⟨.ref l,hv,.inl ⟨rfl,vs,SqL.of ho⟩,p,H0,own,ρ,fun ks=>∃ k d,ks=[(k,d)]/\(norm k d).le .new=true/\ds.length<1000/\P.nx ((forget r ρ).set i (.dw r (.list (ds++[d])))),E,?_,?_⟩
  ·show te ρ fun k d=>∃ k' d',[(k,d)]=[(k',d')]/\_
   have e:(fun k d=>∃ k' d',[((k,d):Kd×D)]=[(k',d')]/\(norm k' d').le .new=true/\ds.length<1000/\P.nx ((forget r ρ).set i (.dw r (.list (ds++[d'])))))=fun k d=>(norm k d).le .new=true/\ds.length<1000/\P.nx ((forget r ρ).set i (.dw r (.list (ds++[d])))):=by
    funext k d
    apply propext
    constructor
    ·rintro ⟨k',d',e,h⟩
     cases e
     exact h
    ·exact fun h=>⟨k,d,rfl,h⟩
   rw [e]
   exact t
  ·rintro ks ws H1 ⟨k,d,rfl,hk,hlen,hn⟩ A rk
   obtain⟨y,rfl,ry⟩:=fO rk
   have ry:=lU A hk (aV ry)
   have h1:H1 l=some (.lst vs):=A.kp l _ ho (E.ow l r hl).2.1
   have h24:=ê
   have hln:=rs.length
   refine⟨l,vs,y,rfl,rfl,h1,by omega,?_⟩
   obtain⟨E2,F2⟩:=E.uQ (vs':=vs++[y]) (ds':=ds++[d]) A hv hl ho rs fun H2 f g=>(pP f rs fun d hd=>nH hd).snoc (g ry)
   exact w.nx _ σ _ _ E2 F2 hn
 ·exact t.elim)
end
variable [Gr]
abbrev DG:=Kd->D->List Sl->(List Sl->Prop)->Prop
abbrev DGs:=Kd->List D->List Sl->(List Sl->Prop)->Prop
def Bk (k:Kd) (d:D):Sl:=match k with
 | .imm=>.im d
 | .new=>.sn d
 | .reg r=>.dw r d
 | .snw=>.sn d
 | .shr=>.sh d
 | _=>.any
def okB (p:Pn) (H0:Hp) (own:Addr->Option Nat):Kd->Addr->Prop
 | .imm=>fun _=>False
 | .new=>fun a=>H0 a=none/\¬ p.fp a/\own a=none
 | .reg r=>fun a=>own a=some r
 | .snw=>fun a=>H0 a=none/\¬ p.fp a/\own a=none
 | .shr=>fun a=>¬ p.fp a/\own a=none
 | .n0=>fun _=>True
 | .wk=>fun _=>True
def Ce (g:DG):TG:=fun v σ H Q=>∃ p H0 own ρ k d P,EnvD p H0 own σ H ρ/\Rp (okB p H0 own k) H v d/\g k d ρ P/\∀ σ' ρ',EnvD p H0 own σ' H ρ'->P ρ'->Q σ' H
def oJ (g:DGs):TGs:=fun vs σ H Q=>∃ p H0 own ρ k ds P,EnvD p H0 own σ H ρ/\Rps (okB p H0 own k) H vs ds/\g k ds ρ P/\∀ σ' ρ',EnvD p H0 own σ' H ρ'->P ρ'->Q σ' H
abbrev PDG (X:Cx) (e:Expr) (g:DG):Prop:=PG X e (Ce g)
theorem PG.wk {X:Cx}{e:Expr}{t t':TG} (h:PG X e t) (w:∀ v σ H Q,t' v σ H Q->t v σ H Q):PG X e t':=fun pins s σ H v u Q I r q=>h pins s σ H v u Q I r (w v σ H Q q)
theorem PGs.wk {X:Cx}{e:List Expr}{t t':TGs} (h:PGs X e t) (w:∀ v σ H Q,t' v σ H Q->t v σ H Q):PGs X e t':=fun pins s σ H v u Q I r q=>h pins s σ H v u Q I r (w v σ H Q q)
theorem gK {p:Pn}{H0 H:Hp}{own:Addr->Option Nat}{k:Kd}{v:V}{d:D} (r:Rp (okB p H0 own k) H v d):Rp (okB p H0 own (norm k d)) H v d:=by
 by_cases h:iY d=true
 ·rw [dF h]; exact r.imm h
 ·rw [mG h]; exact r
section
variable {X:Cx}{pos:Pos}{e:Expr}{es:List Expr}
def gNm (i:Nat):DG:=fun k d ρ P=>P (ρ.set i (Bk (norm k d) d))
theorem Gq {p:Pn}{H0 H:Hp}{own:Addr->Option Nat}{σ:L2.St}{i:Nat}{k:Kd}{v:V}{d:D} (r:Rp (okB p H0 own k) H v d) (h:σ[i]?=some (some v)):jG p H0 own σ H i (Bk k d):=by
 cases k with
 | imm=>exact⟨v,h,r⟩
 | new=>exact⟨v,h,r⟩
 | reg q=>exact⟨v,h,r⟩
 | n0=>trivial
 | snw=>exact⟨v,h,r⟩
 | shr=>exact⟨v,h,r⟩
 | wk=>trivial
theorem aU {i:Nat}{x:Str} (h:PG X (.Name x pos) (iV i)):PDG X (.Name x pos) (gNm i):=PG.wk h (by
 rintro v σ H Q ⟨p,H0,own,ρ,k,d,P,E,r,t,q⟩
 exact q _ _ (E.set fun hl=>Gq (gK r) (ą hl)) t)
def Iz:DGs:=fun _ ds ρ P=>match ds with
 | []=>P ρ
 | _=>False
def vP (g:DG) (gs:DGs):DGs:=fun k ds ρ P=>match ds with
 | d::r=>g (norm k d) d ρ fun ρ'=>gs k r ρ' P
 | []=>False
theorem dN:PGs X [] (oJ Iz):=PGs.wk Km (by
 rintro v σ H Q ⟨p,H0,own,ρ,k,ds,P,E,r,t,q⟩
 cases ds with
 | nil=>cases r; exact⟨rfl,q _ _ E t⟩
 | cons d ds=>exact t.elim)
theorem jA {g:DG}{gs:DGs} (h1:PDG X e g) (h2:PGs X es (oJ gs)) (hs:(assignEach (e::es) X.env).map (·.2)=assign e X.env::(assignEach es X.env).map (·.2):=by rfl):PGs X (e::es) (oJ (vP g gs)):=PGs.wk (G3 h1 h2 hs) (by
 rintro v σ H Q ⟨p,H0,own,ρ,k,ds,P,E,r,t,q⟩
 cases r with
 | nil=>exact t.elim
 | cons r rs =>
  exact⟨_,_,rfl,p,H0,own,ρ,_,_,_,E,gK r,t,fun σ' ρ' E' t'=>⟨p,H0,own,ρ',k,_,P,E',rs,t',q⟩⟩)
def gTp (n:Nat) (gs:DGs):DG:=fun k d ρ P=>match d with
 | .tuple ds=>ds.length=n/\gs k ds ρ P
 | _=>False
theorem gJ {gs:DGs}{k n:Nat} (hc:X.calm=true) (h:PGs X es (oJ gs)) (hn:(assignEach es X.env).length=n:=by rfl) (hst:(assignEach es X.env).findIdx? (·.1)=none:=by rfl):PDG X (.Tuple es k pos) (gTp n gs):=PG.wk (Oo hc h hn hst) (by
 rintro v σ H Q ⟨p,H0,own,ρ,k,d,P,E,r,t,q⟩
 cases d with
 | tuple ds =>
  obtain⟨a,vs,rfl,ha,rs⟩:=r.fC
  exact⟨a,vs,rfl,SqT.of ha,by rw [rs.length]; exact t.1,p,H0,own,ρ,k,ds,P,E,rs,t.2,q⟩
 | _=>exact t.elim)
end
structure Wlk (Ok:Hp->Prop) (J:It) (ds:List D) (ok:Addr->Prop):Prop where
 go:∀ i H,Ok H->i<ds.length->J.go i H
 stop:∀ H,Ok H->J.stop ds.length H
 yld:∀ i H x H',Ok H->J.yld i H x H'->Same H H'/\∀ d,ds[i]?=some d->Rp ok H' x d
 stab:∀ H H',Ok H->(∀ b o,ok b->H b=some o->H' b=some o)->(∀ a xs,H a=some (.tup xs)->H' a=some (.tup xs))->Ok H'
abbrev DI:=List Sl->(Kd->List D->Prop)->Prop
def okA (p:Pn) (H0:Hp) (own:Addr->Option Nat) (Hb:Hp) (k:Kd) (H:Hp) (a:Addr):Prop:=okK p H0 own Hb k a/\∃ o,H a=some o
def Im (t:DI):TI:=fun σ H R=>∃ p H0 own ρ P,EnvD p H0 own σ H ρ/\t ρ P/\∀ k ds J H1 Ok,P k ds->At p H0 own H H1->Wlk Ok J ds (okA p H0 own H k H1)->Ok H1->R J H1
abbrev PDI (X:Cx) (tg e:Expr) (t:DI):Prop:=PI X tg e (Im t)
theorem PI.wk {X:Cx}{tg e:Expr}{t t':TI} (h:PI X tg e t) (w:∀ σ H R,t' σ H R->t σ H R):PI X tg e t':=fun pins s σ H R I q=>h pins s σ H R I (w σ H R q)
section
variable {X:Cx}{tg l:Expr}{tl:DE}{pos:Pos}{ta:DA}
theorem FT {K:Ú}{ok:Addr->Prop}{a:Addr}{ds:List D}:Wlk (fun H=>Rp ok H (.ref a) (.list ds)) (Itl K a) ds ok where
 go:=fun i H r hi=>by
  obtain⟨b,vs,e,o,h,rs⟩:=r.cj
  cases e
  have:i<vs.length:=by rw [rs.length]; exact hi
  exact⟨vs,vs[i],SqL.of h,by simp [this]⟩
 stop:=fun H r=>by
  obtain⟨b,vs,e,o,h,rs⟩:=r.cj
  cases e
  exact⟨vs,SqL.of h,by rw [rs.length]; exact Í _⟩
 yld:=fun i H x H' r y=>by
  obtain⟨rfl,y⟩:=y
  obtain⟨b,vs,e,o,h,rs⟩:=r.cj
  cases e
  refine⟨Same.refl _,fun d hd=>?_⟩
  obtain⟨v,hv,rv⟩:=rs.getD hd
  have:=y vs (SqL.of h)
  rw [hv] at this
  cases this
  exact rv
 stab:=fun H H' r f t=>r.dh (fun a o n e=>⟨n,f a o n e⟩) t
theorem FP {K:Ú}{ok:Addr->Prop}{a:Addr}{ds:List D}:Wlk (fun H=>Rp ok H (.ref a) (.tuple ds)) (Itt K a) ds ok where
 go:=fun i H r hi=>by
  obtain⟨b,vs,e,h,rs⟩:=r.fC
  cases e
  have:i<vs.length:=by rw [rs.length]; exact hi
  exact⟨vs,vs[i],SqT.of h,by simp [this]⟩
 stop:=fun H r=>by
  obtain⟨b,vs,e,h,rs⟩:=r.fC
  cases e
  exact⟨vs,SqT.of h,by rw [rs.length]; exact Í _⟩
 yld:=fun i H x H' r y=>by
  obtain⟨rfl,y⟩:=y
  obtain⟨b,vs,e,h,rs⟩:=r.fC
  cases e
  refine⟨Same.refl _,fun d hd=>?_⟩
  obtain⟨v,hv,rv⟩:=rs.getD hd
  have:=y vs (SqT.of h)
  rw [hv] at this
  cases this
  exact rv
 stab:=fun H H' r f t=>r.dh (fun a o n e=>⟨n,f a o n e⟩) t
theorem wL {ok:Addr->Prop}{lo:Int}{n:Nat}:Wlk (fun _=>True) (Itr lo n) ((ä n).map fun i=>Â (lo+((i:Nat):Int))) ok where
 go:=fun i H r hi=>by
  have h:i<n:=by simpa using hi
  exact h
 stop:=fun H r=>by show n<=_; simp
 yld:=fun i H x H' r y=>by
  obtain⟨rfl,rfl⟩:=y
  refine⟨Same.refl _,fun d hd=>?_⟩
  rw [á] at hd
  cases h:(ä n)[i]? with
  | none=>rw [h] at hd; cases hd
  | some j =>
   rw [h] at hd
   have e:=æ hd
   have hj:j=i:=by
    have:=Î.mp h
    obtain⟨h1,h2⟩:=this
    simpa using h2.symm
   subst e hj
   exact .int _
 stab:=fun _ _ _ _ _=>trivial
theorem rpA {p:Pn}{H0 Hb H:Hp}{own:Addr->Option Nat}{k:Kd}{v:V}{d:D} (r:Rp (okK p H0 own Hb k) H v d):Rp (okA p H0 own Hb k H) H v d:=r.dh (fun a o n e=>⟨⟨n,o,e⟩,e⟩) fun _ _ e=>e
def iSq (tl:DE):DI:=fun ρ P=>tl ρ fun k d=>match d with
 | .list ds=>P k ds
 | .tuple ds=>P k ds
 | _=>False
theorem dM (hl:PD X l tl):PDI X tg l (iSq tl):=PI.wk (Ol hl) (by
 rintro σ H R ⟨p,H0,own,ρ,P,E,t,q⟩
 refine⟨p,H0,own,ρ,_,E,t,fun k d v H1 h A r=>?_⟩
 cases d with
 | list ds =>
  obtain⟨a,vs,rfl,o,ha,rs⟩:=r.cj
  exact⟨a,rfl,.inl ⟨⟨vs,SqL.of ha⟩,q k ds _ H1 _ h A FT (rpA r)⟩⟩
 | tuple ds =>
  obtain⟨a,vs,rfl,ha,rs⟩:=r.fC
  exact⟨a,rfl,.inr ⟨⟨vs,SqT.of ha⟩,q k ds _ H1 _ h A FP (rpA r)⟩⟩
 | _=>exact h.elim)
def tW (lo:Int) (n:Nat):List D:=(ä n).map fun i=>Â (lo+((i:Nat):Int))
def iR1 (ta:DA):DI:=fun ρ P=>ta ρ fun ks=>match ks with
 | [(_,.int j)]=>(-(2 ^ 62)<=j/\j<2 ^ 62)/\P .imm (tW 0 j.toNat)
 | _=>False
theorem bC {a:Expr}{ps:Pos} (hm:X.mg "range"=none) (ha:PDA X [a] ta) (hg:Gl X "range":=by rfl) (hs:starEach [a] X.env=[(false,eval a X.env)]:=by rfl):PDI X tg (.Call (.Name "range" ps) [a] [] pos) (iR1 ta):=PI.wk (Dv hg hm ha hs) (by
 rintro σ H R ⟨p,H0,own,ρ,P,E,t,q⟩
 refine⟨p,H0,own,ρ,_,E,t,fun ks vs H1 h A r=>?_⟩
 split at h
 ·rename_i k j
  obtain⟨v,rfl,r'⟩:=fO r
  exact⟨j,by rw [r'.int'],h.1.1,h.1.2,q _ _ _ H1 _ h.2 A wL trivial⟩
 ·exact h.elim)
def iR2 (ta:DA):DI:=fun ρ P=>ta ρ fun ks=>match ks with
 | [(_,.int i),(_,.int j)]=>(-(2 ^ 62)<=i/\i<2 ^ 62/\-(2 ^ 62)<=j/\j<2 ^ 62)/\P .imm (tW i (j - i).toNat)
 | _=>False
theorem Ez {a b:Expr}{ps:Pos} (hm:X.mg "range"=none) (ha:PDA X [a,b] ta) (hg:Gl X "range":=by rfl) (hs:starEach [a,b] X.env=[(false,eval a X.env),(false,eval b X.env)]:=by rfl) (hs2:starEach [b] X.env=[(false,eval b X.env)]:=by rfl):PDI X tg (.Call (.Name "range" ps) [a,b] [] pos) (iR2 ta):=PI.wk (Du hg hm ha hs hs2) (by
 rintro σ H R ⟨p,H0,own,ρ,P,E,t,q⟩
 refine⟨p,H0,own,ρ,_,E,t,fun ks vs H1 h A r=>?_⟩
 split at h
 ·rename_i k i k' j
  obtain⟨v,w,rfl,r',r2⟩:=Gz r
  exact⟨i,j,by rw [r'.int',r2.int'],h.1,q _ _ _ H1 _ h.2 A wL trivial⟩
 ·exact h.elim)
end
variable [Gr]
def elK:Kd->Kd
 | .new=>.snw
 | k=>k
section
variable {X:Cx}{tg iter:Expr}{pos:Pos}{body:List Stmt}{ti:DI}{g:DG}{tb:DS}
def Tv (ti:DI) (g:DG) (tb:DS):DS:=fun P ρ=>ti ρ fun k ds=>k.le .shr=true/\∃ Iv:Nat->List Sl->Prop,Iv 0 ρ /\
 (∀ i d ρ',ds[i]?=some d->Iv i ρ'->g (norm (elK k) d) d ρ' fun ρ2=>tb { nx:=Iv (i+1),ct:=Iv (i+1),bk:=P.nx,rt:=P.rt } ρ2)/\∀ ρ',Iv ds.length ρ'->P.nx ρ'
theorem Sg {p:Pn}{H0 Hb H1 H':Hp}{own own':Addr->Option Nat}{k:Kd} (hk:k.le .shr=true) (A:At p H0 own Hb H1) (F:FrS p own H1 own' H') {v:V}{d:D}{H2:Hp} (r:Rp (okA p H0 own Hb k H1) H2 v d):Rp (okB p H0 own' (elK k)) H2 v d:=by
 refine r.mono (fun a n=>?_) (fun _ _ _ e=>e) fun _ _ e=>e
 obtain⟨o,u,hu⟩:=n
 have o2:¬ p.fp a/\own a=none:=bU A (k:=.shr) hk o
 have f:=(F.keep a u hu o2.1 o2.2).2
 cases k with
 | imm=>exact o
 | new=>exact⟨A.h0 o,o2.1,f⟩
 | reg q=>cases hk
 | n0=>cases hk
 | snw=>exact⟨o.1,o2.1,f⟩
 | shr=>exact⟨o2.1,f⟩
 | wk=>cases hk
theorem cV (hp:PassesOwn (model X.prog X.w) X.A X.env X.xe) (hc:X.calm=true) (hi:PDI X tg iter ti) (hg:PDG X tg g) (hb:iu X body tb) (hs:zF X iter:=by intro _; rfl):PDS X (.For tg iter body [] pos) (Tv ti g tb):=PS.wk' (Oh hp hc hi hg hb hs) (by
 rintro Q σ H ⟨p,H0,own,ρ,P,E,t,w⟩
 refine⟨p,H0,own,ρ,_,E,t,fun k ds J H1 Ok h A W o1=>?_⟩
 obtain⟨hk,Iv,i0,step,done⟩:=h
 have w1:=w.go A.frs
 have okS:∀ own' H',FrS p own H1 own' H'->Ok H':=fun own' H' F=>W.stab H1 H' o1 (fun b o n e=>by
  have o2:¬ p.fp b/\own b=none:=bU A (k:=.shr) hk n.1
  exact (F.keep b o e o2.1 o2.2).1) F.tup
 refine⟨fun i m σ' H'=>m=ds.length - i/\i<=ds.length/\∃ own' ρ',EnvD p H0 own' σ' H' ρ'/\FrS p own H1 own' H'/\Iv i ρ',⟨_,rfl,Ć _,own,ρ,E.go A.kp A.pen,FrS.refl,i0⟩,?_⟩
 rintro i m σ' H' ⟨rfl,hi,own',ρ',E',F',iv⟩
 have oH:=okS own' H' F'
 by_cases hlt:i<ds.length
 ·refine .inr ⟨W.go i H' oH hlt,fun σ2 H2=>∃ own' ρ',EnvD p H0 own' σ2 H2 ρ'/\FrS p own H1 own' H2/\Iv (i+1) ρ',fun σ2 H2 h=>⟨_,by omega,rfl,hlt,h⟩,fun x H2 y=>?_⟩
  obtain⟨sm,rx⟩:=W.yld i H' x H2 oH y
  have rx:=rx ds[i] (Ç hlt)
  have E2:EnvD p H0 own' σ' H2 ρ':=E'.go (Kp.of sm) (p.mono H' H2 E'.pen fun b o _ e=>sm b o e)
  have F2:FrS p own H1 own' H2:=⟨fun b o e n z=>let ⟨x,y⟩:=F'.keep b o e n z; ⟨sm b o x,y⟩,fun a xs e=>sm a _ (F'.tup a xs e)⟩
  refine⟨p,H0,own',ρ',_,_,_,E2,gK (Sg hk A F2 rx),step i ds[i] ρ' (Ç hlt) iv,fun σ3 ρ3 E3 t3=>?_⟩
  have nxt:∀ own4 σ4 H4 ρ4,EnvD p H0 own4 σ4 H4 ρ4->FrS p own' H2 own4 H4->Iv (i+1) ρ4->∃ own' ρ',EnvD p H0 own' σ4 H4 ρ'/\FrS p own H1 own' H4/\Iv (i+1) ρ':=fun own4 σ4 H4 ρ4 E4 F4 v4=>⟨own4,ρ4,E4,F2.trans F4,v4⟩
  exact⟨p,H0,own',ρ3,_,E3,t3,⟨nxt,w.rt,fun o s h r e f n=>w1.nx o s h r e (F2.trans f) n,nxt⟩⟩
 ·have e:i=ds.length:=by omega
  subst e
  exact .inl ⟨W.stop H' oH,w1.nx own' σ' H' ρ' E' F' (done ρ' iv)⟩)
def Ar (tc:DT) (tb:DS):DS:=fun P ρ=>∃ Iv:Nat->List Sl->Prop,(∃ m,Iv m ρ)/\∀ m ρ',Iv m ρ'->tc ρ' fun b =>
 if b=true then tb { nx:=fun ρ2=>∃ m',m'<m/\Iv m' ρ2,ct:=fun ρ2=>∃ m',m'<m/\Iv m' ρ2,bk:=P.nx,rt:=P.rt } ρ' else P.nx ρ'
theorem jz {c:Expr}{tc:DT} (hp:PassesOwn (model X.prog X.w) X.A X.env X.xe) (hc:PDT X c tc) (hb:iu X body tb):PDS X (.While c body [] pos) (Ar tc tb):=PS.wk' (GQ hp hc hb) (by
 rintro Q σ H ⟨p,H0,own,ρ,P,E,⟨Iv,⟨m,i0⟩,step⟩,w⟩
 refine⟨fun m σ' H'=>∃ own' ρ',EnvD p H0 own' σ' H' ρ'/\FrS p own H own' H'/\Iv m ρ',⟨m,own,ρ,E,FrS.refl,i0⟩,?_⟩
 rintro m σ1 H1 ⟨own1,ρ1,E1,F1,iv⟩
 refine⟨p,H0,own1,ρ1,_,E1,step m ρ1 iv,fun b H2 h A=>?_⟩
 have F2:=F1.trans A.frs
 cases b with
 | true =>
  refine aM ⟨fun σ' H'=>∃ m',m'<m/\∃ own' ρ',EnvD p H0 own' σ' H' ρ'/\FrS p own H own' H'/\Iv m' ρ',fun σ' H' h=>h,?_⟩
  have nxt:∀ own4 σ4 H4 ρ4,EnvD p H0 own4 σ4 H4 ρ4->FrS p own1 H2 own4 H4->(∃ m',m'<m/\Iv m' ρ4)->∃ m',m'<m/\∃ own' ρ',EnvD p H0 own' σ4 H4 ρ'/\FrS p own H own' H4/\Iv m' ρ':=fun own4 σ4 H4 ρ4 E4 F4 ⟨m',hm,v4⟩=>⟨m',hm,own4,ρ4,E4,F2.trans F4,v4⟩
  exact⟨p,H0,own1,ρ1,{ nx:=fun ρ2=>∃ m',m'<m/\Iv m' ρ2,ct:=fun ρ2=>∃ m',m'<m/\Iv m' ρ2,bk:=P.nx,rt:=P.rt },E1.go A.kp A.pen,by simpa using h,⟨nxt,w.rt,fun o s h r e f n=>w.nx o s h r e (F2.trans f) n,nxt⟩⟩
 | false=>exact aN (w.nx own1 σ1 H2 ρ1 (E1.go A.kp A.pen) F2 (by simpa using h)))
end
theorem EnvD.comp {p:Pn}{H0 H:Hp}{own:Addr->Option Nat}{σ:L2.St}{ρ:List Sl} (n:Nat) (E:EnvD p H0 own σ H ρ):EnvD p H0 own (É n none++σ) H (É n .any++ρ):=by
 refine⟨E.k0,E.pen,E.ow,fun j s e=>?_,by simp [E.len],E.gr⟩
 by_cases hj:j<n
 ·rw [ô (by simpa using hj)] at e
  have:s=.any:=by
   rw [Ń] at e
   rw [if_pos hj] at e
   exact (æ e).symm
  subst this
  trivial
 ·have e1:(É n Sl.any++ρ)[j]?=ρ[j - n]?:=by rw [ë (by simpa using hj)]; simp
  have e2:(É n (none:Option V)++σ)[j]?=σ[j - n]?:=by rw [ë (by simpa using hj)]; simp
  rw [e1] at e
  have q:=E.slot _ s e
  cases s <;> simp only [jG,e2] at q ⊢ <;> exact q
abbrev Fy (X:Cx) (es:List Expr) (t:DT):Prop:=PTs X es (liftT t)
theorem cQ {X:Cx}:Fy X [] (fun _ P=>P true):=fun pins s σ H Q I h=>by
 obtain⟨p,H0,own,ρ,P,E,t,q⟩:=h
 exact Kf pins s σ H Q I (q true H t E.at)
theorem dZ {X:Cx}{c:Expr}{t:DT} (hc:PDT X c t):Fy X [c] t:=Ke hc
def elC (k:Kd):Kd:=elK k
def dLC (n:Nat) (ti:DI) (g:DG) (tt:DT) (te:DE):DE:=fun ρ P=>ti ρ fun k ds=>ds.length<=1000/\∃ (ke:Kd) (Iv:Nat->List D->Prop),Iv 0 [] /\
 (∀ i d ys,ds[i]?=some d->Iv i ys->g (norm (elC k) d) d (É n .any++ρ) fun ρ'=>tt ρ' fun b=>if b=true then te ρ' fun k' d'=>(norm k' d').le ke=true/\Iv (i+1) (ys++[d']) else Iv (i+1) ys) /\
 ∀ ys,Iv ds.length ys->P (ke.join .new) (.list ys)
theorem Mz {p:Pn}{H0 Hb H1:Hp}{own:Addr->Option Nat}{k:Kd} (A:At p H0 own Hb H1) {v:V}{d:D}{H2:Hp} (r:Rp (okA p H0 own Hb k H1) H2 v d):Rp (okB p H0 own (elC k)) H2 v d:=by
 refine r.mono (fun a n=>?_) (fun _ _ _ e=>e) fun _ _ e=>e
 obtain⟨o,u,hu⟩:=n
 cases k with
 | imm=>exact o
 | new=>exact⟨A.h0 o,A.nfb o,A.Hj o⟩
 | reg q=>exact o
 | n0=>trivial
 | snw=>exact o
 | shr=>exact o
 | wk=>trivial
section
variable {X:Cx}{own:List Str}{scope:Scope}{tg iter elt:Expr}{ifs:List Expr}{pos:Pos}{ti:DI}{g:DG}{tt:DT}{te:DE}
theorem jR {n:Nat}:∀ σ H Q,bI (dLC n ti g tt te) σ H Q->tLC n (Im ti) (fun _=>Ce g) (fun _=>liftT tt) (fun _=>bI te) σ H Q:=by
 rintro σ H Q ⟨p,H0,own,ρ,P,E,t,q⟩
 refine⟨p,H0,own,ρ,_,E,t,fun k ds J H1 Ok h A W o1=>?_⟩
 obtain⟨hlen,ke,Iv,i0,step,done⟩:=h
 have okS:∀ H',Kp p H1 H'->p.PI H'->Ok H':=fun H' K i=>W.stab H1 H' o1 (fun b o n e=>K b o e (jP A n.1)) (jx A K)
 refine⟨fun i m ys H'=>m=ds.length - i/\i<=ds.length/\Kp p H1 H'/\p.PI H'/\∃ es,Rps (okK p H0 own H ke) H' ys es/\es.length<=i/\Iv i es,⟨_,rfl,Ć _,Kp.refl,A.pen,[],.nil,Í _,i0⟩,?_⟩
 rintro c i m ys H' ⟨rfl,hi,K',I',es,rs,hl,iv⟩
 have oH:=okS H' K' I'
 have A':=A.go K' I'
 have h24:=ê
 by_cases hlt:i<ds.length
 ·refine .inr ⟨W.go i H' oH hlt,by have:=rs.length; omega,fun ys' H2=>Kp p H1 H2/\p.PI H2/\∃ es,Rps (okK p H0 own H ke) H2 ys' es/\es.length<=i+1/\Iv (i+1) es,fun ys' H2 h=>⟨_,by omega,rfl,hlt,h⟩,fun x H2 y=>?_⟩
  obtain⟨sm,rx⟩:=W.yld i H' x H2 oH y
  have rx:=rx ds[i] (Ç hlt)
  have I2:p.PI H2:=p.mono H' H2 I' fun b o _ e=>sm b o e
  have K2:Kp p H1 H2:=K'.trans (Kp.of sm)
  have A2:=A.go K2 I2
  have E2:EnvD p H0 own σ H2 ρ:=E.go A2.kp A2.pen
  have rs2:=bW A' (Kp.of sm) rs
  refine⟨p,H0,own,_,_,_,_,E2.comp n,gK (Mz A rx),step i ds[i] es (Ç hlt) iv,fun σ3 ρ3 E3 t3=>?_⟩
  refine⟨p,H0,own,ρ3,_,E3,t3,fun b H4 h4 A4=>?_⟩
  have A5:At p H0 own H H4:=A2.base A4
  have rs4:=bW A2 A4.kp rs2
  cases b with
  | true =>
   refine aM ⟨p,H0,own,ρ3,_,E3.go A4.kp A4.pen,by simpa using h4,fun k' d' v H6 h6 A6 r6=>?_⟩
   refine⟨(K2.trans A4.kp).trans A6.kp,A6.pen,es++[d'],(bW A5 A6.kp rs4).snoc (lU (A5.base A6) h6.1 (aV (jL A5 r6))),by simp; omega,h6.2⟩
  | false=>exact aN ⟨K2.trans A4.kp,A4.pen,es,rs4,by omega,by simpa using h4⟩
 ·have e:i=ds.length:=by omega
  subst e
  refine .inl ⟨W.stop H' oH,fun l hl'=>?_⟩
  obtain⟨k7,i7,nw⟩:=A'.new hl' (.lst ys)
  have j:=eX ke .new
  refine q _ _ _ _ (done es iv) (A'.go k7 i7) (.lst (bU A' j.2 nw) au ?_)
  exact (bW A' k7 rs).mono (fun a o=>bU A' j.1 o) (fun _ _ _ e=>e) fun _ _ e=>e
theorem j5 (own:List Str) (hc:X.calm=true) (hi:PDI X tg iter ti) (hg:∀ c,PDG (X.comp own scope c) tg g) (ht:∀ c,Fy (X.comp own scope c) ifs tt) (he:∀ c,PD (X.comp own scope c) elt te)
  (hk:fL X.env scope X.N=true:=by rfl) (hs:zF X iter:=by intro _; rfl) :
  PD X (.ListComp elt [⟨tg,iter,ifs,0⟩] scope pos) (dLC own.length ti g tt te):=PE.wk (RX own hc hi hg ht he hk hs) jR
theorem O4 (own M:List Str) (hc:X.calm=true) (hi:PDI X tg iter ti) (hg:∀ c,PDG (X.bA own M scope c) tg g) (ht:∀ c,Fy (X.bA own M scope c) ifs tt) (he:∀ c,PD (X.bA own M scope c) elt te)
  (hk:aY X.env scope X.N M=true:=by decide +kernel) (hs:zF X iter:=by intro _; rfl) :
  PD X (.ListComp elt [⟨tg,iter,ifs,0⟩] scope pos) (dLC own.length ti g tt te):=PE.wk (G5 own M hc hi hg ht he hk hs) jR
end
def bx (d:D):Sl:=if iY d then .im d else .sh d
theorem jT {p:Pn}{H:Hp}{N:List Str}{vs:List V}{ds:List D} (g:Gr.G p H) (hp:p.PI H) (r:Rps (fun a=>¬ p.fp a) H vs ds):EnvD p H (fun _=>none) (L2.start N vs) H (ds.map bx++É (N.length - vs.length) .any):=by
 refine⟨fun _ _ e _=>e,hp,(fun _ _ e=>nomatch e),fun j s e=>?_,by unfold L2.start; simp [r.length],g⟩
 by_cases hj:j<ds.length
 ·rw [ô (by simpa using hj),á] at e
  obtain⟨v,hv,rv⟩:=r.getD (Ç hj)
  rw [Ç hj] at e
  have e:=æ e
  have hs:(L2.start N vs)[j]?=some (some v):=by
   unfold L2.start
   rw [ô (by rw [Á,r.length]; exact hj),á,hv]
   rfl
  subst e
  unfold bx
  by_cases hi:iY ds[j]=true
  ·rw [if_pos hi]; exact⟨v,hs,rv.imm hi⟩
  ·rw [if_neg hi]; exact⟨v,hs,rv.mono (fun _ o=>⟨o,rfl⟩) (fun _ _ _ e=>e) fun _ _ e=>e⟩
 ·rw [ë (by simpa using hj),Ń] at e
  split at e
  ·cases e; trivial
  ·cases e
theorem vV {f:List D->(D->Prop)->Prop}{T:DS}{N:List Str}{vs:List V}{H:Hp}{Q:VK}{E:XK} (h:spD f vs H Q E)
  (body:∀ ds P,f ds P->T { nx:=fun _=>P .none,rt:=P } (ds.map bx++É (N.length - ds.length) .any)) (g:Gr.G fJ H:=by trivial):j7 T { nx:=fun _ H'=>Q .non H',rt:=Q } (L2.start N vs) H:=by
 obtain⟨ds,P,r,t,q⟩:=h
 have E:=jT (p:=fJ) (N:=N) g trivial (r.mono (ok':=fun a=>¬ fJ.fp a) (fun _ _ z=>z) (fun _ _ _ e=>e) fun _ _ e=>e)
 rw [r.length] at E
 have sm:∀ H',(∀ b o,H b=some o->¬ fJ.fp b->H' b=some o)->Same H H':=fun H' k b o e=>k b o e fun z=>z
 refine⟨fJ,H,fun _=>none,_,_,E,body ds P t,⟨fun o s h' r' e' _ n=>q _ _ h' n (sm h' e'.k0) .non,fun d v h' n w=>q d v h' n (sm h' w.k0) (w.rp.mono (fun _ o=>o.1) (fun _ _ _ e=>e) fun _ _ e=>e),fun _ _ _ _ _ _ n=>n.elim,fun _ _ _ _ _ _ n=>n.elim⟩⟩
theorem Qx {C:Pn->Prop}{f:List D->(D->Prop)->Prop}{T:DS}{N:List Str}{vs:List V}{H:Hp}{Q:VK}{E:XK} (h:spP C f vs H Q E)
  (body:∀ ds P,f ds P->T { nx:=fun _=>P .none,rt:=P } (.pen C::(ds.map bx++É (N.length - (ds.length+1)) .any))) (g:∀ p,Gr.G p H:=by intro _; trivial):j7 T { nx:=fun _ H'=>Q .non H',rt:=Q } (L2.start N vs) H:=by
 obtain⟨p,vs',ds,P,c,rfl,pi,r,t,q⟩:=h
 have E0:=jT (p:=p) (N:=N.drop 1) (g p) pi r
 have E:EnvD p H (fun _=>none) (L2.start N (p.pv::vs')) H (.pen C::(ds.map bx++É (N.length - (ds.length+1)) .any)):=by
  refine⟨fun _ _ e _=>e,pi,(fun _ _ e=>nomatch e),fun j s e=>?_,by unfold L2.start; simp [r.length],g p⟩
  cases j with
  | zero =>
   have e:=æ e
   subst e
   exact⟨rfl,c⟩
  | succ j =>
   rw [Ŵ] at e
   have hl:N.length - (ds.length+1)=(N.drop 1).length - vs'.length:=by rw [r.length,õ]; omega
   rw [hl] at e
   have q:=E0.slot j s e
   have es:(L2.start N (p.pv::vs'))[j+1]?=(L2.start (N.drop 1) vs')[j]?:=by
    unfold L2.start
    have:N.length - (p.pv::vs').length=(N.drop 1).length - vs'.length:=by rw [õ,Ü]; omega
    rw [this]
    simp
   cases s <;> simp only [jG,es] at q ⊢ <;> exact q
 have nw:∀ {H' v d},RPost p H H' v d->Rp (fun a=>H a=none) H' v d:=fun w=>w.rp.mono (fun _ o=>o.1) (fun _ _ _ e=>e) fun _ _ e=>e
 exact⟨p,H,fun _=>none,_,_,E,body ds P t,⟨fun o s h' r' e' _ n=>q _ _ h' n e'.k0 e'.pen .non,fun d v h' n w=>q d v h' n w.k0 w.pen (nw w),fun _ _ _ _ _ _ n=>n.elim,fun _ _ _ _ _ _ n=>n.elim⟩⟩
end Dl
namespace PySem
open PyProof.Rows
abbrev nu (f0:Value) (q:Bool) (TI TO:Addr):Obj:={ cls:=.type "zip",data:=.fields #[f0,.bool q,.bool false,.ref TI,.ref TO] }
section
variable {prog:Program}{w:World}{A:Around}{E:Value->Shared->Prop}{s:Shared}
theorem uD {z TI TO i1 i2 l1 l2 T:Addr}{q:Bool}{k:Nat}{xs ys:Array Value}{x y:Value}{oT:Obj}{Q:Value->Shared->Prop} (n1:i1≠z) (n2:i2≠z) (n12:i1≠i2) (m1:l1≠z) (m2:l2≠z) (m3:l2≠i1)
  (hZ:s.heap.get? z=some (nu (rawInt T) q TI TO)) (hI:s.heap.get? TI=some { cls:=.type "tuple",data:=.seq #[.ref i1,.ref i2] }) (hT:s.heap.get? T=some oT)
  (j1:s.heap.IsListIter i1 l1 k) (j2:s.heap.IsListIter i2 l2 k) (e1:s.heap.IsList l1 xs) (e2:s.heap.IsList l2 ys) (hx:xs[k]?=some x) (hy:ys[k]?=some y)
  (hQ:∀ h',h'.get? z=some (nu (rawInt T) true TI TO)->h'.IsListIter i1 l1 (k+1)->h'.IsListIter i2 l2 (k+1)->h'.get? s.heap.objs.size=some { cls:=.type "tuple",data:=.seq #[x,y] } ->
   (∀ c o,c≠z->c≠i1->c≠i2->s.heap.get? c=some o->h'.get? c=some o)->Q (.ref s.heap.objs.size) { s with heap:=h' }) :
  wpAny (model prog w) A (Builtin.«zip.__next__» ⟨[.ref z],[]⟩) (fun fin s'=>∃ v,fin=.done (.ret v)/\Q v s') E s:=by
 have fld:∀ {i:Nat}{v:Value}{R:Value->Shared->Prop},(#[rawInt T,Value.bool q,.bool false,.ref TI,.ref TO]:Array Value)[i]?=some v->R v s->wpAny (model prog w) A (field (.ref z) i) R E s:=fun h r=>wpAny_field hZ rfl h r
 show wpAny _ _ (field (.ref z) 2 >>= _) _ _ _
 refine Ä (fld (v:=.bool false) rfl ?_)
 show wpAny _ _ (field (.ref z) 3 >>= _) _ _ _
 refine Ä (fld (v:=.ref TI) rfl ?_)
 refine Ä (wpAny_seqItems hI rfl ?_)
 show wpAny _ _ (ĺ (.ref z) >>= _) _ _ _
 refine Ä ?_
 unfold ĺ
 refine Ä (fld (v:=rawInt T) rfl ?_)
 show wpAny _ _ (loadIfAlive ((T:Int).toNat) >>= _) _ _ _
 rw [Ù]
 refine Ä (W.kdx_alive hT ?_)
 simp only [Option.isNone_some,ė,if_false]
 refine Ä (fld (v:=.bool q) rfl ?_)
 refine L2.thn (Q:=fun a s'=>a=false/\∃ h1,s'={ s with heap:=h1 }/\h1.get? z=some (nu (rawInt T) true TI TO)/\h1.objs.size=s.heap.objs.size/\∀ c o,c≠z->s.heap.get? c=some o->h1.get? c=some o) ?_ ?_
 ·cases q with
  | true=>exact Ò ⟨rfl,s.heap,rfl,hZ,rfl,fun c o _ e=>e⟩
  | false =>
   rw [if_pos (by decide)]
   refine Ä (wpAny_setField_rec hZ (by simp) fun h1 z1 b1=>Ò ⟨rfl,h1,rfl,z1,b1.1,fun c o n e=>b1.extBut _ _ n e⟩)
 rintro a s' ⟨rfl,h1,rfl,z1,sz1,k1⟩
 simp only [ė,if_false]
 refine Ä ?_
 simp only [← Array.forIn_toList,List.forIn_cons,List.forIn_nil]
 have at1:h1.IsListIter i1 l1 k:=j1.at fun o e=>k1 i1 o n1 e
 have at2:h1.IsListIter i2 l2 k:=j2.at fun o e=>k1 i2 o n2 e
 have f1:h1.IsList l1 xs:=e1.at fun o e=>k1 l1 o m1 e
 have f2:h1.IsList l2 ys:=e2.at fun o e=>k1 l2 o m2 e
 refine Ä (Ä (Ġ ?_))
 show wpAny _ _ (Œ (.ref i1) >>= _) _ _ _
 refine Ä (wpAny_nextOf_list_item at1 f1 hx fun h2 c1 b2=>Ò (Ò ?_))
 refine Ä (Ä (Ġ ?_))
 show wpAny _ _ (Œ (.ref i2) >>= _) _ _ _
 refine Ä (wpAny_nextOf_list_item (at2.extBut b2.extBut n12.symm) (f2.extBut b2.extBut m3) hy fun h3 c2 b3=>Ò (Ò (Ò ?_)))
 have sz3:h3.objs.size=s.heap.objs.size:=by rw [b3.1,b2.1,sz1]
 show wpAny _ _ (newTuple [x,y] >>= _) _ _ _
 refine Ä (wpAny_newTuple (Ò ⟨_,rfl,?_⟩))
 show Q (.ref h3.objs.size) _
 rw [sz3]
 have up:∀ c o,c≠i1->c≠i2->h1.get? c=some o->(h3.push { cls:=.type "tuple",data:=.seq #[x,y] }).get? c=some o:=fun c o a b e=>Ð _ (b3.extBut _ _ b (b2.extBut _ _ a e))
 refine hQ _ (up z _ n1.symm n2.symm z1) ((c1.extBut b3.extBut n12).at fun o e=>Ð _ e) (c2.at fun o e=>Ð _ e) ?_ fun c o a b d e=>up c o b d (k1 c o a e)
 rw [← sz3]
 exact à _ rfl
theorem wI {z TI TO i1 i2 l1 l2 T:Addr}{q:Bool}{k:Nat}{xs ys:Array Value}{oT:Obj}{Q:Fin->Shared->Prop} (hh:A.handled=none) (n1:i1≠z) (n2:i2≠z) (n12:i1≠i2) (m1:l1≠z) (m2:l2≠z) (m3:l2≠i1)
  (hZ:s.heap.get? z=some (nu (rawInt T) q TI TO)) (hI:s.heap.get? TI=some { cls:=.type "tuple",data:=.seq #[.ref i1,.ref i2] }) (hT:s.heap.get? T=some oT)
  (j1:s.heap.IsListIter i1 l1 k) (j2:s.heap.IsListIter i2 l2 k) (e1:s.heap.IsList l1 xs) (e2:s.heap.IsList l2 ys) (hend:xs[k]?=none\/ys[k]?=none)
  (hE:∀ h' e,(∀ c o,c≠z->c≠i1->c≠i2->s.heap.get? c=some o->h'.get? c=some o)->(∃ o,h'.get? e=some o/\o.cls=.type "StopIteration")->E (.ref e) { s with heap:=h' }) :
  wpAny (model prog w) A (Builtin.«zip.__next__» ⟨[.ref z],[]⟩) Q E s:=by
 have fld:∀ {i:Nat}{v:Value}{R:Value->Shared->Prop},(#[rawInt T,Value.bool q,.bool false,.ref TI,.ref TO]:Array Value)[i]?=some v->R v s->wpAny (model prog w) A (field (.ref z) i) R E s:=fun h r=>wpAny_field hZ rfl h r
 show wpAny _ _ (field (.ref z) 2 >>= _) _ _ _
 refine Ä (fld (v:=.bool false) rfl ?_)
 show wpAny _ _ (field (.ref z) 3 >>= _) _ _ _
 refine Ä (fld (v:=.ref TI) rfl ?_)
 refine Ä (wpAny_seqItems hI rfl ?_)
 show wpAny _ _ (ĺ (.ref z) >>= _) _ _ _
 refine Ä ?_
 unfold ĺ
 refine Ä (fld (v:=rawInt T) rfl ?_)
 show wpAny _ _ (loadIfAlive ((T:Int).toNat) >>= _) _ _ _
 rw [Ù]
 refine Ä (W.kdx_alive hT ?_)
 simp only [Option.isNone_some,ė,if_false]
 refine Ä (fld (v:=.bool q) rfl ?_)
 refine L2.thn (Q:=fun a s'=>a=false/\∃ h1,s'={ s with heap:=h1 }/\h1.get? z=some (nu (rawInt T) true TI TO)/\h1.objs.size=s.heap.objs.size/\∀ c o,c≠z->s.heap.get? c=some o->h1.get? c=some o) ?_ ?_
 ·cases q with
  | true=>exact Ò ⟨rfl,s.heap,rfl,hZ,rfl,fun c o _ e=>e⟩
  | false =>
   rw [if_pos (by decide)]
   refine Ä (wpAny_setField_rec hZ (by simp) fun h1 z1 b1=>Ò ⟨rfl,h1,rfl,z1,b1.1,fun c o n e=>b1.extBut _ _ n e⟩)
 rintro a s' ⟨rfl,h1,rfl,z1,sz1,k1⟩
 simp only [ė,if_false]
 refine Ä ?_
 simp only [← Array.forIn_toList,List.forIn_cons,List.forIn_nil]
 have at1:h1.IsListIter i1 l1 k:=j1.at fun o e=>k1 i1 o n1 e
 have at2:h1.IsListIter i2 l2 k:=j2.at fun o e=>k1 i2 o n2 e
 have f1:h1.IsList l1 xs:=e1.at fun o e=>k1 l1 o m1 e
 have f2:h1.IsList l2 ys:=e2.at fun o e=>k1 l2 o m2 e
 refine Ä (Ä (Ġ ?_))
 show wpAny _ _ (Œ (.ref i1) >>= _) _ _ _
 cases hx:xs[k]? with
 | none=>exact Ä (wpAny_nextOf_list_end hh at1 f1 hx fun h2 e b2 he=>hE h2 e (fun c o a b _ x=>b2 c o b (k1 c o a x)) he)
 | some x =>
  have hy:ys[k]?=none:=hend.elim (fun z=>by rw [hx] at z; cases z) id
  refine Ä (wpAny_nextOf_list_item at1 f1 hx fun h2 c1 b2=>Ò (Ò ?_))
  refine Ä (Ä (Ġ ?_))
  show wpAny _ _ (Œ (.ref i2) >>= _) _ _ _
  exact Ä (wpAny_nextOf_list_end hh (at2.extBut b2.extBut n12.symm) (f2.extBut b2.extBut m3) hy fun h3 e b3 he=>hE h3 e (fun c o a b d x=>b3 c o d (b2.extBut _ _ b (k1 c o a x))) he)
structure ZSt (z TI TO i1 i2 l1 l2:Addr) (xs ys:Array Value) (i:Nat) (h:Heap):Prop where
 zip:(i=0/\h.get? z=some (nu .none false TI TO))\/∃ (T:Addr) (q:Bool) (oT:Obj),h.get? z=some (nu (rawInt T) q TI TO)/\h.get? T=some oT/\T≠z/\T≠i1/\T≠i2
 ti:h.get? TI=some { cls:=.type "tuple",data:=.seq #[.ref i1,.ref i2] }
 to:∃ a b,h.get? TO=some { cls:=.type "tuple",data:=.seq #[a,b] }
 j1:h.IsListIter i1 l1 i
 j2:h.IsListIter i2 l2 i
 e1:h.IsList l1 xs
 e2:h.IsList l2 ys
variable {z TI TO i1 i2 l1 l2:Addr}{xs ys:Array Value}
theorem ZSt.keeps {i:Nat}{h h':Heap} (Z:ZSt z TI TO i1 i2 l1 l2 xs ys i h) {S:Addr}{oS:Obj} (hS:h.get? S=some oS) (hc:oS.cls=.type "list") (n1:S≠l1) (n2:S≠l2) (nT:∀ (T:Addr) (q:Bool),h.get? z=some (nu (rawInt T) q TI TO)->S≠T) (k:∀ b o,b≠S->h.get? b=some o->h'.get? b=some o):ZSt z TI TO i1 i2 l1 l2 xs ys i h':=by
 have ne:∀ {b:Addr}{o:Obj},h.get? b=some o->o.cls≠.type "list"->b≠S:=fun e n z=>by subst z; rw [hS] at e; cases e; exact n hc
 obtain⟨o1,a1,c1,d1⟩:=Z.j1
 obtain⟨o2,a2,c2,d2⟩:=Z.j2
 obtain⟨a,b,ab⟩:=Z.to
 have k1:=k i1 o1 (ne a1 (by rw [c1]; decide)) a1
 have k2:=k i2 o2 (ne a2 (by rw [c2]; decide)) a2
 refine⟨?_,k _ _ (ne Z.ti (show Đ "tuple"≠_ by decide)) Z.ti,⟨a,b,k _ _ (ne ab (show Đ "tuple"≠_ by decide)) ab⟩,⟨o1,k1,c1,d1⟩,⟨o2,k2,c2,d2⟩,Z.e1.at fun o e=>k _ o n1.symm e,Z.e2.at fun o e=>k _ o n2.symm e⟩
 rcases Z.zip with ⟨h0,hz⟩ | ⟨T,q,oT,hz,hT,r⟩
 ·exact .inl ⟨h0,k _ _ (ne hz (show Đ "zip"≠_ by decide)) hz⟩
 ·exact .inr ⟨T,q,oT,k _ _ (ne hz (show Đ "zip"≠_ by decide)) hz,k _ _ (nT T q hz).symm hT,r⟩
theorem FN {i:Nat}{x y:Value}{Q:Option Value->Shared->Prop} (D:ZipApart z TI TO i1 i2 l1 l2) (Z:ZSt z TI TO i1 i2 l1 l2 xs ys i s.heap) (hx:xs[i]?=some x) (hy:ys[i]?=some y)
  (hQ:∀ h',ZSt z TI TO i1 i2 l1 l2 xs ys (i+1) h'->h'.get? s.heap.objs.size=some { cls:=.type "tuple",data:=.seq #[x,y] }->(∀ (T:Addr) (q:Bool),h'.get? z=some (nu (rawInt T) q TI TO)->T=s.heap.objs.size\/∃ q',s.heap.get? z=some (nu (rawInt T) q' TI TO)) ->
   (∀ c o,c≠z->c≠TO->c≠i1->c≠i2->s.heap.get? c=some o->h'.get? c=some o)->Q (some (.ref s.heap.objs.size)) { s with heap:=h' }):wpAny (model prog w) A (pyNext (.ref z)) Q E s:=by
 obtain⟨a,b,ab⟩:=Z.to
 have lt:∀ {c:Addr}{o:Obj},s.heap.get? c=some o->s.heap.objs.size≠c:=fun e=>Nat.ne_of_gt (Ï e)
 obtain⟨o1,a1,_⟩:=id Z.j1
 obtain⟨o2,a2,_⟩:=id Z.j2
 rcases Z.zip with ⟨rfl,hz⟩ | ⟨T,q,oT,hz,hT,t1,t2,t3⟩
 ·refine wpAny_pyNext_zip_item D hz Z.ti ab Z.j1 Z.j2 Z.e1 Z.e2 hx hy fun h' b1 b2 b3 b4 b5 b6 b7=>hQ h' ⟨.inr ⟨_,false,_,b1,b5,lt hz,lt a1,lt a2⟩,b7 _ _ D.TIz D.TITO D.TIi1 D.TIi2 Z.ti,⟨_,_,b2⟩,b3,b4,Z.e1.at fun o e=>b7 _ o D.l1z D.l1TO D.l1i1 D.l1i2 e,Z.e2.at fun o e=>b7 _ o D.l2z D.l2TO D.l2i1 D.l2i2 e⟩ b5 (fun T q e=>?_) b7
  rw [b1] at e
  cases e
  exact .inl rfl
 ·have hTy:s.TypeIs (.ref z) "zip":=⟨_,hz,rfl⟩
  unfold pyNext
  refine Ä (wpAny_attempt (wpAny_callSpecial?_slot (name:=í "__next__") hTy F.slot_zip_next (wpAny_call_entry F.slot_zip_next hTy F.entry_zip_next ?_ (F.args_zip_next_1 _))))
  refine uD D.i1z D.i2z D.i12 D.l1z D.l2z D.l2i1 hz Z.ti hT Z.j1 Z.j2 Z.e1 Z.e2 hx hy fun h' b1 b3 b4 b5 b7=>Ò (hQ h' ⟨.inr ⟨T,true,oT,b1,b7 _ _ t1 t2 t3 hT,t1,t2,t3⟩,b7 _ _ D.TIz D.TIi1 D.TIi2 Z.ti,⟨a,b,b7 _ _ D.TOz D.TOi1 D.TOi2 ab⟩,b3,b4,Z.e1.at fun o e=>b7 _ o D.l1z D.l1i1 D.l1i2 e,Z.e2.at fun o e=>b7 _ o D.l2z D.l2i1 D.l2i2 e⟩ b5 (fun T' q' e=>?_) fun c o n1 _ n3 n4 e=>b7 c o n1 n3 n4 e)
  rw [b1] at e
  cases e
  exact .inr ⟨_,hz⟩
theorem JT {i:Nat}{Q:Option Value->Shared->Prop} (hh:A.handled=none) (D:ZipApart z TI TO i1 i2 l1 l2) (Z:ZSt z TI TO i1 i2 l1 l2 xs ys i s.heap) (hend:xs[i]?=none\/ys[i]?=none)
  (hQ:∀ h',(∀ c o,c≠z->c≠TO->c≠i1->c≠i2->s.heap.get? c=some o->h'.get? c=some o)->Q none { s with heap:=h' }):wpAny (model prog w) A (pyNext (.ref z)) Q E s:=by
 obtain⟨a,b,ab⟩:=Z.to
 rcases Z.zip with ⟨rfl,hz⟩ | ⟨T,q,oT,hz,hT,t1,t2,t3⟩
 ·exact wpAny_pyNext_zip_end hh D hz Z.ti ab Z.j1 Z.j2 Z.e1 Z.e2 hend hQ
 ·have hTy:s.TypeIs (.ref z) "zip":=⟨_,hz,rfl⟩
  unfold pyNext
  refine Ä (wpAny_attempt (wpAny_callSpecial?_slot (name:=í "__next__") hTy F.slot_zip_next (wpAny_call_entry F.slot_zip_next hTy F.entry_zip_next ?_ (F.args_zip_next_1 _))))
  refine wI hh D.i1z D.i2z D.i12 D.l1z D.l2z D.l2i1 hz Z.ti hT Z.j1 Z.j2 Z.e1 Z.e2 hend fun h' e k2 he=>?_
  obtain⟨o,ho,hc⟩:=he
  refine Ä (wpAny_isInstance (T:="StopIteration") (b:=true) ⟨o,ho,hc⟩ isSubtype_stop ?_)
  exact Ò (hQ _ fun c o n1 _ n3 n4 e=>k2 c o n1 n3 n4 e)
def ItP (h:Heap):List Value->List (Value×Value)->Prop:=Paired fun v p=>∃ T,v=.ref T/\h.get? T=some { cls:=.type "tuple",data:=.seq #[p.1,p.2] }
theorem ItP.snoc {h:Heap}:∀ {vs:List Value}{ps:List (Value×Value)}{v:Value}{p:Value×Value},ItP h vs ps->(∃ T,v=.ref T/\h.get? T=some { cls:=.type "tuple",data:=.seq #[p.1,p.2] })->ItP h (vs++[v]) (ps++[p])
 | _,_,_,_,.nil,r=>.cons r .nil
 | _,_,_,_,.cons a t,r=>.cons a (ItP.snoc t r)
theorem ItP.keeps {h h':Heap}{vs:List Value}{ps:List (Value×Value)} (H:ItP h vs ps) (k:∀ T o,h.get? T=some o->o.cls=.type "tuple"->(∃ v∈vs,v=.ref T)->h'.get? T=some o):ItP h' vs ps:=by
 induction H with
 | nil=>exact .nil
 | cons a t ih =>
  obtain⟨T,e,hT⟩:=a
  exact .cons ⟨T,e,k T _ hT rfl ⟨_,Æ,e⟩⟩ (ih fun T o h c ⟨v,hv,e⟩=>k T o h c ⟨v,Ã _ hv,e⟩)
end
section
variable {prog:Program}{w:World}{A:Around}{z TI TO i1 i2 l1 l2:Addr}{xs ys:Array Value}{R:Result->Shared->Prop}
abbrev Ld (acc:Array Value) (c:Nat):Obj:={ cls:=.type "list",dict:=none,data:=.seq acc c,slots:=#[] }
theorem Fz (hh:A.in1.handled=none) (D:ZipApart z TI TO i1 i2 l1 l2) (hn:min xs.size ys.size<=1000) (S:Addr) (nS:S≠z/\S≠TO/\S≠i1/\S≠i2/\S≠l1/\S≠l2) (res:Value):∀ (m i:Nat) (s:Shared) (acc:Array Value) (c:Nat),min xs.size ys.size - i=m->i<=min xs.size ys.size ->
  ZSt z TI TO i1 i2 l1 l2 xs ys i s.heap->(∀ (T:Addr) (q:Bool),s.heap.get? z=some (nu (rawInt T) q TI TO)->S≠T)->s.heap.get? S=some (Ld acc c)->ItP s.heap acc.toList ((xs.toList.zip ys.toList).take i)->(∀ v∈acc.toList,∀ T,v=.ref T->T≠z/\T≠TO/\T≠i1/\T≠i2/\T≠S) ->
  (∀ h' acc' c',(∀ b o,b≠S->b≠z->b≠TO->b≠i1->b≠i2->s.heap.get? b=some o->h'.get? b=some o)->h'.get? S=some (Ld acc' c')->ItP h' acc'.toList (xs.toList.zip ys.toList)->(∀ v∈acc'.toList,v∈acc.toList\/∃ T,v=.ref T/\s.heap.objs.size<=T)->R (.ok (.ret res)) { s with heap:=h' }) ->
  codeAny (model prog w) A (.builtin "list.extend.loop" ⟨[.ref S,.ref z,res],[]⟩) R s:=by
 obtain⟨s1,s2,s3,s4,s5,s6⟩:=nS
 intro m
 induction m with
 | zero =>
  intro i s acc c hm hi Z nT hS hP hv hR
  have e:i=min xs.size ys.size:=by omega
  refine Ź F.entry_extend_loop ?_
  rw [Around.under_plainId F.plain_extend_loop _]
  show wpAny _ A.in1 (pyNext (.ref z) >>= _) _ _ s
  refine Ä (JT hh D Z ?_ fun h' k=>?_)
  ·rcases Nat.le_total xs.size ys.size with h | h
   ·exact .inl (Array.getElem?_eq_none (by omega))
   ·exact .inr (Array.getElem?_eq_none (by omega))
  ·have el:(xs.toList.zip ys.toList).take i=xs.toList.zip ys.toList:=Ŗ (by simp; omega)
   rw [el] at hP
   exact Ò (hR h' acc c (fun b o n1 n2 n3 n4 n5 e=>k b o n2 n3 n4 n5 e) (k S _ s1 s2 s3 s4 hS) (hP.keeps fun T o h _ ⟨v,hv',e⟩=>let ⟨a1,a2,a3,a4,_⟩:=hv v hv' T e; k T o a1 a2 a3 a4 h) fun v hv=>.inl hv)
 | succ m ih =>
  intro i s acc c hm hi Z nT hS hP hv hR
  have hx:i<xs.size:=by omega
  have hy:i<ys.size:=by omega
  refine Ź F.entry_extend_loop ?_
  rw [Around.under_plainId F.plain_extend_loop _]
  show wpAny _ A.in1 (pyNext (.ref z) >>= _) _ _ s
  refine Ä (FN D Z (Array.getElem?_eq_getElem hx) (Array.getElem?_eq_getElem hy) fun h1 Z1 hT hz1 k1=>?_)
  have hS1:=k1 S _ s1 s2 s3 s4 hS
  have lt:∀ {b:Addr}{o:Obj},s.heap.get? b=some o->s.heap.objs.size≠b:=fun e=>Nat.ne_of_gt (Ï e)
  have hsz:=hP.length
  have hsz2:acc.size=i:=by
   have:acc.toList.length=i:=by rw [hsz,Ċ,List.length_zip]; simp; omega
   simpa using this
  show wpAny _ A.in1 (updateSeq S (·.push (.ref s.heap.objs.size)) >>= _) _ _ _
  refine Ä ?_
  have h24:=ê
  have nT1:∀ (T:Addr) (q:Bool),h1.get? z=some (nu (rawInt T) q TI TO)->S≠T:=fun T q e=>by
   rcases hz1 T q e with z' | ⟨q',e'⟩
   ·rw [z']; exact (lt hS).symm
   ·exact nT T q' e'
  have oth:∀ b o,b≠S->h1.get? b=some o->(h1.update S (â (·.push (į s.heap.objs.size)))).get? b=some o:=fun b o n e=>(ņ _ _ (Į n)).trans e
  obtain⟨o1,a1,_⟩:=Z.j1
  obtain⟨o2,a2,_⟩:=Z.j2
  have az:∃ o,s.heap.get? z=some o:=by
   rcases Z.zip with ⟨_,hz⟩ | ⟨_,_,_,hz,_⟩
   ·exact⟨_,hz⟩
   ·exact⟨_,hz⟩
  obtain⟨oz,az⟩:=az
  obtain⟨ta,tb,at'⟩:=Z.to
  have newT:s.heap.objs.size≠z/\s.heap.objs.size≠TO/\s.heap.objs.size≠i1/\s.heap.objs.size≠i2/\s.heap.objs.size≠S:=⟨lt az,lt at',lt a1,lt a2,lt hS⟩
  obtain⟨c2,hS2⟩:∃ c2,(h1.update S (â (·.push (į s.heap.objs.size)))).get? S=some (Ld (acc.push (.ref s.heap.objs.size)) c2):=⟨_,Heap.get?_update_self _ hS1 rfl⟩
  have tk:(xs.toList.zip ys.toList).take (i+1)=(xs.toList.zip ys.toList).take i++[(xs[i],ys[i])]:=by
   rw [ğ]
   congr 1
   have:(xs.toList.zip ys.toList)[i]?=some (xs[i],ys[i]):=by
    rw [List.getElem?_zip_eq_some]
    simp [hx,hy]
   rw [this]
   rfl
  refine wpAny_updateSeq hS1 rfl (Ò ⟨plainId_quiet F.plain_extend_loop _,ih (i+1) { s with heap:=h1.update S (â (·.push (į s.heap.objs.size))) } (acc.push (.ref s.heap.objs.size)) c2 (by omega) (by omega) (Z1.keeps hS1 rfl s5 s6 nT1 oth) (fun T q e=>nT1 T q ?_) hS2 ?_ ?_ ?_⟩) (by rw [hsz2]; omega) (by show (acc.push _).size<=sizeLine+1; rw [Array.size_push,hsz2]; omega)
  ·have zz:z≠S:=Į s1
   rw [show (h1.update S (â (·.push (į s.heap.objs.size)))).get? z=h1.get? z from ņ _ _ (Į zz)] at e
   exact e
  ·rw [tk,Array.toList_push]
   refine ItP.snoc (hP.keeps fun T o h _ ⟨v,hv',e⟩=>?_) ⟨_,rfl,oth _ _ newT.2.2.2.2 hT⟩
   obtain⟨b1,b2,b3,b4,b5⟩:=hv v hv' T e
   exact oth _ _ b5 (k1 T o b1 b2 b3 b4 h)
  ·intro v hv' T e
   rw [Array.toList_push] at hv'
   rcases Û.mp hv' with q | q
   ·exact hv v q T e
   ·have q':v=.ref s.heap.objs.size:=by simpa using q
    rw [q'] at e
    cases e
    exact newT
  ·intro h' acc' c' kk hS' hP' hn'
   refine hR h' acc' c' (fun b o n1 n2 n3 n4 n5 e=>kk b o n1 n2 n3 n4 n5 (oth b o n1 (k1 b o n2 n3 n4 n5 e))) hS' hP' fun v hv'=>?_
   rcases hn' v hv' with q | ⟨T,e,hT'⟩
   ·rw [Array.toList_push] at q
    rcases Û.mp q with q | q
    ·exact .inl q
    ·have q':v=.ref s.heap.objs.size:=by simpa using q
     exact .inr ⟨_,q',Í _⟩
   ·exact .inr ⟨T,e,þ (Nat.le_of_lt (Ï (oth _ _ newT.2.2.2.2 hT))) hT'⟩
theorem yQ:typeLookup (.type "zip") "__len__"=pure none:=by rw [typeLookup_type,builtinLookup_eq_fast]; kernel_rfl
theorem wG:typeLookup (.type "zip") "__length_hint__"=pure none:=by rw [typeLookup_type,builtinLookup_eq_fast]; kernel_rfl
theorem FJ {s:Shared}{E:Value->Shared->Prop}{Q:Value->Shared->Prop} (hh:A.handled=none) (D:ZipApart z TI TO i1 i2 l1 l2) (hn:min xs.size ys.size<=1000) (hz:s.heap.get? z=some (nu .none false TI TO)) (Z:ZSt z TI TO i1 i2 l1 l2 xs ys 0 s.heap)
  (hQ:∀ h' acc' c',(∀ b o,b≠z->b≠TO->b≠i1->b≠i2->s.heap.get? b=some o->h'.get? b=some o)->h'.get? s.heap.objs.size=some (Ld acc' c')->ItP h' acc'.toList (xs.toList.zip ys.toList)->(∀ v∈acc'.toList,∃ T,v=.ref T/\s.heap.objs.size<T)->Q (.ref s.heap.objs.size) { s with heap:=h' }) :
  wpAny (model prog w) A (call (.type "list") [.ref z]) Q E s:=by
 have lt:∀ {b:Addr}{o:Obj},s.heap.get? b=some o->s.heap.objs.size≠b:=fun e=>Nat.ne_of_gt (Ï e)
 obtain⟨o1,a1,_⟩:=id Z.j1
 obtain⟨o2,a2,_⟩:=id Z.j2
 obtain⟨p1,b1,_⟩:=id Z.e1
 obtain⟨p2,b2,_⟩:=id Z.e2
 obtain⟨ta,tb,at'⟩:=id Z.to
 refine callType_codes (Q₁:=fun obj s₁=>obj=.ref s.heap.objs.size/\s₁={ s with heap:=s.heap.push { cls:=.type "list",data:=.seq #[] } }) F.called_list (F.typeCall_list_1 _) F.entry_list_init (code_list_new _ ⟨rfl,rfl⟩) fun obj sx hx=>?_
 obtain⟨rfl,rfl⟩:=hx
 have hS:(s.heap.push { cls:=.type "list",data:=.seq #[] }).get? s.heap.objs.size=some { cls:=.type "list",data:=.seq #[] }:=à _ rfl
 refine⟨⟨_,hS,rfl⟩,F.args_list_init_2 _ _,?_⟩
 show wpAny _ _ (Builtin.List.listItems (.ref s.heap.objs.size) >>= fun old=>Builtin.List.listUpdate (.ref s.heap.objs.size) (fun _=>#[]) >>= fun _=>letGo old.toList.reverse >>= fun _=>œ (.ref s.heap.objs.size) (.ref z) .none) _ _ _
 have old:∀ b o,s.heap.get? b=some o->(s.heap.push { cls:=.type "list",data:=.seq #[] }).get? b=some o:=fun b o e=>Ð _ e
 refine Ä ?_
 unfold Builtin.List.listItems
 refine Ä (wpAny_seqItems hS rfl (Ò ?_))
 refine Ä (m:=updateSeq s.heap.objs.size (fun _=>#[])) (wpAny_updateSeq hS rfl ?_)
 have hS2:=Heap.get?_update_self (â (fun _=>(#[]:Array Value))) hS rfl
 refine Ä (wpAny_letGo ?_)
 generalize hg:(s.heap.push { cls:=.type "list",data:=.seq #[] }).update s.heap.objs.size (â fun _=>(#[]:Array Value))=g at hS2
 have kg:∀ b o,s.heap.get? b=some o->g.get? b=some o:=fun b o e=>by rw [← hg]; exact (ņ _ _ (lt e)).trans (old b o e)
 have sg:g.objs.size=s.heap.objs.size+1:=by rw [← hg,đ,ň]
 have Zg:∀ {h:Heap},(∀ b o,s.heap.get? b=some o->h.get? b=some o)->ZSt z TI TO i1 i2 l1 l2 xs ys 0 h:=fun {h} k=>⟨.inl ⟨rfl,k _ _ hz⟩,k _ _ Z.ti,⟨ta,tb,k _ _ at'⟩,Z.j1.at fun o e=>k _ o e,Z.j2.at fun o e=>k _ o e,Z.e1.at fun o e=>k _ o e,Z.e2.at fun o e=>k _ o e⟩
 have hT:∀ {h:Heap},(∀ b o,s.heap.get? b=some o->h.get? b=some o)->({ s with heap:=h }:Shared).TypeIs (.ref z) "zip":=fun k=>⟨_,k _ _ hz,rfl⟩
 unfold œ
 refine Ä (wpAny_typeOf (hT kg) ?_)
 have q1:Builtin.List.listSameRef (.ref s.heap.objs.size) (.ref z)=false:=by simp [Builtin.List.listSameRef,lt hz]
 have q2:(Đ "zip" == Đ "list")=false:=by decide
 have q3:(Đ "zip" == Đ "tuple")=false:=by decide
 simp only [q1,q2,q3,Bool.or_false,ė,if_false]
 refine Ä (wpAny_pyIter_zip (kg _ _ hz) ?_)
 refine Ä (Ġ ?_)
 unfold Builtin.List.listLengthHint
 refine Ä (wpAny_specialOf (hT kg) yQ ?_)
 show wpAny _ _ (specialOf (į z) (í "__length_hint__") >>= _) _ _ _
 refine Ä (wpAny_specialOf (hT kg) wG ?_)
 refine Ò ?_
 show wpAny _ _ (rule "list.extend.makes-room" >>= fun _=>Builtin.List.listTouch (.ref s.heap.objs.size) >>= fun _=>again (.builtin "list.extend.loop" ⟨[.ref s.heap.objs.size,.ref z,.none],[]⟩)) _ _ _
 refine Ä (wpAny_rule (Ä ?_))
 show wpAny _ _ (updateSeq s.heap.objs.size (·.push .none) >>= fun _=>updateSeq s.heap.objs.size (·.pop)) _ _ _
 refine Ä (wpAny_updateSeq hS2 rfl ?_)
 have hS3:=Heap.get?_update_self (â (·.push Ĕ)) hS2 rfl
 refine wpAny_updateSeq hS3 rfl ?_
 have hS4:=Heap.get?_update_self (â (·.pop)) hS3 rfl
 generalize hk:(g.update s.heap.objs.size (â (·.push Ĕ))).update s.heap.objs.size (â (·.pop))=g' at hS4
 have kk:∀ b o,b≠s.heap.objs.size->g.get? b=some o->g'.get? b=some o:=fun b o n e=>by rw [← hk]; exact (ņ _ _ (Į n)).trans ((ņ _ _ (Į n)).trans e)
 have kk2:∀ b o,s.heap.get? b=some o->g'.get? b=some o:=fun b o e=>kk b o (Į (lt e)) (kg b o e)
 have sk:g'.objs.size=s.heap.objs.size+1:=by rw [← hk,đ,đ,sg]
 refine Ò ⟨plainId_quiet F.plain_extend_loop _,Fz (A:=A.in1) (xs:=xs) (ys:=ys) hh D hn s.heap.objs.size ⟨lt hz,lt at',lt a1,lt a2,lt b1,lt b2⟩ _ _ 0 { s with heap:=g' } #[] _ rfl (Ć _) (Zg kk2) (fun T q e=>?_) hS4 .nil (fun v hv=>nomatch hv) fun h' acc' c' k' hS' hP' hn'=>?_⟩
 ·have e':=kk2 _ _ hz
  rw [e] at e'
  cases e'
 ·refine⟨rfl,hQ h' acc' c' (fun b o n1 n2 n3 n4 e=>k' b o (Į (lt e)) n1 n2 n3 n4 (kk2 b o e)) hS' hP' fun v hv=>?_⟩
  rcases hn' v hv with q | ⟨T,e,hT'⟩
  ·exact nomatch q
  ·refine⟨T,e,?_⟩
   have:g'.objs.size<=T:=hT'
   omega
end
end PySem
namespace L2
open PySem PySem.Spec PyProof.Rows
section
variable {X:Cx}{pins:List (Addr×Obj)}{σ:L2.St}{H:Hp}{s:Shared}
theorem Inv.Gb {a:Addr}{o:HO}{H0:Hp}{s0:Shared}{σ0:L2.St} (I:Inv X pins σ H s) (I0:Inv X pins σ0 H0 s0) (hle:s0.heap.objs.size<=a) (hn:H a=none) (new:bf X.prog X.w (upd H a o) s.heap a o):Inv X pins σ (upd H a o) s:=by
 have lt:∀ {b:Addr}{u:Obj},s0.heap.get? b=some u->b≠a:=fun e z=>absurd (è (Ï e) hle) (by rw [z]; exact ă _)
 refine I.track hn (fun ob e=>?_) (Į (ß (è I0.lt hle))) (fun x c e=>?_) (fun p hp=>lt (I0.pin p hp).1) new
 ·exact absurd (è (Ï e) (þ I0.sz hle)) (ă _)
 ·obtain⟨v,u,hu,_⟩:=I0.cell x c e
  exact lt hu
theorem Inv.tuples {H0:Hp}{s0:Shared}{σ0:L2.St} (I0:Inv X pins σ0 H0 s0):∀ (vs:List Value) (ps:List (Value×Value)) (qs:List (V×V)) (H:Hp),Inv X pins σ H s->ItP s.heap vs ps->Paired (fun (q:V×V) (p:Value×Value)=>RelV q.1 p.1/\RelV q.2 p.2) qs ps->(∀ v∈vs,∃ T,v=.ref T/\s0.heap.objs.size<=T)->(∀ T,s0.heap.objs.size<=T->H T=none\/∃ xs,H T=some (.tup xs)) ->
  ∃ (H':Hp) (ws:List V),Inv X pins σ H' s/\Same H H'/\Vals ws vs/\Paired (fun w (q:V×V)=>∃ t,w=.ref t/\H' t=some (.tup [q.1,q.2])) ws qs/\(∀ T,s0.heap.objs.size<=T->H' T=none\/∃ xs,H' T=some (.tup xs))/\(∀ T,(∀ v∈vs,v≠.ref T)->H' T=H T)
 | _,_,_,H,I,.nil,.nil,_,hN=>⟨H,[],I,Same.refl _,.nil,.nil,hN,fun _ _=>rfl⟩
 | _,_,_,H,I,.cons (a:=v) (l₁:=vs) (b:=p) (l₂:=ps) r t,.cons (a:=q) (l₁:=qs) rq tq,hv,hN=>by
  obtain⟨T,e,hT⟩:=r
  subst e
  obtain⟨T',e',hle⟩:=hv _ Æ
  cases e'
  have vq:Vals [q.1,q.2] [p.1,p.2]:=.cons rq.1 (.cons rq.2 .nil)
  have okT:∀ H2:Hp,bf X.prog X.w H2 s.heap T (.tup [q.1,q.2]):=fun H2=>⟨by show 2<=sizeLine; decide,[p.1,p.2],vq,⟨_,hT,rfl,0,rfl⟩⟩
  have key:∃ H1,Inv X pins σ H1 s/\Same H H1/\H1 T=some (.tup [q.1,q.2])/\(∀ U,s0.heap.objs.size<=U->H1 U=none\/∃ xs,H1 U=some (.tup xs))/\∀ U,U≠T->H1 U=H U:=by
   rcases hN T hle with hn | ⟨xs,hx⟩
   ·refine⟨upd H T (.tup [q.1,q.2]),I.Gb I0 hle hn (okT _),fun b u e=>by rw [aq (aD e hn)]; exact e,au,fun U hU=>?_,fun U hU=>aq hU⟩
    by_cases z:U=T
    ·subst z; exact .inr ⟨_,au⟩
    ·rw [aq z]; exact hN U hU
   ·refine⟨H,I,Same.refl _,?_,hN,fun _ _=>rfl⟩
    obtain⟨_,its,rv,o,ho,hc,n,hd⟩:=I.hok T _ hx
    rw [hT] at ho
    cases ho
    cases hd
    have:xs=[q.1,q.2]:=Vals.inj (by simpa using rv) vq
    rw [hx,this]
  obtain⟨H1,I1,s1,h1,N1,u1⟩:=key
  obtain⟨H2,ws,I2,s2,v2,p2,N2,u2⟩:=Inv.tuples I0 vs ps qs H1 I1 t tq (fun v hv'=>hv v (Ã _ hv')) N1
  refine⟨H2,.ref T::ws,I2,s1.trans s2,.cons rfl v2,.cons ⟨T,rfl,s2 _ _ h1⟩ p2,N2,fun U hU=>?_⟩
  rw [u2 U fun v hv'=>hU v (Ã _ hv'),u1 U fun z=>hU _ Æ (by rw [z])]
def tLZ (K:Ú) (ta:TA):TE:=fun σ H Q=>ta σ H fun vs H1=>∃ p q xs ys,vs=[.ref p,.ref q]/\SqL K H1 p xs/\SqL K H1 q ys/\xs.length<=1000 /\
 ∀ l ws H',Same H1 H'->H1 l=none->H' l=some (.lst ws)->Paired (fun w (q:V×V)=>∃ t,w=.ref t/\H' t=some (.tup [q.1,q.2])) ws (xs.zip ys)->Q (.ref l) H'
theorem wM:∀ {xs ys:List V}{us vs:List Value},Vals xs us->Vals ys vs->Paired (fun (q:V×V) (p:Value×Value)=>RelV q.1 p.1/\RelV q.2 p.2) (xs.zip ys) (us.zip vs)
 | _,_,_,_,.nil,_=>.nil
 | _,_,_,_,.cons _ _,.nil=>.nil
 | _,_,_,_,.cons a b,.cons c d=>.cons ⟨a,c⟩ (wM b d)
theorem zm {a b:Expr}{ta:TA}{p1 p2 pos1 pos2:Pos} (hc:X.calm=true) (hgl:Gl X "list") (hml:X.mg "list"=none) (hgz:Gl X "zip") (hmz:X.mg "zip"=none) (ha:PA X [a,b] ta)
  (e1:starEach [.Call (.Name "zip" p2) [a,b] [] pos2] X.env=[(false,eval (.Call (.Name "zip" p2) [a,b] [] pos2) X.env)]:=by rfl) (e2:starEach [a,b] X.env=(false,eval a X.env)::starEach [b] X.env:=by rfl) (e3:(backTo pos2 (starEach [b] X.env)).any (·.1)=false:=by rfl) :
  PE X (.Call (.Name "list" p1) [.Call (.Name "zip" p2) [a,b] [] pos2] [] pos1) (tLZ X.K ta):=by
 intro pins s σ H Q I h
 refine Ō (lg I hgl hml boot_list ?_)
 refine ľ ?_ e1 rfl
 rw [e1]
 refine Calls.spliced_cons ?_
 refine Ō (lg I hgz hmz PyProof.Rows.boot_zip ?_)
 refine ľ (thn (ha pos2 pins s σ H _ I h) fun us s1 ⟨vs,H1,I1,r1,q1⟩=>?_) e2 e3
 obtain⟨p,q,xs,ys,rfl,hp,hq,hlen,k⟩:=q1
 obtain⟨u,u2,rfl,rx,ry⟩:=vals2 r1
 cases rx
 cases ry
 obtain⟨its,rv,pl,_⟩:=I1.list hp
 obtain⟨its2,rv2,pl2,_⟩:=I1.list hq
 refine call_zip_2 pl.isList pl2.isList fun h' hz hTI hTO hi1 hi2 hsz hk=>?_
 refine Calls.spliced_nil ?_
 have lp:p<s1.heap.objs.size:=by obtain⟨o,e,_⟩:=pl.isList; exact Ï e
 have lq:q<s1.heap.objs.size:=by obtain⟨o,e,_⟩:=pl2.isList; exact Ï e
 have D:=zipApart_new lp lq
 have Z:ZSt (s1.heap.objs.size+4) (s1.heap.objs.size+2) (s1.heap.objs.size+3) s1.heap.objs.size (s1.heap.objs.size+1) p q its.toArray its2.toArray 0 h' :=
  ⟨.inl ⟨rfl,hz⟩,hTI,⟨_,_,hTO⟩,hi1,hi2,pl.isList.at fun o e=>hk _ o e,pl2.isList.at fun o e=>hk _ o e⟩
 have hl1:=rv.length
 refine FJ (s:={ s1 with heap:=h' }) (I1.ok.hd hc) D (by simp; omega) hz Z fun h2 acc c2 k2 hS hP hT=>?_
 have lt:∀ {b:Addr}{o:Obj},s1.heap.get? b=some o->b<s1.heap.objs.size:=fun e=>Ï e
 have kept:∀ b o,s1.heap.get? b=some o->h2.get? b=some o:=fun b o e=>by
  have l0:=lt e
  have l1:∀ j,b≠s1.heap.objs.size+j:=fun j=>ß (è l0 (Nat.le_add_right _ _))
  exact k2 b o (l1 4) (l1 3) (l1 0) (l1 1) (hk b o e)
 have I2:Inv X pins σ H1 { s1 with heap:=h2 }:=I1.kept (t':=s1.toks) kept
 have hsz':h'.objs.size=s1.heap.objs.size+5:=hsz
 obtain⟨H3,ws,I3,s3,v3,p3,N3,u3⟩:=Inv.tuples I1 acc.toList _ _ H1 I2 hP (wM rv rv2) (fun v hv=>by
  obtain⟨T,e,hT'⟩:=hT v hv
  have hT'':h'.objs.size<T:=hT'
  exact⟨T,e,by omega⟩) fun T hT=>.inl (I1.hok.fresh hT)
 have hSn:H3 h'.objs.size=none:=by
  rw [u3 _ fun v hv z=>?_]
  ·exact I1.hok.fresh (by omega)
  ·obtain⟨T,e,hT'⟩:=hT v hv
   rw [z] at e
   cases e
   exact absurd hT' (ă _)
 have hwl:ws.length<=sizeLine:=by
  have:=v3.length
  have h24:=ê
  have l3:=p3.length
  rw [l3,List.length_zip]
  omega
 have I4:Inv X pins σ (upd H3 h'.objs.size (.lst ws)) { s1 with heap:=h2 }:=I3.Gb I1 (by omega) hSn ⟨hwl,acc.toList,c2,v3,hS⟩
 refine⟨.ref h'.objs.size,_,I4,rfl,k h'.objs.size ws _ (s3.trans fun b u e=>by rw [aq (aD e hSn)]; exact e) (I1.hok.fresh (by omega)) au (Paired.zV p3 fun w q ⟨t,e,ht⟩=>⟨t,e,by rw [aq (aD ht hSn)]; exact ht⟩)⟩
end
end L2
namespace Dl
open PySem L2 PyProof.Rows
variable [Gr]
section
variable {X:Cx}{pos:Pos}{a b c e:Expr}{es:List Expr}{ta tb tc te:DE}{t:DA}
def newP (k:Kd) (ds:List D) (P:Kd->Prop):Prop:=(eG ds=true/\P .new)\/P (k.join .new)
theorem iI {p:Pn}{H0 Hb H H2:Hp}{own:Addr->Option Nat} (A:At p H0 own Hb H) {k:Kd}{vs:List V}{ds:List D}{P:Kd->Prop}{l:Addr} (r:Rps (okK p H0 own Hb k) H2 vs ds) (nw:okK p H0 own Hb .new l) (hl:H2 l=some (.lst vs)) (h:newP k ds P):∃ k',P k'/\Rp (okK p H0 own Hb k') H2 (.ref l) (.list ds):=by
 rcases h with ⟨i,h⟩ | h
 ·exact⟨_,h,.lst nw hl ((Rps.imm r i).mono (fun _ o=>o.elim) (fun _ _ _ e=>e) fun _ _ e=>e)⟩
 ·exact⟨_,h,.lst (bU A (eX k .new).2 nw) hl (r.mono (fun a o=>bU A (eX k .new).1 o) (fun _ _ _ e=>e) fun _ _ e=>e)⟩
theorem fK:∀ l:List Int,eG (l.map Â)=true
 | []=>rfl
 | x::l=>by
  show (iY (.int x)&&eG (l.map Â))=true
  rw [fK l]
  rfl
theorem bL:∀ l:List Tie,eG (l.map pD)=true
 | []=>rfl
 | x::l=>by
  show (iY (pD x)&&eG (l.map pD))=true
  rw [bL l]
  rfl
def prD (p:D×D):D:=.tuple [p.1,p.2]
def S6:GC:=fun ks P=>match ks with
 | [(k1,.list ds),(k2,.list es)]=>ds.length<=1000/\newP (k1.join k2) ((ds.zip es).map prD) fun k=>P k (.list ((ds.zip es).map prD))
 | _=>False
theorem Rps.zip {ok:Addr->Prop}{H H':Hp} (m:∀ {v:V}{d:D},Rp ok H v d->Rp ok H' v d):∀ {xs ys:List V}{ds es:List D}{ws:List V},Rps ok H xs ds->Rps ok H ys es->Paired (fun w (q:V×V)=>∃ t,w=.ref t/\H' t=some (.tup [q.1,q.2])) ws (xs.zip ys)->Rps ok H' ws ((ds.zip es).map prD)
 | _,_,_,_,_,.nil,_,p=>by cases p; exact .nil
 | _,_,_,_,_,.cons _ _,.nil,p=>by cases p; exact .nil
 | _,_,_,_,_,.cons h t,.cons h2 t2,p=>by
  cases p with
  | cons r q =>
   obtain⟨t',rfl,ht⟩:=r
   exact .cons (.tup ht (.cons (m h) (.cons (m h2) .nil))) (Rps.zip m t t2 q)
theorem zy {p1 p2 pos1 pos2:Pos} (hc:X.calm=true) (hml:X.mg "list"=none) (hmz:X.mg "zip"=none) (ha:PDA X [a,b] t) (hgl:Gl X "list":=by rfl) (hgz:Gl X "zip":=by rfl)
  (e1:starEach [.Call (.Name "zip" p2) [a,b] [] pos2] X.env=[(false,eval (.Call (.Name "zip" p2) [a,b] [] pos2) X.env)]:=by rfl) (e2:starEach [a,b] X.env=(false,eval a X.env)::starEach [b] X.env:=by rfl) (e3:(backTo pos2 (starEach [b] X.env)).any (·.1)=false:=by rfl) :
  PD X (.Call (.Name "list" p1) [.Call (.Name "zip" p2) [a,b] [] pos2] [] pos1) (tCl S6 t):=PE.wk (zm hc hgl hml hgz hmz ha e1 e2 e3) (by
 rintro σ H Q ⟨p,H0,own,ρ,P,E,t,q⟩
 refine⟨p,H0,own,ρ,_,E,t,fun ks vs H1 h A r=>?_⟩
 unfold S6 at h
 split at h
 ·rename_i k1 ds k2 es'
  obtain⟨v,w,rfl,r1,r2⟩:=Gz r
  obtain⟨x,xs,e1,o1,h1,rs1⟩:=Rp.cj r1
  obtain⟨y,ys,e2,o2,h2,rs2⟩:=Rp.cj r2
  subst e1 e2
  refine⟨x,y,xs,ys,rfl,SqL.of h1,SqL.of h2,by rw [rs1.length]; exact h.1,fun l ws H' sm hl hl' hp=>?_⟩
  have K:Kp p H1 H':=Kp.of sm
  have i2:p.PI H':=p.mono H1 H' A.pen fun b o _ e=>sm b o e
  have j2:=eX k1 k2
  have m1:∀ {k:Kd},k.le (k1.join k2)=true->∀ {vs ds},Rps (okK p H0 own H k) H1 vs ds->Rps (okK p H0 own H (k1.join k2)) H1 vs ds:=fun hk _ _ z=>z.mono (fun a o=>bU A hk o) (fun _ _ _ e=>e) fun _ _ e=>e
  obtain⟨k',hk',rk'⟩:=iI A (Rps.zip (fun z=>o8 A K z) (m1 j2.1 rs1) (m1 j2.2 rs2) hp) (A.free hl) hl' h.2
  exact q _ _ _ _ hk' (A.go K i2) rk'
 ·exact h.elim)
def tCh (f g:Int->Int->Bool) (ta tb tc:DE):DE:=fun ρ P=>ta ρ fun _ d1=>tb ρ fun _ d2=>match d1,d2 with
 | .int i,.int j=>if f i j=true then tc ρ fun _ d3=>(match d3 with
   | .int l=>P .imm (.bool (g j l))
   | _=>False) else P .imm (.bool false)
 | _,_=>False
theorem Cd {f g:Int->Int->Bool}:∀ σ H Q,bI (tCh f g ta tb tc) σ H Q->qt (rI0 fun i j=>.bl (f i j)) (rI0 fun i j=>.bl (g i j)) (bI ta) (bI tb) (bI tc) σ H Q:=by
 rintro σ H Q ⟨p,H0,own,ρ,P,E,t,q⟩
 refine⟨p,H0,own,ρ,_,E,t,fun k1 d1 v1 H1 t1 A1 r1=>?_⟩
 refine⟨p,H0,own,ρ,_,E.go A1.kp A1.pen,t1,fun k2 d2 v2 H2 t2 A2 r2=>?_⟩
 have A:=A1.base A2
 split at t2
 ·rename_i i j
  refine⟨i,j,r1.int',r2.int',_,rfl,?_⟩
  cases hf:f i j with
  | true =>
   rw [hf,if_pos rfl] at t2
   refine aM ⟨p,H0,own,ρ,_,(E.go A1.kp A1.pen).go A2.kp A2.pen,t2,fun k3 d3 v3 H3 t3 A3 r3=>?_⟩
   cases d3 with
   | int l=>exact⟨j,l,r2.int',r3.int',q _ _ _ _ t3 (A.base A3) (.bl _)⟩
   | _=>exact t3.elim
  | false =>
   rw [hf,if_neg Ö] at t2
   exact aN (q _ _ _ _ t2 A (.bl _))
 ·exact t2.elim
theorem BP (ha:PD X a ta) (hb:PD X b tb) (hc:PD X c tc) (hm:lastMarks [.LtE,.Lt] [b,c]=false:=by with_unfolding_all rfl):PD X (.Compare a [.LtE,.Lt] [b,c] pos) (tCh (fun i j=>decide (i<=j)) (fun i j=>decide (i<j)) ta tb tc):=PE.wk (G7 Mt xK ha hb hc hm) Cd
theorem nW {op op':CmpOp}{r r':R2}{g:DE} (h:PT X (.Compare a [op,op'] [b,c] pos) (Gg (qt r r' (bI ta) (bI tb) (bI tc)))) (w:∀ σ H Q,bI g σ H Q->qt r r' (bI ta) (bI tb) (bI tc) σ H Q):PDT X (.Compare a [op,op'] [b,c] pos) (cR g) :=
 PT.wk h fun σ H Q q=>w σ H _ (qX σ H Q q)
def Q9 (ta:DE):DE:=fun ρ P=>ta ρ fun _ d=>match d with
 | .bool b=>P .imm (.bool (!b))
 | _=>False
theorem O1 (ha:PD X a ta):PD X (.UnaryOp .Not a pos) (Q9 ta):=PE.wk (Ow ha) (by
 rintro σ H Q ⟨p,H0,own,ρ,P,E,t,q⟩
 refine⟨p,H0,own,ρ,_,E,t,fun k d v H' h A r=>?_⟩
 cases d with
 | bool b=>exact⟨b,r.bl',q _ _ _ _ h A (.bl _)⟩
 | _=>exact h.elim)
def Bf (ta tb:DE):DE:=fun ρ P=>ta ρ fun _ d=>match d with
 | .bool b=>if b=true then tb ρ P else P .imm (.bool false)
 | _=>False
def Q7 (ta tb:DE):DE:=fun ρ P=>ta ρ fun _ d=>match d with
 | .bool b=>if b=true then P .imm (.bool true) else tb ρ P
 | _=>False
theorem gC {op} (h:PD X a ta):PD X (.BoolOp op [a] pos) ta:=Ov h
theorem gF {rest:List Expr} (ha:PD X a ta) (hb:PD X (.BoolOp .And (b::rest) pos) tb):PD X (.BoolOp .And (a::b::rest) pos) (Bf ta tb):=PE.wk (Oz ha hb) (by
 rintro σ H Q ⟨p,H0,own,ρ,P,E,t,q⟩
 refine⟨p,H0,own,ρ,_,E,t,fun k d v H' h A r=>?_⟩
 cases d with
 | bool b =>
  refine⟨b,r.bl',?_⟩
  cases b with
  | true=>exact aM ⟨p,H0,own,ρ,P,E.go A.kp A.pen,by simpa using h,fun k d v H2 h2 A2 r2=>q k d v H2 h2 (A.base A2) (jL A r2)⟩
  | false=>exact aN (q _ _ _ _ (by simpa using h) A (.bl _))
 | _=>exact h.elim)
theorem G9 {rest:List Expr} (ha:PD X a ta) (hb:PD X (.BoolOp .Or (b::rest) pos) tb):PD X (.BoolOp .Or (a::b::rest) pos) (Q7 ta tb):=PE.wk (RW ha hb) (by
 rintro σ H Q ⟨p,H0,own,ρ,P,E,t,q⟩
 refine⟨p,H0,own,ρ,_,E,t,fun k d v H' h A r=>?_⟩
 cases d with
 | bool b =>
  refine⟨b,r.bl',?_⟩
  cases b with
  | true=>exact aM (q _ _ _ _ (by simpa using h) A (.bl _))
  | false=>exact aN ⟨p,H0,own,ρ,P,E.go A.kp A.pen,by simpa using h,fun k d v H2 h2 A2 r2=>q k d v H2 h2 (A.base A2) (jL A r2)⟩
 | _=>exact h.elim)
def NP (tc:DT) (ta tb:DE):DE:=fun ρ P=>tc ρ fun b=>if b=true then ta ρ P else tb ρ P
theorem jl {u:DT} (hc:PDT X c u) (ha:PD X a ta) (hb:PD X b tb):PD X (.IfExp c a b pos) (NP u ta tb):=PE.wk (G6 hc ha hb) (by
 rintro σ H Q ⟨p,H0,own,ρ,P,E,t,q⟩
 refine⟨p,H0,own,ρ,_,E,t,fun b H' h A=>?_⟩
 have nx:∀ k d v H2,P k d->At p H0 own H' H2->Rp (okK p H0 own H' k) H2 v d->Q v H2:=fun k d v H2 h2 A2 r2=>q k d v H2 h2 (A.base A2) (jL A r2)
 cases b with
 | true=>exact aM ⟨p,H0,own,ρ,P,E.go A.kp A.pen,by simpa using h,nx⟩
 | false=>exact aN ⟨p,H0,own,ρ,P,E.go A.kp A.pen,by simpa using h,nx⟩)
def tyD:D->String
 | .none=>"NoneType"
 | .bool _=>"bool"
 | .int _=>"int"
 | .str _=>"str"
 | .list _=>"list"
 | .tuple _=>"tuple"
 | .dict _=>"dict"
def isT (c:String) (d:D):Bool:=tyD d == c || (c == "int"&&tyD d == "bool")
def tIs (c:String) (te:DE):DE:=fun ρ P=>te ρ fun _ d=>P .imm (.bool (isT c d))
theorem cZ {T:String}{x:Str}{ps pt:Pos} (hk:∀ t:Value,(t=.type "NoneType"\/t=.type "bool"\/t=.type "int"\/t=.type "str"\/t=.type "list"\/t=.type "tuple"\/t=.type "dict")->∃ n,t=.type n/\W.kitOne X.K t (.type T)=some (n == T || (T == "int"&&n == "bool")))
  (hm:X.mg "isinstance"=none) (he:PD X e te) (hT:PE X (.Name x pt) (tC (.ty T))) (hg:Gl X "isinstance":=by rfl) (h1:starEach [e,.Name x pt] X.env=(false,eval e X.env)::starEach [.Name x pt] X.env:=by rfl) (h2:starEach [.Name x pt] X.env=(false,eval (.Name x pt) X.env)::starEach [] X.env:=by rfl) (hpl:(backTo pos (starEach [.Name x pt] X.env)).any (·.1)=false:=by rfl) :
  PD X (.Call (.Name "isinstance" ps) [e,.Name x pt] [] pos) (tIs T te):=PE.wk (lW wA hg hm boot_isinstance (cD he (cD hT gG h2) h1) (by decide) (by decide) h1 hpl) (by
 rintro σ H Q ⟨p,H0,own,ρ,P,E,t,q⟩
 refine⟨p,H0,own,ρ,_,E,t,fun k d v H' h A r=>?_⟩
 have fin:∀ n,TyOf X.K H' v (.type n)->n=tyD d->∃ x' c' t' b,[v,V.ty T]=[x',.ty c']/\TyOf X.K H' x' t'/\W.kitOne X.K t' (.type c')=some b/\Q (.bl b) H':=fun n ty en=>by
  obtain⟨n',e,hk'⟩:=hk (.type n) (by rw [en]; cases d <;> simp [tyD])
  cases e
  refine⟨v,T,.type n,_,rfl,ty,hk',?_⟩
  rw [en]
  exact q _ _ _ _ h A (.bl _)
 show ∃ x' c' t' b,_/\_
 cases r with
 | non=>exact fin _ .non rfl
 | bl b=>exact fin _ (.bl b) rfl
 | int i=>exact fin _ (.int i) rfl
 | str x=>exact fin _ (.str x) rfl
 | lst o hh rr=>exact fin _ (.lst hh) rfl
 | tup hh rr=>exact fin _ (.tup hh) rfl
 | dct o hh rr=>exact fin _ (.dK hh) rfl)
theorem Lr {K:Ú}:∀ t:Value,(t=.type "NoneType"\/t=.type "bool"\/t=.type "int"\/t=.type "str"\/t=.type "list"\/t=.type "tuple"\/t=.type "dict")->∃ n,t=.type n/\W.kitOne K t (.type "int")=some (n == "int" || ("int" == "int"&&n == "bool")):=by
 rintro t (rfl | rfl | rfl | rfl | rfl | rfl | rfl) <;> exact⟨_,rfl,rfl⟩
theorem Ir {K:Ú}:∀ t:Value,(t=.type "NoneType"\/t=.type "bool"\/t=.type "int"\/t=.type "str"\/t=.type "list"\/t=.type "tuple"\/t=.type "dict")->∃ n,t=.type n/\W.kitOne K t (.type "bool")=some (n == "bool" || ("bool" == "int"&&n == "bool")):=by
 rintro t (rfl | rfl | rfl | rfl | rfl | rfl | rfl) <;> exact⟨_,rfl,rfl⟩
theorem q9 {K:Ú}:∀ t:Value,(t=.type "NoneType"\/t=.type "bool"\/t=.type "int"\/t=.type "str"\/t=.type "list"\/t=.type "tuple"\/t=.type "dict")->∃ n,t=.type n/\W.kitOne K t (.type "list")=some (n == "list" || ("list" == "int"&&n == "bool")):=by
 rintro t (rfl | rfl | rfl | rfl | rfl | rfl | rfl) <;> exact⟨_,rfl,rfl⟩
theorem kit_tuple {K:Ú}:∀ t:Value,(t=.type "NoneType"\/t=.type "bool"\/t=.type "int"\/t=.type "str"\/t=.type "list"\/t=.type "tuple"\/t=.type "dict")->∃ n,t=.type n/\W.kitOne K t (.type "tuple")=some (n == "tuple" || ("tuple" == "int"&&n == "bool")):=by
 rintro t (rfl | rfl | rfl | rfl | rfl | rfl | rfl) <;> exact⟨_,rfl,rfl⟩
def Qm:GC:=fun ks P=>match ks with
 | [(_,.list ds)]=>∃ bs:List Bool,ds=bs.map Ľ/\P .imm (.bool (bs.all id))
 | _=>False
theorem Rps.bools {ok:Addr->Prop}{H:Hp}:∀ {vs:List V}{bs:List Bool},Rps ok H vs (bs.map Ľ)->vs=bs.map V.bl
 | [],[],_=>rfl
 | _,b::bs,.cons h t=>by
  have e:=h.bl'
  subst e
  rw [Rps.bools t]
  rfl
theorem jm {ps:Pos} (hc:X.calm=true) (hm:X.mg "all"=none) (hv:bootBuiltins "all"=some (.builtin "all")) (ha:PDA X [a] t) (hg:Gl X "all":=by rfl) (he:zS X a []:=by rfl) (hpl:zP X pos []:=by rfl):PD X (.Call (.Name "all" ps) [a] [] pos) (tCl Qm t) :=
 bZ (Ft hc) (by
  intro p H0 own Hb H vs ks P Q A r t q
  unfold Qm at t
  split at t
  ·obtain⟨bs,rfl,t⟩:=t
   obtain⟨v,rfl,r'⟩:=fO r
   obtain⟨x,xs,e1,o1,h1,rs1⟩:=Rp.cj r'
   subst e1
   have e2:=Rps.bools rs1
   subst e2
   exact⟨x,bs,rfl,SqL.of h1,q _ _ _ _ t Kp.refl A.pen (.bl _)⟩
  ·exact t.elim) hg hm hv ha (by decide) (by decide) he hpl
def gMM (f:Int->Int->Int):GC:=fun ks P=>match ks with
 | [(_,.int i),(_,.int j)]=>P .imm (.int (f i j))
 | _=>False
theorem mj {ps:Pos} (hc:X.calm=true) (hm:X.mg "max"=none) (ha:PDA X [a,b] t) (hg:Gl X "max":=by rfl) (he:starEach [a,b] X.env=(false,eval a X.env)::starEach [b] X.env:=by rfl) (hpl:(backTo pos (starEach [b] X.env)).any (·.1)=false:=by rfl):PD X (.Call (.Name "max" ps) [a,b] [] pos) (tCl (gMM fun i j=>if j > i then j else i) t) :=
 bZ (Fq hc) (by
  intro p H0 own Hb H vs ks P Q A r t q
  unfold gMM at t
  split at t
  ·rename_i k i k' j
   obtain⟨v,w,rfl,r1,r2⟩:=Gz r
   rw [Rp.int' r1,Rp.int' r2]
   exact⟨i,j,rfl,q _ _ _ _ t Kp.refl A.pen (.int _)⟩
  ·exact t.elim) hg hm boot_max ha (by decide) (by decide) he hpl
theorem pZ {ps:Pos} (hc:X.calm=true) (hm:X.mg "min"=none) (ha:PDA X [a,b] t) (hg:Gl X "min":=by rfl) (he:starEach [a,b] X.env=(false,eval a X.env)::starEach [b] X.env:=by rfl) (hpl:(backTo pos (starEach [b] X.env)).any (·.1)=false:=by rfl):PD X (.Call (.Name "min" ps) [a,b] [] pos) (tCl (gMM fun i j=>if j<i then j else i) t) :=
 bZ (Fo hc) (by
  intro p H0 own Hb H vs ks P Q A r t q
  unfold gMM at t
  split at t
  ·rename_i k i k' j
   obtain⟨v,w,rfl,r1,r2⟩:=Gz r
   rw [Rp.int' r1,Rp.int' r2]
   exact⟨i,j,rfl,q _ _ _ _ t Kp.refl A.pen (.int _)⟩
  ·exact t.elim) hg hm boot_min ha (by decide) (by decide) he hpl
def gMT (f:Int->Int->Int):GC:=fun ks P=>match ks with
 | [(_,.tuple [.int i,.int j])]=>P .imm (.int (f i j))
 | _=>False
theorem Ky {ps:Pos} (hc:X.calm=true) (hm:X.mg "min"=none) (ha:PDA X [a] t) (hg:Gl X "min":=by rfl) (he:zS X a []:=by rfl) (hpl:zP X pos []:=by rfl):PD X (.Call (.Name "min" ps) [a] [] pos) (tCl (gMT fun i j=>if j<i then j else i) t) :=
 bZ (uo hc) (by
  intro p H0 own Hb H vs ks P Q A r t q
  unfold gMT at t
  split at t
  ·rename_i k i j
   obtain⟨v,rfl,r'⟩:=fO r
   obtain⟨x,xs,e1,h1,rs1⟩:=Rp.fC r'
   obtain⟨v1,v2,e2,q1,q2⟩:=Rps.two rs1
   subst e1 e2
   rw [q1.int',q2.int'] at h1
   exact⟨x,i,j,rfl,SqT.of h1,q _ _ _ _ t Kp.refl A.pen (.int _)⟩
  ·exact t.elim) hg hm boot_min ha (by decide) (by decide) he hpl
theorem Kz {ps:Pos} (hc:X.calm=true) (hm:X.mg "max"=none) (ha:PDA X [a] t) (hg:Gl X "max":=by rfl) (he:zS X a []:=by rfl) (hpl:zP X pos []:=by rfl):PD X (.Call (.Name "max" ps) [a] [] pos) (tCl (gMT fun i j=>if j > i then j else i) t) :=
 bZ (Fp hc) (by
  intro p H0 own Hb H vs ks P Q A r t q
  unfold gMT at t
  split at t
  ·rename_i k i j
   obtain⟨v,rfl,r'⟩:=fO r
   obtain⟨x,xs,e1,h1,rs1⟩:=Rp.fC r'
   obtain⟨v1,v2,e2,q1,q2⟩:=Rps.two rs1
   subst e1 e2
   rw [q1.int',q2.int'] at h1
   exact⟨x,i,j,rfl,SqT.of h1,q _ _ _ _ t Kp.refl A.pen (.int _)⟩
  ·exact t.elim) hg hm boot_max ha (by decide) (by decide) he hpl
def I9:GC:=fun ks P=>match ks with
 | [(k,.list ds)]=>newP k ds fun k'=>P k' (.list ds)
 | [(k,.tuple ds)]=>newP k ds fun k'=>P k' (.list ds)
 | _=>False
theorem mq {ps:Pos} (hm:X.mg "list"=none) (ha:PDA X [a] t) (hg:Gl X "list":=by rfl) (he:zS X a []:=by rfl) (hpl:zP X pos []:=by rfl):PD X (.Call (.Name "list" ps) [a] [] pos) (tCl I9 t) :=
 xu mX (by
  intro p H0 own Hb H vs ks P Q A r t q
  have fin:∀ {k ds xs},Rps (okK p H0 own Hb k) H xs ds->newP k ds (fun k'=>P k' (.list ds))->∀ l,H l=none->Q (.ref l) (upd H l (.lst xs)):=fun {k ds xs} rs t l hl=>by
   obtain⟨k2,i2,nw⟩:=A.new hl (.lst xs)
   obtain⟨k',hk',rk'⟩:=iI A (bW A k2 rs) nw au t
   exact q _ _ _ _ hk' k2 i2 rk'
  unfold I9 at t
  split at t
  ·obtain⟨v,rfl,r'⟩:=fO r
   obtain⟨x,xs,e1,o1,h1,rs1⟩:=Rp.cj r'
   subst e1
   exact⟨x,xs,rfl,.inl (SqL.of h1),fin rs1 t⟩
  ·obtain⟨v,rfl,r'⟩:=fO r
   obtain⟨x,xs,e1,h1,rs1⟩:=Rp.fC r'
   subst e1
   exact⟨x,xs,rfl,.inr (SqT.of h1),fin rs1 t⟩
  ·exact t.elim) hg hm boot_list ha (by decide) (by decide) he hpl
def yr:GC:=fun ks P=>match ks with
 | [(k,.list ds)]=>P (norm k (.tuple ds)) (.tuple ds)
 | [(k,.tuple ds)]=>P (norm k (.tuple ds)) (.tuple ds)
 | _=>False
theorem gk {ps:Pos} (hm:X.mg "tuple"=none) (ha:PDA X [a] t) (hg:Gl X "tuple":=by rfl) (he:zS X a []:=by rfl) (hpl:zP X pos []:=by rfl):PD X (.Call (.Name "tuple" ps) [a] [] pos) (tCl yr t) :=
 xu sU (by
  intro p H0 own Hb H vs ks P Q A r t q
  unfold yr at t
  split at t
  ·rename_i k ds
   obtain⟨v,rfl,r'⟩:=fO r
   obtain⟨x,xs,e1,o1,h1,rs1⟩:=Rp.cj r'
   subst e1
   refine⟨x,xs,rfl,.inl ⟨SqL.of h1,fun l hl=>?_⟩⟩
   obtain⟨k2,i2,nw⟩:=A.new hl (.tup xs)
   exact q _ _ _ _ t k2 i2 (aV (.tup au (bW A k2 rs1)))
  ·rename_i k ds
   obtain⟨v,rfl,r'⟩:=fO r
   obtain⟨x,xs,e1,h1,rs1⟩:=Rp.fC r'
   subst e1
   exact⟨x,xs,rfl,.inr ⟨SqT.of h1,q _ _ _ _ t Kp.refl A.pen (aV r')⟩⟩
  ·exact t.elim) hg hm boot_tuple ha (by decide) (by decide) he hpl
def Ah:GC:=fun ks P=>match ks with
 | [(_,.list ds)]=>∃ ns:List Int,ds=ns.map Â/\ns.length<64/\∀ out:List Int,out.Perm ns->out.Pairwise (·<=·)->P .new (.list (out.map Â))
 | _=>False
theorem lY {ps:Pos} (hm:X.mg "sorted"=none) (ha:PDA X [a] t) (hg:Gl X "sorted":=by rfl) (he:zS X a []:=by rfl) (hpl:zP X pos []:=by rfl):PD X (.Call (.Name "sorted" ps) [a] [] pos) (tCl Ah t) :=
 bZ wz (by
  intro p H0 own Hb H vs ks P Q A r t q
  unfold Ah at t
  split at t
  ·obtain⟨ns,rfl,hl,t⟩:=t
   obtain⟨v,rfl,r'⟩:=fO r
   obtain⟨x,xs,e1,o1,h1,rs1⟩:=Rp.cj r'
   subst e1
   have e2:=Rps.ints rs1
   subst e2
   refine⟨x,ns,rfl,SqL.of h1,hl,fun l out hl' hp hs=>?_⟩
   obtain⟨k2,i2,nw⟩:=A.new hl' (.lst (out.map V.int))
   exact q _ _ _ _ (t out hp hs) k2 i2 (.lst nw au (Rps.ofMap (fun i=>.int i) out))
  ·exact t.elim) hg hm boot_sorted ha (by decide) (by decide) he hpl
def oK:GC:=fun ks P=>match ks with
 | [(_,d)]=>∃ ts:List Tie,(d=.list (ts.map pD)\/d=.tuple (ts.map pD))/\ts.length<64/\(∀ t∈ts,nq t)/\∀ us:List Tie,us.Perm ts->us.Pairwise (fun a b=>aJ a<=aJ b)->P .new (.list (us.map pD))
 | _=>False
theorem Rps.prs {ok:Addr->Prop}{H:Hp}:∀ {vs:List V}{ts:List Tie},Rps ok H vs (ts.map pD)->Prs H vs ts
 | [],[],_=>.nil
 | _,t::ts,.cons h r=>by
  obtain⟨x,xs,e,hx,rs⟩:=Rp.fC h
  obtain⟨v1,v2,e2,q1,q2⟩:=Rps.two rs
  subst e e2
  rw [q1.int',q2.int'] at hx
  exact .cons ⟨x,rfl,hx⟩ (Rps.prs r)
theorem Prs.rps {ok:Addr->Prop}{H:Hp}:∀ {vs:List V}{ts:List Tie},Prs H vs ts->Rps ok H vs (ts.map pD)
 | _,_,.nil=>.nil
 | _,_,.cons r t=>by
  obtain⟨x,e,hx⟩:=r
  subst e
  exact .cons (.tup hx (.cons (.int _) (.cons (.int _) .nil))) (Prs.rps t)
theorem cN {ps:Pos} (hm:X.mg "sorted"=none) (ha:PDA X [a] t) (hg:Gl X "sorted":=by rfl) (he:zS X a []:=by rfl) (hpl:zP X pos []:=by rfl):PD X (.Call (.Name "sorted" ps) [a] [] pos) (tCl oK t) :=
 bZ wj (by
  intro p H0 own Hb H vs ks P Q A r t q
  unfold oK at t
  split at t
  ·obtain⟨ts,hd,hl,hn,t⟩:=t
   obtain⟨v,rfl,r'⟩:=fO r
   have fin:∀ l ws us,H l=none->Prs H ws us->us.Perm ts->us.Pairwise (fun a b=>aJ a<=aJ b)->Q (.ref l) (upd H l (.lst ws)):=fun l ws us hl' pr hp hs=>by
    obtain⟨k2,i2,nw⟩:=A.new hl' (.lst ws)
    exact q _ _ _ _ (t us hp hs) k2 i2 (.lst nw au (bW A k2 (Prs.rps pr)))
   rcases hd with rfl | rfl
   ·obtain⟨x,xs,e1,o1,h1,rs1⟩:=Rp.cj r'
    subst e1
    exact⟨x,xs,ts,rfl,.inl (SqL.of h1),Rps.prs rs1,hn,hl,fin⟩
   ·obtain⟨x,xs,e1,h1,rs1⟩:=Rp.fC r'
    subst e1
    exact⟨x,xs,ts,rfl,.inr (SqT.of h1),Rps.prs rs1,hn,hl,fin⟩
  ·exact t.elim) hg hm boot_sorted ha (by decide) (by decide) he hpl
end
variable [Gr]
section
variable {X:Cx}{pins:List (Addr×Obj)}{σ:L2.St}{H:Hp}{s:Shared}{ok:Addr->Prop}
mutual
theorem Rp.reads (I:Inv X pins σ H s):∀ {v:V}{d:D}{u:Value},Rp ok H v d->RelV v u->d.canLay0=true->∃ as,Reads s.heap u d as
 | _,_,_,.non,r,_=>by cases r; exact⟨_,.none⟩
 | _,_,_,.bl b,r,_=>by cases r; exact⟨_,.bool b⟩
 | _,_,_,.int i,r,_=>by obtain⟨t,rfl⟩:=r; exact⟨_,.int i t⟩
 | _,_,_,.str x,r,_=>by obtain⟨t,rfl⟩:=r; exact⟨_,.str x t⟩
 | _,_,_,.lst o h rs,r,c=>by
  cases r
  obtain⟨its,rv,pl,_⟩:=I.list (SqL.of h)
  obtain⟨as,ra⟩:=Rps.reads I rs rv (by simpa [PyData.canLay0] using c)
  obtain⟨ob,ho,hc,n,hd⟩:=pl.isList
  exact⟨_,.list ho hc hd (by simpa using ra)⟩
 | _,_,_,.tup h rs,r,c=>by
  cases r
  obtain⟨its,rv,pl,_⟩:=I.tuple (SqT.of h)
  obtain⟨as,ra⟩:=Rps.reads I rs rv (by simpa [PyData.canLay0] using c)
  obtain⟨ob,ho,hc,n,hd⟩:=pl
  exact⟨_,.tuple ho hc hd (by simpa using ra)⟩
 | _,_,_,.dct o h rs,r,c=>by simp [PyData.canLay0] at c
theorem Rps.reads (I:Inv X pins σ H s):∀ {v:List V}{d:List D}{u:List Value},Rps ok H v d->Vals v u->Ĩ d=true->∃ as,ReadsAll s.heap u d as
 | _,_,_,.nil,r,_=>by cases r; exact⟨[],.nil⟩
 | _,_,_,.cons h t,r,c=>by
  cases r with
  | cons a b =>
   simp only [Ĩ,Ý] at c
   obtain⟨as,ra⟩:=Rp.reads I h a c.1
   obtain⟨bs,rb⟩:=Rps.reads I t b c.2
   exact⟨_,.cons ra rb⟩
end
end
def okD (d:D):Bool:=d.canLay0&&decide (d.depth<=60)
section
variable {X:Cx}{pos:Pos}{a b e:Expr}{ta tb te:DE}
def GJ (K:Ú) (neg:Bool):R2:=fun x y H Q=>∃ ok ok' d e,Rp ok H x d/\Rp ok' H y e/\okD d=true/\okD e=true/\Q (.bl (if neg then !(ü d e) else ü d e)) H
theorem Hs (hu:X.A.units+64<cLine):OpR X (compareOp .Eq) (GJ X.K false):=by
 intro pins s σ H x y v u Q I rx ry h
 obtain⟨ok,ok',d,e,hd,he,cd,ce,q⟩:=h
 simp only [okD,Ý,decide_eq_true_eq] at cd ce
 obtain⟨as,ra⟩:=hd.reads I rx cd.1
 obtain⟨bs,rb⟩:=he.reads I ry ce.1
 exact SeqAt.compareEq_reads ra rb cd.1 ce.1 (by omega) ⟨.bl _,H,I,rfl,q⟩
theorem vf (hu:X.A.units+64<cLine):OpR X (compareOp .NotEq) (GJ X.K true):=by
 intro pins s σ H x y v u Q I rx ry h
 obtain⟨ok,ok',d,e,hd,he,cd,ce,q⟩:=h
 simp only [okD,Ý,decide_eq_true_eq] at cd ce
 obtain⟨as,ra⟩:=hd.reads I rx cd.1
 obtain⟨bs,rb⟩:=he.reads I ry ce.1
 exact SeqAt.compareNe_reads ra rb cd.1 ce.1 (by omega) ⟨.bl _,H,I,rfl,q⟩
def Ql (neg:Bool):G2:=fun _ d1 _ d2 P=>okD d1=true/\okD d2=true/\P .imm (.bool (if neg then !(ü d1 d2) else ü d1 d2))
theorem HB {K:Ú} (neg:Bool):Ok2 (Ql neg) (GJ K neg):=by
 intro p H0 own Hb H x y k1 d1 k2 d2 P Q A r1 r2 t q
 exact⟨_,_,d1,d2,r1,r2,t.1,t.2.1,q _ _ _ _ t.2.2 Kp.refl A.pen (.bl _)⟩
theorem Kw (hu:X.A.units+64<cLine) (ha:PD X a ta) (hb:PD X b tb):PDT X (.Compare a [.NotEq] [b] pos) (cR (t2 (Ql true) ta tb)):=dX (vf hu) (HB true) ha hb (bH _)
def eqP (x:D) (h:Heap) (u:Value):Bool:=by
 classical
 exact decide (∃ d as,Reads h u d as/\ü d x=true)
def RK (neg:Bool):R2:=fun x y H Q=>∃ ok ok' d es,Rp ok H x d/\(Rp ok' H y (.list es)\/Rp ok' H y (.tuple es))/\okD d=true/\(es.all okD)=true/\Q (.bl (if neg then !(es.any fun e=>ü e d) else es.any fun e=>ü e d)) H
theorem Jm {x:D}{h:Heap}{u:Value}{d:D}{as:List Addr} (r:Reads h u d as):eqP x h u=ü d x:=by
 classical
 unfold eqP
 rw [ģ,decide_eq_true_eq]
 constructor
 ·rintro ⟨d',as',r',e⟩
  rw [(r.unique d' as' r').1]
  exact e
 ·exact fun e=>⟨d,as,r,e⟩
theorem wD {x:D}{h:Heap}:∀ {us:List Value}{ds:List D}{as:List Addr},ReadsAll h us ds as->us.any (eqP x h)=ds.any fun e=>ü e x
 | _,_,_,.nil=>rfl
 | _,_,_,.cons a b=>by
  rw [List.any_cons,List.any_cons,Jm a,wD b]
theorem vG {A:Around}{s:Shared}{x:D}{v:Value}{bs:List Addr} (rx:Reads s.heap v x bs) (cx:okD x=true) (hu:A.units+60<cLine):∀ {us:List Value}{ds:List D}{as:List Addr},ReadsAll s.heap us ds as->ds.all okD=true->∀ u∈us,SeqAt.EqAt A s u v (eqP x s.heap u)
 | _,_,_,.nil,_,u,hu'=>nomatch hu'
 | _,d::ds,_,.cons a b,c,u,hu'=>by
  simp only [List.all_cons,Ý] at c
  rcases Ô.mp hu' with rfl | hu'
  ·rw [Jm a]
   have c1:=c.1
   simp only [okD,Ý,decide_eq_true_eq] at c1 cx
   exact SeqAt.eqAt_reads _ _ A s _ _ _ _ a rx c1.1 cx.1 (by omega)
  ·exact vG rx cx hu b c.2 u hu'
theorem yq {A:Around} (hu:A.units+64<cLine):A.in1.units+60<cLine:=by
 have:A.in1.units<=A.units+1:=by first | exact Í _ | exact Ł _ | (unfold Around.in1; simp)
 omega
theorem vL:∀ {es:List D},es.all okD=true->Ĩ es=true
 | [],_=>rfl
 | e::es,h=>by
  simp only [List.all_cons,Ý,okD] at h
  simp only [Ĩ,Ý]
  exact⟨h.1.1,vL h.2⟩
theorem Hq (hu:X.A.units+64<cLine):OpR X (compareOp .In) (RK false):=by
 intro pins s σ H x y v u Q I rx ry h
 obtain⟨ok,ok',d,es,hd,hs,cd,ce,q⟩:=h
 have cd':=cd
 simp only [okD,Ý,decide_eq_true_eq] at cd'
 obtain⟨bs,rb⟩:=hd.reads I rx cd'.1
 rcases hs with hs | hs
 ·obtain⟨c,vs,rfl,o,hc,rs⟩:=hs.cj
  cases ry
  obtain⟨its,r,pl,hz⟩:=I.list (SqL.of hc)
  obtain⟨as,ra⟩:=rs.reads I r (vL ce)
  refine SeqAt.in_listAt (eqP d s.heap) pl.isList (fun w hw=>vG rb cd (yq hu) ra ce w (by simpa using hw)) ⟨.bl _,H,I,rfl,?_⟩
  rw [show its.toArray.any (eqP d s.heap)=its.any (eqP d s.heap) by simp,wD ra]
  exact q
 ·obtain⟨c,vs,rfl,hc,rs⟩:=hs.fC
  cases ry
  obtain⟨its,r,pl,hz⟩:=I.tuple (SqT.of hc)
  obtain⟨as,ra⟩:=rs.reads I r (vL ce)
  refine SeqAt.in_tupleAt (eqP d s.heap) pl (fun w hw=>vG rb cd (yq hu) ra ce w (by simpa using hw)) ⟨.bl _,H,I,rfl,?_⟩
  rw [show its.toArray.any (eqP d s.heap)=its.any (eqP d s.heap) by simp,wD ra]
  exact q
def gIn (neg:Bool):G2:=fun _ d1 _ d2 P=>match d2 with
 | .list es=>okD d1=true/\es.all okD=true/\P .imm (.bool (if neg then !(es.any fun e=>ü e d1) else es.any fun e=>ü e d1))
 | .tuple es=>okD d1=true/\es.all okD=true/\P .imm (.bool (if neg then !(es.any fun e=>ü e d1) else es.any fun e=>ü e d1))
 | _=>False
theorem okIn (neg:Bool):Ok2 (gIn neg) (RK neg):=by
 intro p H0 own Hb H x y k1 d1 k2 d2 P Q A r1 r2 t q
 cases d2 with
 | list es=>exact⟨_,_,d1,es,r1,.inl r2,t.1,t.2.1,q _ _ _ _ t.2.2 Kp.refl A.pen (.bl _)⟩
 | tuple es=>exact⟨_,_,d1,es,r1,.inr r2,t.1,t.2.1,q _ _ _ _ t.2.2 Kp.refl A.pen (.bl _)⟩
 | _=>exact t.elim
theorem Mr (hu:X.A.units+64<cLine) (ha:PD X a ta) (hb:PD X b tb) (hm:behindInMarks .In b=false:=by rfl):PD X (.Compare a [.In] [b] pos) (t2 (gIn false) ta tb):=gD (Hq hu) (okIn false) ha hb hm
theorem eE (hu:X.A.units+64<cLine) (ha:PD X a ta) (hb:PD X b tb) (hm:behindInMarks .In b=false:=by rfl):PDT X (.Compare a [.In] [b] pos) (cR (t2 (gIn false) ta tb)):=dX (Hq hu) (okIn false) ha hb hm
end
variable [Gr]
section
variable {X:Cx}{pos p2:Pos}{a b c e:Expr}{es:List Expr}{ta tb tc te:DE}{t:DA}{st:Stmt}
abbrev DO:=List Sl->(Option Int->Prop)->Prop
def qY (t:DO):TO:=fun σ H Q=>∃ p H0 own ρ P,EnvD p H0 own σ H ρ/\t ρ P/\∀ o H',P o->At p H0 own H H'->Q o H'
theorem PO.wk {e:Option Expr}{t t':TO} (h:PO X e t) (w:∀ σ H Q,t' σ H Q->t σ H Q):PO X e t':=fun pins s σ H Q I q=>h pins s σ H Q I (w σ H Q q)
def MJ:DO:=fun _ P=>P none
def MF (te:DE):DO:=fun ρ P=>te ρ fun _ d=>match d with
 | .int i=>P (some i)
 | _=>False
theorem eY:PO X none (qY MJ):=PO.wk BJ (by
 rintro σ H Q ⟨p,H0,own,ρ,P,E,t,q⟩
 exact q _ _ t E.at)
theorem cH (h:PD X e te):PO X (some e) (qY (MF te)):=PO.wk (Bx h) (by
 rintro σ H Q ⟨p,H0,own,ρ,P,E,t,q⟩
 refine⟨p,H0,own,ρ,_,E,t,fun k d v H' h A r=>?_⟩
 cases d with
 | int i=>exact⟨i,r.int',q _ _ h A⟩
 | _=>exact h.elim)
def dW {α:Type} (ds:List α) (lo hi:Option Int):List α:=(ds.drop (HT.sIx ds.length 0 lo)).take (HT.sIx ds.length ds.length hi - HT.sIx ds.length 0 lo)
theorem Rps.cut {ok:Addr->Prop}{H:Hp}{vs:List V}{ds:List D} (r:Rps ok H vs ds) (lo hi:Option Int):Rps ok H (oR vs lo hi) (dW ds lo hi):=by
 unfold oR dW
 rw [r.length]
 exact (r.drop _).take _
def T9 (te:DE) (tl th:DO):DE:=fun ρ P=>te ρ fun k d=>tl ρ fun lo=>th ρ fun hi=>match d with
 | .list ds=>newP k (dW ds lo hi) fun k'=>P k' (.list (dW ds lo hi))
 | _=>False
theorem zx {lo hi:Option Expr}{tl th:DO} (he:PD X e te) (hl:PO X lo (qY tl)) (hh:PO X hi (qY th)):PD X (.Subscript e (.Slice lo hi none p2) pos) (T9 te tl th):=PE.wk (qH uN he hl hh) (by
 rintro σ H Q ⟨p,H0,own,ρ,P,E,t,q⟩
 refine⟨p,H0,own,ρ,_,E,t,fun k d v H1 h A r=>?_⟩
 refine⟨p,H0,own,ρ,_,E.go A.kp A.pen,h,fun o1 H2 h2 A2=>?_⟩
 refine⟨p,H0,own,ρ,_,(E.go A.kp A.pen).go A2.kp A2.pen,h2,fun o2 H3 h3 A3=>?_⟩
 have A4:=(A.base A2).base A3
 have r3:=o8 (A.base A2) A3.kp (o8 A A2.kp r)
 cases d with
 | list ds =>
  obtain⟨x,xs,e1,o,h1,rs⟩:=Rp.cj r3
  subst e1
  refine⟨x,xs,rfl,SqL.of h1,fun l hl=>?_⟩
  obtain⟨k2,i2,nw⟩:=A4.new hl (.lst (oR xs o1 o2))
  obtain⟨k',hk',rk'⟩:=iI A4 (bW A4 k2 (rs.cut o1 o2)) nw au h3
  exact q _ _ _ _ hk' (A4.go k2 i2) rk'
 | _=>exact h3.elim)
def Lz:G2:=fun k1 d1 k2 d2 P=>match d1,d2 with
 | .list ds,.list es=>ds.length+es.length<=1000/\newP (k1.join k2) (ds++es) fun k=>P k (.list (ds++es))
 | _,_=>False
theorem Mx:Ok2 Lz RM:=by
 intro p H0 own Hb H x y k1 d1 k2 d2 P Q A r1 r2 t q
 unfold Lz at t
 split at t
 ·obtain⟨c1,xs,e1,o1,h1,rs1⟩:=r1.cj
  obtain⟨c2,ys,e2,o2,h2,rs2⟩:=r2.cj
  subst e1 e2
  have h24:=ê
  refine⟨c1,c2,xs,ys,rfl,rfl,h1,h2,by rw [rs1.length,rs2.length]; omega,fun l hl=>?_⟩
  obtain⟨k3,i3,nw⟩:=A.new hl (.lst (xs++ys))
  have j:=eX k1 k2
  have m:∀ {k vs ds},k.le (k1.join k2)=true->Rps (okK p H0 own Hb k) H vs ds->Rps (okK p H0 own Hb (k1.join k2)) H vs ds:=fun hk z=>z.mono (fun a o=>bU A hk o) (fun _ _ _ e=>e) fun _ _ e=>e
  obtain⟨k',hk',rk'⟩:=iI A (bW A k3 ((m j.1 rs1).app (m j.2 rs2))) nw au t.2
  exact q _ _ _ _ hk' k3 i3 rk'
 ·exact t.elim
theorem Hi (ha:PD X a ta) (hb:PD X b tb):PD X (.BinOp a .Add b pos) (t2 Lz ta tb):=lZ Ht Mx ha hb
def Ja:G2:=fun k1 d1 k2 d2 P=>match d1,d2 with
 | .tuple ds,.tuple es=>ds.length+es.length<=1000/\P (norm (k1.join k2) (.tuple (ds++es))) (.tuple (ds++es))
 | _,_=>False
theorem PJ:Ok2 Ja Mq:=by
 intro p H0 own Hb H x y k1 d1 k2 d2 P Q A r1 r2 t q
 unfold Ja at t
 split at t
 ·obtain⟨c1,xs,e1,h1,rs1⟩:=r1.fC
  obtain⟨c2,ys,e2,h2,rs2⟩:=r2.fC
  subst e1 e2
  have h24:=ê
  refine⟨c1,c2,xs,ys,rfl,rfl,h1,h2,by rw [rs1.length,rs2.length]; omega,fun l H' sm hl=>?_⟩
  have K:Kp p H H':=Kp.of sm
  have j:=eX k1 k2
  have m:∀ {k vs ds},k.le (k1.join k2)=true->Rps (okK p H0 own Hb k) H vs ds->Rps (okK p H0 own Hb (k1.join k2)) H vs ds:=fun hk z=>z.mono (fun a o=>bU A hk o) (fun _ _ _ e=>e) fun _ _ e=>e
  exact q _ _ _ _ t.2 K (p.mono H H' A.pen fun b o _ e=>sm b o e) (aV (.tup hl (bW A K ((m j.1 rs1).app (m j.2 rs2)))))
 ·exact t.elim
def J0 (ta:DE):DE:=fun ρ P=>ta ρ fun _ d=>match d with
 | .int i=>P .imm (.int (-i))
 | _=>False
theorem iH (ha:PD X a ta):PD X (.UnaryOp .USub a pos) (J0 ta):=PE.wk (RV Nt ha) (by
 rintro σ H Q ⟨p,H0,own,ρ,P,E,t,q⟩
 refine⟨p,H0,own,ρ,_,E,t,fun k d v H' h A r=>?_⟩
 cases d with
 | int i=>exact⟨i,r.int',q _ _ _ _ h A (.int _)⟩
 | _=>exact h.elim)
def Tz (te:DE) (g:DG):DS:=fun P ρ=>te ρ fun k d=>g (norm (elK k) d) d ρ P.nx
theorem R8 {p:Pn}{H0 Hb H:Hp}{own:Addr->Option Nat} (A:At p H0 own Hb H) {k:Kd}{v:V}{d:D} (r:Rp (okK p H0 own Hb k) H v d):Rp (okB p H0 own (norm (elK k) d)) H v d:=by
 refine gK (r.mono (fun a o=>?_) (fun _ _ _ e=>e) fun _ _ e=>e)
 cases k with
 | imm=>exact o
 | new=>exact⟨A.h0 o,A.nfb o,A.Hj o⟩
 | reg q=>exact o
 | n0=>trivial
 | snw=>exact o
 | shr=>exact o
 | wk=>trivial
theorem vZ {g:DG} (h:PS X st (qu (bI te) (Ce g))):PDS X st (Tz te g):=PS.wk' h (by
 rintro Q σ H ⟨p,H0,own,ρ,P,E,t,w⟩
 refine⟨p,H0,own,ρ,_,E,t,fun k d v H1 h A r=>?_⟩
 exact⟨p,H0,own,ρ,_,d,P.nx,E.go A.kp A.pen,R8 A r,h,fun σ' ρ' E' n=>w.nx own σ' H1 ρ' E' A.frs n⟩)
def QD (i:Nat) (te:DE):DS:=fun P ρ=>match ρ[i]? with
 | some (.dw r (.list ds))=>te ρ fun k d=>match d with
  | .list es=>(k.le .new || eG es)=true/\ds.length+es.length<=1000/\P.nx ((forget r ρ).set i (.dw r (.list (ds++es))))
  | _=>False
 | _=>False
theorem vg {te:DE}{ρ:List Sl}{R:Kd->D->Prop} (t:te ρ R):aG te cu ρ (fun ks=>∃ k d,ks=[(k,d)]/\R k d):=by
 show te ρ fun k d=>∃ k' d',[((k,d):Kd×D)]=[(k',d')]/\R k' d'
 have e:(fun k d=>∃ k' d',[((k,d):Kd×D)]=[(k',d')]/\R k' d')=R:=by
  funext k d
  apply propext
  constructor
  ·rintro ⟨k',d',e,h⟩
   cases e
   exact h
  ·exact fun h=>⟨k,d,rfl,h⟩
 rw [e]
 exact t
theorem wY {ok ok':Addr->Prop}{H H2:Hp} (f:∀ {w:V}{d:D},Rp ok H w d->Rp ok' H2 w d):∀ {vs:List V}{ds:List D},Rps ok H vs ds->Rps ok' H2 vs ds
 | _,_,.nil=>.nil
 | _,_,.cons h t=>.cons (f h) (wY f t)
theorem dU {i:Nat} (h:PS X st (qp (tBM X.K "list" Bu (iy i) (gW (aG te cu))))):PDS X st (QD i te):=PS.wk' h (by
 rintro Q σ H ⟨p,H0,own,ρ,P,E,t,w⟩
 unfold QD at t
 split at t
 ·rename_i r ds hr
  obtain⟨v,hv,x⟩:=E.slot i _ hr
  obtain⟨l,vs,rfl,hl,ho,rs⟩:=x.cj
  refine⟨.ref l,hv,.inl ⟨rfl,vs,SqL.of ho⟩,p,H0,own,ρ,_,E,vg t,?_⟩
  rintro ks ws H1 ⟨k,d,rfl,hh⟩ A rk
  cases d with
  | list es =>
   obtain⟨hk,hlen,hn⟩:=hh
   obtain⟨y,rfl,ry⟩:=fO rk
   obtain⟨b,zs,e1,o1,hb,rz⟩:=Rp.cj ry
   subst e1
   have rz2:Rps (okK p H0 own H .new) H1 zs es:=by
    rcases Bool.or_eq_true_iff.mp hk with q | q
    ·exact rz.mono (fun a o=>bU A q o) (fun _ _ _ e=>e) fun _ _ e=>e
    ·exact (Rps.imm rz q).mono (fun a o=>o.elim) (fun _ _ _ e=>e) fun _ _ e=>e
   have h1:H1 l=some (.lst vs):=A.kp l _ ho (E.ow l r hl).2.1
   have h24:=ê
   have l1:=rs.length
   have l2:=rz.length
   refine⟨l,b,vs,zs,rfl,rfl,h1,hb,by omega,?_⟩
   obtain⟨E2,F2⟩:=E.uQ (vs':=vs++zs) (ds':=ds++es) A hv hl ho rs fun H2 f g=>(pP f rs fun d hd=>nH hd).app (wY g rz2)
   exact w.nx _ σ _ _ E2 F2 hn
  | _=>exact hh.elim
 ·exact t.elim)
def Tt (i:Nat) (tj te:DE):DS:=fun P ρ=>match ρ[i]? with
 | some (.dw r (.list ds))=>tj ρ fun _ dj=>te ρ fun k d=>match dj with
  | .int j=>(norm k d).le .new=true/\0<=j/\j.toNat<=ds.length/\ds.length<1000/\P.nx ((forget r ρ).set i (.dw r (.list (ds.take j.toNat++d::ds.drop j.toNat))))
  | _=>False
 | _=>False
theorem Ey {i:Nat}{tj:DE} (h:PS X st (qp (tBM X.K "list" Bt (iy i) (gW (aG tj (aG te cu)))))):PDS X st (Tt i tj te):=PS.wk' h (by
 rintro Q σ H ⟨p,H0,own,ρ,P,E,t,w⟩
 unfold Tt at t
 split at t
 ·rename_i r ds hr
  obtain⟨v,hv,x⟩:=E.slot i _ hr
  obtain⟨l,vs,rfl,hl,ho,rs⟩:=x.cj
  refine⟨.ref l,hv,.inl ⟨rfl,vs,SqL.of ho⟩,p,H0,own,ρ,fun ks=>∃ k1 dj k d,ks=[(k1,dj),(k,d)]/\(match dj with
   | .int j=>(norm k d).le .new=true/\0<=j/\j.toNat<=ds.length/\ds.length<1000/\P.nx ((forget r ρ).set i (.dw r (.list (ds.take j.toNat++d::ds.drop j.toNat))))
   | _=>False),E,?_,?_⟩
  ·show tj ρ fun k1 dj=>te ρ fun k d=>∃ k1' dj' k' d',[((k1,dj):Kd×D),(k,d)]=[(k1',dj'),(k',d')]/\_
   have e:∀ (k1:Kd) (dj:D),(fun k d=>∃ k1' dj' k' d',[((k1,dj):Kd×D),(k,d)]=[(k1',dj'),(k',d')]/\(match dj' with
    | .int j=>(norm k' d').le .new=true/\0<=j/\j.toNat<=ds.length/\ds.length<1000/\P.nx ((forget r ρ).set i (.dw r (.list (ds.take j.toNat++d'::ds.drop j.toNat))))
    | _=>False))=fun k d=>(match dj with
    | .int j=>(norm k d).le .new=true/\0<=j/\j.toNat<=ds.length/\ds.length<1000/\P.nx ((forget r ρ).set i (.dw r (.list (ds.take j.toNat++d::ds.drop j.toNat))))
    | _=>False):=fun k1 dj=>by
    funext k d
    apply propext
    constructor
    ·rintro ⟨k1',dj',k',d',e,h⟩
     cases e
     exact h
    ·exact fun h=>⟨k1,dj,k,d,rfl,h⟩
   simp only [e]
   exact t
  ·rintro ks ws H1 ⟨k1,dj,k,d,rfl,hh⟩ A rk
   cases dj with
   | int j =>
    obtain⟨hk,h0,hj,hlen,hn⟩:=hh
    obtain⟨y1,y,rfl,ry1,ry⟩:=Gz rk
    have ry:=lU A hk (aV ry)
    have e1:=Rp.int' ry1
    have h1:H1 l=some (.lst vs):=A.kp l _ ho (E.ow l r hl).2.1
    have h24:=ê
    have l1:=rs.length
    refine⟨l,vs,j.toNat,y,rfl,?_,h1,by omega,by omega,?_⟩
    ·rw [e1]
     have:((j.toNat:Nat):Int)=j:=by omega
     rw [this]
    obtain⟨E2,F2⟩:=E.uQ (vs':=vs.take j.toNat++y::vs.drop j.toNat) (ds':=ds.take j.toNat++d::ds.drop j.toNat) A hv hl ho rs fun H2 f g=>by
     have m:=pP f rs fun d hd=>nH hd
     exact (m.take _).app (.cons (g ry) (m.drop _))
    exact w.nx _ σ _ _ E2 F2 hn
   | _=>exact hh.elim
 ·exact t.elim)
end
variable [Gr]
structure Cal (P:Program) (w:World) (K:Ú) (mg:Str->Option Value) (base:Heap) (k:Nat) (x:Str) (ps:List Str) (sp:Sp):Prop where
 ex:∃ f fd,FnOk P w K mg base CX0 k f fd ps sp/\Binds K fd ps []/\W.keepIn K (.ref f)=true/\mg x=some (.ref f)
section
variable {X:Cx}{k j:Nat}{x:Str}{ps:List Str}{e:Expr}{es:List Expr}{t:DA}{p pos pq:Pos}
theorem pcS {sp:Sp}{ta:TA} (C:Cal X.prog X.w X.K X.mg X.base k x ps sp) (hr:Room j X.A) (ha:PA X (e::es) ta) (hk:k<=j) (hg:Gl X x)
  (hdb:zB x) (he:zS X e es) (hpl:zP X pos es) :
  PE X (.Call (.Name x p) (e::es) [] pos) (oX sp [] E0 ta):=by
 obtain⟨f,fd,F,b,kp,m⟩:=C.ex
 exact Kv F (hr.mono hk) hg m kp b .nil Ms ha hdb he hpl
theorem dc {f:List D->(D->Prop)->Prop} (C:Cal X.prog X.w X.K X.mg X.base k x ps (spD f)) (hr:Room j X.A) (ha:PDA X (e::es) t) (hk:k<=j:=by decide) (hg:Gl X x:=by rfl)
  (hdb:zB x:=by decide) (he:zS X e es:=by rfl) (hpl:zP X pos es:=by rfl) :
  PD X (.Call (.Name x p) (e::es) [] pos) (tFn f t):=PE.wk (pcS C hr ha hk hg hdb he hpl) Li
theorem dcP {C:Pn->Prop}{i:Nat}{f:List D->(D->Prop)->Prop}{y:Str}{py:Pos} (CC:Cal X.prog X.w X.K X.mg X.base k x ps (spP C f)) (hr:Room j X.A) (hi:PE X (.Name y py) (iy i)) (ha:PDA X es t) (hk:k<=j:=by decide) (hg:Gl X x:=by rfl)
  (hdb:zB x:=by decide) (he:starEach (.Name y py::es) X.env=(false,eval (.Name y py) X.env)::starEach es X.env:=by rfl) (hpl:zP X pos es:=by rfl) :
  PD X (.Call (.Name x p) (.Name y py::es) [] pos) (Gj C f i t):=PE.wk (pcS CC hr (cD hi ha) hk hg hdb he hpl) Ij
theorem dv (i:Nat) {x:Str}{pos:Pos} (hN:X.N[i]?=some x:=by rfl) (hv:Vis X.env.scope x:=by first | exact Ğ rfl | exact Or.inr (Ğ rfl) | exact Or.inr (Or.inr rfl)) (hd:zB x:=by decide)
  (hcd:(x == ("__classdict__":Str))=false:=by decide):PD X (.Name x pos) (tV i):=OJ (pv i hN hv hd hcd)
end
structure Bn (mg:Str->Option Value):Prop where
 isinstance:mg "isinstance"=none
 int:mg "int"=none
 bool:mg "bool"=none
 tuple:mg "tuple"=none
 list:mg "list"=none
 len:mg "len"=none
 all:mg "all"=none
 min:mg "min"=none
 max:mg "max"=none
 sorted:mg "sorted"=none
 range:mg "range"=none
 abs:mg "abs"=none
theorem boot_all:bootBuiltins "all"=some (.builtin "all"):=by decide +kernel
theorem Gf {i:Nat}{ρ:List Sl}{d:D}{P:DK} (h:ρ[i]?=some (bx d)) (q:∀ k,P k d):tV i ρ P:=by
 unfold tV
 rw [h]
 unfold bx
 by_cases hi:iY d=true
 ·rw [if_pos hi]; exact q _
 ·rw [if_neg hi]; exact q _
theorem Lj {f:List D->(D->Prop)->Prop}{n:Nat} (hn:∀ ds P,f ds P->ds.length=n:=by intro _ _ h; repeat (first | (obtain⟨rfl,_⟩:=h; rfl) | obtain⟨_,h⟩:=h)):∀ vs H Q E,spD f vs H Q E->vs.length=n:=fun vs H Q E h=>by
 obtain⟨ds,P,r,t,_⟩:=h
 rw [r.length]
 exact hn ds P t
theorem aX {f:List D->(D->Prop)->Prop}{T:DS}{N:List Str}{vs:List V}{H:Hp}{Q:VK}{E:XK} (h:spD f vs H Q E)
  (body:∀ ds P,f ds P->∃ ρ,ds.map bx++É (N.length - ds.length) .any=ρ/\T { nx:=fun _=>P .none,rt:=P } ρ) (g:Gr.G fJ H:=by trivial):j7 T { nx:=fun _ H'=>Q .non H',rt:=Q } (L2.start N vs) H :=
 vV h (fun ds P t=>by
  obtain⟨ρ,e,q⟩:=body ds P t
  rw [e]
  exact q) g
def aR (n:Int) (us:List Tie):D:=.tuple [.int n,.tuple (us.map pD)]
theorem mH (n:Int) (us:List Tie):iY (aR n us)=true:=by
 show (iY (.int n)&&(eG (us.map pD)&&true))=true
 rw [bL]
 rfl
theorem cJ (n:Int) (us:List Tie):bx (aR n us)=.im (aR n us):=if_pos (mH n us)
def isW:D->Bool
 | .int _=>true
 | _=>false
def Jd (ds:List D) (P:D->Prop):Prop:=∃ d,ds=[d]/\P (.bool (isW d))
def cW (m:Int):D->Bool
 | .int i=>decide (0<=i/\i<m)
 | _=>false
def Al (ds:List D) (P:D->Prop):Prop:=∃ m d,ds=[.int m,d]/\P (.bool (cW m d))
theorem enterQ {C:Pn->Prop}{f:List D->(D->Prop)->Prop}{T:DS}{N:List Str}{vs:List V}{H:Hp}{Q:VK}{E:XK} (h:spP C f vs H Q E)
  (body:∀ ds P,f ds P->∃ ρ,ds.map bx++É (N.length - (ds.length+1)) .any=ρ/\T { nx:=fun _=>P .none,rt:=P } (.pen C::ρ)) (g:∀ p,Gr.G p H:=by intro _; trivial):j7 T { nx:=fun _ H'=>Q .non H',rt:=Q } (L2.start N vs) H :=
 Qx h (fun ds P t=>by
  obtain⟨ρ,e,q⟩:=body ds P t
  rw [e]
  exact q) g
variable [Gr]
theorem LC {α β:Type}{ds:List α}{i:Nat}{d:α} (p:α->Bool) (f:α->β) (h:ds[i]?=some d):((ds.take (i+1)).filter p).map f=((ds.take i).filter p).map f++(if p d=true then [f d] else []):=by
 rw [ğ,h,List.filter_append,Ø]
 congr 1
 by_cases hp:p d=true
 ·simp [hp]
 ·simp [hp]
theorem oG {α β:Type}{ds:List α}{i:Nat}{d:α} (f:α->β) (h:ds[i]?=some d):(ds.take (i+1)).map f=(ds.take i).map f++[f d]:=by
 rw [ğ,h,Ø]
 rfl
theorem dI {α β:Type}{l:List α}{g:α->β}{i:Nat}{d:β} (h:(l.map g)[i]?=some d):∃ x,l[i]?=some x/\g x=d:=by
 rw [á] at h
 cases e:l[i]? with
 | none=>rw [e] at h; cases h
 | some x=>rw [e] at h; exact⟨x,rfl,æ h⟩
theorem take_all {α:Type} (l:List α) {n:Nat} (h:l.length<=n):l.take n=l:=Ŗ h
theorem dY:∀ l:List Int,(l.map Â).all okD=true
 | []=>rfl
 | x::l=>by
  rw [ã,List.all_cons,dY l]
  rfl
theorem any_ints (x:Int):∀ l:List Int,((l.map Â).any fun e=>ü e (.int x))=decide (x∈l)
 | []=>rfl
 | y::l=>by
  rw [ã,List.any_cons,any_ints x l]
  have e:ü (.int y) (.int x)=(y == x):=rfl
  rw [e,ģ,Bool.or_eq_true,beq_iff_eq,decide_eq_true_eq,decide_eq_true_eq,List.mem_cons]
  constructor
  ·rintro (h | h)
   ·exact .inl h.symm
   ·exact .inr h
  ·rintro (h | h)
   ·exact .inl h.symm
   ·exact .inr h
theorem Ei (lo:Int) (n:Nat):(tW lo n).length=n:=by unfold tW; simp
theorem bR {lo:Int}{n i:Nat}{d:D} (h:(tW lo n)[i]?=some d):i<n/\d=.int (lo+((i:Nat):Int)):=by
 unfold tW at h
 obtain⟨x,hx,e⟩:=dI h
 obtain⟨h1,h2⟩:=Î.mp hx
 have h3:i<n:=by simpa using h1
 have h4:x=i:=by simpa using h2.symm
 subst h4
 exact⟨h3,e.symm⟩
variable [Gr]
section
variable {X:Cx}{pos p2:Pos}{a b e:Expr}{ta tb te:DE}
theorem Rps.rep {ok:Addr->Prop}{H:Hp}{vs:List V}{ds:List D} (r:Rps ok H vs ds):∀ k:Nat,Rps ok H (É k vs).flatten (É k ds).flatten
 | 0=>.nil
 | k+1=>by
  rw [ĩ,ĩ,Ĭ,Ĭ]
  exact r.app (Rps.rep r k)
def Qi:G2:=fun k1 d1 _ d2 P=>match d1,d2 with
 | .list ds,.int k=>0<=k/\k<1000/\ds.length * k.toNat<=1000/\newP k1 (É k.toNat ds).flatten fun k'=>P k' (.list (É k.toNat ds).flatten)
 | _,_=>False
theorem R6:Ok2 Qi RD:=by
 intro p H0 own Hb H x y k1 d1 k2 d2 P Q A r1 r2 t q
 unfold Qi at t
 split at t
 ·rename_i ds k
  obtain⟨c1,xs,e1,o1,h1,rs1⟩:=r1.cj
  subst e1
  have h24:=ê
  refine⟨c1,k,xs,rfl,r2.int',h1,by omega,by omega,by rw [rs1.length]; omega,fun l hl=>?_⟩
  obtain⟨k3,i3,nw⟩:=A.new hl (.lst (É k.toNat xs).flatten)
  obtain⟨k',hk',rk'⟩:=iI A (bW A k3 (rs1.rep k.toNat)) nw au t.2.2.2
  exact q _ _ _ _ hk' k3 i3 rk'
 ·exact t.elim
def Ly:G2:=fun _ d1 _ d2 P=>match d1,d2 with
 | .bool i,.bool j=>P .imm (.bool (decide (i=j)))
 | _,_=>False
theorem Sd:Ok2 Ly (fun x y H Q=>∃ a b,x=.bl a/\y=.bl b/\Q (.bl (decide (a=b))) H):=by
 intro p H0 own Hb H x y k1 d1 k2 d2 P Q A r1 r2 t q
 unfold Ly at t
 split at t
 ·cases r1
  cases r2
  exact⟨_,_,rfl,rfl,q _ _ _ _ t Kp.refl A.pen (.bl _)⟩
 ·exact t.elim
theorem zA (ha:PD X a ta) (hb:PD X b tb):PD X (.Compare a [.Is] [b] pos) (t2 Ly ta tb):=gD Ho Sd ha hb (bH _)
end
theorem lV (ns:List Int):∀ k,k<=ns.length->PySem.preSum (fun i=>ns.getD i 0) k=(ns.take k).sum
 | 0,_=>rfl
 | k+1,h=>by
  show PySem.preSum _ k+ns.getD k 0=_
  have hk:k<ns.length:=by omega
  have e:ns.take (k+1)=ns.take k++[ns[k]]:=by rw [ğ,Ç hk]; rfl
  have e2:ns.getD k 0=ns[k]:=by rw [Ë,Ç hk]; rfl
  rw [lV ns k (by omega),e,e2,List.sum_append,î,List.sum_nil,Int.add_zero]
theorem nJ:∀ (ns:List Int) (b:Int),(∀ x∈ns,-b<=x/\x<=b)->-(b * ns.length)<=ns.sum/\ns.sum<=b * ns.length
 | [],b,_=>by simp
 | x::ns,b,h=>by
  obtain⟨h1,h2⟩:=nJ ns b fun y hy=>h y (Ã _ hy)
  have hx:=h x Æ
  have e:b * ((x::ns).length:Int)=b * ns.length+b:=by
   rw [Ü]
   have:(((ns.length+1:Nat)):Int)=(ns.length:Int)+1:=by omega
   rw [this,Int.mul_add,Int.mul_one]
  rw [e,î]
  omega
section
variable {X:Cx}{pos:Pos}{a:Expr}{t:DA}
theorem Fj (hc:X.calm=true):bN X (.builtin "sum") (fun xs H Q=>∃ (p:Addr) (ns:List Int),xs=[.ref p]/\SqL X.K H p (ns.map V.int)/\ns.length<=1000/\(∀ x∈ns,-1000000<=x/\x<=1000000)/\Q (.int ns.sum) H):=by
 intro pins s σ H xs us Q I r h
 obtain⟨p,ns,rfl,hp,hl,hs,q⟩:=h
 obtain⟨u,rfl,rx⟩:=vals1 r
 cases rx
 obtain⟨its,rv,pl,hz⟩:=I.list hp
 have hlen:its.length=ns.length:=by have:=rv.length; rw [Á] at this; exact this.symm
 have hlt:p≠s.heap.objs.size:=by obtain⟨o,ho,_⟩:=pl.isList; exact ß (Ï ho)
 have hltp:p<s.heap.objs.size:=by obtain⟨o,ho,_⟩:=pl.isList; exact Ï ho
 have at':∀ i v,its[i]?=some v->∃ t,v=İ (ns.getD i 0) t:=fun i v e=>by
  have hi:i<its.length:=(Î.mp e).1
  have hv:(ns.map V.int)[i]?=some (V.int ns[i]):=by rw [á,Ç (show i<ns.length by omega)]; rfl
  obtain⟨u,eu,ru⟩:=rv.get hv
  rw [e] at eu
  cases eu
  obtain⟨t,rfl⟩:=ru
  exact⟨t,by rw [Ë,Ç (show i<ns.length by omega)]; rfl⟩
 refine call_sum_walk (wpAny_pyIter_list pl.isList ?_)
 refine⟨_,_,_,_,_,_,fun i=>ns.getD i 0,rfl,Walks.list (A:=X.A.in1) (I.ok.hd hc) _ p hlt _,⟨⟨_,à _ rfl,rfl,rfl⟩,pl.isList.push _⟩,?_,fun i v e=>at' i v (by simpa using e),fun j hj=>?_,fun h' tk t' hk=>?_⟩
 ·intro b hb
  show b<(s.heap.push _).objs.size
  rw [ň]
  simp at hb
  rcases hb with rfl | rfl
  ·exact Ŕ _
  ·exact Ă hltp
 ·have hj:j<ns.length:=by simpa [hlen] using hj
  have e:ns.getD j 0=ns[j]:=by rw [Ë,Ç hj]; rfl
  have b1:=hs _ (ĥ hj)
  have b2:=nJ (ns.take (j+1)) 1000000 fun x hx=>hs x (Ţ hx)
  have b3:(ns.take (j+1)).length<=1000:=by rw [Ċ]; omega
  rw [lV ns (j+1) hj]
  refine⟨?_,?_⟩
  ·show -(2 ^ 63)<=ns.getD j 0/\ns.getD j 0<2 ^ 63
   rw [e]
   omega
  ·show -(2 ^ 63)<=(ns.take (j+1)).sum/\(ns.take (j+1)).sum<2 ^ 63
   omega
 ·have e:PySem.preSum (fun i=>ns.getD i 0) its.toArray.size=ns.sum:=by
   rw [Ñ,hlen,lV ns ns.length (Í _),Ĥ]
  rw [e]
  refine⟨.int ns.sum,H,I.kept fun b o eb=>hk b o ?_ (Ð _ eb),⟨_,rfl⟩,q⟩
  intro hm
  have:b=s.heap.objs.size:=by simpa using hm
  exact absurd (this ▸ Ï eb) (ă _)
variable [Gr]
theorem boot_sum:bootBuiltins "sum"=some (.builtin "sum"):=by decide +kernel
end
variable [Gr]
section
variable {X:Cx}{pos:Pos}{a b e:Expr}{ta tb te:DE}
def yt:G2:=fun _ d1 _ d2 P=>match d1,d2 with
 | .bool i,.bool j=>P .imm (.bool (!decide (i=j)))
 | _,_=>False
theorem Py:Ok2 yt (fun x y H Q=>∃ a b,x=.bl a/\y=.bl b/\Q (.bl (!decide (a=b))) H):=by
 intro p H0 own Hb H x y k1 d1 k2 d2 P Q A r1 r2 t q
 unfold yt at t
 split at t
 ·cases r1
  cases r2
  exact⟨_,_,rfl,rfl,q _ _ _ _ t Kp.refl A.pen (.bl _)⟩
 ·exact t.elim
theorem kI (ha:PD X a ta) (hb:PD X b tb):PDT X (.Compare a [.IsNot] [b] pos) (cR (t2 yt ta tb)):=dX xM Py ha hb (bH _)
end
variable [Gr]
section
variable {X:Cx}{pos:Pos}{a b e:Expr}{ta tb te:DE}
def K7:D->Bool
 | .none=>true
 | _=>false
def Qk:G2:=fun _ d1 _ d2 P=>match d2 with
 | .none=>P .imm (.bool (K7 d1))
 | _=>False
theorem J6 {ok:Addr->Prop}{H:Hp}{v:V}{d:D} (r:Rp ok H v d):decide (v=.non)=K7 d:=by
 cases r <;> simp [K7]
theorem R9:Ok2 Qk (fun x y H Q=>y=.non/\Q (.bl (decide (x=.non))) H):=by
 intro p H0 own Hb H x y k1 d1 k2 d2 P Q A r1 r2 t q
 unfold Qk at t
 split at t
 ·cases r2
  rw [J6 r1]
  exact⟨rfl,q _ _ _ _ t Kp.refl A.pen (.bl _)⟩
 ·exact t.elim
theorem O5 (ha:PD X a ta) (hb:PD X b tb):PD X (.Compare a [.Is] [b] pos) (t2 Qk ta tb):=gD Pa R9 ha hb (bH _)
end
variable [Gr]
section
variable {X:Cx}{pos:Pos}{st:Stmt}
end
@[reducible] def grX (H:Hp):Gr:=⟨fun p H0=>p=fJ/\H0=H⟩
structure Cal1 (P:Program) (w:World) (K:Ú) (mg:Str->Option Value) (base:Heap) (k:Nat) (x:Str) (ps:List Str) (sp:Sp):Prop where
 ex:∃ f fd,FnOk P w K mg base (CX1 P w) k f fd ps sp/\Binds K fd ps []/\W.keepIn K (.ref f)=true/\mg x=some (.ref f)
section
variable {X:Cx}{E:XK}{k j:Nat}{x:Str}{ps:List Str}{e:Expr}{es:List Expr}{p pos:Pos}
end
variable [Gr]
section
variable {X:Cx}{pos:Pos}{a b e:Expr}{ta tb te:DE}{t:DA}
end
end Dl
namespace L2
open PySem PyProof.Rows
theorem yp:∀ {ns:List Int}{us:List Value},Vals (ns.map V.int) us->IntsAre us ns
 | [],_,.nil=>.nil
 | n::ns,_,.cons r t=>by
  obtain⟨k,rfl⟩:=r
  exact .cons n k (yp t)
def once (ns:List Int):List Int:=ns.foldl Ů []
theorem Aj (ns:List Int) {m:Nat} (hm:m=ns.length):firstMet (fun i=>ns.getD i 0) m=once ns:=by
 subst hm
 unfold firstMet once
 congr 1
 refine List.ext_getElem (by simp) fun i h1 h2=>?_
 simp at h1
 simp [Ë,h1]
section
variable {X:Cx}
theorem yI (hc:X.calm=true):bN X (.type "set") (fun xs H Q=>∃ p ns,xs=[.ref p]/\SqL X.K H p (ns.map V.int)/\ns.length<=1000/\∀ l S,H l=none->Q (.ref l) (upd H l (.set S (once ns).length))):=by
 intro pins s σ H xs us Q I r h
 obtain⟨p,ns,rfl,hq,hl,q⟩:=h
 obtain⟨u,rfl,rx⟩:=vals1 r
 cases rx
 obtain⟨its,r',pl,hz⟩:=I.list hq
 have hlen:=r'.length
 rw [Á] at hlen
 refine call_set_list (items:=its.toArray) (ns:=ns) (I.ok.hd hc) pl.isList (by simpa using yp r') ?_ fun h' tk st k=>?_
 ·show its.toArray.size+1<scanBound
  rw [Ñ,← hlen]
  exact Nat.lt_of_le_of_lt (Nat.add_le_add_right hl 1) (by decide)
 ·rw [Aj ns (by rw [Ñ,← hlen])] at st
  refine⟨.ref s.heap.objs.size,_,I.laid (t':=tk) (fun b o e=>k b o (Ï e) e) (Í _) (show bf X.prog X.w _ h' _ (.set _ (once ns).length) from st),rfl,q _ _ (I.hok.fresh (Í _))⟩
theorem sV:bN X (.builtin "len") (fun xs H Q=>∃ p S n,xs=[.ref p]/\H p=some (.set S n)/\n<=1000/\Q (.int (n:Int)) H):=by
 intro pins s σ H xs us Q I r h
 obtain⟨p,S,n,rfl,hq,hl,q⟩:=h
 obtain⟨u,rfl,rx⟩:=vals1 r
 cases rx
 obtain⟨o,es,ep,t,e1,e2,e3,_,_,_,e6,e7⟩:=I.hok p _ hq
 refine call_len_set e1 e2 e3 e6 (by rw [e7]; omega) ?_
 rw [e7]
 exact⟨.int n,H,I.tok _,⟨_,rfl⟩,q⟩
end
theorem jq:∀ (ns acc:List Int),(ns.foldl Ů acc).length<=acc.length+ns.length
 | [],acc=>Í _
 | n::ns,acc=>by
  rw [List.foldl_cons]
  have h:=jq ns (Ů acc n)
  have:(Ů acc n).length<=acc.length+1:=by
   unfold Ů
   split
   ·omega
   ·rw [È]; exact Í _
  rw [Ü]
  omega
theorem xO:∀ (ns acc:List Int),((ns.foldl Ů acc).length=acc.length+ns.length)↔(ns.Nodup/\∀ x∈ns,x∉acc)
 | [],acc=>by simp
 | n::ns,acc=>by
  rw [List.foldl_cons,Ü,ę]
  by_cases hn:n∈acc
  ·have e:Ů acc n=acc:=by
    unfold Ů
    rw [if_pos (List.any_eq_true.mpr ⟨n,hn,by simp⟩)]
   rw [e]
   have:=jq ns acc
   constructor
   ·intro h; omega
   ·rintro ⟨_,h⟩
    exact absurd hn (h n Æ)
  ·have e:Ů acc n=acc++[n]:=by
    unfold Ů
    rw [if_neg (fun z=>by
     obtain⟨x,hx,ex⟩:=List.any_eq_true.mp z
     have:x=n:=by simpa using ex
     exact hn (this ▸ hx))]
   rw [e]
   have ih:=xO ns (acc++[n])
   rw [È,Þ] at ih
   constructor
   ·intro h
    obtain⟨a,b⟩:=ih.mp (by omega)
    refine⟨⟨fun z=>b n z (å _ (ç.mpr rfl)),a⟩,fun x hx=>?_⟩
    rcases Ô.mp hx with z | z
    ·rw [z]; exact hn
    ·exact fun y=>b x z (Ā _ y)
   ·rintro ⟨⟨a,b⟩,c⟩
    have:=ih.mpr ⟨b,fun x hx z=>by
     rcases Û.mp z with y | y
     ·exact c x (Ã _ hx) y
     ·rw [ç.mp y] at hx; exact a hx⟩
    omega
theorem zJ (ns:List Int):(once ns).length=ns.length↔ns.Nodup:=by
 have:=xO ns []
 simp at this
 exact this
end L2
namespace Dl
open PySem L2 PyProof.Rows
variable [Gr]
section
variable {X:Cx}{pos pos':Pos}{a:Expr}{t:DA}
theorem boot_set:bootBuiltins "set"=some (.type "set"):=by decide +kernel
def Lx:GC:=fun ks P=>∃ k ns,ks=[(k,.list (ns.map Â))]/\ns.length<=1000/\P .imm (.int ((once ns).length:Nat))
theorem Dw {ps ps':Pos} (hc:X.calm=true) (hs:X.mg "set"=none) (hl:X.mg "len"=none) (ha:PDA X [a] t) (hgs:Gl X "set":=by rfl) (hgl:Gl X "len":=by rfl)
  (he:zS X a []:=by rfl) (hpl:zP X pos []:=by rfl)
  (he':starEach [Expr.Call (.Name "set" ps) [a] [] pos] X.env=(false,eval (Expr.Call (.Name "set" ps) [a] [] pos) X.env)::starEach [] X.env:=by rfl) (hpl':(backTo pos' (starEach [] X.env)).any (·.1)=false:=by rfl) :
  PD X (.Call (.Name "len" ps') [.Call (.Name "set" ps) [a] [] pos] [] pos') (tCl Lx t) :=
 PE.wk (lW sV hgl hl PySem.boot_len (cD (nU (yI hc) hgs hs boot_set ha (by decide) (by decide) he hpl) gG he') (by decide) (by decide) he' hpl') (by
  rintro σ H Q ⟨p,H0,own,ρ,P,E,t,q⟩
  refine⟨p,H0,own,ρ,_,E,t,fun ks vs H1 h A r=>?_⟩
  obtain⟨k,ns,rfl,hn,h⟩:=h
  obtain⟨v,rfl,r'⟩:=fO r
  obtain⟨c,ws,rfl,o,hc',rs⟩:=r'.cj
  have ew:=rs.ints
  subst ew
  refine⟨c,ns,rfl,SqL.of hc',hn,fun l S hl'=>?_⟩
  obtain⟨k2,i2,nw⟩:=A.new hl' (.set S (once ns).length)
  have h1:=jq ns []
  exact⟨l,S,_,rfl,au,by unfold once; simp at h1; omega,q _ _ _ _ h (A.go k2 i2) (.int _)⟩)
end
variable [Gr]
section
variable {X:Cx}{pos p2:Pos}{a b c e:Expr}{es:List Expr}{ta tb tc te:DE}{t:DA}{st:Stmt}
theorem OpR.or {f:Value->Value->Sem Value}{r r':R2} (h:OpR X f r) (h':OpR X f r'):OpR X f (fun x y H Q=>r x y H Q\/r' x y H Q):=by
 intro pins s σ H x y v u Q I rx ry q
 rcases q with q | q
 ·exact h pins s σ H x y v u Q I rx ry q
 ·exact h' pins s σ H x y v u Q I rx ry q
theorem bN.or {f:Value}{r r':List V->Hp->VK->Prop} (h:bN X f r) (h':bN X f r'):bN X f (fun x H Q=>r x H Q\/r' x H Q):=by
 intro pins s σ H x v Q I rx q
 rcases q with q | q
 ·exact h pins s σ H x v Q I rx q
 ·exact h' pins s σ H x v Q I rx q
theorem Hg (ha:PD X a ta) (hb:PD X b tb) (hs:jV b:=by exact fun _ _=>rfl):PD X (.Subscript a b pos) (t2 gIx ta tb):=PE.wk (xr (IxR.or qb Iw) ha hb hs) (tM (by
 intro p H0 own Hb H x y k1 d1 k2 d2 P Q A r1 r2 t q
 unfold gIx at t
 split at t
 ·rename_i ds i
  obtain⟨d,hd,t⟩:=t
  obtain⟨c,vs,rfl,o,hc,rs⟩:=r1.cj
  obtain⟨v,hv,rv⟩:=rs.atI hd
  exact .inl ⟨c,vs,i,v,rfl,r2.int',SqL.of hc,hv,q _ _ _ _ t Kp.refl A.pen (aV rv)⟩
 ·rename_i ds i
  obtain⟨d,hd,t⟩:=t
  obtain⟨c,vs,rfl,hc,rs⟩:=r1.fC
  obtain⟨v,hv,rv⟩:=rs.atI hd
  exact .inr ⟨c,vs,i,v,rfl,r2.int',SqT.of hc,hv,q _ _ _ _ t Kp.refl A.pen (aV rv)⟩
 ·exact t.elim))
def Cr:G2:=fun k1 d1 k2 d2 P=>match d1 with
 | .int i=>(match d2 with
  | .int j=>P .imm (.int (i+j))
  | _=>False)
 | .list ds=>Lz k1 (.list ds) k2 d2 P
 | .tuple ds=>Ja k1 (.tuple ds) k2 d2 P
 | _=>False
theorem uZ (ha:PD X a ta) (hb:PD X b tb):PD X (.BinOp a .Add b pos) (t2 Cr ta tb):=lZ (OpR.or kO (OpR.or Ht KH)) (by
 intro p H0 own Hb H x y k1 d1 k2 d2 P Q A r1 r2 t q
 cases d1 with
 | int i =>
  cases d2 with
  | int j=>exact .inl ⟨i,j,r1.int',r2.int',q _ _ _ _ t Kp.refl A.pen (.int _)⟩
  | _=>exact t.elim
 | list ds=>exact .inr (.inl (Mx p H0 own Hb H x y k1 _ k2 d2 P Q A r1 r2 t q))
 | tuple ds=>exact .inr (.inr (PJ p H0 own Hb H x y k1 _ k2 d2 P Q A r1 r2 t q))
 | _=>exact t.elim) ha hb
def IV:G2:=fun k1 d1 k2 d2 P=>match d1 with
 | .int i=>(match d2 with
  | .int j=>JR i j/\P .imm (.int (i * j))
  | _=>False)
 | .list ds=>Qi k1 (.list ds) k2 d2 P
 | _=>False
theorem jk (ha:PD X a ta) (hb:PD X b tb):PD X (.BinOp a .Mult b pos) (t2 IV ta tb):=lZ (OpR.or nY O8) (by
 intro p H0 own Hb H x y k1 d1 k2 d2 P Q A r1 r2 t q
 cases d1 with
 | int i =>
  cases d2 with
  | int j=>exact .inl ⟨i,j,r1.int',r2.int',t.1,q _ _ _ _ t.2 Kp.refl A.pen (.int _)⟩
  | _=>exact t.elim
 | list ds=>exact .inr (R6 p H0 own Hb H x y k1 _ k2 d2 P Q A r1 r2 t q)
 | _=>exact t.elim) ha hb
def lE (neg:Bool):G2:=fun k1 d1 k2 d2 P=>match scD d1 d2 with
 | some b=>P .imm (.bool (if neg then !b else b))
 | none=>Ql neg k1 d1 k2 d2 P
theorem Mw {K:Ú}:Ok2 (lE false) (fun x y H Q=>rEq x y H Q\/GJ K false x y H Q):=by
 intro p H0 own Hb H x y k1 d1 k2 d2 P Q A r1 r2 t q
 cases e:scD d1 d2 with
 | some b =>
  have t':gEq false k1 d1 k2 d2 P:=by
   unfold lE at t
   unfold gEq
   rw [e] at t ⊢
   exact t
  exact .inl (PB p H0 own Hb H x y k1 d1 k2 d2 P Q A r1 r2 t' q)
 | none =>
  unfold lE at t
  rw [e] at t
  exact .inr (HB false p H0 own Hb H x y k1 d1 k2 d2 P Q A r1 r2 t q)
theorem Mv {K:Ú}:Ok2 (lE true) (fun x y H Q=>rNe x y H Q\/GJ K true x y H Q):=by
 intro p H0 own Hb H x y k1 d1 k2 d2 P Q A r1 r2 t q
 cases e:scD d1 d2 with
 | some b =>
  have t':gEq true k1 d1 k2 d2 P:=by
   unfold lE at t
   unfold gEq
   rw [e] at t ⊢
   exact t
  exact .inl (Pz p H0 own Hb H x y k1 d1 k2 d2 P Q A r1 r2 t' q)
 | none =>
  unfold lE at t
  rw [e] at t
  exact .inr (HB true p H0 own Hb H x y k1 d1 k2 d2 P Q A r1 r2 t q)
theorem qK (hu:X.A.units+64<cLine) (ha:PD X a ta) (hb:PD X b tb):PD X (.Compare a [.Eq] [b] pos) (t2 (lE false) ta tb):=gD (OpR.or BZ (Hs hu)) Mw ha hb (bH _)
theorem u5 (hu:X.A.units+64<cLine) (ha:PD X a ta) (hb:PD X b tb):PD X (.Compare a [.NotEq] [b] pos) (t2 (lE true) ta tb):=gD (OpR.or BX (vf hu)) Mv ha hb (bH _)
theorem jO (hu:X.A.units+64<cLine) (ha:PD X a ta) (hb:PD X b tb):PDT X (.Compare a [.Eq] [b] pos) (cR (t2 (lE false) ta tb)):=dX (OpR.or BZ (Hs hu)) Mw ha hb (bH _)
theorem jN (hu:X.A.units+64<cLine) (ha:PD X a ta) (hb:PD X b tb):PDT X (.Compare a [.NotEq] [b] pos) (cR (t2 (lE true) ta tb)):=dX (OpR.or BX (vf hu)) Mv ha hb (bH _)
end
section
variable {n:Nat}{g:DG}{tt:DT}{te:DE}{ρ:List Sl}{k:Kd}{ds:List D}{R:Kd->List D->Prop}
theorem La {α β:Type} (f:α->β) {l:List α}{i:Nat}{x:α} (h:l[i]?=some x):(l.take (i+1)).map f=(l.take i).map f++[f x]:=by
 rw [ğ,h]
 simp
theorem sO {α:Type} (xs:List α) (e f:α->D) (ke:Kd) (hd:ds=xs.map e) (hl:xs.length<=1000)
  (step:∀ x∈xs,∀ (A:D->Prop) (B:Prop),A (f x)->g (norm (elC k) (e x)) (e x) (É n .any++ρ) fun ρ'=>if true=true then te ρ' fun k' d'=>(norm k' d').le ke=true/\A d' else B)
  (q:R ke (xs.map f)) :
  ds.length<=1000/\∃ (ke:Kd) (Iv:Nat->List D->Prop),Iv 0 [] /\
   (∀ i d ys,ds[i]?=some d->Iv i ys->g (norm (elC k) d) d (É n .any++ρ) fun ρ'=>if true=true then te ρ' fun k' d'=>(norm k' d').le ke=true/\Iv (i+1) (ys++[d']) else Iv (i+1) ys) /\
   ∀ ys,Iv ds.length ys->R ke ys:=by
 subst hd
 refine⟨by rw [Á]; exact hl,ke,fun i ys=>ys=(xs.take i).map f,rfl,?_,?_⟩
 ·rintro i d ys hd rfl
  rw [á] at hd
  cases hx:xs[i]? with
  | none=>rw [hx] at hd; cases hd
  | some x =>
   rw [hx] at hd
   have hd:=æ hd
   subst hd
   exact step x (Ì hx) (fun d'=>(xs.take i).map f++[d']=(xs.take (i+1)).map f) _ (La f hx).symm
 ·rintro ys rfl
  rw [Á,Ĥ]
  exact q
theorem Ci {α:Type} (xs:List α) (e:α->D) (p:α->Bool) (f:α->D) (ke:Kd) (hd:ds=xs.map e) (hl:xs.length<=1000)
  (step:∀ x∈xs,∀ (A:D->Prop) (B:Prop),(p x=true->A (f x))->(p x=false->B)->g (norm (elC k) (e x)) (e x) (É n .any++ρ) fun ρ'=>tt ρ' fun b=>if b=true then te ρ' fun k' d'=>(norm k' d').le ke=true/\A d' else B)
  (q:R ke ((xs.filter p).map f)) :
  ds.length<=1000/\∃ (ke:Kd) (Iv:Nat->List D->Prop),Iv 0 [] /\
   (∀ i d ys,ds[i]?=some d->Iv i ys->g (norm (elC k) d) d (É n .any++ρ) fun ρ'=>tt ρ' fun b=>if b=true then te ρ' fun k' d'=>(norm k' d').le ke=true/\Iv (i+1) (ys++[d']) else Iv (i+1) ys) /\
   ∀ ys,Iv ds.length ys->R ke ys:=by
 subst hd
 refine⟨by rw [Á]; exact hl,ke,fun i ys=>ys=((xs.take i).filter p).map f,rfl,?_,?_⟩
 ·rintro i d ys hd rfl
  rw [á] at hd
  cases hx:xs[i]? with
  | none=>rw [hx] at hd; cases hd
  | some x =>
   rw [hx] at hd
   have hd:=æ hd
   subst hd
   have sn:((xs.take (i+1)).filter p).map f=((xs.take i).filter p).map f++if p x=true then [f x] else []:=by
    rw [ğ,hx,List.filter_append,Ø]
    cases hp:p x <;> simp [hp]
   refine step x (Ì hx) (fun d'=>((xs.take i).filter p).map f++[d']=((xs.take (i+1)).filter p).map f) _ (fun h=>?_) (fun h=>?_)
   ·rw [sn,if_pos h]
   ·show _=_
    rw [sn,h,if_neg Ö,ù]
 ·rintro ys rfl
  rw [Á,Ĥ]
  exact q
end
section
variable {g:DG}{tb:DS}{k:Kd}{ds:List D}{ρ:List Sl}{P:DEnds}
end
variable [Gr]
section
variable {X:Cx}{scope:Scope}{tg iter elt:Expr}{ifs:List Expr}{pos:Pos}{ti:DI}{g:DG}{tt:DT}{te:DE}
theorem Og (own:List Str) {i:Nat}{y:Str}{py spos:Pos} (hc:X.calm=true) (hN:X.N.Nodup) (hiN:X.N[i]?=some y) (hx:Loc X.env.scope y) (hi:PDI X tg iter ti) (hg:∀ c,PDG (X.comp own scope c) tg g) (ht:∀ c,Fy (X.comp own scope c) ifs tt) (he:∀ c,PD (X.comp own scope c) elt te)
  (hsw:swapsWith (.ListComp elt [⟨tg,iter,ifs,0⟩] scope pos) (some (.Name y py)) spos.line X.env=pure true:=by rfl)
  (hk:fL X.env scope X.N=true:=by rfl) (hs:zF X iter:=by intro _; rfl) (hf:zL X y:=by first | exact .inl rfl | exact .inr rfl | assumption) :
  PS X (.Assign [.Name y py] (.ListComp elt [⟨tg,iter,ifs,0⟩] scope pos) spos) (qu (bI (dLC own.length ti g tt te)) (iV i)):=PS.wk' (Bv own hc hN hiN hx hi hg ht he hsw hk hs hf) fun D σ H q=>jR σ H _ q
end
section
variable {n:Nat}{g:DG}{tt:DT}{te:DE}{ρ:List Sl}{k:Kd}{ds:List D}{R:Kd->List D->Prop}
end
variable [Gr]
section
variable {X:Cx}{pos:Pos}{st:Stmt}{rest:List Stmt}{te tj:DE}{ti:DI}{t:DS}
def QC (i:Nat) (t:DS):DS:=fun P ρ=>match ρ[i]? with
 | some (.dw r d)=>jy r ρ i=true/\t P (ρ.set i (.sn d))
 | some (.rw r L)=>jy r ρ i=true/\t P (ρ.set i (.sn (.list (L.map ē))))
 | some (.sp r b ds)=>jy r ρ i=true/\t P (ρ.set i (if b=true then .sn (.list ds) else .sh (.list ds)))
 | _=>False
theorem EnvD.freeze {p:Pn}{H0 H:Hp}{own:Addr->Option Nat}{σ:L2.St}{ρ:List Sl}{i r:Nat}{d:D}{v:V} (E:EnvD p H0 own σ H ρ) (hf:jy r ρ i=true) (hv:σ[i]?=some (some v)) (x:Rp (fun a=>own a=some r) H v d) :
  EnvD p H0 (aQ r own) σ H (ρ.set i (.sn d)):=by
 have E2:EnvD p H0 (aQ r own) σ H (ρ.set i .any):=(E.drop (i:=i)).clear hf
 have E3:=E2.put (v:=v) (i:=i) (s:=.sn d) ⟨v,hv,x.mono (fun a o=>⟨(E.ow a r o).1,(E.ow a r o).2.1,by unfold aQ; rw [if_pos o]⟩) (fun _ _ _ e=>e) fun _ _ e=>e⟩
 rw [List.set_set] at E3
 exact E3
theorem Ao (i:Nat) (h:iu X rest t):iu X rest (QC i t):=PSs.wk' h (by
 rintro Q σ H ⟨p,H0,own,ρ,P,E,q,w⟩
 unfold QC at q
 split at q
 ·rename_i r d e
  obtain⟨v,hv,x⟩:=E.slot i _ e
  exact⟨p,H0,_,_,P,E.freeze q.1 hv x,q.2,w.go fj⟩
 ·rename_i r L e
  obtain⟨st,as,hv,x⟩:=E.slot i _ e
  exact⟨p,H0,_,_,P,E.freeze q.1 hv x.rp,q.2,w.go fj⟩
 ·rename_i r b ds e
  obtain⟨l,vs,hv,o,h,z⟩:=E.slot i _ e
  have E2:EnvD p H0 (aQ r own) σ H (ρ.set i .any):=(E.drop (i:=i)).clear q.1
  have c0:∀ a,own a=none->aQ r own a=none:=fun a n=>by unfold aQ; rw [n]; simp
  have cl:aQ r own l=none:=by unfold aQ; rw [if_pos o]
  have E3:EnvD p H0 (aQ r own) σ H ((ρ.set i .any).set i (if b=true then .sn (.list ds) else .sh (.list ds))):=E2.put (v:=.ref l) (by
   cases b with
   | true=>exact⟨_,hv,.lst ⟨(E.ow l r o).1,(E.ow l r o).2.1,cl⟩ h (z.mono (fun c n=>⟨n.1 rfl,n.2.1,c0 c n.2.2⟩) (fun _ _ _ e=>e) fun _ _ e=>e)⟩
   | false=>exact⟨_,hv,.lst ⟨(E.ow l r o).2.1,cl⟩ h (z.mono (fun c n=>⟨n.2.1,c0 c n.2.2⟩) (fun _ _ _ e=>e) fun _ _ e=>e)⟩)
  rw [List.set_set] at E3
  exact⟨p,H0,_,_,P,E3,q.2,w.go fj⟩
 ·exact q.elim)
def spK (b:Bool):Kd:=if b=true then .snw else .shr
theorem Px {p:Pn}{H0 Hb H:Hp}{own:Addr->Option Nat}{b:Bool} (A:At p H0 own Hb H) {k:Kd} (hk:k.le (spK b)=true) {v:V}{d:D}{H2:Hp} (r:Rp (okK p H0 own Hb k) H2 v d):Rp (okS p H0 own b) H2 v d:=by
 have r2:=lU A hk r
 cases b with
 | true=>exact r2.mono (fun a o=>⟨fun _=>o.1,o.2.1,o.2.2⟩) (fun _ _ _ e=>e) fun _ _ e=>e
 | false=>exact r2.mono (fun a o=>⟨fun z=>(nomatch z),o.1,o.2⟩) (fun _ _ _ e=>e) fun _ _ e=>e
theorem EnvD.Ka {p:Pn}{H0 H:Hp}{own:Addr->Option Nat}{σ:L2.St}{ρ:List Sl}{i r:Nat}{b:Bool}{l:Addr}{vs vs':List V}{ds':List D} (E:EnvD p H0 own σ H ρ) (hv:σ[i]?=some (some (.ref l))) (o:own l=some r) (h:H l=some (.lst vs)) (z:Rps (okS p H0 own b) H vs' ds') :
  EnvD p H0 own σ (upd H l (.lst vs')) ((forget r ρ).set i (.sp r b ds'))/\FrS p own H own (upd H l (.lst vs')):=by
 refine⟨(E.write (o':=.lst vs') o h fun xs z=>nomatch z).put (v:=.ref l) ⟨l,vs',hv,o,au,z.mono (fun _ o=>o) (fun c u n e=>?_) fun a xs e=>?_⟩,nA o h fun xs z=>nomatch z⟩
 ·rw [aq]; exact e
  intro y; subst y; rw [n.2.2] at o; cases o
 ·rw [aq]; exact e
  intro y; subst y; rw [h] at e; cases e
def Vi (i:Nat) (te:DE):DS:=fun P ρ=>match ρ[i]? with
 | some (.sp r b ds)=>te ρ fun k d=>(norm k d).le (spK b)=true/\ds.length<1000/\P.nx ((forget r ρ).set i (.sp r b (ds++[d])))
 | _=>False
def Vh (i:Nat) (tj te:DE):DS:=fun P ρ=>match ρ[i]? with
 | some (.sp r b ds)=>tj ρ fun _ dj=>te ρ fun k d=>match dj with
  | .int j=>(norm k d).le (spK b)=true/\0<=j/\j.toNat<=ds.length/\ds.length<1000/\P.nx ((forget r ρ).set i (.sp r b (ds.take j.toNat++d::ds.drop j.toNat)))
  | _=>False
 | _=>False
theorem w5:∀ {as bs:List Addr},as.map V.ref=bs.map V.ref->as=bs
 | [],[],_=>rfl
 | a::as,b::bs,e=>by
  rw [ã,ã] at e
  injection e with e1 e2
  rw [V.ref.inj e1,w5 e2]
 | [],_::_,e=>by cases e
 | _::_,[],e=>by cases e
theorem EnvD.spine {p:Pn}{H0 H H1:Hp}{own:Addr->Option Nat}{σ:L2.St}{ρ:List Sl}{i r:Nat}{b:Bool}{l:Addr}{vs:List V}{ds:List D} (E:EnvD p H0 own σ H ρ) (A:At p H0 own H H1) (hf:jy r ρ i=true) (hl:H1 l=none) (z:Rps (okS p H0 own b) H1 vs ds) :
  ∃ own',EnvD p H0 own' (σ.set i (some (.ref l))) (upd H1 l (.lst vs)) (ρ.set i (.sp r b ds))/\FrS p own H own' (upd H1 l (.lst vs)):=by
 have E2:EnvD p H0 (aQ r own) σ H (ρ.set i .any):=(E.drop (i:=i)).clear hf
 have E3:=E2.go A.kp A.pen
 have s1:Same H1 (upd H1 l (.lst vs)):=fun b u q=>by rw [aq (aD q hl)]; exact q
 have A8:At p H0 (aQ r own) H1 (upd H1 l (.lst vs)):=⟨E3.k0,Kp.of s1,E3.pen,p.mono H1 _ E3.pen fun b u _ q=>s1 b u q,E3.ow⟩
 have E4:=E3.adopt r A8
 have c0:∀ a,own a=none->aQ r own a=none:=fun a n=>by unfold aQ; rw [n]; simp
 have E5:=E4.set (i:=i) (v:=.ref l) (s:=.sp r b ds) fun hli=>⟨l,vs,ą hli,g8 hl au,au,z.dh (fun c u n e=>⟨⟨n.1,n.2.1,by rw [bD e]; exact c0 c n.2.2⟩,s1 c u e⟩) fun a xs e=>s1 a _ e⟩
 rw [List.set_set] at E5
 exact⟨_,E5,(A.frs.trans fj).trans (jU A8)⟩
theorem RpK.okS {p:Pn}{H0 Hb H:Hp}{own:Addr->Option Nat}{b:Bool} (A:At p H0 own Hb H):∀ {vs:List V}{ks:List (Kd×D)},RpK p H0 own Hb H vs ks->(ks.all fun kd=>(norm kd.1 kd.2).le (spK b))=true->Rps (okS p H0 own b) H vs (ks.map (·.2))
 | _,_,.nil,_=>.nil
 | _,kd::ks,.cons h t,e=>by
  rw [List.all_cons,Ý] at e
  exact .cons (Px A e.1 (aV h)) (RpK.okS A t e.2)
def Ni (i r:Nat) (b:Bool) (t:DA):DS:=fun P ρ=>t ρ fun ks=>ks.length<=1000/\(ks.all fun kd=>(norm kd.1 kd.2).le (spK b))=true/\jy r ρ i=true/\P.nx (ρ.set i (.sp r b (ks.map (·.2))))
theorem vW {i:Nat}{t:DA} (r:Nat) (b:Bool) (h:PS X st (qu (NK (gW t)) (iV i))):PDS X st (Ni i r b t):=PS.wk' h (by
 rintro Q σ H ⟨p,H0,own,ρ,P,E,q,w⟩
 refine⟨p,H0,own,ρ,_,E,q,fun ks vs H1 h A rk=>?_⟩
 have h24:=ê
 have hln:=rk.length
 refine⟨by have:=h.1; omega,fun l hl=>?_⟩
 obtain⟨own',E2,F2⟩:=E.spine A h.2.2.1 hl (RpK.okS A rk h.2.1)
 exact w.nx _ _ _ _ E2 F2 h.2.2.2)
def rM (js:List Nat) (t:DS):DS:=fun P ρ=>t P (js.foldl (fun ρ j=>ρ.set j .any) ρ)
theorem EnvD.drops {p:Pn}{H0 H:Hp}{own:Addr->Option Nat}{σ:L2.St}:∀ (js:List Nat) {ρ:List Sl},EnvD p H0 own σ H ρ->EnvD p H0 own σ H (js.foldl (fun ρ j=>ρ.set j .any) ρ)
 | [],_,E=>E
 | _::js,_,E=>EnvD.drops js E.drop
theorem rJ (js:List Nat) (h:iu X rest t):iu X rest (rM js t):=PSs.wk' h (by
 rintro Q σ H ⟨p,H0,own,ρ,P,E,q,w⟩
 exact⟨p,H0,own,_,P,E.drops js,q,w⟩)
def wg (i:Nat) (tj te:DE):DS:=fun P ρ=>match ρ[i]? with
 | some (.rw r L)=>tj ρ fun _ dj=>match dj with
  | .int j=>∃ n l,ixN L.length j=some n/\L[n]?=some l/\te ρ fun _ d=>iY d=true/\l.length<1000/\P.nx ((forget r ρ).set i (.rw r (L.set n (l++[d]))))
  | _=>False
 | _=>False
theorem oN {i:Nat} (h:PS X st (qp (tBM X.K "list" pQ (tOp (RJ X.K) (iy i) (bI tj)) (gW (aG te cu))))):PDS X st (wg i tj te):=PS.wk' h (by
 rintro Q σ H ⟨p,H0,own,ρ,P,E,q,w⟩
 unfold wg at q
 split at q
 ·rename_i r L hr
  obtain⟨st,as,hv,R0⟩:=E.slot i _ hr
  refine⟨.ref st,hv,p,H0,own,ρ,_,E,q,fun kj dj vj H1 q1 A1 rj=>?_⟩
  cases dj with
  | int j =>
   have E1:=E.go A1.kp A1.pen
   obtain⟨st',as',hv',R1⟩:=E1.slot i _ hr
   rw [hv] at hv'
   cases hv'
   have ej:=Rp.int' rj
   subst ej
   obtain⟨n,l,hn,hl,q1⟩:=q1
   have hnl:=(Î.mp hl).1
   rw [Ç hnl] at hl
   cases hl
   have hna:n<as'.length:=by rw [R1.len]; exact hnl
   have eat:atI (as'.map V.ref) j=some (.ref as'[n]):=by
    unfold L2.atI
    rw [Á,R1.len,hn]
    show (as'.map V.ref)[n]?=_
    rw [á,Ç hna]
    rfl
   obtain⟨vs,hav,rv⟩:=R1.row n as'[n] L[n] (Ç hna) (Ç hnl)
   refine⟨st,_,j,.ref as'[n],rfl,rfl,SqL.of R1.top,eat,.inl ⟨rfl,vs,SqL.of hav⟩,p,H0,own,ρ,_,E1,vg q1,?_⟩
   rintro ks ws H2 ⟨k,d,rfl,im,len,nx⟩ A2 rk
   obtain⟨y,rfl,ry⟩:=fO rk
   have ry:Rp (fun _=>False) H2 y d:=Rp.imm ry im
   have E2:=E1.go A2.kp A2.pen
   obtain⟨st',as2,hv',R2⟩:=E2.slot i _ hr
   rw [hv] at hv'
   cases hv'
   -- the rows are those of before
   have eas:as2=as':=by
    have e1:=A2.kp st _ R1.top (E1.ow st r (R1.ow st Æ)).2.1
    rw [R2.top] at e1
    have e2:=(HO.lst.inj (æ e1))
    exact w5 e2
   subst eas
   obtain⟨vs2,hav2,rv2⟩:=R2.row n as2[n] L[n] (Ç hna) (Ç hnl)
   have oa:=R2.ow as2[n] (Ã _ (ĥ hna))
   have h24:=ê
   have ln:=rv2.length
   refine⟨as2[n],vs2,y,rfl,rfl,hav2,by omega,?_⟩
   have tp:∀ a xs,H2 a=some (.tup xs)->upd H2 as2[n] (.lst (vs2++[y])) a=some (.tup xs):=fun a xs e=>by
    rw [aq]; exact e
    intro z; subst z; rw [hav2] at e; cases e
   have E3:=E2.write (o':=.lst (vs2++[y])) oa hav2 (fun xs z=>nomatch z)
   have nd1:=ę.mp R2.nd
   have E4:=E3.put (v:=.ref st) (i:=i) (s:=.rw r (L.set n (L[n]++[d]))) ⟨st,as2,hv,⟨?_,R2.nd,R2.ow,by rw [List.length_set]; exact R2.len,fun m a ds e1 e2=>?_⟩⟩
   ·exact w.nx _ σ _ _ E4 ((A1.frs.trans A2.frs).trans (nA oa hav2 fun xs z=>nomatch z)) nx
   ·rw [aq]; exact R2.top
    intro z
    exact nd1.1 (by rw [z]; exact ĥ hna)
   ·by_cases em:m=n
    ·subst em
     rw [ą hnl] at e2
     rw [Ç hna] at e1
     cases e1
     cases e2
     exact⟨_,au,(rv2.mono (fun _ o=>o) (fun _ _ o=>o.elim) tp).snoc (ry.mono (fun _ o=>o) (fun _ _ o=>o.elim) tp)⟩
    ·rw [Ŀ (Į em)] at e2
     obtain⟨vs3,h3,r3⟩:=R2.row m a ds e1 e2
     refine⟨vs3,?_,r3.mono (fun _ o=>o) (fun _ _ o=>o.elim) tp⟩
     rw [aq]; exact h3
     intro z
     have hm:=(Î.mp e1).1
     have hz:as2[m]=as2[n]:=by rw [(Î.mp e1).2]; exact z
     exact em ((List.getElem_inj nd1.2).mp hz)
  | _=>exact q1.elim
 ·exact q.elim)
def Jx (i r:Nat) (ti:DI):DS:=fun P ρ=>ti ρ fun k ds=>ds.length<=1000/\jy r ρ i=true/\P.nx (ρ.set i (.rw r (É ds.length [])))
theorem rH {i n j:Nat} (r:Nat) (h:PS X st (qu (tLC n (Im ti) (fun _=>Ce (gNm j)) (fun _=>liftT fun _ P=>P true) (fun _=>NK Gh)) (iV i))):PDS X st (Jx i r ti):=PS.wk' h (by
 rintro Q σ H ⟨p,H0,own,ρ,P,E,q,w⟩
 refine⟨p,H0,own,ρ,_,E,q,fun k ds J H1 Ok h A W o1=>?_⟩
 obtain⟨hlen,hf,nx⟩:=h
 have okS:∀ H',Kp p H1 H'->p.PI H'->Ok H':=fun H' K i=>W.stab H1 H' o1 (fun b o n e=>K b o e (jP A n.1)) (jx A K)
 refine⟨fun i m ys H'=>m=ds.length - i/\i<=ds.length/\Kp p H1 H'/\p.PI H'/\∃ as:List Addr,ys=as.map V.ref/\as.Nodup/\as.length=i/\∀ a∈as,H a=none/\H' a=some (.lst []),⟨_,rfl,Ć _,Kp.refl,A.pen,[],rfl,.nil,rfl,fun a ha=>nomatch ha⟩,?_⟩
 rintro c i' m ys H' ⟨rfl,hi,K',I',as,rfl,nd,la,hn⟩
 have oH:=okS H' K' I'
 have A':=A.go K' I'
 have h24:=ê
 by_cases hlt:i'<ds.length
 ·refine .inr ⟨W.go i' H' oH hlt,by rw [Á]; omega,fun ys' H2=>Kp p H1 H2/\p.PI H2/\∃ as:List Addr,ys'=as.map V.ref/\as.Nodup/\as.length=i'+1/\∀ a∈as,H a=none/\H2 a=some (.lst []),fun ys' H2 h=>⟨_,by omega,rfl,hlt,h⟩,fun x H2 y=>?_⟩
  obtain⟨sm,rx⟩:=W.yld i' H' x H2 oH y
  have rx:=rx ds[i'] (Ç hlt)
  have I2:p.PI H2:=p.mono H' H2 I' fun b o _ e=>sm b o e
  have K2:Kp p H1 H2:=K'.trans (Kp.of sm)
  have A2:=A.go K2 I2
  have E2:EnvD p H0 own σ H2 ρ:=E.go A2.kp A2.pen
  refine⟨p,H0,own,_,_,_,fun _=>True,E2.comp n,gK (Mz A rx),trivial,fun σ3 ρ3 E3 t3=>?_⟩
  refine⟨p,H0,own,ρ3,fun b=>b=true,E3,rfl,fun b H4 h4 A4=>?_⟩
  subst h4
  refine aM ⟨(by show 0<=sizeLine; omega),fun l hl=>?_⟩
  have A5:At p H0 own H H4:=A2.base A4
  obtain⟨k7,i7,nw⟩:=A5.new hl (.lst [])
  refine⟨(K2.trans A4.kp).trans k7,i7,as++[l],by rw [Ø]; rfl,?_,by rw [È,la]; rfl,fun a ha=>?_⟩
  ·refine List.nodup_append.mpr ⟨nd,by simp,fun a ha b hb=>?_⟩
   rw [ç.mp hb]
   intro z
   subst z
   have e:=A4.kp a _ (sm a _ (hn a ha).2) (A.nfb (hn a ha).1)
   rw [hl] at e
   cases e
  ·rcases Û.mp ha with z | z
   ·refine⟨(hn a z).1,?_⟩
    have e:=A4.kp a _ (sm a _ (hn a z).2) (A.nfb (hn a z).1)
    exact k7 a _ e (A.nfb (hn a z).1)
   ·rw [ç.mp z]
    exact⟨nw,au⟩
 ·have e:i'=ds.length:=by omega
  subst e
  refine .inl ⟨W.stop H' oH,fun l hl=>?_⟩
  obtain⟨k7,i7,nw⟩:=A'.new hl (.lst (as.map V.ref))
  have A7:=A'.go k7 i7
  show Q.nx (σ.set i (some (.ref l))) (upd H' l (.lst (as.map V.ref)))
  have E2:EnvD p H0 (aQ r own) σ H (ρ.set i .any):=(E.drop (i:=i)).clear hf
  have A8:At p H0 (aQ r own) H (upd H' l (.lst (as.map V.ref))):=⟨A7.k0,A7.kp,A7.penb,A7.pen,E2.ow⟩
  have E3:=E2.adopt r A8
  have lna:l∉as:=fun z=>by rw [(hn l z).2] at hl; cases hl
  have E4:=E3.set (i:=i) (v:=.ref l) (s:=.rw r (É ds.length [])) fun hli=>⟨l,as,ą hli,⟨au,ę.mpr ⟨lna,nd⟩,fun a ha=>?_,by rw [la,Ď],fun m a es e1 e2=>?_⟩⟩
  ·rw [List.set_set] at E4
   exact w.nx _ _ _ _ E4 (fj.trans (jU A8)) nx
  ·rcases Ô.mp ha with rfl | ha
   ·exact g8 nw au
   ·exact g8 (hn a ha).1 (by rw [aq (fun z:a=l=>lna (by rw [← z]; exact ha))]; exact (hn a ha).2)
  ·have ha:=Ì e1
   have ees:es=[]:=by
    have:=Ì e2
    exact (Ļ.mp this).2
   subst ees
   exact⟨[],by rw [aq (fun z:a=l=>lna (by rw [← z]; exact ha))]; exact (hn a ha).2,.nil⟩)
end
@[reducible] def grL (K:Ú) (sc:Addr) (ns:List Int):Gr:=⟨fun p H0=>SqL K H0 sc (ns.map V.int)/\∀ b,p.fp b->H0 b=none⟩
def Rj (K:Ú):Sp:=fun vs H Q _=>∃ (a:Addr) (ns:List Int),vs=[.ref a]/\SqL K H a (ns.map V.int)/\∀ H',Q (.bl true) H'
section
variable {X:Cx}{k1 k2 j:Nat}{x y z:Str}{ps1 ps2:List Str}{e:Expr}{es1 es2:List Expr}{p1 p2 p3 pos pos1:Pos}{K:Ú}{sc:Addr}{ns:List Int}{C:Pn->Prop}{pre:List D->Prop}{g:List D->(D->Prop)->Prop}{i:Nat}
end
variable [Gr]
section
variable {X:Cx}{pos pos':Pos}{a b:Expr}{t:DA}
end
variable [Gr]
mutual
inductive Tm where
 | int (i:Int)
 | neg (i:Int)
 | bl (b:Bool)
 | non
 | str (s:Str)
 | var (i:Nat)
 | lst (ts:Tms)
 | tup (ts:Tms)
 | dct
inductive Tms where
 | nil
 | cons (t:Tm) (ts:Tms)
end
def T6 (sc:Scope) (x:Str):Bool:=sc.names.lookup x == some .local || sc.names.lookup x == some .cell || sc.names.lookup x == some .free
mutual
def okT (N:List Str) (sc:Scope):Tm->Expr->Bool
 | .int i,.Constant (.int j) _ _=>i == j
 | .neg i,.UnaryOp .USub (.Constant (.int j) _ _) _=>i == j
 | .bl b,.Constant (.bool c) _ _=>b == c
 | .non,.Constant .none _ _=>true
 | .str s,.Constant (.str u) _ _=>s == u
 | .var i,.Name x _=>N[i]? == some x&&(T6 sc x&&(!(x == ("__debug__":Str))&&!(x == ("__classdict__":Str))))
 | .lst ts,.List es _=>Pu N sc ts es
 | .tup ts,.Tuple es _ _=>Pu N sc ts es
 | .dct,.Dict [] [] _=>true
 | _,_=>false
def Pu (N:List Str) (sc:Scope):Tms->List Expr->Bool
 | .nil,[]=>true
 | .cons t ts,e::es=>okT N sc t e&&Pu N sc ts es
 | _,_=>false
end
mutual
def evT (ρ:List Sl):Tm->Option (Kd×D)
 | .int i=>some (.imm,.int i)
 | .neg i=>some (.imm,.int (-i))
 | .bl b=>some (.imm,.bool b)
 | .non=>some (.imm,.none)
 | .str s=>some (.imm,.str s)
 | .var i=>match ρ[i]? with
  | some (.im d)=>some (.imm,d)
  | some (.sh d)=>some (.shr,d)
  | some (.sn d)=>some (.snw,d)
  | some (.dw r d)=>some (.reg r,d)
  | _=>none
 | .lst ts=>match Qv ρ ts with
  | some ks=>some ((joins ks).join .new,.list (ks.map (·.2)))
  | none=>none
 | .tup ts=>match Qv ρ ts with
  | some ks=>some (norm (joins ks) (.tuple (ks.map (·.2))),.tuple (ks.map (·.2)))
  | none=>none
 | .dct=>some (.new,.dict [])
def Qv (ρ:List Sl):Tms->Option (List (Kd×D))
 | .nil=>some []
 | .cons t ts=>match evT ρ t,Qv ρ ts with
  | some k,some ks=>some (k::ks)
  | _,_=>none
end
mutual
def smT:Tm->Bool
 | .lst ts=>N6 1000 ts
 | .tup ts=>N6 1000 ts
 | _=>true
def N6:Nat->Tms->Bool
 | _,.nil=>true
 | n+1,.cons t ts=>smT t&&N6 n ts
 | 0,.cons _ _=>false
end
section
variable {X:Cx}{e:Expr}{es:List Expr}
section
variable {N:List Str}{sc:Scope}
end
end
end Dl
namespace L2
open PySem PySem.Spec PyProof.Rows HT
section
variable {X:Cx}{e:Expr}{te:TE}{p1 p2 p3 pos:Pos}
def Q5 (K:Ú) (te:TE):TE:=fun σ H Q=>te σ H fun x H1=>∃ a xs,x=.ref a/\SqL K H1 a xs/\∀ p,H1 p=none->Q (.ref p) (upd H1 p (.lst xs.reverse))
theorem Kr (he:PE X e te):PE X (.Subscript e (.Slice none none (some (.UnaryOp .USub (.Constant (.int 1) 0 p1) p2)) p3) pos) (Q5 X.K te):=by
 intro pins s σ H Q I h
 refine Subscript_ (thn (he pins s σ H _ I h) fun v s1 ⟨x,H1,I1,r1,a,xs,ex,hx,q⟩=>?_)
 subst ex
 cases r1
 refine wpAny_Slice ?_
 rw [evalPart_none,evalPart_some]
 refine Ò (Ò ?_)
 refine UnaryOp_ (wpAny_Constant_int ?_)
 refine neg_int ?_
 have I2:Inv X pins σ H1 { s1 with toks:=s1.toks+1+1 }:=I1.tok _
 have I4:Inv X pins σ H1 { s1 with heap:=s1.heap.push { cls:=.type "slice",data:=.fields #[.none,.none,.int (-1) (s1.toks+1)] },toks:=s1.toks+1+1 }:=I2.kept fun b ob q=>Ð _ q
 obtain⟨its,r,ht,hz⟩:=I4.list hx
 have hlen:its.toArray.size=xs.length:=by rw [Ñ]; exact r.length.symm
 show wpAny (model X.prog X.w) X.A (subscriptTail e _ (.ref a) (.ref s1.heap.objs.size)) (EP X pins σ Q) X.xe { s1 with heap:=s1.heap.push { cls:=.type "slice",data:=.fields #[.none,.none,.int (-1) (s1.toks+1)] },toks:=s1.toks+1+1 }
 refine tail_any (ops:=[.ref a,.ref s1.heap.objs.size]) ht.isList.typeIs slot_list_getitem.lookup ?_ (by with_unfolding_all rfl)
 refine wpAny_getItem_list_slice ht.isList (Heap.IsSliceOf.new ..) .none .none (.int (-1) _) (by simp) ?_ (by rw [hlen]; exact hz)
 rw [W.krv_pick]
 refine⟨.ref _,_,I4.laid (t':=s1.toks+1+1) (o:=.lst xs.reverse) (fun b ob q=>Ð _ q) (Í _) ?_,rfl,q _ (I4.hok.fresh (Í _))⟩
 refine⟨by rw [List.length_reverse]; exact hz,its.reverse,0,r.reverse,?_⟩
 exact à _ rfl
end
end L2
namespace Dl
open PySem L2 PyProof.Rows
variable [Gr]
section
variable {X:Cx}{pos p1 p2 p3:Pos}{a b e:Expr}{es:List Expr}{ta tb te:DE}{t:DA}
theorem Rps.rev {ok:Addr->Prop}{H:Hp}:∀ {vs:List V}{ds:List D},Rps ok H vs ds->Rps ok H vs.reverse ds.reverse
 | _,_,.nil=>.nil
 | _,_,.cons h t=>by
  rw [ź,ź]
  exact (Rps.rev t).snoc h
def Q0 (te:DE):DE:=fun ρ P=>te ρ fun k d=>match d with
 | .list ds=>newP k ds.reverse fun k'=>P k' (.list ds.reverse)
 | _=>False
theorem uY (he:PD X e te):PD X (.Subscript e (.Slice none none (some (.UnaryOp .USub (.Constant (.int 1) 0 p1) p2)) p3) pos) (Q0 te):=PE.wk (Kr he) (by
 rintro σ H Q ⟨p,H0,own,ρ,P,E,t,q⟩
 refine⟨p,H0,own,ρ,_,E,t,fun k d v H1 h A r=>?_⟩
 cases d with
 | list ds =>
  obtain⟨x,xs,e1,o,h1,rs⟩:=Rp.cj r
  subst e1
  refine⟨x,xs,rfl,SqL.of h1,fun l hl=>?_⟩
  obtain⟨k2,i2,nw⟩:=A.new hl (.lst xs.reverse)
  obtain⟨k',hk',rk'⟩:=iI A (bW A k2 rs.rev) nw au h
  exact q _ _ _ _ hk' (A.go k2 i2) rk'
 | _=>exact h.elim)
def QX (te:DE) (tl th:DO):DE:=fun ρ P=>te ρ fun k d=>tl ρ fun lo=>th ρ fun hi=>match d with
 | .list ds=>newP k (dW ds lo hi) fun k'=>P k' (.list (dW ds lo hi))
 | .tuple ds=>¬ (HT.sIx ds.length 0 lo=0/\HT.sIx ds.length ds.length hi=ds.length)/\P (norm k (.tuple (dW ds lo hi))) (.tuple (dW ds lo hi))
 | _=>False
theorem o9 {lo hi:Option Expr}{tl th:DO} (he:PD X e te) (hl:PO X lo (qY tl)) (hh:PO X hi (qY th)):PD X (.Subscript e (.Slice lo hi none p2) pos) (QX te tl th):=PE.wk (qH (SlR.or uN N7) he hl hh) (by
 rintro σ H Q ⟨p,H0,own,ρ,P,E,t,q⟩
 refine⟨p,H0,own,ρ,_,E,t,fun k d v H1 h A r=>?_⟩
 refine⟨p,H0,own,ρ,_,E.go A.kp A.pen,h,fun o1 H2 h2 A2=>?_⟩
 refine⟨p,H0,own,ρ,_,(E.go A.kp A.pen).go A2.kp A2.pen,h2,fun o2 H3 h3 A3=>?_⟩
 have A4:=(A.base A2).base A3
 have r3:=o8 (A.base A2) A3.kp (o8 A A2.kp r)
 cases d with
 | list ds =>
  obtain⟨x,xs,e1,o,h1,rs⟩:=Rp.cj r3
  subst e1
  refine .inl ⟨x,xs,rfl,SqL.of h1,fun l hl=>?_⟩
  obtain⟨k2,i2,nw⟩:=A4.new hl (.lst (oR xs o1 o2))
  obtain⟨k',hk',rk'⟩:=iI A4 (bW A4 k2 (rs.cut o1 o2)) nw au h3
  exact q _ _ _ _ hk' (A4.go k2 i2) rk'
 | tuple ds =>
  obtain⟨x,xs,e1,h1,rs⟩:=Rp.fC r3
  subst e1
  refine .inr ⟨x,xs,rfl,SqT.of h1,by rw [rs.length]; exact h3.1,fun l hl=>?_⟩
  obtain⟨k2,i2,nw⟩:=A4.new hl (.tup (oR xs o1 o2))
  exact q _ _ _ _ h3.2 (A4.go k2 i2) (aV (.tup au (bW A4 k2 (rs.cut o1 o2))))
 | _=>exact h3.elim)
end
variable [Gr]
section
variable {X:Cx}{pos pos' p2:Pos}{a b e:Expr}{ta tb te tj tm:DE}{st st2:Stmt}{rest:List Stmt}{ti:DI}{g:DG}{t:DS}
def QW (te:DE):DT:=fun ρ P=>te ρ fun _ d=>match d with
 | .list ds=>P (!ds.isEmpty)
 | .tuple ds=>P (!ds.isEmpty)
 | .bool b=>P b
 | _=>False
theorem Jp {ok:Addr->Prop}{H:Hp}{vs:List V}{ds:List D} (r:Rps ok H vs ds):(!vs.isEmpty)=!ds.isEmpty:=by
 cases r <;> rfl
theorem uV (h:PD X e te) (he:∀ whole,isTrue e X.env whole=(do let v ← whole; standAt e.pos; holding [v] (truthy v)):=by intro _; rfl):PDT X e (QW te):=PT.wk (GK h he) (by
 rintro σ H Q ⟨p,H0,own,ρ,P,E,t,q⟩
 refine⟨p,H0,own,ρ,_,E,t,fun k d v H' h A r=>?_⟩
 cases d with
 | list ds =>
  obtain⟨c,vs,rfl,o,hc,rs⟩:=Rp.cj r
  exact⟨_,.inl ⟨vs,SqL.of hc,rfl⟩,by rw [Jp rs]; exact q _ _ h A⟩
 | tuple ds =>
  obtain⟨c,vs,rfl,hc,rs⟩:=Rp.fC r
  exact⟨_,.inr (.inl ⟨vs,SqT.of hc,rfl⟩),by rw [Jp rs]; exact q _ _ h A⟩
 | bool b =>
  have e:=Rp.bl' r
  subst e
  exact⟨b,rfl,q _ _ h A⟩
 | _=>exact h.elim)
end
variable [Gr]
section
variable {X:Cx}{te te1 te2 tj tm:DE}{st st2:Stmt}{rest:List Stmt}{t:DS}
end
variable [Gr]
section
variable {X:Cx}{te tj:DE}{st:Stmt}{t:DS}
end
end Dl
namespace L2
open PySem PySem.Spec PyProof.Rows
end L2
namespace Dl
open PySem L2 PyProof.Rows
variable [Gr]
section
variable {X:Cx}{tg:Expr}{pos:Pos}{ta:DA}
end
section
variable {X:Cx}
theorem Fl (hc:X.calm=true):bN X (.builtin "min") (fun xs H Q=>∃ (p:Addr) (ns:List Int),xs=[.ref p]/\SqL X.K H p (ns.map V.int)/\ns≠[]/\∀ M,M∈ns->(∀ a∈ns,M<=a)->Q (.int M) H):=by
 intro pins s σ H xs us Q I r h
 obtain⟨p,ns,rfl,hp,hne,q⟩:=h
 obtain⟨u,rfl,rx⟩:=vals1 r
 cases rx
 obtain⟨its,rv,pl,hz⟩:=I.list hp
 have hi:IntsAre its ns:=intsAre_of rv
 obtain⟨zs,e⟩:=hi.allInts.items
 have hns:ns=zs.toList.map (·.1):=by rw [← hi.numsOf,← nums_intItems,← e]
 have hsz:0<zs.size:=by
  have h3:=List.length_pos_iff.mpr hne
  rw [hns,Á,Ķ] at h3; exact h3
 have hl:=pl.isList
 rw [e] at hl
 refine min_intList (I.ok.hd hc) hl hsz fun v h' tk hv hk=>?_
 obtain⟨t,rfl⟩:=intItems_at hv
 obtain⟨h1,h2⟩:=argBest_lt (numAt zs) (zs.size - 1)
 refine⟨.int _,H,I.kept fun b o eb=>hk b o eb,⟨_,rfl⟩,q _ ?_ fun a ha=>?_⟩
 ·rw [hns,numAt_eq]; refine getD_mem ?_; rw [Á,Ķ]; omega
 ·rw [hns] at ha
  obtain⟨j,hj,rfl⟩:=mem_getD ha
  rw [Á,Ķ] at hj
  have h3:=h2 j (by omega)
  rw [← numAt_eq]; exact h3
theorem Fi (hc:X.calm=true):bN X (.builtin "sum") (fun xs H Q=>∃ (p:Addr) (ns:List Int),xs=[.ref p]/\SqT X.K H p (ns.map V.int)/\ns.length<=1000/\(∀ x∈ns,-1000000<=x/\x<=1000000)/\Q (.int ns.sum) H):=by
 intro pins s σ H xs us Q I r h
 obtain⟨p,ns,rfl,hp,hl,hs,q⟩:=h
 obtain⟨u,rfl,rx⟩:=vals1 r
 cases rx
 obtain⟨its,rv,pl,hz⟩:=I.tuple hp
 have hlen:its.length=ns.length:=by have:=rv.length; rw [Á] at this; exact this.symm
 have hltp:p<s.heap.objs.size:=by obtain⟨o,ho,_⟩:=pl; exact Ï ho
 have at':∀ i v,its[i]?=some v->∃ t,v=İ (ns.getD i 0) t:=fun i v e=>by
  have hi:i<its.length:=(Î.mp e).1
  have hv:(ns.map V.int)[i]?=some (V.int ns[i]):=by rw [á,Ç (show i<ns.length by omega)]; rfl
  obtain⟨u,eu,ru⟩:=rv.get hv
  rw [e] at eu
  cases eu
  obtain⟨t,rfl⟩:=ru
  exact⟨t,by rw [Ë,Ç (show i<ns.length by omega)]; rfl⟩
 refine call_sum_walk (wpAny_pyIter_tuple pl ?_)
 refine⟨_,_,_,_,_,_,fun i=>ns.getD i 0,rfl,Walks.tuple (A:=X.A.in1) (I.ok.hd hc) _ p (ß hltp) _,⟨⟨_,à _ rfl,rfl,rfl⟩,pl.push _⟩,?_,fun i v e=>at' i v (by simpa using e),fun j hj=>?_,fun h' tk t' hk=>?_⟩
 ·intro b hb
  show b<(s.heap.push _).objs.size
  rw [ň]
  simp at hb
  rcases hb with rfl | rfl
  ·exact Ŕ _
  ·exact Ă hltp
 ·have hj:j<ns.length:=by simpa [hlen] using hj
  have e:ns.getD j 0=ns[j]:=by rw [Ë,Ç hj]; rfl
  have b1:=hs _ (ĥ hj)
  have b2:=nJ (ns.take (j+1)) 1000000 fun x hx=>hs x (Ţ hx)
  have b3:(ns.take (j+1)).length<=1000:=by rw [Ċ]; omega
  rw [lV ns (j+1) hj]
  refine⟨?_,?_⟩
  ·show -(2 ^ 63)<=ns.getD j 0/\ns.getD j 0<2 ^ 63
   rw [e]
   omega
  ·show -(2 ^ 63)<=(ns.take (j+1)).sum/\(ns.take (j+1)).sum<2 ^ 63
   omega
 ·have e:PySem.preSum (fun i=>ns.getD i 0) its.toArray.size=ns.sum:=by
   rw [Ñ,hlen,lV ns ns.length (Í _),Ĥ]
  rw [e]
  refine⟨.int ns.sum,H,I.kept fun b o eb=>hk b o ?_ (Ð _ eb),⟨_,rfl⟩,q⟩
  intro hm
  have:b=s.heap.objs.size:=by simpa using hm
  exact absurd (this ▸ Ï eb) (ă _)
end
section
variable {prog:Program}{w:World}{A:Around}{E:Value->Shared->Prop}
theorem yD {it l:Addr}{items:Array Value} (hne:l≠it):∀ (n i:Nat) (s:Shared) (Q:List Value->Shared->Prop),s.heap.IsListIter it l i->s.heap.IsList l items->i+n<=items.size ->
  (∀ h',h'.IsListIter it l (i+n)->Heap.SameBut it s.heap h'->Q ((items.toList.drop i).take n) { s with heap:=h' })->wpAny (model prog w) A (draw (.ref it) n) Q E s
 | 0,i,s,Q,hit,_,_,hQ=>by
  show wpAny _ _ (pure []) Q E s
  exact Ò (by simpa using hQ s.heap hit (Heap.SameBut.refl ..))
 | n+1,i,s,Q,hit,hl,hle,hQ=>by
  have hlt:i<items.size:=by omega
  show wpAny _ _ (pyNext (.ref it) >>= _) Q E s
  refine Ä (wpAny_pyNext_list_item hit hl (x:=items[i]) (by simp [hlt]) fun h₁ hit₁ hs₁=>?_)
  refine Ä (Ġ (yD hne n (i+1) _ _ hit₁ (hl.extBut hs₁.extBut hne) (by omega) fun h₂ hit₂ hs₂=>Ò ?_))
  have hd:items.toList.drop i=items[i]::items.toList.drop (i+1):=by simp [Ĺ,hlt]
  have z:=hQ h₂ (by rw [show i+(n+1)=i+1+n by omega]; exact hit₂) (hs₁.trans hs₂)
  rw [hd,List.take_succ_cons] at z
  exact z
theorem pF {s:Shared}{l:Addr}{items:Array Value}{Q:List Value->Shared->Prop} (hh:A.handled=none) (hl:s.heap.IsList l items)
  (hQ:∀ h',Heap.ExtBut s.heap.objs.size s.heap h'->Q items.toList { s with heap:=h' }):wpAny (model prog w) A (unpackItems (.ref l) items.size none) Q E s:=by
 have hlt:l≠s.heap.objs.size:=by obtain⟨o,ho,_⟩:=hl; exact ß (Ï ho)
 unfold unpackItems
 refine Ä ?_
 unfold notIterableAtAll
 refine Ä (wpAny_specialOf hl.typeIs slot_list_iter.lookup ?_)
 refine Ò ?_
 simp only [if_false,ė]
 refine Ä (Ġ (wpAny_pyIter_list hl ?_))
 refine Ä (Ġ (yD hlt items.size 0 _ _ ⟨_,à _ rfl,rfl,rfl⟩ (hl.push _) (by omega) fun h₁ hit₁ hs₁=>?_))
 have hall:ŝ items.size (ť 0 items.toList)=items.toList:=by rw [ż]; refine Ŗ ?_; simp
 rw [hall,if_neg (by simp)]
 have hl₁:h₁.IsList l items:=(hl.push _).extBut hs₁.extBut hlt
 refine Ä (Ġ (wpAny_pyNext_list_end hh hit₁ hl₁ (by simp) fun h₂ he₂=>?_))
 simp only [if_false,Option.isSome_none,ė]
 exact Ò (hQ h₂ fun b o hb e=>he₂ b o hb (hs₁.extBut b o hb (Ð _ e)))
theorem oV {s:Shared}{env:Env}{elts:List Expr}{x1}{pos:Pos}{l:Addr}{items:Array Value}{Q:Unit->Shared->Prop} (hh:A.handled=none) (hl:s.heap.IsList l items)
  (hn:(assignEach elts env).length=items.size) (hstar:(assignEach elts env).findIdx? (·.1)=none)
  (h:∀ h',Heap.ExtBut s.heap.objs.size s.heap h'->wpAny (model prog w) A (assignInOrder ((assignEach elts env).map (·.2)) items.toList) Q E { s with heap:=h' }) :
  wpAny (model prog w) A (assign (.Tuple elts x1 pos) env (.ref l)) Q E s:=by
 rw [assign_Tuple]
 refine Ä (wpAny_standAt ?_)
 unfold unpack
 rw [hn,hstar]
 exact Ä (Ġ (pF hh hl h))
end
section
variable {X:Cx}{pos:Pos}
def U8 (K:Ú) (n:Nat) (t:TGs):TG:=fun v σ H Q=>∃ a xs,v=.ref a/\SqL K H a xs/\xs.length=n/\t xs σ H Q
theorem Oq {es:List Expr}{k:Nat}{t:TGs}{n:Nat} (hc:X.calm=true) (h:PGs X es t)
  (hn:(assignEach es X.env).length=n:=by rfl) (hst:(assignEach es X.env).findIdx? (·.1)=none:=by rfl):PG X (.Tuple es k pos) (U8 X.K n t):=by
 intro pins s σ H v u Q I r hw
 obtain⟨a,xs,e1,hq,hl,hw⟩:=hw
 subst e1
 cases r
 obtain⟨its,rv,pl,hz⟩:=I.list hq
 refine oV (I.ok.hd hc) pl.isList (by simp [hn,← hl,rv.length]) hst fun h' hx=>?_
 have I1:Inv X pins σ H { s with heap:=h' }:=I.kept (t':=s.toks) fun b o e=>hx b o (ß (Ï e)) e
 exact h pins _ σ H xs _ Q I1 (by simpa using rv) hw
variable [Gr]
def gTL (n:Nat) (gs:DGs):DG:=fun k d ρ P=>match d with
 | .list ds=>ds.length=n/\gs k ds ρ P
 | _=>False
theorem Aq {es:List Expr}{gs:DGs}{k n:Nat} (hc:X.calm=true) (h:PGs X es (oJ gs)) (hn:(assignEach es X.env).length=n:=by rfl) (hst:(assignEach es X.env).findIdx? (·.1)=none:=by rfl):PDG X (.Tuple es k pos) (gTL n gs):=PG.wk (Oq hc h hn hst) (by
 rintro v σ H Q ⟨p,H0,own,ρ,k,d,P,E,r,t,q⟩
 cases d with
 | list ds =>
  obtain⟨a,vs,rfl,_,ha,rs⟩:=r.cj
  exact⟨a,vs,rfl,SqL.of ha,by rw [rs.length]; exact t.1,p,H0,own,ρ,k,ds,P,E,rs,t.2,q⟩
 | _=>exact t.elim)
end
section
variable {X:Cx}{pos:Pos}{a:Expr}{t:DA} [Gr]
def Qj (f:Int->Int->Int) (le:Int->Int->Prop):GC:=fun ks P=>match ks with
 | [(_,.tuple [.int i,.int j])]=>P .imm (.int (f i j))
 | [(_,.list ds)]=>∃ ns:List Int,ds=ns.map Â/\ns≠[]/\∀ M,M∈ns->(∀ a∈ns,le M a)->P .imm (.int M)
 | _=>False
theorem u9 {ps:Pos} (hc:X.calm=true) (hm:X.mg "min"=none) (ha:PDA X [a] t) (hg:Gl X "min":=by rfl) (he:zS X a []:=by rfl) (hpl:zP X pos []:=by rfl):PD X (.Call (.Name "min" ps) [a] [] pos) (tCl (Qj (fun i j=>if j<i then j else i) (fun M a=>M<=a)) t) :=
 bZ (bN.or (uo hc) (Fl hc)) (by
  intro p H0 own Hb H vs ks P Q A r t q
  unfold Qj at t
  split at t
  ·rename_i k i j
   obtain⟨v,rfl,r'⟩:=fO r
   obtain⟨x,xs,e1,h1,rs1⟩:=Rp.fC r'
   obtain⟨v1,v2,e2,q1,q2⟩:=Rps.two rs1
   subst e1 e2
   rw [q1.int',q2.int'] at h1
   exact .inl ⟨x,i,j,rfl,SqT.of h1,q _ _ _ _ t Kp.refl A.pen (.int _)⟩
  ·obtain⟨ns,rfl,hne,t⟩:=t
   obtain⟨v,rfl,r'⟩:=fO r
   obtain⟨x,xs,e1,o1,h1,rs1⟩:=Rp.cj r'
   subst e1
   have e2:=Rps.ints rs1
   subst e2
   exact .inr ⟨x,ns,rfl,SqL.of h1,hne,fun M h1 h2=>q _ _ _ _ (t M h1 h2) Kp.refl A.pen (.int _)⟩
  ·exact t.elim) hg hm boot_min ha (by decide) (by decide) he hpl
def IW:GC:=fun ks P=>match ks with
 | [(_,.list ds)]=>∃ ns:List Int,ds=ns.map Â/\ns.length<=1000/\(∀ x∈ns,-1000000<=x/\x<=1000000)/\P .imm (.int ns.sum)
 | [(_,.tuple ds)]=>∃ ns:List Int,ds=ns.map Â/\ns.length<=1000/\(∀ x∈ns,-1000000<=x/\x<=1000000)/\P .imm (.int ns.sum)
 | _=>False
theorem uX {ps:Pos} (hc:X.calm=true) (hm:X.mg "sum"=none) (ha:PDA X [a] t) (hg:Gl X "sum":=by rfl) (he:zS X a []:=by rfl) (hpl:zP X pos []:=by rfl):PD X (.Call (.Name "sum" ps) [a] [] pos) (tCl IW t) :=
 bZ (bN.or (Fj hc) (Fi hc)) (by
  intro p H0 own Hb H vs ks P Q A r t q
  unfold IW at t
  split at t
  ·obtain⟨ns,rfl,hl,hb,t⟩:=t
   obtain⟨v,rfl,r'⟩:=fO r
   obtain⟨x,xs,e1,o1,h1,rs1⟩:=Rp.cj r'
   subst e1
   have e2:=Rps.ints rs1
   subst e2
   exact .inl ⟨x,ns,rfl,SqL.of h1,hl,hb,q _ _ _ _ t Kp.refl A.pen (.int _)⟩
  ·obtain⟨ns,rfl,hl,hb,t⟩:=t
   obtain⟨v,rfl,r'⟩:=fO r
   obtain⟨x,xs,e1,h1,rs1⟩:=Rp.fC r'
   subst e1
   have e2:=Rps.ints rs1
   subst e2
   exact .inr ⟨x,ns,rfl,SqT.of h1,hl,hb,q _ _ _ _ t Kp.refl A.pen (.int _)⟩
  ·exact t.elim) hg hm boot_sum ha (by decide) (by decide) he hpl
variable {b:Expr}{ta tb:DE}
end
section
variable {X:Cx}
end
section
variable {X:Cx}{pos:Pos}{a e:Expr}{te ta:DE}{t:DA}{st st2:Stmt}{rest:List Stmt} [Gr]
end
section
variable {X:Cx}{tg iter c:Expr}{pos pos1:Pos}{ret:Stmt}{ti:DI}{g:DG}{tc:DT} [Gr]
end
end Dl
namespace L2
open PySem PySem.Spec PyProof.Rows
end L2
set_option autoImplicit true
set_option relaxedAutoImplicit true
namespace Wr
open PySem L2 PyProof.Rows Dl
structure WD [Gr] (X:Cx) (e:Expr) (t:DE):Prop where
 h:PD X e t
structure WDT [Gr] (X:Cx) (e:Expr) (t:DT):Prop where
 h:PDT X e t
structure WDW [Gr] (X:Cx) (e:Expr) (t:DT):Prop where
 h:PDW X e t
structure WDA [Gr] (X:Cx) (e:List Expr) (t:DA):Prop where
 h:PDA X e t
structure WDS [Gr] (X:Cx) (e:Stmt) (t:DS):Prop where
 h:PDS X e t
structure WDSs [Gr] (X:Cx) (e:List Stmt) (t:DS):Prop where
 h:iu X e t
structure WDI [Gr] (X:Cx) (tg e:Expr) (t:DI):Prop where
 h:PDI X tg e t
structure WDG [Gr] (X:Cx) (e:Expr) (t:DG):Prop where
 h:PDG X e t
structure WDGs [Gr] (X:Cx) (e:List Expr) (t:DGs):Prop where
 h:PGs X e (oJ t)
structure WDTs [Gr] (X:Cx) (e:List Expr) (t:DT):Prop where
 h:Fy X e t
structure WDO [Gr] (X:Cx) (e:Option Expr) (t:DO):Prop where
 h:PO X e (qY t)
structure WV (X:Cx) (e:Expr) (i:Nat):Prop where
 h:PE X e (iy i)
structure WC (X:Cx) (e:Expr) (v:V):Prop where
 h:PE X e (tC v)
section
variable [Gr]
theorem wv (i:Nat) {x:Str}{pos:Pos} (hN:X.N[i]?=some x:=by rfl) (hv:Vis X.env.scope x:=by first | exact Ğ rfl | exact Or.inr (Ğ rfl) | exact Or.inr (Or.inr rfl)) (hd:zB x:=by decide)
  (hcd:(x == ("__classdict__":Str))=false:=by decide):WV X (.Name x pos) i:=⟨pv i hN hv hd hcd⟩
theorem wpt {t:DT} (h:WDW X e t):WDT X e t:=⟨PDW.pt h.h⟩
theorem nW {op op':CmpOp}{f f':Int->Int->Bool} (ho:OpR X (compareOp op) (rI0 fun i j=>.bl (f i j))) (ho':OpR X (compareOp op') (rI0 fun i j=>.bl (f' i j))) (ha:WD X a ta) (hb:WD X b tb) (hc:WD X c tc) (hm:lastMarks [op,op'] [b,c]=false:=by with_unfolding_all rfl):WDT X (.Compare a [op,op'] [b,c] pos) (cR (tCh f f' ta tb tc)):=⟨Dl.nW (GP ho ho' ha.h hb.h hc.h hm) Cd⟩
theorem wty {x:Str}{T:String} (hg:Gl X x) (hm:X.mg x=none) (hv:bootBuiltins x=some (.type T)) (hn:x≠"__name__":=by decide) (hd:zB x:=by decide):WC X (.Name x ps) (.ty T):=⟨lX hg hm hv rfl hn hd⟩
theorem cU {i:Nat}{x:Str}{e:Expr}{te:DE}{pos' pos:Pos} (rg:Option Nat) (hN:X.N.Nodup) (hi:X.N[i]?=some x) (hx:Loc X.env.scope x) (he:WD X e te) (hs:swapsWith e (some (.Name x pos')) pos.line X.env=pure false:=by rfl) (hf:zL X x:=by first | exact .inl rfl | exact .inr rfl | assumption) :
  WDS X (.Assign [.Name x pos'] e pos) (Av i rg te):=⟨Dl.cU rg (bY hN hi hx he.h hs hf)⟩
theorem rG (rg:Option Nat) (own:List Str) {i:Nat}{y:Str}{py spos:Pos} (hc:X.calm=true) (hN:X.N.Nodup) (hiN:X.N[i]?=some y) (hx:Loc X.env.scope y) (hi:WDI X tg iter ti) (hg:∀ c,WDG (X.comp own scope c) tg g) (ht:∀ c,WDTs (X.comp own scope c) ifs tt) (he:∀ c,WD (X.comp own scope c) elt te)
  (hsw:swapsWith (.ListComp elt [⟨tg,iter,ifs,0⟩] scope pos) (some (.Name y py)) spos.line X.env=pure true:=by rfl)
  (hk:fL X.env scope X.N=true:=by rfl) (hs:zF X iter:=by intro _; rfl) (hf:zL X y:=by first | exact .inl rfl | exact .inr rfl | assumption) :
  WDS X (.Assign [.Name y py] (.ListComp elt [⟨tg,iter,ifs,0⟩] scope pos) spos) (Av i rg (dLC own.length ti g tt te)):=⟨Dl.cU rg (Og own hc hN hiN hx hi.h (fun c=>(hg c).h) (fun c=>(ht c).h) (fun c=>(he c).h) hsw hk hs hf)⟩
theorem rH (r:Nat) (own:List Str) {i j:Nat}{y z:Str}{py spos zp lp:Pos} (hc:X.calm=true) (hN:X.N.Nodup) (hiN:X.N[i]?=some y) (hx:Loc X.env.scope y) (hi:WDI X (.Name z zp) iter ti) (hg:∀ c,WDG (X.comp own scope c) (.Name z zp) (gNm j))
  (hsw:swapsWith (.ListComp (.List [] lp) [⟨.Name z zp,iter,[],0⟩] scope pos) (some (.Name y py)) spos.line X.env=pure true:=by rfl)
  (hk:fL X.env scope X.N=true:=by rfl) (hs:zF X iter:=by intro _; rfl) (hf:zL X y:=by first | exact .inl rfl | exact .inr rfl | assumption) :
  WDS X (.Assign [.Name y py] (.ListComp (.List [] lp) [⟨.Name z zp,iter,[],0⟩] scope pos) spos) (Jx i r ti):=⟨Dl.rH r (Bv own hc hN hiN hx hi.h (fun c=>(hg c).h) (fun c=>cQ) (fun c=>uU gG) hsw hk hs hf)⟩
theorem vW {i:Nat}{x:Str}{es:List Expr}{t:DA}{pos' pos lp:Pos} (r:Nat) (b:Bool) (hN:X.N.Nodup) (hi:X.N[i]?=some x) (hx:Loc X.env.scope x) (he:WDA X es t) (hs:swapsWith (.List es lp) (some (.Name x pos')) pos.line X.env=pure false:=by rfl) (hf:zL X x:=by first | exact .inl rfl | exact .inr rfl | assumption) :
  WDS X (.Assign [.Name x pos'] (.List es lp) pos) (Ni i r b t):=⟨Dl.vW r b (bY hN hi hx (uU he.h) hs hf)⟩
theorem vZ {tg e:Expr}{te:DE}{g:DG} (he:WD X e te) (hg:WDG X tg g) (hs:swapsWithSole [tg] e pos.line X.env=pure false:=by rfl) (hw:swappedStores [tg] e X.env=pure none:=by rfl)
  (h1:(assignEach [tg] X.env).map (·.2)=[assign tg X.env]:=by rfl):WDS X (.Assign [tg] e pos) (Tz te g):=⟨Dl.vZ (Oi he.h hg.h hs hw h1)⟩
theorem cG {i:Nat}{x:Str}{e:Expr}{es:List Expr}{apos cpos np pos:Pos} (hv:WV X (.Name x np) i) (ha:WDA X (e::es) (aG te cu))
  (hbase:attributeBase (.Name x np) "append" X.env (eval (.Name x np) X.env)=eval (.Name x np) X.env:=by rfl)
  (hfew:zW X cpos (e::es):=by rfl)
  (hline:(apos.endLine == cpos.line)=true:=by rfl) (hst:zS X e es:=by rfl) (hplain:zP X cpos es:=by rfl)
  (hs:swapsWith (.Call (.Attribute (.Name x np) "append" apos) (e::es) [] cpos) none pos.line X.env=pure false:=by rfl) :
  WDS X (.Expr (.Call (.Attribute (.Name x np) "append" apos) (e::es) [] cpos) pos) (QF i te):=⟨Dl.cG (bV (gO ó ī Ī dR hv.h ha.h hbase hfew hline hst hplain) hs)⟩
theorem dU {i:Nat}{x:Str}{e:Expr}{es:List Expr}{apos cpos np pos:Pos} (hv:WV X (.Name x np) i) (ha:WDA X (e::es) (aG te cu))
  (hbase:attributeBase (.Name x np) "extend" X.env (eval (.Name x np) X.env)=eval (.Name x np) X.env:=by rfl)
  (hfew:zW X cpos (e::es):=by rfl)
  (hline:(apos.endLine == cpos.line)=true:=by rfl) (hst:zS X e es:=by rfl) (hplain:zP X cpos es:=by rfl)
  (hs:swapsWith (.Call (.Attribute (.Name x np) "extend" apos) (e::es) [] cpos) none pos.line X.env=pure false:=by rfl) :
  WDS X (.Expr (.Call (.Attribute (.Name x np) "extend" apos) (e::es) [] cpos) pos) (QD i te):=⟨Dl.dU (bV (gO ó Ũ ŧ jQ hv.h ha.h hbase hfew hline hst hplain) hs)⟩
theorem oN {i:Nat}{x:Str}{e ej:Expr}{es:List Expr}{apos cpos np sp pos:Pos} (hv:WV X (.Name x np) i) (hj:WD X ej tj) (ha:WDA X (e::es) (aG te cu)) (hpx:jV ej:=by exact fun _ _=>rfl)
  (hbase:attributeBase (.Subscript (.Name x np) ej sp) "append" X.env (eval (.Subscript (.Name x np) ej sp) X.env)=eval (.Subscript (.Name x np) ej sp) X.env:=by rfl)
  (hfew:zW X cpos (e::es):=by rfl)
  (hline:(apos.endLine == cpos.line)=true:=by rfl) (hst:zS X e es:=by rfl) (hplain:zP X cpos es:=by rfl)
  (hs:swapsWith (.Call (.Attribute (.Subscript (.Name x np) ej sp) "append" apos) (e::es) [] cpos) none pos.line X.env=pure false:=by rfl) :
  WDS X (.Expr (.Call (.Attribute (.Subscript (.Name x np) ej sp) "append" apos) (e::es) [] cpos) pos) (wg i tj te):=⟨Dl.oN (bV (gO ó ī Ī dR (xr qb hv.h hj.h hpx) ha.h hbase hfew hline hst hplain) hs)⟩
theorem aU {i:Nat}{x:Str} (hN:X.N.Nodup) (hi:X.N[i]?=some x) (hx:Loc X.env.scope x) (hf:zL X x:=by first | exact .inl rfl | exact .inr rfl | assumption):WDG X (.Name x pos) (gNm i):=⟨Dl.aU (BK hN hi hx hf)⟩
theorem aC {i:Int}{j:Nat}:WD X (.Constant (.int i) j pos) (tK (.int i)):=⟨Dl.aC ⟩
theorem xG {i:Bool}{j:Nat}:WD X (.Constant (.bool i) j pos) (tK (.bool i)):=⟨Dl.xG ⟩
theorem eO {e:Expr}{t:DE} (h:WD X e t) (he:∀ whole,isTrue e X.env whole=(do let v ← whole; standAt e.pos; holding [v] (truthy v)):=by intro _; rfl):WDT X e (cR t):=⟨Dl.eO (h:=h.h) (he:=he)⟩
theorem gj {t:DT} (ha:WDT X a t):WDT X (.UnaryOp .Not a pos) (Mf t):=⟨Dl.gj (ha:=ha.h)⟩
theorem d8 (ha:WDT X a t):WDW X (.BoolOp .And [a] pos) t:=⟨Dl.d8 (ha:=ha.h)⟩
theorem eN (ha:WDT X a t):WDW X (.BoolOp .Or [a] pos) t:=⟨Dl.eN (ha:=ha.h)⟩
theorem gb {rest:List Expr} (ha:WDT X a t) (hb:WDW X (.BoolOp .And (b::rest) pos) u):WDW X (.BoolOp .And (a::b::rest) pos) (Jy t u):=⟨Dl.gb (ha:=ha.h) (hb:=hb.h)⟩
theorem iC {rest:List Expr} (ha:WDT X a t) (hb:WDW X (.BoolOp .Or (b::rest) pos) u):WDW X (.BoolOp .Or (a::b::rest) pos) (dOr t u):=⟨Dl.iC (ha:=ha.h) (hb:=hb.h)⟩
theorem ak :WDA X [] cu:=⟨Dl.ak ⟩
theorem aj (ha:WD X e te) (hr:WDA X es t) (hs:zS X e es:=by rfl):WDA X (e::es) (aG te t):=⟨Dl.aj (ha:=ha.h) (hr:=hr.h) (hs:=hs)⟩
theorem dB (h:WDA X es t):WD X (.List es pos) (Mi t):=⟨Dl.dB (h:=h.h)⟩
theorem bF {x1} (h:WDA X es t):WD X (.Tuple es x1 pos) (nF t):=⟨Dl.bF (h:=h.h)⟩
theorem cT (ha:WD X a ta) (hb:WD X b tb):WD X (.BinOp a .Sub b pos) (t2 (gI0 fun i j=>.int (i - j)) ta tb):=⟨Dl.cT (ha:=ha.h) (hb:=hb.h)⟩
theorem mD (ha:WD X a ta) (hb:WD X b tb):WD X (.BinOp a .FloorDiv b pos) (t2 (gI QS fun i j=>.int (i / j)) ta tb):=⟨Dl.mD (ha:=ha.h) (hb:=hb.h)⟩
theorem u6 (ha:WD X a ta) (hb:WD X b tb):WD X (.BinOp a .Mod b pos) (t2 (gI (fun _ j=>0<j) fun i j=>.int (i % j)) ta tb):=⟨Dl.u6 (ha:=ha.h) (hb:=hb.h)⟩
theorem tG (ha:WD X a ta) (hb:WD X b tb):WD X (.Compare a [.Lt] [b] pos) (t2 (gI0 fun i j=>.bool (decide (i<j))) ta tb):=⟨Dl.tG (ha:=ha.h) (hb:=hb.h)⟩
theorem BL (ha:WD X a ta) (hb:WD X b tb):WD X (.Compare a [.LtE] [b] pos) (t2 (gI0 fun i j=>.bool (decide (i<=j))) ta tb):=⟨Dl.BL (ha:=ha.h) (hb:=hb.h)⟩
theorem Hh (ha:WD X a ta) (hb:WD X b tb):WD X (.Compare a [.GtE] [b] pos) (t2 (gI0 fun i j=>.bool (decide (j<=i))) ta tb):=⟨Dl.Hh (ha:=ha.h) (hb:=hb.h)⟩
theorem qI (ha:WD X a ta) (hb:WD X b tb):WDT X (.Compare a [.Lt] [b] pos) (cR (t2 (gI0 fun i j=>.bool (decide (i<j))) ta tb)):=⟨Dl.qI (ha:=ha.h) (hb:=hb.h)⟩
theorem iG (ha:WD X a ta) (hb:WD X b tb):WDT X (.Compare a [.Gt] [b] pos) (cR (t2 (gI0 fun i j=>.bool (decide (j<i))) ta tb)):=⟨Dl.iG (ha:=ha.h) (hb:=hb.h)⟩
theorem zu (ha:WD X a ta) (hb:WD X b tb):WDT X (.Compare a [.GtE] [b] pos) (cR (t2 (gI0 fun i j=>.bool (decide (j<=i))) ta tb)):=⟨Dl.zu (ha:=ha.h) (hb:=hb.h)⟩
theorem kJ {ps:Pos} (hm:X.mg "len"=none) (ha:WDA X [a] t) (hg:Gl X "len":=by rfl) (he:zS X a []:=by rfl) (hpl:zP X pos []:=by rfl):WD X (.Call (.Name "len" ps) [a] [] pos) (tCl Ai t):=⟨Dl.kJ (hm:=hm) (ha:=ha.h) (hg:=hg) (he:=he) (hpl:=hpl)⟩
theorem dJ :WDSs X [] mV:=⟨Dl.dJ ⟩
theorem aK {st:Stmt}{rest:List Stmt} (h1:WDS X st t) (h2:WDSs X rest u):WDSs X (st::rest) (pN t u):=⟨Dl.aK (h1:=h1.h) (h2:=h2.h)⟩
theorem aH {st:Stmt} (h1:WDS X st t):WDSs X [st] t:=⟨Dl.aH (h1:=h1.h)⟩
theorem mR {st:Stmt}:WDS X st (fun _ _=>False):=⟨Dl.mR ⟩
theorem bB (he:WD X e te):WDS X (.Return (some e) pos) (sS te):=⟨Dl.bB (he:=he.h)⟩
theorem gn {c:Expr}{a b:List Stmt}{tc:DT} (hc:WDT X c tc) (ha:WDSs X a t) (hb:WDSs X b u):WDS X (.If c a b pos) (dIf tc t u):=⟨Dl.gn (hc:=hc.h) (ha:=ha.h) (hb:=hb.h)⟩
theorem qj (he:WD X e te) (hs:swapsWith e none pos.line X.env=pure false:=by rfl):WDS X (.Expr e pos) (Nj te):=⟨Dl.qj (he:=he.h) (hs:=hs)⟩
theorem dN :WDGs X [] Iz:=⟨Dl.dN ⟩
theorem jA {g:DG}{gs:DGs} (h1:WDG X e g) (h2:WDGs X es gs) (hs:(assignEach (e::es) X.env).map (·.2)=assign e X.env::(assignEach es X.env).map (·.2):=by rfl):WDGs X (e::es) (vP g gs):=⟨Dl.jA (h1:=h1.h) (h2:=h2.h) (hs:=hs)⟩
theorem gJ {gs:DGs}{k n:Nat} (hc:X.calm=true) (h:WDGs X es gs) (hn:(assignEach es X.env).length=n:=by rfl) (hst:(assignEach es X.env).findIdx? (·.1)=none:=by rfl):WDG X (.Tuple es k pos) (gTp n gs):=⟨Dl.gJ (hc:=hc) (h:=h.h) (hn:=hn) (hst:=hst)⟩
theorem dM (hl:WD X l tl):WDI X tg l (iSq tl):=⟨Dl.dM (hl:=hl.h)⟩
theorem bC {a:Expr}{ps:Pos} (hm:X.mg "range"=none) (ha:WDA X [a] ta) (hg:Gl X "range":=by rfl) (hs:starEach [a] X.env=[(false,eval a X.env)]:=by rfl):WDI X tg (.Call (.Name "range" ps) [a] [] pos) (iR1 ta):=⟨Dl.bC (hm:=hm) (ha:=ha.h) (hg:=hg) (hs:=hs)⟩
theorem cV {body:List Stmt} (hp:PassesOwn (model X.prog X.w) X.A X.env X.xe) (hc:X.calm=true) (hi:WDI X tg iter ti) (hg:WDG X tg g) (hb:WDSs X body tb) (hs:zF X iter:=by intro _; rfl):WDS X (.For tg iter body [] pos) (Tv ti g tb):=⟨Dl.cV (hp:=hp) (hc:=hc) (hi:=hi.h) (hg:=hg.h) (hb:=hb.h) (hs:=hs)⟩
theorem jz {body:List Stmt}{c:Expr}{tc:DT} (hp:PassesOwn (model X.prog X.w) X.A X.env X.xe) (hc:WDT X c tc) (hb:WDSs X body tb):WDS X (.While c body [] pos) (Ar tc tb):=⟨Dl.jz (hp:=hp) (hc:=hc.h) (hb:=hb.h)⟩
theorem cQ {X:Cx}:WDTs X [] (fun _ P=>P true):=⟨Dl.cQ ⟩
theorem dZ {X:Cx}{c:Expr}{t:DT} (hc:WDT X c t):WDTs X [c] t:=⟨Dl.dZ (hc:=hc.h)⟩
theorem j5 (own:List Str) (hc:X.calm=true) (hi:WDI X tg iter ti) (hg:∀ c,WDG (X.comp own scope c) tg g) (ht:∀ c,WDTs (X.comp own scope c) ifs tt) (he:∀ c,WD (X.comp own scope c) elt te) (hk:fL X.env scope X.N=true:=by rfl) (hs:zF X iter:=by intro _; rfl):WD X (.ListComp elt [⟨tg,iter,ifs,0⟩] scope pos) (dLC own.length ti g tt te):=⟨Dl.j5 (own:=own) (hc:=hc) (hi:=hi.h) (hg:=fun c=>(hg c).h) (ht:=fun c=>(ht c).h) (he:=fun c=>(he c).h) (hk:=hk) (hs:=hs)⟩
theorem gC {op} (h:WD X a ta):WD X (.BoolOp op [a] pos) ta:=⟨Dl.gC (h:=h.h)⟩
theorem gF {rest:List Expr} (ha:WD X a ta) (hb:WD X (.BoolOp .And (b::rest) pos) tb):WD X (.BoolOp .And (a::b::rest) pos) (Bf ta tb):=⟨Dl.gF (ha:=ha.h) (hb:=hb.h)⟩
theorem G9 {rest:List Expr} (ha:WD X a ta) (hb:WD X (.BoolOp .Or (b::rest) pos) tb):WD X (.BoolOp .Or (a::b::rest) pos) (Q7 ta tb):=⟨Dl.G9 (ha:=ha.h) (hb:=hb.h)⟩
theorem jl {u:DT} (hc:WDT X c u) (ha:WD X a ta) (hb:WD X b tb):WD X (.IfExp c a b pos) (NP u ta tb):=⟨Dl.jl (hc:=hc.h) (ha:=ha.h) (hb:=hb.h)⟩
theorem jm {ps:Pos} (hc:X.calm=true) (hm:X.mg "all"=none) (hv:bootBuiltins "all"=some (.builtin "all")) (ha:WDA X [a] t) (hg:Gl X "all":=by rfl) (he:zS X a []:=by rfl) (hpl:zP X pos []:=by rfl):WD X (.Call (.Name "all" ps) [a] [] pos) (tCl Qm t):=⟨Dl.jm (hc:=hc) (hm:=hm) (hv:=hv) (ha:=ha.h) (hg:=hg) (he:=he) (hpl:=hpl)⟩
theorem mj {ps:Pos} (hc:X.calm=true) (hm:X.mg "max"=none) (ha:WDA X [a,b] t) (hg:Gl X "max":=by rfl) (he:starEach [a,b] X.env=(false,eval a X.env)::starEach [b] X.env:=by rfl) (hpl:(backTo pos (starEach [b] X.env)).any (·.1)=false:=by rfl):WD X (.Call (.Name "max" ps) [a,b] [] pos) (tCl (gMM fun i j=>if j > i then j else i) t):=⟨Dl.mj (hc:=hc) (hm:=hm) (ha:=ha.h) (hg:=hg) (he:=he) (hpl:=hpl)⟩
theorem pZ {ps:Pos} (hc:X.calm=true) (hm:X.mg "min"=none) (ha:WDA X [a,b] t) (hg:Gl X "min":=by rfl) (he:starEach [a,b] X.env=(false,eval a X.env)::starEach [b] X.env:=by rfl) (hpl:(backTo pos (starEach [b] X.env)).any (·.1)=false:=by rfl):WD X (.Call (.Name "min" ps) [a,b] [] pos) (tCl (gMM fun i j=>if j<i then j else i) t):=⟨Dl.pZ (hc:=hc) (hm:=hm) (ha:=ha.h) (hg:=hg) (he:=he) (hpl:=hpl)⟩
theorem mq {ps:Pos} (hm:X.mg "list"=none) (ha:WDA X [a] t) (hg:Gl X "list":=by rfl) (he:zS X a []:=by rfl) (hpl:zP X pos []:=by rfl):WD X (.Call (.Name "list" ps) [a] [] pos) (tCl I9 t):=⟨Dl.mq (hm:=hm) (ha:=ha.h) (hg:=hg) (he:=he) (hpl:=hpl)⟩
theorem gk {ps:Pos} (hm:X.mg "tuple"=none) (ha:WDA X [a] t) (hg:Gl X "tuple":=by rfl) (he:zS X a []:=by rfl) (hpl:zP X pos []:=by rfl):WD X (.Call (.Name "tuple" ps) [a] [] pos) (tCl yr t):=⟨Dl.gk (hm:=hm) (ha:=ha.h) (hg:=hg) (he:=he) (hpl:=hpl)⟩
theorem lY {ps:Pos} (hm:X.mg "sorted"=none) (ha:WDA X [a] t) (hg:Gl X "sorted":=by rfl) (he:zS X a []:=by rfl) (hpl:zP X pos []:=by rfl):WD X (.Call (.Name "sorted" ps) [a] [] pos) (tCl Ah t):=⟨Dl.lY (hm:=hm) (ha:=ha.h) (hg:=hg) (he:=he) (hpl:=hpl)⟩
theorem cN {ps:Pos} (hm:X.mg "sorted"=none) (ha:WDA X [a] t) (hg:Gl X "sorted":=by rfl) (he:zS X a []:=by rfl) (hpl:zP X pos []:=by rfl):WD X (.Call (.Name "sorted" ps) [a] [] pos) (tCl oK t):=⟨Dl.cN (hm:=hm) (ha:=ha.h) (hg:=hg) (he:=he) (hpl:=hpl)⟩
theorem eE (hu:X.A.units+64<cLine) (ha:WD X a ta) (hb:WD X b tb) (hm:behindInMarks .In b=false:=by rfl):WDT X (.Compare a [.In] [b] pos) (cR (t2 (gIn false) ta tb)):=⟨Dl.eE (hu:=hu) (ha:=ha.h) (hb:=hb.h) (hm:=hm)⟩
theorem eY :WDO X none MJ:=⟨Dl.eY ⟩
theorem cH (h:WD X e te):WDO X (some e) (MF te):=⟨Dl.cH (h:=h.h)⟩
theorem iH (ha:WD X a ta):WD X (.UnaryOp .USub a pos) (J0 ta):=⟨Dl.iH (ha:=ha.h)⟩
theorem dc {f:List D->(D->Prop)->Prop} (C:Cal X.prog X.w X.K X.mg X.base k x ps (spD f)) (hr:Room j X.A) (ha:WDA X (e::es) t) (hk:k<=j:=by decide) (hg:Gl X x:=by rfl) (hdb:zB x:=by decide) (he:zS X e es:=by rfl) (hpl:zP X pos es:=by rfl):WD X (.Call (.Name x p) (e::es) [] pos) (tFn f t):=⟨Dl.dc (C:=C) (hr:=hr) (ha:=ha.h) (hk:=hk) (hg:=hg) (hdb:=hdb) (he:=he) (hpl:=hpl)⟩
theorem dcP {C:Pn->Prop}{i:Nat}{f:List D->(D->Prop)->Prop}{y:Str}{py:Pos} (CC:Cal X.prog X.w X.K X.mg X.base k x ps (spP C f)) (hr:Room j X.A) (hi:WV X (.Name y py) i) (ha:WDA X es t) (hk:k<=j:=by decide) (hg:Gl X x:=by rfl) (hdb:zB x:=by decide) (he:starEach (.Name y py::es) X.env=(false,eval (.Name y py) X.env)::starEach es X.env:=by rfl) (hpl:zP X pos es:=by rfl):WD X (.Call (.Name x p) (.Name y py::es) [] pos) (Gj C f i t):=⟨Dl.dcP (CC:=CC) (hr:=hr) (hi:=hi.h) (ha:=ha.h) (hk:=hk) (hg:=hg) (hdb:=hdb) (he:=he) (hpl:=hpl)⟩
theorem dv (i:Nat) {x:Str}{pos:Pos} (hN:X.N[i]?=some x:=by rfl) (hv:Vis X.env.scope x:=by first | exact Ğ rfl | exact Or.inr (Ğ rfl) | exact Or.inr (Or.inr rfl)) (hd:zB x:=by decide) (hcd:(x == ("__classdict__":Str))=false:=by decide):WD X (.Name x pos) (tV i):=⟨Dl.dv (i:=i) (hN:=hN) (hv:=hv) (hd:=hd) (hcd:=hcd)⟩
theorem zA (ha:WD X a ta) (hb:WD X b tb):WD X (.Compare a [.Is] [b] pos) (t2 Ly ta tb):=⟨Dl.zA (ha:=ha.h) (hb:=hb.h)⟩
theorem kI (ha:WD X a ta) (hb:WD X b tb):WDT X (.Compare a [.IsNot] [b] pos) (cR (t2 yt ta tb)):=⟨Dl.kI (ha:=ha.h) (hb:=hb.h)⟩
theorem Hg (ha:WD X a ta) (hb:WD X b tb) (hs:jV b:=by exact fun _ _=>rfl):WD X (.Subscript a b pos) (t2 gIx ta tb):=⟨Dl.Hg (ha:=ha.h) (hb:=hb.h) (hs:=hs)⟩
theorem uZ (ha:WD X a ta) (hb:WD X b tb):WD X (.BinOp a .Add b pos) (t2 Cr ta tb):=⟨Dl.uZ (ha:=ha.h) (hb:=hb.h)⟩
theorem jk (ha:WD X a ta) (hb:WD X b tb):WD X (.BinOp a .Mult b pos) (t2 IV ta tb):=⟨Dl.jk (ha:=ha.h) (hb:=hb.h)⟩
theorem qK (hu:X.A.units+64<cLine) (ha:WD X a ta) (hb:WD X b tb):WD X (.Compare a [.Eq] [b] pos) (t2 (lE false) ta tb):=⟨Dl.qK (hu:=hu) (ha:=ha.h) (hb:=hb.h)⟩
theorem u5 (hu:X.A.units+64<cLine) (ha:WD X a ta) (hb:WD X b tb):WD X (.Compare a [.NotEq] [b] pos) (t2 (lE true) ta tb):=⟨Dl.u5 (hu:=hu) (ha:=ha.h) (hb:=hb.h)⟩
theorem jO (hu:X.A.units+64<cLine) (ha:WD X a ta) (hb:WD X b tb):WDT X (.Compare a [.Eq] [b] pos) (cR (t2 (lE false) ta tb)):=⟨Dl.jO (hu:=hu) (ha:=ha.h) (hb:=hb.h)⟩
theorem jN (hu:X.A.units+64<cLine) (ha:WD X a ta) (hb:WD X b tb):WDT X (.Compare a [.NotEq] [b] pos) (cR (t2 (lE true) ta tb)):=⟨Dl.jN (hu:=hu) (ha:=ha.h) (hb:=hb.h)⟩
theorem Ao {rest:List Stmt} (i:Nat) (h:WDSs X rest t):WDSs X rest (QC i t):=⟨Dl.Ao (i:=i) (h:=h.h)⟩
theorem rJ {rest:List Stmt} (js:List Nat) (h:WDSs X rest t):WDSs X rest (rM js t):=⟨Dl.rJ (js:=js) (h:=h.h)⟩
theorem uY (he:WD X e te):WD X (.Subscript e (.Slice none none (some (.UnaryOp .USub (.Constant (.int 1) 0 p1) p2)) p3) pos) (Q0 te):=⟨Dl.uY (he:=he.h)⟩
theorem o9 {lo hi:Option Expr}{tl th:DO} (he:WD X e te) (hl:WDO X lo tl) (hh:WDO X hi th):WD X (.Subscript e (.Slice lo hi none p2) pos) (QX te tl th):=⟨Dl.o9 (he:=he.h) (hl:=hl.h) (hh:=hh.h)⟩
theorem uV (h:WD X e te) (he:∀ whole,isTrue e X.env whole=(do let v ← whole; standAt e.pos; holding [v] (truthy v)):=by intro _; rfl):WDT X e (QW te):=⟨Dl.uV (h:=h.h) (he:=he)⟩
theorem Aq {es:List Expr}{gs:DGs}{k n:Nat} (hc:X.calm=true) (h:WDGs X es gs) (hn:(assignEach es X.env).length=n:=by rfl) (hst:(assignEach es X.env).findIdx? (·.1)=none:=by rfl):WDG X (.Tuple es k pos) (gTL n gs):=⟨Dl.Aq (hc:=hc) (h:=h.h) (hn:=hn) (hst:=hst)⟩
theorem u9 {ps:Pos} (hc:X.calm=true) (hm:X.mg "min"=none) (ha:WDA X [a] t) (hg:Gl X "min":=by rfl) (he:zS X a []:=by rfl) (hpl:zP X pos []:=by rfl):WD X (.Call (.Name "min" ps) [a] [] pos) (tCl (Qj (fun i j=>if j<i then j else i) (fun M a=>M<=a)) t):=⟨Dl.u9 (hc:=hc) (hm:=hm) (ha:=ha.h) (hg:=hg) (he:=he) (hpl:=hpl)⟩
theorem uX {ps:Pos} (hc:X.calm=true) (hm:X.mg "sum"=none) (ha:WDA X [a] t) (hg:Gl X "sum":=by rfl) (he:zS X a []:=by rfl) (hpl:zP X pos []:=by rfl):WD X (.Call (.Name "sum" ps) [a] [] pos) (tCl IW t):=⟨Dl.uX (hc:=hc) (hm:=hm) (ha:=ha.h) (hg:=hg) (he:=he) (hpl:=hpl)⟩
end
section
theorem cZ [Gr] {T:String}{x:Str}{e:Expr}{te:DE}{ps pt pos:Pos} (hk:∀ t:Value,(t=.type "NoneType"\/t=.type "bool"\/t=.type "int"\/t=.type "str"\/t=.type "list"\/t=.type "tuple"\/t=.type "dict")->∃ n,t=.type n/\W.kitOne X.K t (.type T)=some (n == T || (T == "int"&&n == "bool")))
  (hm:X.mg "isinstance"=none) (he:WD X e te) (hT:WC X (.Name x pt) (.ty T)) (hg:Gl X "isinstance":=by rfl) (h1:starEach [e,.Name x pt] X.env=(false,eval e X.env)::starEach [.Name x pt] X.env:=by rfl) (h2:starEach [.Name x pt] X.env=(false,eval (.Name x pt) X.env)::starEach [] X.env:=by rfl) (hpl:(backTo pos (starEach [.Name x pt] X.env)).any (·.1)=false:=by rfl) :
  WD X (.Call (.Name "isinstance" ps) [e,.Name x pt] [] pos) (tIs T te):=⟨Dl.cZ hk hm he.h hT.h hg h1 h2 hpl⟩
end
end Wr
set_option autoImplicit false
set_option autoImplicit true
namespace Wr
open PySem L2 PyProof.Rows Dl
section
variable [Gr] {X:Cx}{tj te:DE}
end
section
variable [Gr] {X:Cx}{tj te te1 te2 ta:DE}{t:DS}
end
end Wr
namespace Dl
open PySem L2 PyProof.Rows
section
variable {X:Cx}{pins:List (Addr×Obj)}{σ:L2.St}{H:Hp}{s:Shared}{ok ok':Addr->Prop}
mutual
theorem Rp.j6 (f:∀ a o,ok a->((∀ xs,o≠.tup xs)/\¬ Fxd o)->H a=some o->ok' a):∀ {v:V}{d:D},Rp ok H v d->Rp ok' H v d
 | _,_,.non=>.non
 | _,_,.bl b=>.bl b
 | _,_,.int i=>.int i
 | _,_,.str x=>.str x
 | _,_,.lst o h r=>.lst (f _ _ o ⟨(fun _ z=>by cases z),fun ⟨_,_,z⟩=>by cases z⟩ h) h (Rps.j6 f r)
 | _,_,.tup h r=>.tup h (Rps.j6 f r)
 | _,_,.dct o h r=>.dct (f _ _ o ⟨(fun _ z=>by cases z),fun ⟨_,_,z⟩=>by cases z⟩ h) h (Rkv.j6 f r)
theorem Rps.j6 (f:∀ a o,ok a->((∀ xs,o≠.tup xs)/\¬ Fxd o)->H a=some o->ok' a):∀ {v:List V}{d:List D},Rps ok H v d->Rps ok' H v d
 | _,_,.nil=>.nil
 | _,_,.cons h r=>.cons (Rp.j6 f h) (Rps.j6 f r)
theorem Rkv.j6 (f:∀ a o,ok a->((∀ xs,o≠.tup xs)/\¬ Fxd o)->H a=some o->ok' a):∀ {v:List (Key×V)}{d:List (D×D)},Rkv ok H v d->Rkv ok' H v d
 | _,_,.nil=>.nil
 | _,_,.cons h r=>.cons (Rp.j6 f h) (Rkv.j6 f r)
end
end
section
variable {X:Cx}{pos:Pos}{a e:Expr}{te:DE}{t:DA} [Gr]
end
def spR (f:List D->(D->Prop)->Prop):Sp:=fun vs H Q _=>∃ ok ds P,Rps ok H vs ds/\f ds P/\∀ d v H',P d->Same H H'->Rp (fun a=>ok a\/H a=none) H' v d->Q v H'
theorem vK {f:List D->(D->Prop)->Prop}{n:Nat} (hn:∀ ds P,f ds P->ds.length=n:=by intro _ _ h; repeat (first | (obtain⟨rfl,_⟩:=h; rfl) | obtain⟨_,h⟩:=h)):∀ vs H Q E,spR f vs H Q E->vs.length=n:=fun vs H Q E h=>by
 obtain⟨ok,ds,P,r,t,_⟩:=h
 rw [r.length]
 exact hn ds P t
section
variable [Gr]
abbrev DR:=(D->Prop)->List Sl->Prop
structure WishR (p:Pn) (own:Addr->Option Nat) (H:Hp) (P:D->Prop) (Q:Ends):Prop where
 rt:∀ d v H',P d->p.PI H'->(∀ b o,H b=some o->¬ p.fp b->own b=none->H' b=some o)->Rp (fun a=>¬ p.fp a) H' v d->Q.rt v H'
def MP (t:DR):TS:=fun Q σ H=>∃ p H0 own ρ P,EnvD p H0 own σ H ρ/\t P ρ/\WishR p own H P Q
structure WR (X:Cx) (ss:List Stmt) (t:DR):Prop where
 h:PSs X ss (MP t)
def RB (te:DE):DR:=fun P ρ=>te ρ fun _ d=>P d
def Rz (t:DS) (u:DR):DR:=fun P ρ=>t { nx:=u P,rt:=fun _=>False } ρ
variable {X:Cx}{pos:Pos}{e:Expr}{te:DE}{st:Stmt}{rest:List Stmt}{t:DS}{u:DR}
theorem zf (he:Wr.WD X e te):WR X [.Return (some e) pos] (RB te):=⟨PSs.wk' (fZ (kE he.h)) (by
 rintro Q σ H ⟨p,H0,own,ρ,P,E,t,w⟩
 exact⟨p,H0,own,ρ,_,E,t,fun k d v H' h A r=>w.rt d v H' h A.pen (fun b o e n _=>A.kp b o e n) (r.mono (fun a o=>jP A o) (fun _ _ _ e=>e) fun _ _ e=>e)⟩)⟩
theorem uO (h1:Wr.WDS X st t) (h2:WR X rest u):WR X (st::rest) (Rz t u):=⟨PSs.wk' (qC h1.h h2.h) (by
 rintro Q σ H ⟨p,H0,own,ρ,P,E,t,w⟩
 refine⟨p,H0,own,ρ,_,E,t,⟨fun o s h r e g n=>⟨p,H0,o,r,P,e,n,⟨fun d v H' hP hI hk rp=>w.rt d v H' hP hI (fun b ob e1 n1 o1=>?_) rp⟩⟩,fun _ _ _ n=>n.elim,fun _ _ _ _ _ _ n=>n.elim,fun _ _ _ _ _ _ n=>n.elim⟩⟩
 obtain⟨e2,o2⟩:=g.keep b ob e1 n1 o1
 exact hk b ob e2 n1 o2)⟩
theorem Am {f:List D->(D->Prop)->Prop}{T:DR}{N:List Str}{vs:List V}{H:Hp}{Q:VK}{E:XK} (h:spR f vs H Q E)
  (body:∀ ds P,f ds P->∃ ρ,ds.map bx++É (N.length - ds.length) .any=ρ/\T P ρ) (g:∀ p,Gr.G p H:=by intro _; trivial):MP T { nx:=fun _ H'=>Q .non H',rt:=Q } (L2.start N vs) H:=by
 obtain⟨ok,ds,P,r,t,q⟩:=h
 obtain⟨ρ,e,b⟩:=body ds P t
 let p:Pn:=⟨fun a=>¬ ok a/\∃ o,H a=some o/\(∀ xs,o≠.tup xs)/\¬ Fxd o,fun H'=>∀ b o,¬ ok b->H b=some o->((∀ xs,o≠.tup xs)/\¬ Fxd o)->H' b=some o,.non,
  fun H1 H2 h1 h2 b o n e1 e2=>h2 b o (.inl ⟨n,o,e1,e2⟩) (h1 b o n e1 e2),fun H1 b h1 ⟨n,o,e1,e2⟩=>⟨o,h1 b o n e1 e2,e2⟩⟩
 have E:=jT (p:=p) (N:=N) (g p) (fun b o _ e _=>e) (r.mono (ok':=fun a=>¬ p.fp a) (fun a o z=>z.1 o) (fun _ _ _ e=>e) fun _ _ e=>e)
 rw [r.length] at E
 rw [e] at E
 refine⟨p,H,fun _=>none,_,_,E,b,⟨fun d v H' hP hI hk rp=>?_⟩⟩
 have sm:Same H H':=fun b o e=>by
  by_cases hf:p.fp b
  ·obtain⟨n,o',e1,e2⟩:=hf
   rw [e] at e1
   cases e1
   exact hI b o n e e2
  ·exact hk b o e hf rfl
 refine q d v H' hP sm (rp.j6 fun a o n1 n2 e1=>?_)
 cases hx:H a with
 | none=>exact .inr rfl
 | some o' =>
  have e2:=sm a o' hx
  rw [e1] at e2
  cases e2
  exact .inl (û fun z=>n1 ⟨z,o,hx,n2⟩)
def Rb (f:List D->(D->Prop)->Prop) (t:DA):DE:=fun ρ P=>t ρ fun ks=>(ks.all fun k=>k.1.le .shr)=true/\f (ks.map (·.2)) fun d=>P (norm .shr d) d
theorem Bq {p:Pn}{H0 Hb H H2:Hp}{own:Addr->Option Nat} (A:At p H0 own Hb H):∀ {vs:List V}{ks:List (Kd×D)},RpK p H0 own Hb H2 vs ks->(ks.all fun k=>k.1.le .shr)=true->Rps (okK p H0 own Hb .shr) H2 vs (ks.map (·.2))
 | _,_,.nil,_=>.nil
 | _,_,.cons h t,q=>by
  rw [List.all_cons,Ý] at q
  exact .cons (lU A q.1 h) (Bq A t q.2)
variable {k j:Nat}{x:Str}{ps:List Str}{es:List Expr}{ta:DA}{p:Pos}
theorem dcR {f:List D->(D->Prop)->Prop} (C:Cal X.prog X.w X.K X.mg X.base k x ps (spR f)) (hr:Room j X.A) (ha:Wr.WDA X (e::es) ta) (hk:k<=j:=by decide) (hg:Gl X x:=by rfl)
  (hdb:zB x:=by decide) (he:zS X e es:=by rfl) (hpl:zP X pos es:=by rfl) :
  Wr.WD X (.Call (.Name x p) (e::es) [] pos) (Rb f ta):=⟨PE.wk (pcS C hr ha.h hk hg hdb he hpl) (by
 rintro σ H Q ⟨p,H0,own,ρ,P,E,t,q⟩
 refine⟨p,H0,own,ρ,_,E,t,fun ks vs H1 h A r=>?_⟩
 show spR f (vs++[]) H1 Q E0
 rw [ù]
 refine⟨_,ks.map (·.2),_,Bq A r h.1,h.2,fun d v H' h2 s r2=>?_⟩
 have k2:Kp p H1 H':=Kp.of s
 refine q _ d v H' h2 (A.go k2 (p.mono H1 H' A.pen fun b o _ e=>s b o e)) (aV ?_)
 refine r2.mono (fun a o=>?_) (fun _ _ _ e=>e) fun _ _ e=>e
 rcases o with o | o
 ·exact o
 ·exact bU A (j:=.new) (k:=.shr) rfl (A.free o))⟩
end
end Dl
namespace Wr
open PySem L2 PyProof.Rows Dl
variable [Gr] {X:Cx}{pos:Pos}{a:Expr}{t:DA}
end Wr
namespace L2
open PySem PySem.Spec PyProof.Rows
end L2
namespace Dl
open PySem L2 PyProof.Rows
variable [Gr]
section
variable {X:Cx}{tg:Expr}{pos:Pos}{ta:DA}
end
end Dl
namespace Wr
open PySem L2 PyProof.Rows Dl
variable [Gr] {X:Cx}{pos:Pos}{ta:DA}
end Wr
namespace Dl
open PySem L2 PyProof.Rows
variable [Gr]
section
variable {X:Cx}{pos:Pos}{st:Stmt}{rest:List Stmt}{t u:DS}{te tj t1 t2:DE}
def jB (t u:DS):DS:=fun P ρ=>∃ M:List Sl->Prop,t { P with nx:=M } ρ/\∀ ρ',M ρ'->u P ρ'
end
end Dl
namespace Wr
open PySem L2 PyProof.Rows Dl
section
variable [Gr] {X:Cx}{tj te t1 t2:DE}{t u:DS}
end
end Wr
set_option autoImplicit false
namespace L2
open PySem PySem.Spec PyProof.Rows
section
variable {X:Cx}{k:Nat}{f CF:Addr}{fd:FuncData}{ps:List Str}{sp:Sp}{E:XK}{x hx n:Str}{p np cpos epos hpos pos:Pos}{e:Expr}{es:List Expr}{t:TA}{b₀:Stmt}{suite:List Stmt}{ts:TS}{j:Nat}
end
section
variable {X:Cx}{k:Nat}{f CF:Addr}{fd:FuncData}{ps:List Str}{sp:Sp}{E:XK}{x hx n:Str}{p np cpos epos hpos pos:Pos}{e:Expr}{es:List Expr}{t:TA}{b₀:Stmt}{suite:List Stmt}{ts:TS}{j:Nat}
end
end L2
namespace Dl
open PySem L2 PyProof.Rows
section
variable [Gr] {X:Cx}{pos:Pos}{a:Expr}{t:DA}
end
end Dl
namespace Wr
open PySem L2 PyProof.Rows Dl
section
variable [Gr] {X:Cx}{pos:Pos}{a:Expr}{t:DA}
end
end Wr
namespace Dl
open PySem L2 PyProof.Rows
structure Ext (p q:Pn):Prop where
 pv:q.pv=p.pv
 fp:∀ a,p.fp a->q.fp a
 pi:∀ H,q.PI H->p.PI H
 go:∀ H H',q.PI H->Kp p H H'->p.PI H'->q.PI H'
def CE (C:Pn->Prop) (q:Pn):Prop:=∃ p,C p/\Ext p q
section
variable [Gr]
variable {X:Cx}{pos:Pos}{c:Expr}{a rest:List Stmt}{tc:DT}{t u:DR}
variable {k j i:Nat}{x y:Str}{ps:List Str}{es:List Expr}{ta:DA}{pp py:Pos}
end
end Dl
namespace L2
open PySem PySem.Spec PyProof.Rows Builtin
section
variable {X:Cx}
end
end L2
namespace Dl
open PySem L2 PyProof.Rows
section
variable [Gr]
variable {X:Cx}{pos:Pos}{a b e:Expr}{ta tb te:DE}{p1 p2 p3:Pos}
end
end Dl
namespace Wr
open PySem L2 PyProof.Rows Dl
section
variable [Gr] {X:Cx}{pos:Pos}{a b e:Expr}{ta tb te:DE}{p1 p2 p3:Pos}
end
end Wr
namespace L2
open PySem PySem.Spec PyProof.Rows Builtin
section
variable {X:Cx}
end
end L2
namespace Dl
open PySem L2 PyProof.Rows
section
variable [Gr] {X:Cx}{pos p2:Pos}{a b e:Expr}{t:DA}{ta tb te:DE}
end
end Dl
namespace Wr
open PySem L2 PyProof.Rows Dl
section
variable [Gr] {X:Cx}{pos p2:Pos}{a b e:Expr}{t:DA}{ta tb te:DE}
end
end Wr
namespace Dl
open PySem L2 PyProof.Rows
variable [Gr]
section
variable {X:Cx}{st st2:Stmt}{rest:List Stmt}{te1 te2:DE}{tt:DT}{tr:TS}{t:DS}
end
section
variable {X:Cx}{own:List Str}{scope:Scope}{tg iter elt:Expr}{ifs:List Expr}{pos:Pos}{g:DG}{tt:DT}{te:DE}
end
end Dl
namespace Wr
open PySem L2 PyProof.Rows Dl
variable [Gr]
section
variable {X:Cx}{te1 te2:DE}{tt:DT}{tr:TS}{t:DS}
end
end Wr
namespace PySem
open PySem.W PyProof.Rows PySem.Spec
section
variable {prog:Program}{w:World}{A:Around}{E:Value->Shared->Prop}{s:Shared}{it l:Addr}{items:Array Value}
end
end PySem
namespace L2
open PySem PySem.Spec PyProof.Rows
section
variable {X:Cx}
end
end L2
namespace Dl
open PySem L2 PyProof.Rows
section
variable [Gr] {X:Cx}{a:Expr}{t:DA}
end
end Dl
namespace Wr
open PySem L2 PyProof.Rows Dl
section
variable [Gr] {X:Cx}{a:Expr}{t:DA}
end
end Wr
namespace L2
open PySem PyProof.Rows
def Asc (xs:Array Nat):Prop:=xs.toList.Pairwise (·<·)
structure Good (w:World) (t:SetTable):Prop where
 asc:Asc t.place
 dum:t.dummies=#[]
 led:t.led=!w.params.followText "set-order"
section
variable {w:World}{t:SetTable}
end
section
variable {P:Program}{w:World}{A:Around}{E:Value->Shared->Prop}{s:Shared}
end
section
variable {P:Program}{w:World}{A:Around}{R:Result->Shared->Prop}{I:Addr}{fp wr:List Addr}{G:Array GenState->Array GenState->Prop}{n:Nat}{W:Nat->Value->Prop}{St:Nat->Shared->Prop}
end
section
variable {P:Program}{w:World}{A:Around}{E:Value->Shared->Prop}{s:Shared}
end
section
variable {P:Program}{w:World}{A:Around}{E:Value->Shared->Prop}{s:Shared}{I a:Addr}{f:Value}{i n ep:Nat}{o:Obj}{es:Array (Int×Value)}{t:SetTable}
end
section
variable {P:Program}{w:World}{A:Around}{E:Value->Shared->Prop}{s:Shared}
variable {a:Addr}{i ep:Nat}{o:Obj}{es:Array (Int×Value)}{t:SetTable}
end
section
variable {P:Program}{w:World}{A:Around}{E:Value->Shared->Prop}{s:Shared}{I a:Addr}{ep:Nat}{o:Obj}{es:Array (Int×Value)}{t:SetTable}
end
end L2
namespace L2
open PySem PySem.Spec PyProof.Rows
section
variable {P:Program}{w:World}{A:Around}{E:Value->Shared->Prop}{s:Shared}{a:Addr}{S:Int->Bool}{n:Nat}
end
end L2
namespace L2
open PySem PyProof.Rows
section
variable {X:Cx}{pins:List (Addr×Obj)}{σ:List (Option V)}{H:Hp}{s:Shared}
end
end L2
namespace Dl
open PySem L2 PyProof.Rows
variable [Gr]
section
variable {X:Cx}{pos pos':Pos}{a:Expr}{t:DA}
end
end Dl
namespace Wr
open PySem L2 PyProof.Rows Dl
section
variable [Gr] {X:Cx}{pos pos':Pos}{a:Expr}{t:DA}
end
end Wr
namespace L2
open PySem PySem.Spec PyProof.Rows
open PySem.AutoSeq1 (wpAny_loadPart')
open PySem.MeetsSeq PySem.MeetsSeq3
def Aa:List Int->List Int->Bool
 | [],[]=>false
 | [],_::_=>true
 | _::_,[]=>false
 | x::a,y::b=>if x=y then Aa a b else decide (x<y)
theorem lex_nil (b:List Int):Aa [] b=decide (0<b.length):=by cases b <;> rfl
theorem ints_get:∀ {vs:List Value}{ns:List Int},IntsAre vs ns->∀ {i:Nat}{x:Int},ns[i]?=some x->∃ t,vs[i]?=some (.int x t)
 | _,_,.nil,i,x,e=>by simp at e
 | _,_,.cons y t r,0,x,e=>by
  have e:some y=some x:=e
  cases e
  exact⟨t,rfl⟩
 | _,_,.cons y t r,i+1,x,e=>by
  obtain⟨t',h⟩:=ints_get r (i:=i) (x:=x) (by simpa using e)
  exact⟨t',by simpa using h⟩
theorem Ck {items:Array Value}{ns:List Int} (h:IntsAre items.toList ns) {i:Nat}{x:Int} (hx:ns[i]?=some x):∃ t,items[((i:Nat):Int).toNat]?=some (.int x t):=by
 obtain⟨t,e⟩:=ints_get h hx
 exact⟨t,by simpa using e⟩
theorem Lb (l b:Addr) (items items2:Array Value) (n n2:Nat) (dd dd2:Option Addr) (sl sl2:Array (Option Value)) (ns ms:List Int) (h1:IntsAre items.toList ns) (h2:IntsAre items2.toList ms) (k:Nat) :
  ∀ i:Nat,i<=ns.length->i<=ms.length->ns.length - i=k->Meets (Builtin.«list.__eq__.loop» ⟨[.ref l,.ref b,rawInt i,rawInt 0],[]⟩)
   (fun _ R s=>s.heap.get? l=some { cls:=.type "list",dict:=dd,data:=.seq items n,slots:=sl }/\s.heap.get? b=some { cls:=.type "list",dict:=dd2,data:=.seq items2 n2,slots:=sl2 } /\
    R (.ok (.ret (.bool (Aa (ns.drop i) (ms.drop i))))) s):=by
 have s1:items.size=ns.length:=by have:=h1.length; simpa using this
 have s2:items2.size=ms.length:=by have:=h2.length; simpa using this
 induction k with
 | zero =>
  intro i i1 i2 hk prog w A R s h
  obtain⟨hp,g,d,tk,os⟩:=s; obtain⟨hl,hb,h⟩:=h
  wp_walk using Ħ hl,Ħ hb
  have hi1:items[((i:Nat):Int).toNat]?=none:=by simp; omega
  rw [hi1]
  have hd:ns.drop i=[]:=List.drop_eq_nil_of_le (by omega)
  rw [hd,lex_nil] at h
  wp_walk using Ħ hl,Ħ hb
  show R (.ok (.ret (.bool (decide (items.size<items2.size))))) _
  have e:decide (items.size<items2.size)=decide (0<(ms.drop i).length):=by
   rw [õ]
   exact decide_eq_decide.mpr (by omega)
  rw [e]
  exact h
 | succ k ih =>
  intro i i1 i2 hk prog w A R s h
  obtain⟨hp,g,d,tk,os⟩:=s; obtain⟨hl,hb,h⟩:=h
  wp_walk using Ħ hl,Ħ hb
  have hlt:i<ns.length:=by omega
  have hx:=Ç hlt
  have dx:ns.drop i=ns[i]::ns.drop (i+1):=Ĺ hlt
  rw [dx] at h
  generalize ns[i]=x at hx h
  obtain⟨t,ex⟩:=Ck h1 hx
  rw [ex]
  by_cases hlt2:i<ms.length
  ·have hy:=Ç hlt2
   have dy:ms.drop i=ms[i]::ms.drop (i+1):=Ĺ hlt2
   rw [dy] at h
   generalize ms[i]=y at hy h
   obtain⟨u,ey⟩:=Ck h2 hy
   rw [ey]
   have hc:((i:Int)+1)=((i+1:Nat):Int):=by push_cast; rfl
   have h:R (.ok (.ret (.bool (if x=y then Aa (ns.drop (i+1)) (ms.drop (i+1)) else decide (x<y))))) _:=h
   refine Ä (wpAny_eqBool_int ?_)
   by_cases exy:x=y
   ·subst exy
    rw [if_pos rfl] at h
    rw [beq_self_eq_true]
    wp_walk
    rw [hc]
    exact⟨plainId_quiet plain_eq_loop _,Ź entry_eq_loop (by
     rw [Around.under_plainId plain_eq_loop _]
     exact ih (i+1) (by omega) (by omega) (by omega) prog w A R _ ⟨hl,hb,h⟩)⟩
   ·rw [if_neg exy] at h
    rw [beq_eq_false_iff_ne.mpr exy]
    wp_walk using Ħ hl,Ħ hb
    rw [ex,ey]
    refine Ä ?_
    show wpAny _ _ (compareOp .Lt (.int x t) (.int y u)) _ _ _
    exact PyProof.Rows.lt_int (Ò h)
  ·have hi2:items2[((i:Nat):Int).toNat]?=none:=by simp; omega
   rw [hi2]
   have hd:ms.drop i=[]:=List.drop_eq_nil_of_le (by omega)
   rw [hd] at h
   have h:R (.ok (.ret (.bool false))) _:=h
   wp_walk using Ħ hl,Ħ hb
   show R (.ok (.ret (.bool (decide (items.size<items2.size))))) _
   rw [decide_eq_false (by omega)]
   exact h
theorem Lg (l b:Addr) (items items2:Array Value) (n n2:Nat) (dd dd2:Option Addr) (sl sl2:Array (Option Value)) (ns ms:List Int) (h1:IntsAre items.toList ns) (h2:IntsAre items2.toList ms) :
  Meets (Builtin.«list.__lt__» ⟨[.ref l,.ref b],[]⟩)
   (fun _ R s=>s.heap.get? l=some { cls:=.type "list",dict:=dd,data:=.seq items n,slots:=sl }/\s.heap.get? b=some { cls:=.type "list",dict:=dd2,data:=.seq items2 n2,slots:=sl2 } /\
    R (.ok (.ret (.bool (Aa ns ms)))) s):=by
 intro prog w A R s h
 obtain⟨hp,g,d,tk,os⟩:=s; obtain⟨hl,hb,h⟩:=h
 have f3:=AutoSeq1.sub_list_list
 wp_walk using Ħ hl,Ħ hb
 exact⟨plainId_quiet plain_eq_loop _,Ź entry_eq_loop (by
  rw [Around.under_plainId plain_eq_loop _]
  exact Lb l b items items2 n n2 dd dd2 sl sl2 ns ms h1 h2 _ 0 (Ć _) (Ć _) rfl prog w A R _ ⟨hl,hb,h⟩)⟩
def bw:Nat->List Int->Int
 | 0,_=>0
 | _+1,[]=>0
 | k+1,x::l=>(x+1) * 64 ^ k+bw k l
def nj (l:List Int):Prop:=l.length<=40/\∀ x∈l,0<=x/\x<62
theorem gM (k:Nat):(0:Int)<64 ^ k:=Int.pow_pos (by decide)
theorem jw:∀ (k:Nat) (l:List Int),(∀ x∈l,0<=x/\x<62)->0<=bw k l/\bw k l<64 ^ k
 | 0,l,_=>⟨ě _,by show (0:Int)<64 ^ 0; decide⟩
 | k+1,[],_=>⟨ě _,gM _⟩
 | k+1,x::l,h=>by
  obtain⟨h1,h2⟩:=jw k l fun y hy=>h y (Ã _ hy)
  have hx:=h x Æ
  have p:=gM k
  have e:(64:Int) ^ (k+1)=64 ^ k * 64:=Int.pow_succ ..
  show 0<=(x+1) * 64 ^ k+bw k l/\(x+1) * 64 ^ k+bw k l<64 ^ (k+1)
  rw [e]
  generalize (64:Int) ^ k=M at *
  have a1:0<=(x+1) * M:=Int.mul_nonneg (by omega) (by omega)
  have a2:(x+1) * M<=62 * M:=Int.mul_le_mul_of_nonneg_right (by omega) (by omega)
  omega
theorem yj:∀ (k:Nat) (a b:List Int),a.length<=k->b.length<=k->(∀ x∈a,0<=x/\x<62)->(∀ x∈b,0<=x/\x<62)->Aa a b=decide (bw k a<bw k b)
 | 0,[],[],_,_,_,_=>rfl
 | k+1,[],[],_,_,_,_=>rfl
 | k+1,[],y::b,_,_,_,hb=>by
  have h1:=(jw k b fun z hz=>hb z (Ã _ hz)).1
  have hy:=hb y Æ
  have p:=gM k
  have e:(0:Int)<(y+1) * 64 ^ k+bw k b:=by
   have:0<(y+1) * 64 ^ k:=Int.mul_pos (by omega) p
   omega
  exact (decide_eq_true e).symm
 | k+1,x::a,[],_,_,ha,_=>by
  have h1:=(jw k a fun z hz=>ha z (Ã _ hz)).1
  have hx:=ha x Æ
  have p:=gM k
  have e:¬ (x+1) * 64 ^ k+bw k a<0:=by
   have:0<(x+1) * 64 ^ k:=Int.mul_pos (by omega) p
   omega
  exact (decide_eq_false e).symm
 | k+1,x::a,y::b,la,lb,ha,hb=>by
  have ih:=yj k a b (by simpa using la) (by simpa using lb) (fun z hz=>ha z (Ã _ hz)) fun z hz=>hb z (Ã _ hz)
  have h1:=jw k a fun z hz=>ha z (Ã _ hz)
  have h2:=jw k b fun z hz=>hb z (Ã _ hz)
  have p:=gM k
  show (if x=y then Aa a b else decide (x<y))=decide ((x+1) * 64 ^ k+bw k a<(y+1) * 64 ^ k+bw k b)
  generalize (64:Int) ^ k=M at *
  by_cases e:x=y
  ·subst e
   rw [if_pos rfl,ih]
   exact decide_eq_decide.mpr (by omega)
  ·rw [if_neg e]
   refine decide_eq_decide.mpr ⟨fun h=>?_,fun h=>?_⟩
   ·have a2:(x+1+1) * M<=(y+1) * M:=Int.mul_le_mul_of_nonneg_right (by omega) (by omega)
    have a3:(x+1+1) * M=(x+1) * M+M:=by rw [Int.add_mul (x+1) 1 M,Int.one_mul]
    omega
   ·by_cases hlt:x<y
    ·exact hlt
    ·have a2:(y+1+1) * M<=(x+1) * M:=Int.mul_le_mul_of_nonneg_right (by omega) (by omega)
     have a3:(y+1+1) * M=(y+1) * M+M:=by rw [Int.add_mul (y+1) 1 M,Int.one_mul]
     omega
 | 0,_::_,_,h,_,_,_=>absurd h (Nat.not_succ_le_zero _)
 | 0,[],_::_,_,h,_,_=>absurd h (Nat.not_succ_le_zero _)
def iW (h:Heap) (u:Value) (l:List Int):Prop:=∃ a o its n,u=.ref a/\h.get? a=some o/\o.cls=.type "list"/\o.data=.seq its n/\IntsAre its.toList l
theorem iW.keep {h h':Heap}{u:Value}{l:List Int} (x:iW h u l) (k:∀ a o,u=.ref a->h.get? a=some o->h'.get? a=some o):iW h' u l:=by
 obtain⟨a,o,its,n,e,ho,hc,hd,hi⟩:=x
 exact⟨a,o,its,n,e,k a o e ho,hc,hd,hi⟩
theorem RQ {α β:Type}{F G:α->β->Prop}{l₁:List α}{l₂:List β} (h:Paired F l₁ l₂) (f:∀ a b,a∈l₁->F a b->G a b):Paired G l₁ l₂:=by
 induction h with
 | nil=>exact .nil
 | cons r t ih=>exact .cons (f _ _ Æ r) (ih fun a b ha x=>f a b (Ã _ ha) x)
theorem RP {α β:Type}{F:α->β->Prop}{l₁:List α}{l₂:List β} (h:Paired F l₁ l₂):∀ {a:α},a∈l₁->∃ b,b∈l₂/\F a b:=by
 induction h with
 | nil=>intro a ha; cases ha
 | cons r t ih =>
  intro a ha
  rcases Ô.mp ha with rfl | ha
  ·exact⟨_,Æ,r⟩
  ·obtain⟨b,hb,x⟩:=ih ha
   exact⟨b,Ã _ hb,x⟩
section
variable {prog:Program}{w:World}{A:Around}{E:Value->Shared->Prop}{s:Shared}
theorem zY {M:Model}{us:List Value}{ts:List (List Int)} (hp:Paired (iW s.heap) us ts) (v:Value) (hv:v∈us):W.Looks M s.heap (typeOf v) (.type "list"):=by
 obtain⟨l,_,a,o,its,n,rfl,ho,hc,_⟩:=RP hp hv
 exact W.kitAt_ty M _ ⟨o,ho,hc⟩
theorem Ib {us:List Value}{ts:List (List Int)} (hp:Paired (iW s.heap) us ts) {u:Value} (hv:u∈us):u≠.ref (s.heap.objs.size+1):=by
 obtain⟨l,_,a,o,its,n,rfl,ho,hc,_⟩:=RP hp hv
 intro z
 have z:a=s.heap.objs.size+1:=by injection z
 rw [z] at ho
 exact absurd (Ï ho) (Nat.not_lt.mpr (Ł _))
theorem Ia {x y:Value}{a b:List Int}{Q:Bool->Shared->Prop} (hu:A.units<cLine) (hx:iW s.heap x a) (hy:iW s.heap y b) (na:nj a) (nb:nj b) (h:Q (decide (bw 40 a<bw 40 b)) s):wpAny (model prog w) A (keyLt' oneType' x y) Q E s:=by
 obtain⟨p,⟨c1,d1,e1,f1⟩,its,n,rfl,ho,hc,hd,hi⟩:=hx
 obtain⟨p',⟨c2,d2,e2,f2⟩,its',n',rfl,ho',hc',hd',hi'⟩:=hy
 simp only at hc hd hc' hd'
 subst hc hd hc' hd'
 rw [← yj 40 a b na.1 nb.1 na.2 nb.2] at h
 rw [keyLt'_oneType,oneLt'_eq]
 simp only [if_true]
 refine Ä (wpAny_cRoomFor hu ?_)
 refine Ä (wpAny_callSpecialIfBound?_slot ⟨_,ho,rfl⟩ PySem.F.slot_list_lt (call_meets PySem.F.slot_list_lt ⟨_,ho,rfl⟩ PySem.F.entry_list_lt (PySem.F.args_list_lt_2 _ _) (Lg p p' its its' n n' d1 d2 f1 f2 a b hi hi') ⟨ho,ho',?_⟩))
 exact Ė h
theorem yX {a:Addr}{us:List Value}{ts:List (List Int)}{n:Nat}{P:PySem.Fin->Shared->Prop} (ho:s.heap.get? a=some (seqObj "list" us.toArray n))
  (hp:Paired (iW s.heap) us ts) (hna:∀ u∈us,u≠.ref a) (hu:A.units<cLine) (hn:∀ t∈ts,nj t) (h64:us.length<64)
  (h:∀ p:List Nat,p.Perm (ä us.length)->(∀ i j,i<=j->j<us.length->bw 40 (ts.getD (p.getD i 0) [])<=bw 40 (ts.getD (p.getD j 0) [])) ->
   P (.done (.ret .none)) { s with heap:=sortedHeap s.heap a us (p.map fun i=>us.getD i Ĕ).toArray }) :
  wpAny (model prog w) A (Builtin.«list.sort» ⟨[.ref a],[]⟩) P E s:=by
 have hlen:=hp.length
 have h24:=ê
 rw [list_sort_plain]
 have ha:a<s.heap.objs.size:=Ï ho
 refine Ä (listItems_at ho rfl ?_)
 refine Ä (ŷ ho rfl ?_ (by rw [Ñ,ê]; omega) (Ć _))
 obtain⟨e1,ho1⟩:∃ e1,(s.heap.update a (â fun _=>(#[]:Array Value))).get? a=some (seqObj "list" #[] e1):=⟨_,get?_update_seq ho (fun _=>#[])⟩
 refine Ä (seqEpoch_at ho1 rfl ?_)
 refine Ä (wpAny_newTuple ?_ (by show us.length<=_; rw [ê]; omega))
 refine Ä (wpAny_newList ?_ (Ć _))
 refine Ġ ?_
 have ho6:(((s.heap.update a (â fun _=>(#[]:Array Value))).push (seqObj "tuple" us.toArray 0)).push (seqObj "list" #[] 0)).get? a=some (seqObj "list" #[] e1):=by
  rw [Ē _ _ _ (by rw [size_push',đ]; exact ß (Ă ha)),Ē _ _ _ (by rw [đ]; exact ß ha)]
  exact ho1
 have kept:∀ b o,s.heap.get? b=some o->b≠a->(((s.heap.update a (â fun _=>(#[]:Array Value))).push (seqObj "tuple" us.toArray 0)).push (seqObj "list" #[] 0)).get? b=some o:=fun b o q hne=>by
  have hlt:b<s.heap.objs.size:=Ï q
  rw [Ē _ _ _ (by rw [size_push',đ]; exact ß (Ă hlt)),Ē _ _ _ (by rw [đ]; exact ß hlt),Heap.get?_update_ne _ _ _ _ hne]
  exact q
 show wpAny (model prog w) A _ P E { s with heap:=((s.heap.update a (â fun _=>(#[]:Array Value))).push (seqObj "tuple" us.toArray 0)).push (seqObj "list" #[] 0) }
 dsimp only
 have hsz:us.toArray.size=us.length:=by simp
 have hp6:Paired (iW (((s.heap.update a (â fun _=>(#[]:Array Value))).push (seqObj "tuple" us.toArray 0)).push (seqObj "list" #[] 0))) us ts:=RQ hp fun u t hm x=>x.keep fun b o ub q=>kept b o q fun z=>hna u hm (by rw [ub,z])
 by_cases h2:us.toArray.size<2
 ·rw [if_pos h2,if_pos h2]
  refine Ä (Ò ?_)
  rw [StateT.run_pure]
  refine Ä (Ò ?_)
  dsimp only
  have eout:(arrOf (SortSt.mk' general' (us.toArray.zip us.toArray) #[] 7 none)).map (·.2)=((ä us.length).map fun i=>us.getD i Ĕ).toArray:=by
   rw [cg]
   show (us.toArray.zip us.toArray).map (·.2)=us.toArray
   apply Array.toList_inj.mp
   simp
   exact N5 us
  rw [eout]
  refine Ä (seqEpoch_at ho6 rfl ?_)
  refine Ä (ŷ ho6 rfl ?_ (Ć _) (by rw [Ñ,Á,ł,ê]; omega))
  simp only [bne_self_eq_false,ė,if_false]
  refine Ò (h _ (List.Perm.refl _) fun i j hij hj=>?_)
  have:i=j:=by omega
  subst this
  exact ě _
 ·rw [if_neg h2,if_neg h2]
  have h2':2<=us.length:=by omega
  refine Ä (W.kas_kind (T:=.type "list") h2' (fun v hv=>zY (s:={ s with heap:=((s.heap.update a (â fun _=>(#[]:Array Value))).push (seqObj "tuple" us.toArray 0)).push (seqObj "list" #[] 0) }) hp6 v hv) rfl rfl ?_)
  have hcmp:∀ i j C,i<us.length->j<us.length->C (decide (bw 40 (ts.getD i [])<bw 40 (ts.getD j []))) { s with heap:=((s.heap.update a (â fun _=>(#[]:Array Value))).push (seqObj "tuple" us.toArray 0)).push (seqObj "list" #[] 0) } ->
    W.kas_cmp prog w A (oneType') (us.toArray.zip us.toArray) i j C { s with heap:=((s.heap.update a (â fun _=>(#[]:Array Value))).push (seqObj "tuple" us.toArray 0)).push (seqObj "list" #[] 0) }:=fun i j C hi hj hC=>by
   unfold W.kas_cmp
   rw [W.kat_item rfl,W.kat_item rfl]
   have key:∀ k,k<us.length->iW (((s.heap.update a (â fun _=>(#[]:Array Value))).push (seqObj "tuple" us.toArray 0)).push (seqObj "list" #[] 0)) (us.getD k Ĕ) (ts.getD k [])/\nj (ts.getD k []):=fun k hk=>by
    have hk':k<ts.length:=by omega
    have ek:ts.getD k []=ts[k]:=by simp [hk']
    obtain⟨u,eu,pu⟩:=Om hp6 (i:=k) (b:=ts[k]) (by simp [hk'])
    have eu':us.getD k Ĕ=u:=by rw [Ë,eu]; rfl
    rw [ek,eu']
    exact⟨pu,hn _ (ĥ hk')⟩
   exact Ia hu (key i hi).1 (key j hj).1 (key i hi).2 (key j hj).2 hC
  have G:=W.kas_runs (prog:=prog) (w:=w) (A:=A) (E:=E) (κ:=oneType') (it:=us.toArray.zip us.toArray) (n:=us.length) (s:={ s with heap:=((s.heap.update a (â fun _=>(#[]:Array Value))).push (seqObj "tuple" us.toArray 0)).push (seqObj "list" #[] 0) })
   (Q:=fun _ st' s'=>∃ p:Array Nat,s'={ s with heap:=((s.heap.update a (â fun _=>(#[]:Array Value))).push (seqObj "tuple" us.toArray 0)).push (seqObj "list" #[] 0) }/\arrOf st'=p.map (W.kas_item (us.toArray.zip us.toArray))/\failedOf st'=none/\NfSort.Pm us.length p/\NfSort.Up (fun i=>bw 40 (ts.getD i [])) p us.length)
   (G:=fun p s'=>s'={ s with heap:=((s.heap.update a (â fun _=>(#[]:Array Value))).push (seqObj "tuple" us.toArray 0)).push (seqObj "list" #[] 0) }/\NfSort.Pm us.length p/\NfSort.Up (fun i=>bw 40 (ts.getD i [])) p us.length) h2' h64 (fun p' st' s' a1 a2 a3 a4=>⟨p',a4.1,a2,a3,a4.2⟩)
   (NfSort.vM hcmp (NfSort.bQ (fun p hp=>⟨rfl,hp⟩) (NfSort.Bj (by omega))))
  have est:SortSt.mk' (oneType') (us.toArray.zip us.toArray) #[] 7 none=W.kas_st (oneType') (us.toArray.zip us.toArray) (List.toArray (ä us.length)):=by
   have e:=W.kas_range (us.toArray.zip us.toArray)
   rw [show (us.toArray.zip us.toArray).size=us.length by simp] at e
   show SortSt.mk' (oneType') (us.toArray.zip us.toArray) #[] 7 none=SortSt.mk' (oneType') ((List.toArray (ä us.length)).map (W.kas_item (us.toArray.zip us.toArray))) #[] 7 none
   rw [e]
  rw [est]
  refine Ä (ĸ G ?_ fun _ _ e=>e)
  rintro ⟨⟨⟩,st'⟩ s' ⟨p,rfl,har,hf,hpm,hup⟩
  dsimp only
  have hout:=W.kat_snds (ks:=us) (vs:=us) rfl har
  rw [hout]
  have hsz2:p.size=us.length:=hpm.size
  refine Ä (seqEpoch_at ho6 rfl ?_)
  refine Ä (ŷ ho6 rfl ?_ (Ć _) (by rw [Ñ,Á,Ķ,hsz2,ê]; omega))
  rw [hf]
  simp only [bne_self_eq_false,ė,if_false]
  refine Ò (h p.toList ?_ fun i j hij hj=>?_)
  ·have:=Array.perm_iff_toList_perm.mp hpm
   simpa using this
  ·have q:=hup i j hij hj
   unfold NfSort.kk at q
   have eg:∀ k,p.toList.getD k 0=p.getD k 0:=fun k=>by
    rw [NfSort.getD_eq,Ë]
    simp
   rw [eg,eg]
   exact q
theorem uL {l:Addr}{us:List Value}{ts:List (List Int)}{Q:Value->Shared->Prop} (hl:s.heap.IsList l us.toArray\/IsTup s.heap l us.toArray) (hu:A.units+8<cLine) (hp:Paired (iW s.heap) us ts) (hn:∀ t∈ts,nj t) (h64:us.length<64)
  (h:∀ p:List Nat,p.Perm (ä us.length)->(∀ i j,i<=j->j<us.length->bw 40 (ts.getD (p.getD i 0) [])<=bw 40 (ts.getD (p.getD j 0) [])) ->
   Q (.ref (s.heap.objs.size+1)) { s with heap:=sortedAll s.heap us (p.map fun i=>us.getD i Ĕ).toArray }) :
  wpAny (model prog w) A (call (.builtin "sorted") [.ref l]) Q E s:=by
 have h24:=ê
 refine Calls.call_function_entry kind_sorted plain_sorted entry_sorted (args_sorted1 _) ?_
 unfold Builtin.«sorted»
 refine Ä (m:=checkCount "sorted" 1 1 _) (Ò ?_)
 have hsz:((s.heap.push (seqObj "list" #[] 0)).update s.heap.objs.size (â (·++us.toArray))).objs.size=s.heap.objs.size+1:=by
  rw [đ,size_push']
 have hoL:(((s.heap.push (seqObj "list" #[] 0)).update s.heap.objs.size (â (·++us.toArray))).push (seqObj "list" us.toArray 0)).get? (s.heap.objs.size+1)=some (seqObj "list" us.toArray 0):=by
  rw [← hsz]; exact à _ rfl
 have keep:∀ b o,s.heap.get? b=some o->(((s.heap.push (seqObj "list" #[] 0)).update s.heap.objs.size (â (·++us.toArray))).push (seqObj "list" us.toArray 0)).get? b=some o:=fun b o q=>by
  have hlt:b<s.heap.objs.size:=Ï q
  rw [Ē _ _ _ (by rw [hsz]; exact ß (Ă hlt)),Heap.get?_update_ne _ _ _ _ (ß hlt),Ē _ _ _ (ß hlt)]
  exact q
 have go:∀ {Q':List Value->Shared->Prop},Q' us { s with heap:=(s.heap.push (seqObj "list" #[] 0)).update s.heap.objs.size (â (·++us.toArray)) }->wpAny (model prog w) A.in1 (collect (.ref l)) Q' (fun e s'=>E e s') s:=fun {Q'} hq=>by
  rcases hl with hl | hl
  ·exact collect_list hl hq (by omega)
  ·exact jE hl hq (by omega)
 refine Ä (go ?_)
 refine Ä (wpAny_newList ?_ (by omega))
 show wpAny _ _ _ _ _ { s with heap:=((s.heap.push (seqObj "list" #[] 0)).update s.heap.objs.size (â (·++us.toArray))).push (seqObj "list" us.toArray 0) }
 rw [hsz]
 refine Ä (Ġ (wpAny_call_entry slot_list_sort ⟨_,hoL,rfl⟩ entry_list_sort (yX hoL (Paired.zV hp fun u t x=>x.keep fun a o _ e=>keep a o e) (fun u hm=>Ib hp hm) (by simp only [Around.in1_units]; omega) hn h64 fun p a1 a2=>⟨_,rfl,?_⟩) (args_list_sort _)))
 exact Ò ⟨_,rfl,h p a1 a2⟩
end
section
variable {X:Cx}
theorem uJ {ts:List (List Int)}{p:List Nat} (hp:p.Perm (ä ts.length)) (h:∀ i j,i<=j->j<ts.length->bw 40 (ts.getD (p.getD i 0) [])<=bw 40 (ts.getD (p.getD j 0) [])) :
  (p.map fun i=>ts.getD i []).Perm ts/\(p.map fun i=>ts.getD i []).Pairwise (fun a b=>bw 40 a<=bw 40 b):=by
 refine⟨?_,?_⟩
 ·have q:=hp.map fun i=>ts.getD i []
  rw [cg] at q
  exact q
 ·have hl:p.length=ts.length:=by simpa using hp.length_eq
  rw [List.pairwise_iff_getElem]
  intro i j hi hj hij
  rw [Á] at hi hj
  have q:=h i j (by omega) (by omega)
  have ei:p.getD i 0=p[i]:=by simp [hi]
  have ej:p.getD j 0=p[j]:=by simp [hj]
  rw [ei,ej] at q
  simpa using q
theorem wu (hu:X.A.units+64<cLine):bN X (.builtin "sorted") (fun xs H Q=>∃ (p:Addr) (vs:List V) (ts:List (List Int)) (F:V->List Int->Prop),xs=[.ref p]/\SqL X.K H p vs/\Paired F vs ts/\(∀ v l,F v l->∃ a,v=.ref a/\H a=some (.lst (l.map V.int)))/\(∀ t∈ts,nj t)/\ts.length<64 /\
  ∀ l ws us,H l=none->Paired F ws us->us.Perm ts->us.Pairwise (fun a b=>bw 40 a<=bw 40 b)->Q (.ref l) (upd H l (.lst ws))):=by
 intro pins s σ H xs us Q I r h
 obtain⟨p,vs,ts,F,rfl,hp,hpr,hF,hn,h64,q⟩:=h
 obtain⟨u,rfl,rx⟩:=vals1 r
 cases rx
 have h24:=ê
 have lists:∀ {vs:List V}{ts:List (List Int)}{us:List Value},Paired F vs ts->Vals vs us->Paired (iW s.heap) us ts:=by
  intro vs ts us h
  induction h generalizing us with
  | nil=>intro r; cases r; exact .nil
  | cons x t ih =>
   intro r
   cases r with
   | cons r1 r2 =>
    refine .cons ?_ (ih r2)
    obtain⟨a,rfl,ha⟩:=hF _ _ x
    cases r1
    obtain⟨its,rv,pl,hz⟩:=I.list (SqL.of ha)
    obtain⟨o,ho,hc,n,hd⟩:=pl.isList
    exact⟨a,o,its.toArray,n,rfl,ho,hc,hd,intsAre_of rv⟩
 obtain⟨its,rv,pl,hz⟩:=I.list hp
 have hpv:=lists hpr rv
 have hlen:=hpr.length
 have hlen2:=rv.length
 refine uL (.inl pl.isList) (by omega) hpv hn (by omega) fun pp hpp hord=>?_
 have eits:its.length=ts.length:=by omega
 rw [eits] at hpp hord
 obtain⟨hperm,hpw⟩:=uJ hpp hord
 have hlt:∀ i∈pp,i<ts.length:=fun i hi=>č.mp (hpp.mem_iff.mp hi)
 have hw:=xq hpr V.non [] pp hlt
 have hvv:Vals (pp.map fun i=>vs.getD i V.non) (pp.map fun i=>its.getD i Ĕ):=xq rv V.non Ĕ pp fun i hi=>by have:=hlt i hi; omega
 obtain⟨e,he⟩:=sortedAll_at s.heap its (pp.map fun i=>its.getD i Ĕ).toArray
 refine⟨.ref (s.heap.objs.size+1),upd H (s.heap.objs.size+1) (.lst (pp.map fun i=>vs.getD i V.non)),I.laid (t':=s.toks) (fun b o eb=>sortedAll_old eb) (Ł _) ?_,rfl,q _ _ _ (I.hok.fresh (Ł _)) hw hperm hpw⟩
 refine⟨?_,_,e,hvv,he⟩
 have hl3:pp.length=ts.length:=by simpa using hpp.length_eq
 rw [Á]
 omega
end
end L2
namespace Dl
open PySem L2 PyProof.Rows
section
variable {X:Cx}{pos:Pos}{a:Expr}{t:DA} [Gr]
def vR:GC:=fun ks P=>match ks with
 | [(k,.list ds)]=>∃ ls:List (List Int),ds=ls.map iD/\ls.length<64/\(∀ l∈ls,nj l)/\∀ out:List (List Int),out.Perm ls->out.Pairwise (fun a b=>bw 40 a<=bw 40 b)->P (k.join .new) (.list (out.map iD))
 | _=>False
theorem wW {ok:Addr->Prop}{H:Hp}:∀ {vs:List V}{ls:List (List Int)},Rps ok H vs (ls.map iD)->Paired (fun v l=>Rp ok H v (iD l)) vs ls
 | [],[],_=>.nil
 | _,l::ls,.cons h r=>.cons h (wW r)
theorem xH {ok:Addr->Prop}{H:Hp}:∀ {vs:List V}{ls:List (List Int)},Paired (fun v l=>Rp ok H v (iD l)) vs ls->Rps ok H vs (ls.map iD)
 | _,_,.nil=>.nil
 | _,_,.cons h r=>.cons h (xH r)
theorem qJ {ps:Pos} (hu:X.A.units+64<cLine) (hm:X.mg "sorted"=none) (ha:PDA X [a] t) (hg:Gl X "sorted":=by rfl) (he:zS X a []:=by rfl) (hpl:zP X pos []:=by rfl):PD X (.Call (.Name "sorted" ps) [a] [] pos) (tCl vR t) :=
 bZ (wu hu) (by
  intro p H0 own Hb H vs ks P Q A r t q
  unfold vR at t
  split at t
  ·rename_i k ds
   obtain⟨ls,rfl,hl,hn,t⟩:=t
   obtain⟨v,rfl,r'⟩:=fO r
   obtain⟨x,xs,e1,o1,h1,rs1⟩:=Rp.cj r'
   subst e1
   refine⟨x,xs,ls,fun v l=>Rp (okK p H0 own Hb k) H v (iD l),rfl,SqL.of h1,wW rs1,fun v l h=>?_,hn,hl,fun l ws us hl' hw hp hs=>?_⟩
   ·obtain⟨b,zs,rfl,_,hb,rz⟩:=Rp.cj h
    have e:=Rps.ints rz
    subst e
    exact⟨b,rfl,hb⟩
   ·obtain⟨k2,i2,nw⟩:=A.new hl' (.lst ws)
    have j:=eX k .new
    exact q _ _ _ _ (t us hp hs) k2 i2 (.lst (bU A j.2 nw) au ((bW A k2 (xH hw)).mono (fun a o=>bU A j.1 o) (fun _ _ _ e=>e) fun _ _ e=>e))
  ·exact t.elim) hg hm boot_sorted ha (by decide) (by decide) he hpl
end
end Dl
namespace L2
open PySem PySem.Spec PyProof.Rows
section
variable {prog:Program}{w:World}{A:Around}{E:Value->Shared->Prop}{s:Shared}
end
section
variable {X:Cx}
end
end L2
namespace Dl
open PySem L2 PyProof.Rows
section
variable {X:Cx}{pos:Pos}{a e:Expr}{t:DA} [Gr]
end
end Dl
namespace L2
open PySem PySem.Spec PyProof.Rows
open AutoSeq1 in
section
variable {X:Cx}
end
end L2
namespace Dl
open PySem L2 PyProof.Rows
variable [Gr]
section
variable {X:Cx}{st:Stmt}{te:DE}{pos:Pos}{ta:DA}
end
end Dl
namespace Wr
open PySem L2 PyProof.Rows Dl
section
variable [Gr] {X:Cx}{pos:Pos}{a:Expr}{ta t:DA}{te:DE}
theorem qJ {ps:Pos} (hu:X.A.units+64<cLine) (hm:X.mg "sorted"=none) (ha:WDA X [a] t) (hg:Gl X "sorted":=by rfl) (he:zS X a []:=by rfl) (hpl:zP X pos []:=by rfl):WD X (.Call (.Name "sorted" ps) [a] [] pos) (tCl vR t):=⟨Dl.qJ hu hm ha.h hg he hpl⟩
end
end Wr
namespace Dl
open PySem L2 PyProof.Rows
variable [Gr]
section
variable {X:Cx}{st st2:Stmt}{rest:List Stmt}{tj te1 te2:DE}{tt:DT}{t:DS}{K:Ú}
end
end Dl
namespace Wr
open PySem L2 PyProof.Rows Dl
section
variable [Gr] {X:Cx}{tj te1 te2:DE}
end
end Wr
namespace Dl
open PySem L2 PyProof.Rows
variable [Gr]
section
variable {X:Cx}{st st2:Stmt}{rest:List Stmt}{te:DE}{t:DS}
end
end Dl
namespace Wr
open PySem L2 PyProof.Rows Dl
section
variable [Gr] {X:Cx}{te:DE}
end
end Wr
set_option autoImplicit true
namespace Dl
open PySem L2 PyProof.Rows
def sy (a:Addr) (n:Nat):Pn where
 fp:=fun b=>b=a
 PI:=fun H=>∃ x y c:Int,H a=some (.lst [.int x,.int y,.int c])/\0<=c/\c+(n:Int)<=1152921504606846976
 pv:=.ref a
 mono:=fun H H' ⟨x,y,c,h,r⟩ k=>⟨x,y,c,k _ _ (.inl rfl) h,r⟩
 is:=fun H b ⟨x,y,z,h,_⟩ hb=>by
  subst hb
  exact⟨_,h,(fun xs z=>(nomatch z)),fun ⟨_,_,z⟩=>(nomatch z)⟩
def TP:Pn->Prop:=fun _=>True
def Uh:Sl->Sl
 | .pen _=>.pen TP
 | s=>s
def stp (ρ:List Sl):List Sl:=ρ.map Uh
variable {X:Cx}{a:Addr}{n m m1 m2 m3:Nat}{H0 Hb H H1 H':Hp}{own:Addr->Option Nat}{σ:L2.St}{ρ:List Sl}
structure EnvB (a:Addr) (n m:Nat) (H0:Hp) (own:Addr->Option Nat) (σ:L2.St) (H:Hp) (ρ:List Sl):Prop where
 st:stp ρ=ρ
 pi:(sy a (n+m)).PI H
 env:EnvD (sy a n) H0 own σ H ρ
def PX (m:Nat) (t:DE):TE:=fun σ H Q=>∃ a n H0 own ρ P,EnvB a n m H0 own σ H ρ/\t ρ P/\∀ k d v H',P k d->At (sy a n) H0 own H H'->Rp (okK (sy a n) H0 own H k) H' v d->Q v H'
def P0 (m:Nat) (t:DA):TA:=fun σ H Q=>∃ a n H0 own ρ P,EnvB a n m H0 own σ H ρ/\t ρ P/\∀ ks vs H',P ks->At (sy a n) H0 own H H'->RpK (sy a n) H0 own H H' vs ks->Q vs H'
def zZ (m:Nat) (t:DT):TT:=fun σ H Q=>∃ a n H0 own ρ P,EnvB a n m H0 own σ H ρ/\t ρ P/\∀ b H',P b->At (sy a n) H0 own H H'->Q b H'
def PN (m:Nat) (t:DI):TI:=fun σ H R=>∃ a n H0 own ρ P,EnvB a n m H0 own σ H ρ/\t ρ P/\∀ k ds J H1 Ok,P k ds->At (sy a n) H0 own H H1->Wlk Ok J ds (okA (sy a n) H0 own H k H1)->Ok H1->R J H1
def Il (m:Nat) (t:DS):TS:=fun Q σ H=>∃ a n H0 own ρ P,EnvB a n m H0 own σ H ρ/\t P ρ/\Wish (sy a n) H0 own H P Q
end Dl
namespace Wb
open PySem L2 PyProof.Rows Dl Wr
structure BE (X:Cx) (m:Nat) (e:Expr) (t:DE):Prop where
 h:PE X e (PX m t)
structure BA (X:Cx) (m:Nat) (e:List Expr) (t:DA):Prop where
 h:PA X e (P0 m t)
structure BT (X:Cx) (m:Nat) (e:Expr) (t:DT):Prop where
 h:PT X e (zZ m t)
structure BW (X:Cx) (m:Nat) (e:Expr) (t:DT):Prop where
 h:PW X e (zZ m t)
structure BTs (X:Cx) (m:Nat) (e:List Expr) (t:DT):Prop where
 h:PTs X e (zZ m t)
structure BI (X:Cx) (m:Nat) (tg e:Expr) (t:DI):Prop where
 h:PI X tg e (PN m t)
structure BS (X:Cx) (m:Nat) (s:Stmt) (t:DS):Prop where
 h:PS X s (Il m t)
structure BSs (X:Cx) (m:Nat) (s:List Stmt) (t:DS):Prop where
 h:PSs X s (Il m t)
variable {X:Cx}{n m m1 m2 m3:Nat}{H0 Hb H H1 H':Hp}{own:Addr->Option Nat}{σ:L2.St}{ρ:List Sl}{pos:Pos}{a b e:Expr}{es:List Expr}{ta tb te:DE}{t:DA}
section
variable {rest:List Expr}{t u:DT}
end
end Wb
namespace Dl
open PySem L2 PyProof.Rows
end Dl
namespace Wb
open PySem L2 PyProof.Rows Dl Wr
variable {X:Cx}{n m m1 m2 m3:Nat}{H0 Hb H H1 H':Hp}{own:Addr->Option Nat}{σ:L2.St}{ρ:List Sl}{pos:Pos}{a b e:Expr}{es:List Expr}{ta tb te:DE}
def pN (t u:DS):DS:=fun P ρ=>t { nx:=fun r=>u P (stp r),rt:=P.rt,bk:=fun r=>P.bk (stp r),ct:=fun r=>P.ct (stp r) } ρ
section
variable {st:Stmt}{rest:List Stmt}{t u:DS}
end
variable {X:Cx}{K:Ú}{sc:Addr}{ns:List Int}{pre:List D->Prop}
end Wb
namespace Wr
open PySem L2 PyProof.Rows Dl
variable [Gr] {X:Cx}{pos:Pos}{a b:Expr}{ta tb:DE}
theorem KC (ha:WD X a ta) (hb:WD X b tb):WD X (.BinOp a .BitAnd b pos) (t2 (gI0 fun i j=>.int (Ų i j)) ta tb):=⟨Dl.lZ Pb (vA fun i j _=>.int _) ha.h hb.h⟩
end Wr
namespace L2
open PySem PySem.Spec PyProof.Rows
def RG:V->List V->Hp->VK->Prop:=fun x vs H Q=>∃ (l:Addr) (ns:List Int) (k:Int) (j:Nat),x=.ref l/\vs=[.int k]/\H l=some (.lst (ns.map V.int))/\ns[j]?=some k/\(∀ m,m<j->ns[m]?≠some k)/\Q .non (upd H l (.lst ((ns.eraseIdx j).map V.int)))
def isK (k:Int):Value->Bool
 | .int a _=>a == k
 | _=>false
theorem yd {α β:Type} (g:α->β):∀ (l:List α) (i:Nat),(l.map g).eraseIdx i=(l.eraseIdx i).map g
 | [],_=>rfl
 | _::_,0=>rfl
 | x::l,i+1=>congrArg (g x::·) (yd g l i)
theorem Ea {X:Cx}:MtM X "list.remove" RG:=by
 intro pins s σ H x vs v us Q I rx rv h
 obtain⟨l,ns,k,j,rfl,rfl,hH,hj,hno,q⟩:=h
 cases rx
 obtain⟨u,rfl,ru⟩:=rv.one
 obtain⟨t,rfl⟩:=ru
 obtain⟨z,its,n,r,hl,e⟩:=I.yg hH
 have at':∀ (m:Nat) (a:Int),ns[m]?=some a->∃ t',its[m]?=some (İ a t'):=fun m a hm=>by
  obtain⟨u,hu,ru⟩:=r.get (i:=m) (x:=V.int a) (by rw [á,hm]; rfl)
  obtain⟨t',rfl⟩:=ru
  exact⟨t',hu⟩
 have hlen:its.length=ns.length:=by rw [← hl,Á]
 obtain⟨t',ht'⟩:=at' j k hj
 have hjl:j<its.length:=(Î.mp ht').1
 refine call_meets F.slot_list_remove ⟨_,e,rfl⟩ F.entry_list_remove (F.args_list_remove_2 _ _)
  (MeetsSeq.list_remove l its.toArray n (.int k t) (isK k) (fun y hy=>?_) j (by rw [Ñ]; exact hjl) ?_ (fun m hm hmj=>?_) (by rw [Ñ]; omega)) ⟨e,?_⟩
 ·have hy:y∈its:=by simpa using hy
  obtain⟨m,hm⟩:=ŀ hy
  have hml:m<ns.length:=by rw [← hlen]; exact (Î.mp hm).1
  obtain⟨t2,h2⟩:=at' m _ (Ç hml)
  rw [hm] at h2
  cases h2
  exact MeetsSeq.EqGives.int _ _ _ _
 ·show isK k its.toArray[j]=true
  have:its.toArray[j]=İ k t':=by
   rw [List.getElem_toArray]
   exact (Î.mp ht').2
  rw [this]
  exact beq_self_eq_true k
 ·have hml:m<its.length:=by rw [Ñ] at hm; exact hm
  obtain⟨t2,h2⟩:=at' m _ (Ç (by rw [← hlen]; exact hml))
  have e2:its.toArray[m]=İ ns[m] t2:=by
   rw [List.getElem_toArray]
   exact (Î.mp h2).2
  rw [e2]
  have:=hno m hmj
  rw [Ç (by rw [← hlen]; exact hml)] at this
  exact beq_false_of_ne fun z=>this (by rw [z])
 refine⟨.non,_,I.Le (its':=its.eraseIdx j) hH e ?_ (ys:=(ns.eraseIdx j).map V.int) ?_ ?_,rfl,q⟩
 ·show its.toArray.eraseIdxIfInBounds j=(its.eraseIdx j).toArray
  rw [List.eraseIdxIfInBounds_toArray]
 ·have:=r.eraseIdx j
  rw [yd] at this
  exact this
 ·have:=tO ns j
  rw [Á]
  omega
end L2
namespace Dl
open PySem L2 PyProof.Rows
theorem yC {k:Int}:∀ {ns:List Int},k∈ns->∃ j:Nat,ns[j]?=some k/\(∀ m,m<j->ns[m]?≠some k)/\ns.eraseIdx j=ns.erase k
 | x::ns,h=>by
  by_cases e:x=k
  ·subst e
   exact⟨0,rfl,fun m hm=>absurd hm (Nat.not_lt_zero _),by rw [List.erase_cons_head]; rfl⟩
  ·have h':k∈ns:=(Ô.mp h).resolve_left fun z=>e z.symm
   obtain⟨j,a,b,c⟩:=yC h'
   refine⟨j+1,a,fun m hm=>?_,by rw [List.eraseIdx_cons_succ,c,List.erase_cons_tail (by simpa using e)]⟩
   cases m with
   | zero=>exact fun z=>e (æ z)
   | succ m=>exact b m (by omega)
variable [Gr] {X:Cx}{st:Stmt}{tj:DE}
def Tr (i:Nat) (tj:DE):DS:=fun P ρ=>∃ (r:Nat) (ns:List Int),ρ[i]?=some (.dw r (.list (ns.map Â)))/\tj ρ fun _ dj=>match dj with
 | .int k=>k∈ns/\P.nx ((forget r ρ).set i (.dw r (.list ((ns.erase k).map Â))))
 | _=>False
theorem oO {i:Nat} (h:PS X st (qp (tBM X.K "list" RG (iy i) (gW (aG tj cu))))):PDS X st (Tr i tj):=PS.wk' h (by
 rintro Q σ H ⟨p,H0,own,ρ,P,E,⟨r,ns,hr,t⟩,w⟩
 obtain⟨v,hv,x⟩:=E.slot i _ hr
 obtain⟨l,vs,rfl,hl,ho,rs⟩:=x.cj
 refine⟨.ref l,hv,.inl ⟨rfl,vs,SqL.of ho⟩,p,H0,own,ρ,_,E,vg t,?_⟩
 rintro ks ws H1 ⟨k,dj,rfl,hh⟩ A rk
 obtain⟨y,rfl,ry⟩:=fO rk
 cases dj with
 | int a =>
  obtain⟨hm,hn⟩:=hh
  have ej:=Rp.int' ry
  have h1:H1 l=some (.lst vs):=A.kp l _ ho (E.ow l r hl).2.1
  have ev:=Rps.ints rs
  subst ev
  obtain⟨j,hj,hno,he⟩:=yC hm
  refine⟨l,ns,a,j,rfl,by rw [ej],h1,hj,hno,?_⟩
  rw [he]
  obtain⟨E2,F2⟩:=E.uQ (vs':=(ns.erase a).map V.int) (ds':=(ns.erase a).map Â) A hv hl ho rs fun H2 f g=>Rps.ofMap (fun i=>.int i) _
  exact w.nx _ σ _ _ E2 F2 hn
 | _=>exact hh.elim)
end Dl
namespace Wr
open PySem L2 PyProof.Rows Dl
variable [Gr] {X:Cx}{pos:Pos}
theorem oO {i:Nat}{x:Str}{e:Expr}{es:List Expr}{tj:DE}{apos cpos np:Pos} (hv:WV X (.Name x np) i) (ha:WDA X (e::es) (aG tj cu))
  (hbase:attributeBase (.Name x np) "remove" X.env (eval (.Name x np) X.env)=eval (.Name x np) X.env:=by rfl)
  (hfew:zW X cpos (e::es):=by rfl)
  (hline:(apos.endLine == cpos.line)=true:=by rfl) (hst:zS X e es:=by rfl) (hplain:zP X cpos es:=by rfl)
  (hs:swapsWith (.Call (.Attribute (.Name x np) "remove" apos) (e::es) [] cpos) none pos.line X.env=pure false:=by rfl) :
  WDS X (.Expr (.Call (.Attribute (.Name x np) "remove" apos) (e::es) [] cpos) pos) (Tr i tj):=⟨Dl.oO (bV (gO ó PySem.F.slot_list_remove PySem.F.type_list_remove Ea hv.h ha.h hbase hfew hline hst hplain) hs)⟩
end Wr
namespace L2
open PySem PySem.Spec PyProof.Rows
section
variable {X:Cx}{tg:Expr}
end
end L2
namespace Dl
open PySem L2 PyProof.Rows
variable [Gr]
section
variable {X:Cx}{tg:Expr}{pos:Pos}{ta:DA}
end
end Dl
namespace Wr
open PySem L2 PyProof.Rows Dl
variable [Gr] {X:Cx}{tg:Expr}{pos:Pos}{ta:DA}
end Wr
namespace L2
open PySem PySem.Spec PyProof.Rows
open PySem.AutoSeq1 (wpAny_loadPart')
open PySem.MeetsSeq PySem.MeetsSeq3
section
variable {X:Cx}
end
end L2
namespace Dl
open PySem L2 PyProof.Rows
variable [Gr] {X:Cx}{a b:Expr}{ta tb:DE}{pos:Pos}
end Dl
namespace Wr
open PySem L2 PyProof.Rows Dl
variable [Gr] {X:Cx}{a b:Expr}{ta tb:DE}{pos:Pos}
end Wr
namespace Cut
def dg (us:List (Int×Int)) (X:Int->Bool):Nat:=us.countP fun t=>X t.1 != X t.2
def mg (es:List Int) (X:Int->Bool):Nat:=es.countP X
def dD (us:List (Int×Int)) (es:List Int) (X:Int->Bool):Nat:=dg us X+mg es X
structure Prp (n:Nat) (X:Int->Bool):Prop where
 ins:∃ v:Int,(0<=v/\v<n)/\X v=true
 out:∃ v:Int,(0<=v/\v<n)/\X v=false
theorem mU (t:Int×Int) (us:List (Int×Int)) (X:Int->Bool):dg (t::us) X=dg us X+(X t.1 != X t.2).toNat:=by
 unfold dg
 rw [List.countP_cons]
 cases X t.1 != X t.2 <;> rfl
theorem eU (e:Int) (es:List Int) (X:Int->Bool):mg (e::es) X=mg es X+(X e).toNat:=by
 unfold mg
 rw [List.countP_cons]
 cases X e <;> rfl
theorem ou {es:List Int}{X:Int->Bool}{a:Int} (h:a∈es) (hX:X a=true):1<=mg es X:=List.countP_pos_iff.mpr ⟨a,h,hX⟩
theorem b3:∀ x y z x' y' z':Bool,((x&&y&&z) != (x'&&y'&&z')).toNat+((x&&!y&&!z) != (x'&&!y'&&!z')).toNat+((y&&!x&&!z) != (y'&&!x'&&!z')).toNat+((z&&!x&&!y) != (z'&&!x'&&!y')).toNat<=(x != x').toNat+(y != y').toNat+(z != z').toNat:=by decide
theorem c3:∀ x y z:Bool,3 * (x&&y&&z).toNat+(x&&!y&&!z).toNat+(y&&!x&&!z).toNat+(z&&!x&&!y).toNat<=x.toNat+y.toNat+z.toNat:=by decide
theorem three (us:List (Int×Int)) (es:List Int) (X Y Z:Int->Bool) (hI:1<=mg es fun v=>X v&&Y v&&Z v) :
  dD us es (fun v=>X v&&Y v&&Z v)+dD us es (fun v=>X v&&!Y v&&!Z v)+dD us es (fun v=>Y v&&!X v&&!Z v)+dD us es (fun v=>Z v&&!X v&&!Y v)+2<=dD us es X+dD us es Y+dD us es Z:=by
 have h1:dg us (fun v=>X v&&Y v&&Z v)+dg us (fun v=>X v&&!Y v&&!Z v)+dg us (fun v=>Y v&&!X v&&!Z v)+dg us (fun v=>Z v&&!X v&&!Y v)<=dg us X+dg us Y+dg us Z:=by
  clear hI
  induction us with
  | nil=>exact Í _
  | cons t us ih =>
   simp only [mU]
   have:=b3 (X t.1) (Y t.1) (Z t.1) (X t.2) (Y t.2) (Z t.2)
   omega
 have h2:3 * mg es (fun v=>X v&&Y v&&Z v)+mg es (fun v=>X v&&!Y v&&!Z v)+mg es (fun v=>Y v&&!X v&&!Z v)+mg es (fun v=>Z v&&!X v&&!Y v)<=mg es X+mg es Y+mg es Z:=by
  clear hI
  induction es with
  | nil=>exact Í _
  | cons e es ih =>
   simp only [eU]
   have:=c3 (X e) (Y e) (Z e)
   omega
 unfold dD
 omega
theorem b2:∀ x y x' y':Bool,((x&&!y) != (x'&&!y')).toNat+((y&&!x) != (y'&&!x')).toNat<=(x != x').toNat+(y != y').toNat:=by decide
theorem c2:∀ x y:Bool,2 * (x&&y).toNat+(x&&!y).toNat+(y&&!x).toNat=x.toNat+y.toNat:=by decide
theorem QV (us:List (Int×Int)) (X Y:Int->Bool):dg us (fun v=>X v&&!Y v)+dg us (fun v=>Y v&&!X v)<=dg us X+dg us Y:=by
 induction us with
 | nil=>exact Í _
 | cons t us ih =>
  simp only [mU]
  have:=b2 (X t.1) (Y t.1) (X t.2) (Y t.2)
  omega
theorem Mh (es:List Int) (X Y:Int->Bool):2 * mg es (fun v=>X v&&Y v)+mg es (fun v=>X v&&!Y v)+mg es (fun v=>Y v&&!X v)=mg es X+mg es Y:=by
 induction es with
 | nil=>rfl
 | cons e es ih =>
  simp only [eU]
  have:=c2 (X e) (Y e)
  omega
theorem Uv (es:List Int) (X Y:Int->Bool):mg es (fun v=>X v || Y v)+mg es (fun v=>X v&&Y v)=mg es X+mg es Y:=by
 induction es with
 | nil=>rfl
 | cons e es ih =>
  simp only [eU]
  cases X e <;> cases Y e <;> simp_all <;> omega
theorem Sq (us:List (Int×Int)) (X:Int->Bool):dg us (fun v=>!X v)=dg us X:=by
 induction us with
 | nil=>rfl
 | cons t us ih =>
  simp only [mU,ih]
  cases X t.1 <;> cases X t.2 <;> rfl
theorem Sh (es:List Int) (X:Int->Bool):mg es X+mg es (fun v=>!X v)=es.length:=by
 induction es with
 | nil=>rfl
 | cons e es ih =>
  simp only [eU,Ü]
  cases X e <;> simp <;> omega
theorem PK {α:Type} (p:α->Prop) (f:α->Nat) (B:Nat) (hB:∀ x,p x->f x<=B) (h:∃ x,p x):∃ x,p x/\∀ y,p y->f y<=f x:=by
 obtain⟨x0,h0⟩:=h
 have key:∀ d x,p x->B - f x<=d->∃ x,p x/\∀ y,p y->f y<=f x:=by
  intro d
  induction d with
  | zero =>
   intro x hx hd
   exact⟨x,hx,fun y hy=>by have:=hB y hy; omega⟩
  | succ d ih =>
   intro x hx hd
   by_cases c:∀ y,p y->f y<=f x
   ·exact⟨x,hx,c⟩
   ·have ⟨y,hy⟩:=Classical.not_forall.mp c
    have ⟨py,hlt⟩:=Classical.not_imp.mp hy
    refine ih y py ?_
    have:=hB y py
    omega
 exact key _ x0 h0 (Í _)
section
variable {n k:Nat}{us:List (Int×Int)}{es:List Int}
theorem Prp.not {X:Int->Bool} (h:Prp n X):Prp n fun v=>!X v :=
 ⟨let ⟨v,a,b⟩:=h.out; ⟨v,a,by rw [b]; rfl⟩,let ⟨v,a,b⟩:=h.ins; ⟨v,a,by rw [b]; rfl⟩⟩
theorem Prp.sub {X Y:Int->Bool} (h:Prp n X) {v:Int} (hr:0<=v/\v<n) (hv:Y v=true) (hs:∀ v,Y v=true->X v=true):Prp n Y :=
 ⟨⟨v,hr,hv⟩,let ⟨u,a,b⟩:=h.out; ⟨u,a,by
  cases c:Y u with
  | false=>rfl
  | true=>rw [hs u c] at b; cases b⟩⟩
theorem half {X:Int->Bool} (hC:∀ X,Prp n X->k<=dD us es X) (ev:es.length % 2=0) (hp:Prp n X) (hd:dD us es X<=k+1):2 * mg es X<=es.length:=by
 have a:=hC _ hp.not
 unfold dD at a hd
 rw [Sq] at a
 have b:=Sh es X
 omega
theorem split (k2:2<=k) (rng:∀ e∈es,0<=e/\e<(n:Int)) (hC:∀ X,Prp n X->k<=dD us es X) (ev:es.length % 2=0) {a:Int}{rest:List Int} (hes:es=a::rest)
  (two:a∈rest->∃ X,Prp n X/\X a=true/\dD us es X<=k+1):∃ b∈rest,b≠a/\∀ X,Prp n X->X a=true->X b=true->k+2<=dD us es X:=by
 apply û
 intro hno
 have ma:a∈es:=by rw [hes]; exact Æ
 have cov:∀ b∈rest,∃ X,Prp n X/\X a=true/\X b=true/\dD us es X<=k+1:=fun b hb=>by
  by_cases z:b=a
  ·subst z
   obtain⟨X,h1,h2,h3⟩:=two hb
   exact⟨X,h1,h2,h2,h3⟩
  ·apply û
   intro hn
   refine hno ⟨b,hb,z,fun X h1 h2 h3=>?_⟩
   rcases Nat.lt_or_ge (dD us es X) (k+2) with y | y
   ·exact absurd ⟨X,h1,h2,h3,by omega⟩ hn
   ·exact y
 have big:∀ X:Int->Bool,mg es X<es.length->X a=true->∃ b∈rest,X b=false:=fun X hl hX=>by
  apply û
  intro hn
  have:mg es X=es.length:=List.countP_eq_length.mpr fun e he=>by
   rw [hes] at he
   rcases Ô.mp he with rfl | he
   ·exact hX
   ·cases c:X e with
    | true=>rfl
    | false=>exact absurd ⟨e,he,c⟩ hn
  omega
 let p:(Int->Bool)×(Int->Bool)->Prop:=fun q=>(Prp n q.1/\q.1 a=true/\dD us es q.1<=k+1)/\(Prp n q.2/\q.2 a=true/\dD us es q.2<=k+1)
 have le:es.length=rest.length+1:=by rw [hes]; rfl
 obtain⟨b0,hb0⟩:∃ b,b∈rest:=by
  cases rest with
  | nil=>rw [le] at ev; cases ev
  | cons b r=>exact⟨b,Æ⟩
 obtain⟨X0,h1,h2,_,h4⟩:=cov b0 hb0
 obtain⟨⟨X,Y⟩,⟨⟨x1,x2,x3⟩,y1,y2,y3⟩,mx⟩:=PK p (fun q=>mg es fun v=>q.1 v || q.2 v) es.length (fun q _=>List.countP_le_length) ⟨(X0,X0),⟨h1,h2,h4⟩,h1,h2,h4⟩
 have hx:=half hC ev x1 x3
 have hy:=half hC ev y1 y3
 have hor:=Uv es X Y
 have hand:1<=mg es fun v=>X v&&Y v:=ou ma (by show (X a&&Y a)=true; rw [show X a=true from x2,show Y a=true from y2]; rfl)
 have x2:X a=true:=x2
 have y2:Y a=true:=y2
 have x3:dD us es X<=k+1:=x3
 have y3:dD us es Y<=k+1:=y3
 have hx:2 * mg es X<=es.length:=hx
 have hy:2 * mg es Y<=es.length:=hy
 obtain⟨b3,hb3,f3⟩:=big (fun v=>X v || Y v) (by omega) (by show (X a || Y a)=true; rw [x2]; rfl)
 obtain⟨Z,z1,z2,z4,z3⟩:=cov b3 hb3
 have fX:X b3=false:=by
  have f3:(X b3 || Y b3)=false:=f3
  cases c:X b3 with
  | false=>rfl
  | true=>rw [c] at f3; cases f3
 have fY:Y b3=false:=by
  have f3:(X b3 || Y b3)=false:=f3
  rw [fX] at f3
  exact f3
 have mb3:b3∈es:=by rw [hes]; exact Ã _ hb3
 -- a private end of A against B,C where the union of A,B is greatest
 have priv:∀ A B:Int->Bool,(mg es fun v=>A v || B v)=(mg es fun v=>X v || Y v)->(∀ C,Prp n C->C a=true->dD us es C<=k+1->(mg es fun v=>B v || C v)<=mg es fun v=>X v || Y v)->A b3=false->B b3=false->∃ v∈es,A v=true/\B v=false/\Z v=false:=fun A B e m fA fB=>by
  apply û
  intro hn
  have m1:=m Z z1 z2 z3
  have:(mg es fun v=>A v || B v)+1<=mg es fun v=>B v || Z v:=by
   have gen:∀ l:List Int,(∀ v∈l,v∈es)->(mg l fun v=>A v || B v)+(if b3∈l then 1 else 0)<=mg l fun v=>B v || Z v:=fun l=>by
    induction l with
    | nil=>intro _; exact Í _
    | cons v l ih =>
     intro hl
     have i1:=ih fun u hu=>hl u (Ã _ hu)
     simp only [eU]
     have hv:A v=true->B v=false->Z v=true:=fun h1 h2=>by
      cases c:Z v with
      | true=>rfl
      | false=>exact absurd ⟨v,hl v Æ,h1,h2,c⟩ hn
     by_cases c:v=b3
     ·subst c
      rw [if_pos Æ,fA,fB,z4]
      have:(if v∈l then 1 else 0)<=1:=by split <;> omega
      simp
      have i2:(mg l fun v=>A v || B v)<=mg l fun v=>B v || Z v:=by
       split at i1 <;> omega
      exact i2
     ·have e1:(if b3∈v::l then 1 else 0)=(if b3∈l then 1 else 0):=by
       by_cases d:b3∈l
       ·rw [if_pos d,if_pos (Ã _ d)]
       ·rw [if_neg d,if_neg fun h=>(Ô.mp h).elim (fun h=>c h.symm) d]
      rw [e1]
      have:(A v || B v).toNat<=(B v || Z v).toNat:=by
       cases cA:A v <;> cases cB:B v <;> simp
       rw [hv cA cB]
       simp
      omega
   have g:=gen es fun _ h=>h
   rw [if_pos mb3] at g
   exact g
  omega
 have mx1:∀ A B:Int->Bool,Prp n A->A a=true->dD us es A<=k+1->Prp n B->B a=true->dD us es B<=k+1->(mg es fun v=>A v || B v)<=mg es fun v=>X v || Y v:=fun A B a1 a2 a3 b1 b2 b3=>mx (A,B) ⟨⟨a1,a2,a3⟩,b1,b2,b3⟩
 obtain⟨v1,e1,p1,p2,p3⟩:=priv X Y rfl (fun C c1 c2 c3=>mx1 Y C y1 y2 y3 c1 c2 c3) fX fY
 obtain⟨v2,e2,q1,q2,q3⟩:=priv Y X (by congr 1; funext v; exact Bool.or_comm _ _) (fun C c1 c2 c3=>mx1 X C x1 x2 x3 c1 c2 c3) fY fX
 have t:=three us es X Y Z (ou ma (by show (X a&&Y a&&Z a)=true; rw [x2,y2,z2]; rfl))
 have i0:=hC (fun v=>X v&&Y v&&Z v) (x1.sub (rng a ma) (by show (X a&&Y a&&Z a)=true; rw [x2,y2,z2]; rfl) fun v h=>by
  cases c:X v with
  | true=>exact c
  | false=>rw [show (X v&&Y v&&Z v)=false by rw [c]; rfl] at h; cases h)
 have i1:=hC (fun v=>X v&&!Y v&&!Z v) (x1.sub (rng v1 e1) (by show (X v1&&!Y v1&&!Z v1)=true; rw [p1,p2,p3]; rfl) fun v h=>by
  cases c:X v with
  | true=>exact c
  | false=>rw [show (X v&&!Y v&&!Z v)=false by rw [c]; rfl] at h; cases h)
 have i2:=hC (fun v=>Y v&&!X v&&!Z v) (y1.sub (rng v2 e2) (by show (Y v2&&!X v2&&!Z v2)=true; rw [q1,q2,q3]; rfl) fun v h=>by
  cases c:Y v with
  | true=>exact c
  | false=>rw [show (Y v&&!X v&&!Z v)=false by rw [c]; rfl] at h; cases h)
 have i3:=hC (fun v=>Z v&&!X v&&!Y v) (z1.sub (rng b3 mb3) (by show (Z b3&&!X b3&&!Y b3)=true; rw [z4,fX,fY]; rfl) fun v h=>by
  cases c:Z v with
  | true=>rfl
  | false=>rw [show (Z v&&!X v&&!Y v)=false by rw [c]; rfl] at h; cases h)
 omega
end
def rgN (n:Nat):List Int:=(ä n).map fun i=>((i:Nat):Int)
theorem vD {n:Nat}{v:Int}:v∈rgN n↔0<=v/\v<n:=by
 unfold rgN
 rw [é]
 constructor
 ·rintro ⟨i,hi,rfl⟩
  have:=č.mp hi
  omega
 ·rintro ⟨h0,h1⟩
  exact⟨v.toNat,č.mpr (by omega),by omega⟩
abbrev Dj (n:Nat) (X Y:Int->Bool):Prop:=∀ v:Int,0<=v/\v<n->X v=true->Y v=false
theorem HS {α:Type}{R:α->α->Prop}:∀ {l:List α},¬ l.Pairwise R->∃ x y r,l.Perm (x::y::r)/\¬ R x y
 | [],h=>absurd .nil h
 | x::l,h=>by
  by_cases c:∀ y∈l,R x y
  ·have hl:¬ l.Pairwise R:=fun z=>h (.cons c z)
   obtain⟨a,b,r,p,q⟩:=HS hl
   exact⟨a,b,x::r,(p.cons x).trans ((List.Perm.swap a x (b::r)).trans ((List.Perm.swap b x r).cons a)),q⟩
  ·have ⟨y,hy⟩:=Classical.not_forall.mp c
   have ⟨hm,hR⟩:=Classical.not_imp.mp hy
   obtain⟨s,t,rfl⟩:=List.append_of_mem hm
   exact⟨x,y,s++t,List.perm_middle.cons x,hR⟩
section
variable {n k:Nat}{us:List (Int×Int)}{es:List Int}
theorem JM (rng:∀ e∈es,0<=e/\e<(n:Int)) (hC:∀ X,Prp n X->k<=dD us es X):∀ (N:Nat) (Fs:List (Int->Bool)),(Fs.map fun X=>mg (rgN n) X).sum<=N->(∀ X∈Fs,Prp n X/\dD us es X=k)->(∀ e∈es,∃ X∈Fs,X e=true) ->
  ∃ Gs:List (Int->Bool),Gs.Pairwise (Dj n)/\(∀ X∈Gs,Prp n X/\dD us es X=k)/\∀ e∈es,∃ X∈Gs,X e=true:=by
 intro N
 induction N using Nat.strongRecOn with
 | _ N ih =>
  intro Fs hN hT hc
  by_cases c:Fs.Pairwise (Dj n)
  ·exact⟨Fs,c,hT,hc⟩
  obtain⟨X,Y,r,pm,hXY⟩:=HS c
  have sm:=(pm.map fun X=>mg (rgN n) X).sum_nat
  rw [ã,ã,î,î] at sm
  have tX:=hT X (pm.mem_iff.mpr Æ)
  have tY:=hT Y (pm.mem_iff.mpr (Ã _ Æ))
  have tr:∀ Z∈r,Prp n Z/\dD us es Z=k:=fun Z hZ=>hT Z (pm.mem_iff.mpr (Ã _ (Ã _ hZ)))
  have cv:∀ e∈es,X e=true\/Y e=true\/∃ Z∈r,Z e=true:=fun e he=>by
   obtain⟨Z,hZ,q⟩:=hc e he
   rcases Ô.mp (pm.mem_iff.mp hZ) with rfl | hZ
   ·exact .inl q
   ·rcases Ô.mp hZ with rfl | hZ
    ·exact .inr (.inl q)
    ·exact .inr (.inr ⟨Z,hZ,q⟩)
  have ⟨v,hv⟩:=Classical.not_forall.mp hXY
  have ⟨vr,hv⟩:=Classical.not_imp.mp hv
  have ⟨vX,hv⟩:=Classical.not_imp.mp hv
  have vY:Y v=true:=by
   cases d:Y v with
   | true=>rfl
   | false=>exact absurd d hv
  have sX:1<=mg (rgN n) X:=ou (vD.mpr vr) vX
  have sY:1<=mg (rgN n) Y:=ou (vD.mpr vr) vY
  by_cases A:∃ u:Int,(0<=u/\u<n)/\X u=true/\Y u=false
  ·by_cases B:∃ u:Int,(0<=u/\u<n)/\Y u=true/\X u=false
   ·obtain⟨u,ur,u1,u2⟩:=A
    obtain⟨w,wr,w1,w2⟩:=B
    have pX:Prp n fun v=>X v&&!Y v:=tX.1.sub ur (by show (X u&&!Y u)=true; rw [u1,u2]; rfl) fun v h=>by
     cases d:X v with
     | true=>rfl
     | false=>rw [show (X v&&!Y v)=false by rw [d]; rfl] at h; cases h
    have pY:Prp n fun v=>Y v&&!X v:=tY.1.sub wr (by show (Y w&&!X w)=true; rw [w1,w2]; rfl) fun v h=>by
     cases d:Y v with
     | true=>rfl
     | false=>rw [show (Y v&&!X v)=false by rw [d]; rfl] at h; cases h
    have h1:=hC _ pX
    have h2:=hC _ pY
    have d2:=QV us X Y
    have m2:=Mh es X Y
    have t1:=tX.2
    have t2:=tY.2
    unfold dD at h1 h2 t1 t2
    have z0:mg es (fun v=>X v&&Y v)=0:=by omega
    have no:∀ e∈es,¬ (X e=true/\Y e=true):=fun e he ⟨a,b⟩=>by
     have:=ou (X:=fun v=>X v&&Y v) he (by show (X e&&Y e)=true; rw [a,b]; rfl)
     omega
    have s2:=Mh (rgN n) X Y
    have sI:1<=mg (rgN n) fun v=>X v&&Y v:=ou (vD.mpr vr) (by show (X v&&Y v)=true; rw [vX,vY]; rfl)
    refine ih _ (show (((fun v=>X v&&!Y v)::(fun v=>Y v&&!X v)::r).map fun X=>mg (rgN n) X).sum<N by rw [ã,ã,î,î]; omega) _ (Í _) (fun Z hZ=>?_) fun e he=>?_
    ·rcases Ô.mp hZ with rfl | hZ
     ·exact⟨pX,by unfold dD; omega⟩
     ·rcases Ô.mp hZ with rfl | hZ
      ·exact⟨pY,by unfold dD; omega⟩
      ·exact tr Z hZ
    ·rcases cv e he with q | q | ⟨Z,hZ,q⟩
     ·refine⟨_,Æ,?_⟩
      cases d:Y e with
      | true=>exact absurd ⟨q,d⟩ (no e he)
      | false=>rw [q]; rfl
     ·refine⟨_,Ã _ Æ,?_⟩
      cases d:X e with
      | true=>exact absurd ⟨d,q⟩ (no e he)
      | false=>rw [q]; rfl
     ·exact⟨Z,Ã _ (Ã _ hZ),q⟩
   ·refine ih _ (show ((X::r).map fun X=>mg (rgN n) X).sum<N by rw [ã,î]; omega) _ (Í _) (fun Z hZ=>?_) fun e he=>?_
    ·rcases Ô.mp hZ with rfl | hZ
     ·exact tX
     ·exact tr Z hZ
    ·rcases cv e he with q | q | ⟨Z,hZ,q⟩
     ·exact⟨X,Æ,q⟩
     ·refine⟨X,Æ,?_⟩
      cases d:X e with
      | true=>rfl
      | false=>exact absurd ⟨e,rng e he,q,d⟩ B
     ·exact⟨Z,Ã _ hZ,q⟩
  ·refine ih _ (show ((Y::r).map fun X=>mg (rgN n) X).sum<N by rw [ã,î]; omega) _ (Í _) (fun Z hZ=>?_) fun e he=>?_
   ·rcases Ô.mp hZ with rfl | hZ
    ·exact tY
    ·exact tr Z hZ
   ·rcases cv e he with q | q | ⟨Z,hZ,q⟩
    ·refine⟨Y,Æ,?_⟩
     cases d:Y e with
     | true=>rfl
     | false=>exact absurd ⟨e,rng e he,q,d⟩ A
    ·exact⟨Y,Æ,q⟩
    ·exact⟨Z,Ã _ hZ,q⟩
theorem sum_add {α:Type} (l:List α) (f g:α->Nat):(l.map fun x=>f x+g x).sum=(l.map f).sum+(l.map g).sum:=by
 induction l with
 | nil=>rfl
 | cons x l ih=>simp only [ã,î,ih]; omega
theorem zH {Gs:List (Int->Bool)} (h:Gs.Pairwise (Dj n)) {e:Int} (hr:0<=e/\e<(n:Int)):(Gs.map fun X=>(X e).toNat).sum<=1/\((∃ X∈Gs,X e=true)->(Gs.map fun X=>(X e).toNat).sum=1):=by
 induction h with
 | nil=>exact⟨Ć _,fun ⟨_,h,_⟩=>(nomatch h)⟩
 | @cons X l hX hl ih =>
  rw [ã,î]
  cases c:X e with
  | true =>
   have:(l.map fun X=>(X e).toNat).sum=0:=by
    have:∀ m:List (Int->Bool),(∀ Y∈m,Y e=false)->(m.map fun X=>(X e).toNat).sum=0:=fun m=>by
     induction m with
     | nil=>intro _; rfl
     | cons Y m ih=>intro h; rw [ã,î,h Y Æ,ih fun Z hZ=>h Z (Ã _ hZ)]; rfl
    exact this l fun Y hY=>hX Y hY e hr c
   rw [this]
   exact⟨Í _,fun _=>rfl⟩
  | false =>
   refine⟨by have:=ih.1; simp; exact this,fun ⟨Y,hY,q⟩=>?_⟩
   rcases Ô.mp hY with rfl | hY
   ·rw [q] at c; cases c
   ·have:=ih.2 ⟨Y,hY,q⟩
    simp
    exact this
theorem NZ (rng:∀ e∈es,0<=e/\e<(n:Int)) {Gs:List (Int->Bool)} (h:Gs.Pairwise (Dj n)):(Gs.map fun X=>mg es X).sum<=es.length/\((∀ e∈es,∃ X∈Gs,X e=true)->(Gs.map fun X=>mg es X).sum=es.length):=by
 induction es with
 | nil =>
  have:∀ m:List (Int->Bool),(m.map fun X=>mg [] X).sum=0:=fun m=>by
   induction m with
   | nil=>rfl
   | cons Y m ih=>rw [ã,î,ih]; rfl
  rw [this]
  exact⟨Í _,fun _=>rfl⟩
 | cons e es ih =>
  obtain⟨i1,i2⟩:=ih fun x hx=>rng x (Ã _ hx)
  obtain⟨o1,o2⟩:=zH h (rng e Æ)
  have:(Gs.map fun X=>mg (e::es) X).sum=(Gs.map fun X=>mg es X).sum+(Gs.map fun X=>(X e).toNat).sum:=by
   rw [← sum_add]
   congr 1
   exact ő fun X _=>eU e es X
  rw [this,Ü]
  refine⟨by omega,fun hc=>?_⟩
  rw [i2 fun x hx=>hc x (Ã _ hx),o2 (hc e Æ)]
theorem Eu (rng:∀ e∈es,0<=e/\e<(n:Int)) (hC:∀ X,Prp n X->k<=dD us es X) (tgt:∀ e∈es,∃ X,Prp n X/\X e=true/\dD us es X=k) :
  ∃ Gs:List (Int->Bool),Gs.Pairwise (Dj n)/\(∀ X∈Gs,Prp n X)/\(Gs.map fun X=>k - dg us X).sum=es.length:=by
 have:∃ Fs:List (Int->Bool),(∀ X∈Fs,Prp n X/\dD us es X=k)/\∀ e∈es,∃ X∈Fs,X e=true:=by
  clear rng hC
  have gen:∀ l:List Int,(∀ e∈l,∃ X,Prp n X/\X e=true/\dD us es X=k)->∃ Fs:List (Int->Bool),(∀ X∈Fs,Prp n X/\dD us es X=k)/\∀ e∈l,∃ X∈Fs,X e=true:=fun l=>by
   induction l with
   | nil=>intro _; exact⟨[],fun X h=>(nomatch h),fun e h=>(nomatch h)⟩
   | cons e l ih =>
    intro h
    obtain⟨Fs,f1,f2⟩:=ih fun x hx=>h x (Ã _ hx)
    obtain⟨X,x1,x2,x3⟩:=h e Æ
    refine⟨X::Fs,fun Y hY=>?_,fun x hx=>?_⟩
    ·rcases Ô.mp hY with rfl | hY
     ·exact⟨x1,x3⟩
     ·exact f1 Y hY
    ·rcases Ô.mp hx with rfl | hx
     ·exact⟨X,Æ,x2⟩
     ·obtain⟨Y,y1,y2⟩:=f2 x hx
      exact⟨Y,Ã _ y1,y2⟩
  exact gen es tgt
 obtain⟨Fs,f1,f2⟩:=this
 obtain⟨Gs,g1,g2,g3⟩:=JM rng hC _ Fs (Í _) f1 f2
 refine⟨Gs,g1,fun X hX=>(g2 X hX).1,?_⟩
 rw [← (NZ rng g1).2 g3]
 congr 1
 refine ő fun X hX=>?_
 have:=(g2 X hX).2
 unfold dD at this
 omega
end
end Cut
namespace L2
open PySem PySem.Spec PyProof.Rows
structure LamScope (ps ys:List Str) (sc:Scope) (cl:List (Str×Addr)):Prop where
 kind:sc.kind=.function
 co:sc.isCoroutine=false
 gen:sc.isGenerator=false
 nd:(ps++ys).Nodup
 par:∀ x∈ps,sc.names.lookup x=some .local
 fre:∀ y∈ys,sc.names.lookup y=some .free
 nocell:∀ x∈sc.names,x.2≠.cell
 all:∀ x,sc.names.lookup x=some .free->∃ c,cl.lookup x=some c
 inj:∀ x y c,cl.lookup x=some c->cl.lookup y=some c->x=y
def cxL (CX:CXT) (P:Program) (w:World) (K:Ú) (mg:Str->Option Value) (base:Heap) (N:List Str) (qual:Str) (scope:Scope) (f:Addr) (cd:Value) (cl:List (Str×Addr)) (A:Around) (outer:List Env) (s:Shared) (H:Hp) (E:XK):Cx where
 prog:=P
 w:=w
 K:=K
 mg:=mg
 base:=base
 A:=A.deeper (W.envX qual scope s.heap.objs.size f cd cl)
 N:=N
 s₀:=s
 H₀:=H
 env:=W.envX qual scope s.heap.objs.size f cd cl
 outer:=outer
 stack:=W.envX qual scope s.heap.objs.size f cd cl::outer
 ex:=[]
 calm:=true
 fn:=fun _=>false
 pn:=[]
 xe:=fun e s'=>wpAny (model P w) (A.deeper (W.envX qual scope s.heap.objs.size f cd cl)) (leaving (W.envX qual scope s.heap.objs.size f cd cl) e) (fun _ s''=>CX outer H s E e s'') (fun e' s''=>CX outer H s E e' s'') s'
structure Caps (base:Heap) (cl:List (Str×Addr)) (ys:List Str) (cvs:List V):Prop where
 len:cvs.length=ys.length
 cells:∀ x c,cl.lookup x=some c->∃ v,base.IsCell c v
 val:∀ (j:Nat) (y:Str) (v:V),ys[j]?=some y->cvs[j]?=some v->∃ c u,cl.lookup y=some c/\base.IsCell c (some u)/\RelV v u
theorem Ae {CX:CXT}{P:Program}{w:World}{K:Ú}{mg:Str->Option Value}{base:Heap}{ps ys:List Str}{qual:Str}{scope:Scope}{f:Addr}{cd:Value}{cl:List (Str×Addr)}{A:Around}{outer:List Env}{s:Shared}{h1:Heap}{tk:Nat}{H:Hp}{E:XK}{us:List Value}{vs cvs:List V}
  (S:LamScope ps ys scope cl) (hd:A.handled=none) (e0:Env0 P w K mg base A outer s H) (hl:vs.length=ps.length) (r:Vals vs us) (C:Caps base cl ys cvs)
  (hn:h1.Ns s.heap.objs.size (fun x=>(ps.zip us).reverse.lookup x)) (hk:∀ b o,s.heap.get? b=some o->h1.get? b=some o) :
  Inv (cxL CX P w K mg base (ps++ys) qual scope f cd cl A outer s H E) [] (start (ps++ys) (vs++cvs)) H { s with heap:=h1,toks:=tk }:=by
 have noA:∀ b:Addr,b∉(cxL CX P w K mg base (ps++ys) qual scope f cd cl A outer s H E).ex:=fun b z=>absurd (show b∈([]:List Addr) from z) (by simp)
 have bk:∀ b o,base.get? b=some o->h1.get? b=some o:=fun b o e=>hk b o (e0.bs b o e).1
 have cne:∀ x c,cl.lookup x=some c->H c=none:=fun x c e=>by
  obtain⟨v,o,ho,_⟩:=C.cells x c e
  exact (e0.bs c o ho).2
 refine⟨⟨e0.mod,S.kind,rfl,rfl,Í _,S.inj,fun y hy=>?_,(fun y c z _=>(nomatch z)),fun _=>hd,Around.frames_deeper e0.frames,.inr ⟨rfl,rfl⟩,fun b z=>absurd z (noA b),e0.bs,e0.bsz,fun b _ _=>noA b,fun b z=>absurd z (noA b),e0.mK,e0.frf,fun q z=>nomatch (show q∈([]:List (Addr×Obj×HO)) from z)⟩,
  rfl,e0.bare,Un.kept hk,⟨_,hn,fun i y v h1 h2 h3=>?_⟩,fun y c h=>?_,e0.hok.fresh (Í _),fun y c h=>cne y c h,fun p hp=>absurd (show p∈([]:List (Addr×Obj)) from hp) (by simp),e0.hok.kept hk,?_⟩
 ·have hy:scope.names.lookup y=some .cell\/scope.names.lookup y=some .free:=hy
  rcases hy with hy | hy
  ·exact absurd rfl (S.nocell _ (Ě hy))
  ·exact S.all y hy
 ·have ha:(vs++cvs)[i]?=some v:=by
   unfold start at h2
   by_cases hi:i<(vs++cvs).length
   ·rw [ô (by simpa using hi),á] at h2
    cases e:(vs++cvs)[i]? with
    | none=>rw [e] at h2; cases h2
    | some a=>rw [e] at h2; cases h2; rfl
   ·rw [ë (by simpa using hi)] at h2
    rw [Ń] at h2
    split at h2 <;> cases h2
  have h1:(ps++ys)[i]?=some y:=h1
  by_cases hi:i<ps.length
  ·rw [ô (by omega)] at h1 ha
   obtain⟨u,hu,rv⟩:=r.get ha
   have ndP:ps.Nodup:=(List.nodup_append.mp S.nd).1
   refine⟨u,rv,.inl ⟨S.par y (Ì h1),?_⟩⟩
   have rl:∀ (l:List (Str×Value)) (x:Str) (u:Value),(l.map (·.1)).Nodup->(x,u)∈l->l.lookup x=some u:=fun l x u=>by
    induction l with
    | nil=>intro _ z; cases z
    | cons p l ih =>
     intro nd z
     obtain⟨a,b⟩:=p
     rw [ã,ę] at nd
     rcases Ô.mp z with z | z
     ·cases z; rw [ï]; simp
     ·have:x≠a:=fun e=>nd.1 (by rw [← e]; exact é.mpr ⟨(x,u),z,rfl⟩)
      rw [ï,show (x == a)=false by simpa using this]
      exact ih nd.2 z
   refine rl _ _ _ ?_ (List.mem_reverse.mpr ?_)
   ·rw [List.map_reverse,List.map_fst_zip (by rw [← r.length,hl]; exact Í _)]
    exact List.pairwise_reverse.mpr (ndP.imp fun h e=>h e.symm)
   ·exact Ì (i:=i) (by rw [List.getElem?_zip_eq_some]; exact⟨h1,hu⟩)
  ·rw [ë (by omega)] at h1 ha
   rw [hl] at ha
   obtain⟨c,u,e,hc,rv⟩:=C.val _ _ _ h1 ha
   exact⟨u,rv,.inr ⟨.inr (S.fre y (Ì h1)),c,e,hc.keeps bk⟩⟩
 ·obtain⟨v,hc⟩:=C.cells y c h
  exact⟨v,hc.keeps bk⟩
 ·unfold start
  show _=(ps++ys).length
  rw [È,Á,Ď,È,È,C.len,hl]
  omega
def TF (x:Obj) (qual:Str):Prop:=∃ vs t,x.data=.fields vs/\vs[1]?=some (.str qual t)
def uz (H:Hp) (c':Addr) (qual:Str):Prop:=∃ x φ,H c'=some (.frz x (.ext φ))/\TF x qual
theorem Qq {CX:CXT}{P:Program}{w:World}{K:Ú}{mg:Str->Option Value}{base:Heap}{k:Nat}{f c':Addr}{name qual:Str}{params:Arguments}{body:Expr}{scope:Scope}{pm ctv:Value}{cl:List (Str×Addr)}{ps ys:List Str}{cvs:List V}{sp:Sp}
  (lk:base.get? f=some (W.kla_obj name qual params body scope cl pm c' ctv)) (hcd:∀ vs H Q E,sp vs H Q E->uz H c' qual) (S:LamScope ps ys scope cl) (C:Caps base cl ys cvs)
  (len:∀ vs H Q E,sp vs H Q E->vs.length=ps.length)
  (hbody:∀ (A:Around) (outer:List Env) (s:Shared) (H:Hp) (vs:List V) (Q:VK) (E:XK),Room k (A.deeper (W.envX qual scope s.heap.objs.size f (.ref c') cl))->sp vs H Q E ->
   ∃ t,PE (cxL CX P w K mg base (ps++ys) qual scope f (.ref c') cl A outer s H E) body t/\t (start (ps++ys) (vs++cvs)) H Q) :
  FnOk P w K mg base CX (k+1) f (W.kla_fn name qual params body scope cl pm (.ref c') ctv) ps sp:=by
 refine⟨len,fun A outer s H args us vs Q E hr e0 hb r hsp=>?_⟩
 have hl:=len _ _ _ _ hsp
 have bk:∀ b o,base.get? b=some o->s.heap.get? b=some o:=fun b o e=>(e0.bs b o e).1
 have lim:s.heap.NoLimit:=e0.mod.nolimit.keeps bk
 have hcd':s.heap.CodeRec (.ref c') qual:=by
  obtain⟨x,φ,e,vs,t,h1,h2⟩:=hcd _ _ _ _ hsp
  exact⟨c',x,vs,t,rfl,(e0.hok _ _ e).1,h1,h2⟩
 refine W.kla_callFunE hr.depth (bk _ _ lk) rfl S.co S.gen rfl hcd' (hb _ _ _ _ ?_)
 have hloc:∀ y∈ps.zip us,scope.names.lookup y.1=some .local:=fun ⟨n,v⟩ hy=>S.par n (List.of_mem_zip hy).1
 refine wpAny_newFunctionEnv S.nocell hloc (fun h₁ hns hsb=>?_) S.kind
 have hk₁:∀ b o,s.heap.get? b=some o->h₁.get? b=some o:=fun b o e=>hsb.extBut b o (ß (Ï e)) (Ð _ e)
 refine⟨lim.keeps hk₁,?_⟩
 show codeAny _ _ (.expr body (W.envX qual scope s.heap.objs.size f (.ref c') cl)) _ _
 obtain⟨t,ht,hq⟩:=hbody A outer s H vs Q E (hr.deeper _) hsp
 have I:Inv (cxL CX P w K mg base (ps++ys) qual scope f (.ref c') cl A outer s H E) [] (start (ps++ys) (vs++cvs)) H { s with heap:=h₁,toks:=s.toks+(ps.zip us).length }:=Ae S hr.hd e0 hl r C hns hk₁
 refine W.kla_codeExpr (ĸ (ht [] _ _ H _ I hq) (fun u s' hs=>?_) fun e s' hs=>hs)
 obtain⟨v,H',J,rv,q⟩:=hs
 exact⟨v,H',J.os,J.bare,J.base,J.hok,rv,q⟩
def reb (base h:Heap) (L:List Addr):Heap:=W.hideAll h ((ä h.objs.size).filter fun b=>(base.get? b).isNone&&!decide (b∈L))
theorem uR {base h:Heap}{L:List Addr}{b:Addr}:b∉((ä h.objs.size).filter fun b=>(base.get? b).isNone&&!decide (b∈L))↔(h.objs.size<=b\/(∃ o,base.get? b=some o)\/b∈L):=by
 rw [ĉ,č,Ý,Option.isNone_iff_eq_none,Bool.not_eq_true',decide_eq_false_iff_not]
 constructor
 ·intro z
  by_cases h1:b<h.objs.size
  ·cases e:base.get? b with
   | some o=>exact .inr (.inl ⟨o,rfl⟩)
   | none =>
    by_cases h2:b∈L
    ·exact .inr (.inr h2)
    ·exact absurd ⟨h1,e,h2⟩ z
  ·exact .inl (Nat.le_of_not_lt h1)
 ·rintro (z | ⟨o,z⟩ | z) ⟨a,b,c⟩
  ·exact absurd a (Nat.not_lt.mpr z)
  ·rw [z] at b; cases b
  ·exact c z
theorem GD {base h:Heap}{L:List Addr}{b:Addr}{o:Obj} (e:h.get? b=some o) (m:b∈L):(reb base h L).get? b=some o:=W.hideAll_get _ e (uR.mpr (.inr (.inr m)))
theorem GF {base h:Heap}{L:List Addr} (bk:∀ b o,base.get? b=some o->h.get? b=some o):∀ b o,base.get? b=some o->(reb base h L).get? b=some o:=fun b o e=>W.hideAll_get _ (bk b o e) (uR.mpr (.inr (.inl ⟨o,e⟩)))
theorem HN {base h:Heap}{L:List Addr}{b:Addr}{o:Obj} (e:(reb base h L).get? b=some o):h.get? b=some o/\((∃ o,base.get? b=some o)\/b∈L):=by
 have e1:=W.of_hideAll _ e
 refine⟨e1,?_⟩
 have n:b∉((ä h.objs.size).filter fun b=>(base.get? b).isNone&&!decide (b∈L)):=fun z=>by
  have:=W.hideAll_none (h:=h) _ z
  rw [show (W.hideAll h ((ä h.objs.size).filter fun b=>(base.get? b).isNone&&!decide (b∈L))).get? b=some o from e] at this
  cases this
 exact (uR.mp n).resolve_left (fun z=>absurd (Ï e1) (Nat.not_lt.mpr z))
theorem Mod.reb {K:Ú}{mg:Str->Option Value}{base h:Heap}{L:List Addr} (m:Mod K mg base) (bk:∀ b o,base.get? b=some o->h.get? b=some o):Mod K mg (reb base h L):=by
 have k:=GF (L:=L) bk
 obtain⟨mb,hb,hx⟩:=m.blt
 exact⟨m.kin.keeps k,m.glob.keeps k,⟨mb,hb.keeps k,hx⟩,m.nolimit.keeps k⟩
theorem Env0.reb {P:Program}{w:World}{K:Ú}{mg:Str->Option Value}{base:Heap}{A:Around}{outer:List Env}{s:Shared}{H:Hp}{L:List Addr} (e:Env0 P w K mg base A outer s H) (hL:∀ b∈L,H b=none) (hf:∀ b∈L,b∉frs outer):Env0 P w K mg (reb base s.heap L) A outer s H:=by
 have bk:∀ b o,base.get? b=some o->s.heap.get? b=some o:=fun b o z=>(e.bs b o z).1
 refine⟨e.frames,e.mod.reb bk,fun b o z=>?_,?_,?_,e.frf,e.hok,e.bare⟩
 ·obtain⟨h1,h2⟩:=HN z
  refine⟨h1,?_⟩
  rcases h2 with ⟨o',h2⟩ | h2
  ·exact (e.bs b o' h2).2
  ·exact hL b h2
 ·unfold L2.reb
  rw [W.hideAll_size]
  exact Í _
 ·have all:∀ l:List Env,(∀ b∈L,b∉frs l)->s.heap.FunFrames base l->s.heap.FunFrames (L2.reb base s.heap L) l:=by
   intro l
   induction l with
   | nil=>intro _ _; trivial
   | cons env r ih =>
    intro hs hl
    obtain⟨hk,⟨F,o,hf,hn,ho,hd⟩,hr⟩:=hl
    refine⟨hk,⟨F,o,hf,?_,ho,hd⟩,ih (fun b hb z=>hs b hb ?_) hr⟩
    ·cases q:(L2.reb base s.heap L).get? F with
     | none=>rfl
     | some u =>
      obtain⟨_,h2⟩:=HN q
      rcases h2 with ⟨o',h2⟩ | h2
      ·rw [hn] at h2; cases h2
      ·exact absurd (by unfold frs; rw [ū,hf]; exact Æ) (hs F h2)
    ·unfold frs at z ⊢
     rw [ū,hf]
     exact Ã _ z
  exact all outer hf e.mK
def Gk (i:Nat) (f:Addr) (sp:Sp) (E:XK) (t:TA):TE:=fun σ H Q=>σ[i]?=some (some (.ref f))/\t σ H fun vs H1=>sp vs H1 Q E
section
variable {X:Cx}{CX:CXT}{k i:Nat}{f:Addr}{fd:FuncData}{ps:List Str}{sp:Sp}{E:XK}{x:Str}{p pos:Pos}{e:Expr}{es:List Expr}{t:TA}
theorem G8 (F:FnOk X.prog X.w X.K X.mg X.base CX k f fd ps sp) (hf:W.FnAt f X.base) (hr:Room k X.A) (hb:Binds X.K fd ps []) (hx:Passes CX X E) (hv:PE X (.Name x p) (iy i)) (ha:PA X (e::es) t)
  (he:zS X e es:=by rfl) (hpl:zP X pos es:=by rfl) :
  PE X (.Call (.Name x p) (e::es) [] pos) (Gk i f sp E t):=by
 intro pins s σ H Q I ⟨hi,h⟩
 have fk:∀ {σ':St}{H':Hp}{s':Shared},Inv X pins σ' H' s'->W.FnAt f s'.heap:=fun {σ' H' s'} I'=>by
  obtain⟨oc,od,fd,sl,e⟩:=hf
  exact⟨oc,od,fd,sl,I'.bk _ _ e⟩
 refine Ō (thn (hv pins s σ H (fun v H'=>v=.ref f/\H'=H) I ⟨_,hi,rfl,rfl⟩) fun u s1 ⟨v,H1,I1,rv,ev,eH⟩=>?_)
 subst ev
 subst eH
 obtain rfl:u=į f:=rv
 refine W.callWith_F (fk I1) (thn (ha pos pins s1 σ H1 _ I1 h) fun us s2 ⟨vs,H2,I2,r,q⟩=>⟨fk I2,?_⟩) he hpl
 exact Gw (dvs:=[]) (ds:=[]) F hr hb .nil hx I2 r (by rw [ù]; exact q)
end
def yO (P:Addr) (pos:Pos) (qual:Str) (H:Hp):Prop:=∃ ps,H P=some (.tbl ps)/\(ps=#[]\/∃ c',ps=#[rawInt pos.line,rawInt pos.col,.ref c']/\uz H c' qual)
theorem TJ {h h':Heap}{L:Addr}{m:Str->Option Value} (x:h.Ns L m) (k:∀ o,h.get? L=some o->h'.get? L=some o):h'.Ns L m:=by
 obtain⟨o,es,ep,ho,r⟩:=x
 exact⟨o,es,ep,k o ho,r⟩
section
variable {X:Cx}{pins:List (Addr×Obj)}{σ:St}{H:Hp}{s:Shared}{c P:Addr}{pos:Pos}{qual:Str}{params:Arguments}{body:Expr}{scope:Scope}{cl:List (Str×Addr)}{Q:Value->Shared->Prop}{E:Value->Shared->Prop}
theorem Ed (I:Inv X pins σ H s) (hq:X.env.qual++"<lambda>"=qual) (hdef:defaultsOf params X.env=([],[])) (hcl:closureFor scope X.env=pure cl) (hcode:X.env.code=.ref c) (hC:X.K.In X.base->W.CodeHd X.base c P) (hB:X.K.In X.base->X.base.BuiltinsAt X.mg P) (T:yO P pos qual H)
  (h:∀ f c' ctv pm s' H',Inv X pins σ H' s'->yO P pos qual H'->uz H' c' qual->H' f=none->s'.heap.get? f=some (W.kla_obj "<lambda>" qual params body scope cl pm c' ctv)->f∉frs X.stack->(∀ b o,H b=some o->b≠P->H' b=some o) ->
   (∀ b o,s.heap.get? b=some o->H b=none->s'.heap.get? b=some o/\H' b=none)->Q (.ref f) s') :
  wpAny (model X.prog X.w) X.A (eval (.Lambda params body scope pos) X.env) Q E s:=by
 have hC:=hC I.ok.mod.kin
 have hB:=hB I.ok.mod.kin
 obtain⟨ps,hP,hps⟩:=T
 have hPh:s.heap.get? P=some (W.tabObj ps):=I.hok P _ hP
 have neP:∀ b,H b=none->b≠P:=fun b e z=>by rw [z,hP] at e; cases e
 have hgs:s.heap.Ns mainGlobals X.mg:=I.mod.glob.keeps I.bk
 have hgP:mainGlobals≠P:=by
  obtain⟨o,_,_,ho,_⟩:=I.mod.glob
  exact neP _ (I.bs _ _ ho).2
 have hB':s.heap.BuiltinsAt X.mg P:=by
  obtain⟨bm,o,h1,h2,h3,h4,h5,r⟩:=hB
  exact⟨bm,o,h1,h2,h3,h4,I.bk _ _ h5,r⟩
 have fsz:∀ b,s.heap.objs.size<=b->b∉frs X.stack:=fun b hb z=>by
  obtain⟨_,o,ho,_⟩:=I.stack.mem z
  exact absurd (Ï ho) (Nat.not_lt.mpr hb)
 refine W.kla_eval hdef ?_
 rw [hq]
 rcases hps with rfl | ⟨c',rfl,kn⟩
 ·refine W.kla_makeFunction (mg:=X.mg) hcl I.ok.glob hgs hcode (hC.keeps I.bk) hPh (by trivial) (by rfl) hgP hB' fun c' ctv h' tk hx hge hlt hrec htb=>?_
  obtain⟨c₂,oc,vs,t,e2,hoc,hd,hv⟩:=hrec
  cases e2
  have keep:∀ b o,b≠P->s.heap.get? b=some o->(h'.push (W.kla_obj "<lambda>" qual params body scope cl ((X.mg "__name__").getD .none) c' ctv)).get? b=some o:=fun b o n e=>Ð _ (hx b o n e)
  have hc0:H c'=none:=I.hok.fresh hge
  have cP:c'≠P:=neP c' hc0
  have cS:∀ b o,s.heap.get? b=some o->b≠c':=fun b o e z=>by subst z; exact absurd (Ï e) (Nat.not_lt.mpr hge)
  have htb':(h'.push (W.kla_obj "<lambda>" qual params body scope cl ((X.mg "__name__").getD .none) c' ctv)).get? P=some (W.tabObj (#[]++#[rawInt pos.line,rawInt pos.col,.ref c'])):=Ð _ htb
  have hoc':=Ð (W.kla_obj "<lambda>" qual params body scope cl ((X.mg "__name__").getD .none) c' ctv) hoc
  let H':Hp:=upd (upd H P (.tbl #[rawInt pos.line,rawInt pos.col,.ref c'])) c' (.frz oc (.ext fun _=>True))
  have u0:∀ b,b≠P->b≠c'->H' b=H b:=fun b h1 h2=>by show upd _ _ _ b=_; rw [aq h2,aq h1]
  have uP:H' P=some (.tbl #[rawInt pos.line,rawInt pos.col,.ref c']):=by show upd _ _ _ P=_; rw [aq (Į cP),au]
  have uc:H' c'=some (.frz oc (.ext fun _=>True)):=au
  have nc:∀ b o,H b=some o->b≠c':=fun b o e z=>by rw [z,hc0] at e; cases e
  have kn:uz H' c' qual:=⟨oc,_,uc,vs,t,hd,hv⟩
  have J:Inv X pins σ H' { s with heap:=h'.push (W.kla_obj "<lambda>" qual params body scope cl ((X.mg "__name__").getD .none) c' ctv),toks:=tk }:=by
   refine I.step (g':=s.gens) (d':=s.drawn) (ch:=[]) (fun _ z=>nomatch z) (fun b o _ _ _ e n=>keep b o (neP b n) e) (fun b o _ _ _ e n=>⟨o.slots,keep b o (neP b n) e⟩) (fun b o _ e n=>by rw [u0 b (neP b n) (cS b o e)]; exact n) (fun b o _ e=>?_) (fun b xs e=>?_) (fun b o u e=>?_) (fun b ps e=>?_) (fun m hm=>TJ hm fun o e=>keep _ o (neP _ I.free) e) (fun a o e=>?_) I.bare
   ·by_cases z:b=P
    ·subst z; exact⟨_,htb'⟩
    ·exact⟨o,keep b o z e⟩
   ·rw [u0 b (fun z=>by rw [z,hP] at e; cases e) (nc b _ e)]; exact e
   ·rw [u0 b (fun z=>by rw [z,hP] at e; cases e) (nc b _ e)]; exact e
   ·by_cases z:b=P
    ·subst z
     rw [hP] at e
     cases e
     exact⟨#[rawInt pos.line,rawInt pos.col,.ref c'],by rw [uP]; simp⟩
    ·exact⟨#[],by rw [u0 b z (nc b _ e),e]; simp⟩
   ·by_cases z:a=c'
    ·subst z
     rw [uc] at e
     cases e
     exact⟨hoc',trivial,⟨_,hoc'⟩,fun _ _ _ _=>trivial⟩
    ·by_cases z2:a=P
     ·subst z2
      rw [uP] at e
      cases e
      exact htb'
     ·rw [u0 a z2 z] at e
      have ow:∀ b,H b=some (.own a)->b≠P:=fun b q y=>by rw [y,hP] at q; cases q
      exact (I.hok a o e).stay (fun b u hb q=>keep b u (hb.elim (fun y=>y ▸ z2) (ow b)) q) (fun b q=>by rw [u0 b (ow b q) (nc b _ q)]; exact q) fun b xs q=>by rw [u0 b (fun y=>by rw [y,hP] at q; cases q) (nc b _ q)]; exact q
  have hsz:s.heap.objs.size<=h'.objs.size:=Nat.le_of_lt (Nat.lt_of_le_of_lt hge hlt)
  have fP:h'.objs.size≠P:=fun z=>absurd (Ï hPh) (Nat.not_lt.mpr (z ▸ hsz))
  refine h h'.objs.size c' ctv _ _ H' J ⟨_,uP,.inr ⟨c',rfl,kn⟩⟩ kn (by rw [u0 _ fP (Nat.ne_of_gt hlt)]; exact I.hok.fresh hsz) (à _ rfl) (fsz _ hsz) (fun b o e n=>by rw [u0 b n (nc b _ e)]; exact e) fun b o e n=>⟨keep b o (neP b n) e,by rw [u0 b (neP b n) (cS b o e)]; exact n⟩
 ·refine W.kla_makeFunctionHit (mg:=X.mg) (cv:=.ref c') hcl I.ok.glob hgs hcode (hC.keeps I.bk) hPh (by trivial) (codeAmong_snoc (pos:=pos) (c:=.ref c') [] trivial rfl) hB' fun ctv h' tk hk hsz=>?_
  have keep:∀ b o,s.heap.get? b=some o->(h'.push { cls:=.type "function",data:=.func (W.kla_fn "<lambda>" qual params body scope cl ((X.mg "__name__").getD .none) (.ref c') ctv) }).get? b=some o:=fun b o e=>Ð _ (hk b o e)
  exact h h'.objs.size c' ctv _ _ H (I.kept (t':=tk) keep) ⟨_,hP,.inr ⟨c',rfl,kn⟩⟩ kn (I.hok.fresh hsz) (à _ rfl) (fsz _ hsz) (fun b o e _=>e) fun b o e n=>⟨keep b o e,n⟩
end
structure LamAt (base:Heap) (f c':Addr) (qual:Str) (params:Arguments) (body:Expr) (scope:Scope) (cl:List (Str×Addr)) (ys:List Str) (cvs:List V) (H:Hp):Prop where
 fn:∃ pm ctv,base.get? f=some (W.kla_obj "<lambda>" qual params body scope cl pm c' ctv)
 caps:Caps base cl ys cvs
 kn:uz H c' qual
def Ud (N:List Str) (P:Addr) (lpos:Pos) (qual:Str) (params:Arguments) (body:Expr) (scope:Scope) (cl:List (Str×Addr)) (ys:List Str) (sp:Heap->Sp) (te:TE):TE:=fun σ H Q=>te σ H fun v H1=>yO P lpos qual H1 /\
 ∃ cvs:List V,cvs.length=ys.length/\(∀ (j:Nat) (y:Str) (v:V),ys[j]?=some y->cvs[j]?=some v->∃ i:Nat,N[i]?=some y/\σ[i]?=some (some v)) /\
  ∀ base' f c' H',LamAt base' f c' qual params body scope cl ys cvs H'->yO P lpos qual H'->(∀ b o,H1 b=some o->b≠P->H' b=some o)->sp base' [v,.ref f] H' Q E0
section
variable {X:Cx}{k:Nat}{fh c P:Addr}{fdh:FuncData}{ps ys:List Str}{sp:Heap->Sp}{x:Str}{p pos lpos:Pos}{e:Expr}{te:TE}{qual:Str}{params:Arguments}{body:Expr}{scope:Scope}{cl:List (Str×Addr)}
theorem zq (F:∀ base,FnOk X.prog X.w X.K X.mg base CX0 k fh fdh ps (sp base)) (hr:Room k X.A) (hg:Gl X x) (hm:X.mg x=some (.ref fh)) (hk:W.keepIn X.K (.ref fh)=true) (hb:Binds X.K fdh ps []) (ha:PE X e te)
  (hq:X.env.qual++"<lambda>"=qual) (hdef:defaultsOf params X.env=([],[])) (hcl:closureFor scope X.env=pure cl) (hcode:X.env.code=.ref c) (hC:X.K.In X.base->W.CodeHd X.base c P) (hB:X.K.In X.base->X.base.BuiltinsAt X.mg P)
  (hfn:∀ x,X.fn x=true) (hsub:∀ x c,cl.lookup x=some c->X.env.cells.lookup x=some c) (hys:∀ y∈ys,X.env.scope.names.lookup y=some .cell/\∃ c,cl.lookup y=some c)
  (hdb:zB x:=by decide) (he:starEach [e,.Lambda params body scope lpos] X.env=(false,eval e X.env)::(false,eval (.Lambda params body scope lpos) X.env)::[]:=by rfl) (hpl:(backTo pos (starEach [.Lambda params body scope lpos] X.env)).any (·.1)=false:=by rfl) (he1:starEach [e,.Lambda params body scope lpos] X.env=(false,eval e X.env)::starEach [.Lambda params body scope lpos] X.env:=by rfl) :
  PE X (.Call (.Name x p) [e,.Lambda params body scope lpos] [] pos) (Ud X.N P lpos qual params body scope cl ys sp te):=by
 intro pins s σ H Q I h
 refine Ō (Cg I hg hm ?_ hdb)
 refine W.callWith_K (h₀:=X.base) I.ok.mod.kin hk ?_ he1 hpl
 rw [he]
 show wpAny _ _ (spliced ((false,eval e X.env)::(false,eval (.Lambda params body scope lpos) X.env)::[])) _ _ s
 refine Calls.spliced_cons (thn (ha pins s σ H _ I h) fun u s1 ⟨v,H1,I1,r1,T1,cvs,cl1,hcv,q1⟩=>?_)
 refine Calls.spliced_cons ?_
 refine Ed I1 hq hdef hcl hcode hC hB T1 fun f c' ctv pm s2 H2 J T2 kn fn hfo nfs kp kb=>?_
 refine Calls.spliced_nil ⟨J.kIn,?_⟩
 have ncell:∀ y c,X.env.cells.lookup y=some c->c∉frs X.stack:=fun y c e z=>by
  rcases Ô.mp (J.uG c z) with z | z
  ·exact J.cne y c e z
  ·obtain⟨_,o,ho,_⟩:=J.ok.mK.mem z
   exact absurd (Ï ho) (Nat.not_lt.mpr (J.ok.cab y c (hfn y) e))
 have inL:∀ y c,cl.lookup y=some c->c∈f::cl.filterMap fun q=>cl.lookup q.1:=fun y c e=>Ã _ (ű.mpr ⟨(y,c),Ě e,e⟩)
 have hL:∀ b∈f::cl.filterMap (fun q=>cl.lookup q.1),(H2 b=none/\b∉frs X.stack):=fun b hb=>by
  rcases Ô.mp hb with rfl | hb
  ·exact⟨fn,nfs⟩
  ·obtain⟨⟨y,c1⟩,_,e1⟩:=ű.mp hb
   have e2:=hsub y b e1
   exact⟨J.freeC y b e2,ncell y b e2⟩
 have e0:=J.env0.reb (L:=f::cl.filterMap fun q=>cl.lookup q.1) (fun b hb=>(hL b hb).1) fun b hb=>(hL b hb).2
 have cellB:∀ y c w,cl.lookup y=some c->s2.heap.IsCell c w->(reb X.base s2.heap (f::cl.filterMap fun q=>cl.lookup q.1)).IsCell c w:=fun y c w e ⟨o,ho,hd⟩=>⟨o,GD ho (inL y c e),hd⟩
 have lam:LamAt (reb X.base s2.heap (f::cl.filterMap fun q=>cl.lookup q.1)) f c' qual params body scope cl ys cvs H2:=by
  refine⟨⟨pm,ctv,GD hfo Æ⟩,⟨cl1,fun y c e=>?_,fun j y w h1 h2=>?_⟩,kn⟩
  ·obtain⟨w,hw⟩:=J.cell y c (hsub y c e)
   exact⟨w,cellB y c w e hw⟩
  ·obtain⟨i,n1,n2⟩:=hcv j y w h1 h2
   obtain⟨k1,c,e⟩:=hys y (Ì h1)
   obtain⟨m,_,hl⟩:=J.loc
   obtain⟨u',rv,l⟩:=hl i y w n1 n2 (.inr (.inl k1))
   rcases l with ⟨k2,_⟩ | ⟨_,c2,e2,hc⟩
   ·have k2:X.env.scope.names.lookup y=some .local:=k2
    rw [k1] at k2; cases k2
   ·rw [hsub y c e] at e2
    cases e2
    exact⟨c,u',e,cellB y c _ e hc,rv⟩
 have hsp:=q1 _ f c' H2 lam T2 kp
 have FF:=F (reb X.base s2.heap (f::cl.filterMap fun q=>cl.lookup q.1))
 have hl:[u,į f].length=ps.length:=FF.len _ _ _ _ hsp
 refine wpAny_call (codeAny_mono (FF.run X.A X.stack s2 H2 ⟨[u,.ref f],[]⟩ [u,.ref f] [v,.ref f] Q E0 hr e0 ?_ (.cons r1 (.cons rfl .nil)) hsp) fun r s' hq=>?_)
 ·have:=hb s2 [u,.ref f] J.kIn (by rw [ù]; exact hl)
  rw [ù] at this
  exact this
 ·cases r with
  | error e=>exact hq.elim
  | ok fl =>
   cases fl with
   | ret u=>exact J.after hq
   | next=>exact ń hq
   | brk=>exact ń hq
   | cont=>exact ń hq
end
end L2
namespace Dl
open PySem L2 PyProof.Rows
def Ko (P:Addr) (pos:Pos) (qual:Str):Pn where
 fp:=fun b=>b=P
 PI:=yO P pos qual
 pv:=.non
 mono:=fun H H' ⟨ps,h,r⟩ k=>⟨ps,k _ _ (.inl rfl) h,r.imp id fun ⟨c',e,x,φ,hc,cx⟩=>⟨c',e,x,φ,k _ _ (.inr ⟨x,φ,rfl⟩) hc,cx⟩⟩
 is:=fun H b ⟨ps,h,_⟩ hb=>by
  subst hb
  exact⟨_,h,(fun xs z=>(nomatch z)),fun ⟨_,_,z⟩=>(nomatch z)⟩
def spT (T:Pn) (f:List D->(D->Prop)->Prop):Sp:=fun vs H Q _=>∃ ds P,T.PI H/\Rps (fun a=>¬ T.fp a) H vs ds/\f ds P/\∀ d v H',P d->Kp T H H'->T.PI H'->Rp (fun a=>H a=none) H' v d->Q v H'
theorem vJ {T:Pn}{f:List D->(D->Prop)->Prop}{n:Nat} (hn:∀ ds P,f ds P->ds.length=n:=by intro _ _ h; repeat (first | (obtain⟨rfl,_⟩:=h; rfl) | obtain⟨_,h⟩:=h)):∀ vs H Q E,spT T f vs H Q E->vs.length=n:=fun vs H Q E ⟨ds,P,_,r,t,_⟩=>by
 rw [r.length]
 exact hn ds P t
def Pn.plus (p T:Pn):Pn where
 fp:=fun b=>p.fp b\/T.fp b
 PI:=fun H=>p.PI H/\T.PI H
 pv:=p.pv
 mono:=fun H H' h k=>⟨p.mono H H' h.1 fun b o z e=>k b o (z.imp .inl id) e,T.mono H H' h.2 fun b o z e=>k b o (z.imp .inr id) e⟩
 is:=fun H b h z=>z.elim (p.is H b h.1) (T.is H b h.2)
def Apart (p T:Pn):Prop:=∀ H,p.PI H->T.PI H->∀ b,p.fp b->¬ T.fp b
def CT (C:Pn->Prop) (T:Pn):Pn->Prop:=fun q=>∃ p,C p/\Apart p T/\q=p.plus T
theorem HW {p:Pn}{H:Hp}{b:Addr}{o:HO} (h:p.PI H) (e:H b=some o) (c:Fxd o):¬ p.fp b:=fun z=>by
 obtain⟨o',e',n⟩:=p.is H b h z
 rw [e] at e'
 cases e'
 exact n.2 c
theorem Gn {C:Pn->Prop}{T:Pn}{f:List D->(D->Prop)->Prop}:∀ vs H Q E,spP (CT C T) f vs H Q E->spP C f vs H Q E:=by
 rintro vs H Q E ⟨q,vs',ds,P,⟨p,c,ap,rfl⟩,rfl,pi,r,t,k⟩
 refine⟨p,vs',ds,P,c,rfl,pi.1,r.mono (fun a o z=>o (.inl z)) (fun _ _ _ e=>e) (fun _ _ e=>e),t,fun d v H' hP kp pi' rp=>k d v H' hP (fun b o e n=>kp b o e fun z=>n (.inl z)) ⟨pi',T.mono H H' pi.2 fun b o z e=>kp b o e fun y=>?_⟩ rp⟩
 rcases z with z | z
 ·exact ap H pi.1 pi.2 b y z
 ·exact HW pi.1 e z y
theorem Cal.plus {P:Program}{w:World}{K:Ú}{mg:Str->Option Value}{base:Heap}{k:Nat}{x:Str}{ps:List Str}{C:Pn->Prop}{T:Pn}{f:List D->(D->Prop)->Prop} (c:Cal P w K mg base k x ps (spP C f)):Cal P w K mg base k x ps (spP (CT C T) f):=by
 obtain⟨g,fd,F,r⟩:=c.ex
 exact⟨g,fd,F.imp Gn,r⟩
section
variable [Gr] {X:Cx}{k j:Nat}{x:Str}{ps:List Str}{e:Expr}{es:List Expr}{t:DA}{p pos:Pos}{C:Pn->Prop}{T:Pn}{i:Nat}{f:List D->(D->Prop)->Prop}
def NT (C:Pn->Prop) (T:Pn) (i:Nat) (f:List D->(D->Prop)->Prop) (t:DA):DE:=fun ρ P=>ρ[i]?=some (.pen (CT C T))/\t ρ fun ks=>f (ks.map (·.2)) fun d=>P (norm .new d) d
theorem Ii:∀ σ H Q,bI (NT C T i f t) σ H Q->oX (spT T f) [] E0 (gW t) σ H Q:=by
 rintro σ H Q ⟨q,H0,own,ρ,P,E,⟨hi,t⟩,k⟩
 obtain⟨_,p,c,ap,rfl⟩:=E.slot i _ hi
 refine⟨_,H0,own,ρ,_,E,t,fun ks vs H1 h A r=>?_⟩
 show spT T f (vs++[]) H1 Q E0
 rw [ù]
 refine⟨ks.map (·.2),_,A.pen.2,(RpK.rps A r).mono (fun _ o z=>o (.inr z)) (fun _ _ _ e=>e) (fun _ _ e=>e),h,fun d v H' h2 kp pi' r2=>?_⟩
 have k2:Kp (p.plus T) H1 H':=fun b o e n=>kp b o e fun z=>n (.inr z)
 refine k _ d v H' h2 (A.go k2 ⟨p.mono H1 H' A.pen.1 fun b o z e=>kp b o e fun y=>?_,pi'⟩) (aV ?_)
 ·rcases z with z | z
  ·exact ap H1 A.pen.1 A.pen.2 b z y
  ·exact HW A.pen.2 e z y
 ·exact r2.mono (fun a o=>A.free o) (fun _ _ _ e=>e) fun _ _ e=>e
theorem dcT (CC:Cal X.prog X.w X.K X.mg X.base k x ps (spT T f)) (hr:Room j X.A) (ha:PDA X (e::es) t) (hk:k<=j:=by decide) (hg:Gl X x:=by rfl)
  (hdb:zB x:=by decide) (he:zS X e es:=by rfl) (hpl:zP X pos es:=by rfl) :
  PD X (.Call (.Name x p) (e::es) [] pos) (NT C T i f t):=PE.wk (pcS CC hr ha hk hg hdb he hpl) Ii
end
def grZ (Z:Hp->Prop):Gr:=⟨fun p H0=>p=fJ/\Z H0⟩
def spZ (Z:Hp->Prop) (g:List D->(D->Prop)->Prop):Sp:=fun vs H Q E=>Z H/\spD g vs H Q E
def NQ (i:Nat) (f:Addr) (g:List D->(D->Prop)->Prop) (t:DA):DE:=fun ρ P=>(∃ b,ρ[i]?=some (.scr (.ref f) b))/\t ρ fun ks=>g (ks.map (·.2)) fun d=>P (norm .new d) d
section
variable {X:Cx}{k j:Nat}{x:Str}{ps:List Str}{e:Expr}{es:List Expr}{t:DA}{p pos:Pos}{Z:Hp->Prop}{i:Nat}{f:Addr}{fd:FuncData}{g:List D->(D->Prop)->Prop}
theorem Ig (hZ:∀ H H',Z H->Same H H'->Z H'):∀ σ H Q,@bI (grZ Z) (NQ i f g t) σ H Q->Gk i f (spZ Z g) E0 (@gW (grZ Z) t) σ H Q:=by
 letI:=grZ Z
 rintro σ H Q ⟨q,H0,own,ρ,P,E,⟨⟨b,hi⟩,t⟩,k⟩
 obtain⟨rfl,z⟩:=E.gr
 refine⟨(E.slot i _ hi).1,fJ,H0,own,ρ,_,E,t,fun ks vs H1 h A r=>?_⟩
 have sm:Same H0 H1:=fun b o e=>A.kp b o (E.k0 b o e fun z=>z) fun z=>z
 refine⟨hZ _ _ z sm,ks.map (·.2),_,(RpK.rps A r).mono (fun _ _=>trivial) (fun _ _ _ e=>e) (fun _ _ e=>e),h,fun d v H' h2 s r2=>?_⟩
 exact k _ d v H' h2 (A.go (Kp.of s) trivial) (aV (r2.mono (fun a o=>A.free o) (fun _ _ _ e=>e) fun _ _ e=>e))
theorem dcV (hZ:∀ H H',Z H->Same H H'->Z H') (F:FnOk X.prog X.w X.K X.mg X.base CX0 k f fd ps (spZ Z g)) (hf:W.FnAt f X.base) (hr:Room j X.A) (hb:Binds X.K fd ps []) (hv:PE X (.Name x p) (iy i)) (ha:@PDA (grZ Z) X (e::es) t) (hk:k<=j)
  (he:zS X e es:=by rfl) (hpl:zP X pos es:=by rfl) :
  @PD (grZ Z) X (.Call (.Name x p) (e::es) [] pos) (NQ i f g t):=PE.wk (G8 F hf (hr.mono hk) hb Ms hv ha he hpl) (Ig hZ)
theorem Qw {N:List Str}{H:Hp}{n:Int}{m:Nat} (z:Z H) (hN:N.length=m+2):@EnvD (grZ Z) fJ H (fun _=>none) (L2.start N [.int n,.ref f]) H (.im (.int n)::.scr (.ref f) false::É m .any):=by
 letI:=grZ Z
 refine⟨fun _ _ e _=>e,trivial,(fun _ _ e=>(nomatch e)),fun q s e=>?_,?_,⟨rfl,z⟩⟩
 ·match q,e with
  | 0,e=>cases e; exact⟨.int n,rfl,.int n⟩
  | 1,e=>cases e; exact⟨rfl,fun z=>(nomatch z)⟩
  | q+2,e =>
   have e:(É m Sl.any)[q]?=some s:=e
   have:=(Ļ.mp (Ì e)).2
   subst this
   trivial
 ·unfold L2.start
  simp [hN]
end
def Hand (P:Program) (w:World) (K:Ú) (mg:Str->Option Value) (base:Heap) (kl:Nat) (f:Addr) (ps:List Str) (Z:Hp->Prop) (g:List D->(D->Prop)->Prop):Prop:=∃ fd,FnOk P w K mg base CX0 kl f fd ps (spZ Z g)/\W.FnAt f base/\Binds K fd ps []/\∀ H H',Z H->Same H H'->Z H'
def spF (P:Program) (w:World) (K:Ú) (mg:Str->Option Value) (base:Heap) (kl:Nat) (ps:List Str) (t:(List D->(D->Prop)->Prop)->Int->(D->Prop)->Prop):Sp:=fun vs H Q _=>∃ (n:Int) (f:Addr) (Z:Hp->Prop) (g:List D->(D->Prop)->Prop) (Pd:D->Prop),vs=[.int n,.ref f]/\Hand P w K mg base kl f ps Z g/\Z H/\t g n Pd /\
 ∀ d v H',Pd d->Same H H'->Rp (fun a=>H a=none) H' v d->Q v H'
theorem Qz {Z:Hp->Prop}{T:DS}{N:List Str}{H:Hp}{Q:VK}{f:Addr}{n:Int}{m:Nat}{Pd:D->Prop} (z:Z H) (k:∀ d v H',Pd d->Same H H'->Rp (fun a=>H a=none) H' v d->Q v H') (hN:N.length=m+2)
  (body:T { nx:=fun _=>Pd .none,rt:=Pd } (.im (.int n)::.scr (.ref f) false::É m .any)):@j7 (grZ Z) T { nx:=fun _ H'=>Q .non H',rt:=Q } (L2.start N [.int n,.ref f]) H:=by
 letI:=grZ Z
 have sm:∀ H',(∀ b o,H b=some o->¬ fJ.fp b->H' b=some o)->Same H H':=fun H' k b o e=>k b o e fun z=>z
 exact⟨fJ,H,fun _=>none,_,_,Qw z hN,body,⟨fun o s h' r' e' _ n=>k _ _ h' n (sm h' e'.k0) .non,fun d v h' n w=>k d v h' n (sm h' w.k0) (w.rp.mono (fun _ o=>o.1) (fun _ _ _ e=>e) fun _ _ e=>e),fun _ _ _ _ _ _ n=>n.elim,fun _ _ _ _ _ _ n=>n.elim⟩⟩
end Dl
namespace Wr
open PySem L2 PyProof.Rows Dl
variable {X:Cx}{k j:Nat}{x:Str}{ps:List Str}{e:Expr}{es:List Expr}{t:DA}{p pos:Pos}{Z:Hp->Prop}{i:Nat}{f:Addr}{fd:FuncData}{g:List D->(D->Prop)->Prop}
theorem dcV (hZ:∀ H H',Z H->Same H H'->Z H') (F:FnOk X.prog X.w X.K X.mg X.base CX0 k f fd ps (spZ Z g)) (hf:W.FnAt f X.base) (hr:Room j X.A) (hb:Binds X.K fd ps []) (hv:WV X (.Name x p) i) (ha:@WDA (grZ Z) X (e::es) t) (hk:k<=j:=by decide)
  (he:zS X e es:=by rfl) (hpl:zP X pos es:=by rfl) :
  @WD (grZ Z) X (.Call (.Name x p) (e::es) [] pos) (NQ i f g t):=@WD.mk (grZ Z) _ _ _ (Dl.dcV hZ F hf hr hb hv.h (@WDA.h (grZ Z) _ _ _ ha) hk he hpl)
theorem dcT [Gr] {C:Pn->Prop}{T:Pn} (CC:Cal X.prog X.w X.K X.mg X.base k x ps (spT T g)) (hr:Room j X.A) (ha:WDA X (e::es) t) (hk:k<=j:=by decide) (hg:Gl X x:=by rfl)
  (hdb:zB x:=by decide) (he:zS X e es:=by rfl) (hpl:zP X pos es:=by rfl) :
  WD X (.Call (.Name x p) (e::es) [] pos) (NT C T i g t):=⟨Dl.dcT CC hr ha.h hk hg hdb he hpl⟩
end Wr
namespace Dl
open PySem L2 PyProof.Rows
def grU (T:Pn):Gr:=⟨fun p _=>p=T⟩
def Gi (f:List D->(D->Prop)->Prop) (t:DA):DE:=fun ρ P=>t ρ fun ks=>f (ks.map (·.2)) fun d=>P (norm .new d) d
section
variable {X:Cx}{k j:Nat}{x:Str}{ps:List Str}{e:Expr}{es:List Expr}{t:DA}{p pos:Pos}{T:Pn}{f:List D->(D->Prop)->Prop}
theorem Ih:∀ σ H Q,@bI (grU T) (Gi f t) σ H Q->oX (spT T f) [] E0 (@gW (grU T) t) σ H Q:=by
 letI:=grU T
 rintro σ H Q ⟨q,H0,own,ρ,P,E,t,k⟩
 have eq:q=T:=E.gr
 subst eq
 refine⟨_,H0,own,ρ,_,E,t,fun ks vs H1 h A r=>?_⟩
 show spT q f (vs++[]) H1 Q E0
 rw [ù]
 refine⟨ks.map (·.2),_,A.pen,(RpK.rps A r).mono (fun _ o z=>o z) (fun _ _ _ e=>e) (fun _ _ e=>e),h,fun d v H' h2 kp pi' r2=>?_⟩
 exact k _ d v H' h2 (A.go kp pi') (aV (r2.mono (fun a o=>A.free o) (fun _ _ _ e=>e) fun _ _ e=>e))
theorem dcU (CC:Cal X.prog X.w X.K X.mg X.base k x ps (spT T f)) (hr:Room j X.A) (ha:@PDA (grU T) X (e::es) t) (hk:k<=j:=by decide) (hg:Gl X x:=by rfl)
  (hdb:zB x:=by decide) (he:zS X e es:=by rfl) (hpl:zP X pos es:=by rfl) :
  @PD (grU T) X (.Call (.Name x p) (e::es) [] pos) (Gi f t):=PE.wk (pcS CC hr ha hk hg hdb he hpl) Ih
theorem Jo {Tm:DS}{N:List Str}{vs:List V}{H:Hp}{Q:VK}{E:XK} (h:spT T f vs H Q E)
  (body:∀ ds P,f ds P->∃ ρ,ds.map bx++É (N.length - ds.length) .any=ρ/\Tm { nx:=fun _=>P .none,rt:=P } ρ):@j7 (grU T) Tm { nx:=fun _ H'=>Q .non H',rt:=Q } (L2.start N vs) H:=by
 letI:=grU T
 obtain⟨ds,P,pi,r,t,q⟩:=h
 obtain⟨ρ,e,b⟩:=body ds P t
 have E:=jT (p:=T) (N:=N) rfl pi r
 rw [r.length,e] at E
 exact⟨T,H,fun _=>none,_,_,E,b,⟨fun o s h' r' e' _ n=>q _ _ h' n e'.k0 e'.pen .non,fun d v h' n w=>q d v h' n w.k0 w.pen (w.rp.mono (fun _ o=>o.1) (fun _ _ _ e=>e) fun _ _ e=>e),fun _ _ _ _ _ _ n=>n.elim,fun _ _ _ _ _ _ n=>n.elim⟩⟩
end
end Dl
namespace Wr
open PySem L2 PyProof.Rows Dl
variable {X:Cx}{k j:Nat}{x:Str}{ps:List Str}{e:Expr}{es:List Expr}{t:DA}{p pos:Pos}{T:Pn}{f:List D->(D->Prop)->Prop}
theorem dcU (CC:Cal X.prog X.w X.K X.mg X.base k x ps (spT T f)) (hr:Room j X.A) (ha:@WDA (grU T) X (e::es) t) (hk:k<=j:=by decide) (hg:Gl X x:=by rfl)
  (hdb:zB x:=by decide) (he:zS X e es:=by rfl) (hpl:zP X pos es:=by rfl) :
  @WD (grU T) X (.Call (.Name x p) (e::es) [] pos) (Gi f t):=@WD.mk (grU T) _ _ _ (Dl.dcU CC hr (@WDA.h (grU T) _ _ _ ha) hk hg hdb he hpl)
end Wr
namespace Dl
open PySem L2 PyProof.Rows
section
variable [Gr] {X:Cx}{st:Stmt}{i k a b:Nat}{f:List D->(D->Prop)->Prop}
def Nk (i k a b:Nat) (f:List D->(D->Prop)->Prop):DS:=fun P ρ=>∃ (r:Nat) (ds:List D) (ws:List Int) (n m:Int),ρ[i]?=some (.sp r true ds)/\ρ[k]?=some (.sh (iD ws))/\ρ[a]?=some (.im (.int n))/\ρ[b]?=some (.im (.int m))/\(∃ x y tl,ds=.tuple [x,y]::tl)/\ds.length<1000 /\
 f [iD ws,.list ds,.int n,.int m] fun d=>∃ (t:Int) (L:List Int),d=.tuple [.int t,iD L]/\L.length≠ws.length/\P.nx ((forget r ρ).set i (.sp r true (ds++[d])))
theorem v7 (h:PS X st (qp (tBM X.K "list" pQ (iy i) (oW (oX (spR f) [] E0 (oW (iy k) (oW (iy i) (oW (iy a) (oW (iy b) Gh))))) Gh)))):PDS X st (Nk i k a b f):=PS.wk' h (by
 rintro Q σ H ⟨p,H0,own,ρ,P,E,⟨r,ds,ws,n,m,hi,hk,ha,hb,⟨x,y,tl,hds⟩,hlen,hf⟩,w⟩
 obtain⟨l,vs,hv,o,ho,rs⟩:=E.slot i _ hi
 obtain⟨vw,hkσ,rw⟩:=E.slot k _ hk
 obtain⟨va,haσ,ra⟩:=E.slot a _ ha
 obtain⟨vb,hbσ,rb⟩:=E.slot b _ hb
 have ea:=ra.int'
 have eb:=rb.int'
 subst ea eb
 obtain⟨wl,wvs,rfl,okw,hw,rws⟩:=Rp.cj rw
 have ew:=Rps.ints rws
 subst ew
 refine⟨.ref l,hv,.inl ⟨rfl,vs,SqL.of ho⟩,.ref wl,hkσ,.ref l,hv,.int n,haσ,.int m,hbσ,?_⟩
 show spR f ([.ref wl,.ref l,.int n,.int m]++[]) H _ E0
 rw [ù]
 have A:=E.at
 refine⟨fun c=>okS p H0 own true c\/c=l\/c=wl,[iD ws,.list ds,.int n,.int m],_,.cons (.lst (.inr (.inr rfl)) hw (Rps.ofMap (fun x=>.int x) ws)) (.cons (.lst (.inr (.inl rfl)) ho (rs.mono (fun _ o=>.inl o) (fun _ _ _ e=>e) fun _ _ e=>e)) (.cons (.int n) (.cons (.int m) .nil))),hf,fun d v H' ⟨t,L,ed,hL,hn⟩ sm rp=>?_⟩
 subst ed
 obtain⟨ta,tvs,rfl,hta,rt⟩:=Rp.fC rp
 obtain⟨v1,v2,rfl,r1,r2⟩:=rt.two
 have e1:=r1.int'
 subst e1
 obtain⟨bb,bvs,rfl,okb,hbb,rbb⟩:=Rp.cj r2
 have e2:=Rps.ints rbb
 subst e2
 have nl:bb≠l:=fun z=>by
  rw [z,sm l _ ho] at hbb
  subst hds
  cases rs with
  | cons h t =>
   obtain⟨c,cvs,rfl,_⟩:=Rp.fC h
   cases L with
   | nil=>cases hbb
   | cons q L=>cases hbb
 have nw:bb≠wl:=fun z=>by
  rw [z,sm wl _ hw] at hbb
  have e:=congrArg List.length (HO.lst.inj (æ hbb))
  rw [Á,Á] at e
  exact hL e.symm
 have okb2:okS p H0 own true bb:=by
  rcases okb with (z | z | z) | z
  ·exact z
  ·exact absurd z nl
  ·exact absurd z nw
  ·exact⟨fun _=>A.h0 z,A.nfp z,A.Hj z⟩
 have A2:At p H0 own H H':=A.go (Kp.of sm) (p.mono H H' E.pen fun b o _ e=>sm b o e)
 have E1:=E.go A2.kp A2.pen
 have h1:H' l=some (.lst vs):=sm l _ ho
 have rs1:Rps (okS p H0 own true) H' vs ds:=rs.mono (fun _ o=>o) (fun c u n e=>sm c u e) fun _ _ e=>sm _ _ e
 have rv:Rp (okS p H0 own true) H' (.ref ta) (.tuple [.int t,iD L]):=.tup hta (.cons (.int t) (.cons (.lst okb2 hbb (Rps.ofMap (fun x=>.int x) L)) .nil))
 have hln:=rs.length
 have h24:=ê
 refine⟨l,vs,.ref ta,rfl,rfl,h1,by omega,?_⟩
 obtain⟨E2,F2⟩:=E1.Ka (b:=true) hv o h1 (rs1.snoc rv)
 exact w.nx _ σ _ _ E2 (A2.frs.trans F2) hn)
end
end Dl
namespace Wr
open PySem L2 PyProof.Rows Dl
section
variable [Gr] {X:Cx}{i k a b lv j:Nat}{f:List D->(D->Prop)->Prop}{x g y z1 z2:Str}{ps:List Str}{apos cpos np pos gp gpos py px pa pb:Pos}
theorem v7 (C:Cal X.prog X.w X.K X.mg X.base lv g ps (spR f)) (hr:Room j X.A) (hv:WV X (.Name x np) i) (hy:WV X (.Name y py) k) (hx:WV X (.Name x px) i) (h1:WV X (.Name z1 pa) a) (h2:WV X (.Name z2 pb) b) (hk:lv<=j:=by decide) (hg:Gl X g:=by rfl) (hdb:zB g:=by decide)
  (hbase:attributeBase (.Name x np) "append" X.env (eval (.Name x np) X.env)=eval (.Name x np) X.env:=by rfl)
  (hfew:((backTo cpos (starEach [.Call (.Name g gp) [.Name y py,.Name x px,.Name z1 pa,.Name z2 pb] [] gpos] X.env)).all (fun x=>!x.1)&&(backToKw cpos (keywordEach [] X.env)).all (fun x=>x.1.isSome)
  &&decide (([.Call (.Name g gp) [.Name y py,.Name x px,.Name z1 pa,.Name z2 pb] [] gpos]:List Expr).length+([]:List Keyword).length+(if ([]:List Keyword).isEmpty then 0 else 1)<30))=true:=by rfl)
  (hline:(apos.endLine == cpos.line)=true:=by rfl)
  (hs:swapsWith (.Call (.Attribute (.Name x np) "append" apos) [.Call (.Name g gp) [.Name y py,.Name x px,.Name z1 pa,.Name z2 pb] [] gpos] [] cpos) none pos.line X.env=pure false:=by rfl) :
  WDS X (.Expr (.Call (.Attribute (.Name x np) "append" apos) [.Call (.Name g gp) [.Name y py,.Name x px,.Name z1 pa,.Name z2 pb] [] gpos] [] cpos) pos) (Nk i k a b f) :=
 ⟨Dl.v7 (bV (gO ó ī Ī dR hv.h (cD (pcS C hr (cD hy.h (cD hx.h (cD h1.h (cD h2.h gG)))) hk hg hdb rfl rfl) gG) hbase hfew hline rfl rfl) hs)⟩
end
end Wr
open Wr renaming aj → À,ak → Å,dv → Ê,aK → Ó,aC → Õ,aH → ð,aU → ñ,Hg → ò,cU → ö,bB → ā,dJ → Č,rJ → ĕ,uZ → Ę,bF → Ĝ,jA → ĭ,dM → ĵ,dB → Ņ,kJ → Ň,gn → ŋ,wv → Ř,eO → Ś,cQ → ś,xG → Ş,j5 → ţ,dc → Ť,gj → ŵ
open Dl renaming Cal → ø,Lj → Ĵ,Bn → ļ,Ei → ř,any_ints → Ŧ
open L2 renaming Qn → ď,BK → ŗ,qC → Ÿ
open Wr.WDSs renaming h → ĝ
open Dl.Cal renaming plus → Ű
open L2.V renaming int → Ž
namespace L2
open PySem PySem.Spec PyProof.Rows
theorem Ej {P:Program}{w:World}{K:Ú}{mg mb:Str->Option Value}{k:Nat}{fa a c PT:Addr}{fd:FuncData}{x:Str}{sp:Sp}{s₁:Shared}{vs:List Value}{ns:List Int}
  (KX:K.In s₁.heap) (hKP:K.lookup PT=none) (hC:W.CodeHd s₁.heap c PT) (hPT:s₁.heap.get? PT=some (W.tabObj #[])) (hns:s₁.heap.Ns mainGlobals mg) (hb:s₁.heap.Ns builtinsNs mb) (hbb:∀ x:Str,x≠"__name__"->mb x=bootBuiltins x) (hlim:s₁.heap.NoLimit) (hBm:s₁.heap.BuiltinsAt mg PT) (hg:s₁.gens=#[])
  (ha:s₁.heap.get? a=some { cls:=.type "list",data:=.seq vs.toArray }) (hi:IntsAre vs ns) (hl:ns.length<=sizeLine) (hr:Room k callerA)
  (F:∀ base:Heap,K.In base->base.Ns mainGlobals mg->base.BuiltinsAt mg PT->FnOk P w K mg base CX0 k fa fd [x] sp) (hbind:∀ (s:Shared) (u:Value),BindsTo s fd ⟨[u],[]⟩ [(x,u)])
  (hsp:∀ H:Hp,SqL K H a (ns.map Ž)->H PT=some (.tbl #[])->sp [.ref a] H (fun v _=>v=.bl true) fun _ _ _=>False) :
  codeAny (model P w) callerA (.call (.ref fa) ⟨[.ref a],[]⟩) (fun r s'=>r=.ok (.ret (.bool true))/\OldK s₁.heap s'.heap/\s'.os=s₁.os/\AllBare s'.gens) s₁:=by
 have rv:=nC hi
 have lenV:=hi.length
 have aP:a≠PT:=fun z=>by rw [z,hPT] at ha; cases ha
 have core:∀ H:Hp,SqL K H a (ns.map Ž)->HOk P w H s₁.heap->H PT=some (.tbl #[])->(∀ b u,H b=some u->b≠PT->b=a/\K.lookup a=none/\∃ o u',u=.frz o u') ->
   codeAny (model P w) callerA (.call (.ref fa) ⟨[.ref a],[]⟩) (fun r s'=>r=.ok (.ret (.bool true))/\OldK s₁.heap s'.heap/\s'.os=s₁.os/\AllBare s'.gens) s₁:=by
  intro H hS hok hT hA
  have nD:∀ {b:Addr}{o:Obj}{es:Array DictEntry}{ep:Nat},s₁.heap.get? b=some o->o.data=.dict es ep->H b=none:=fun {b o es ep} e d=>by
   cases q:H b with
   | none=>rfl
   | some u =>
    by_cases z:b=PT
    ·rw [z,hPT] at e; cases e; cases d
    ·have:=(hA b u q z).1
     subst this
     rw [ha] at e; cases e; cases d
  have nsK:∀ {b:Addr}{m:Str->Option Value},s₁.heap.Ns b m->(vO s₁.heap H).Ns b m:=fun {b m} ⟨o,es,ep,e,d,r⟩=>⟨o,es,ep,rC e (nD e d),d,r⟩
  have hKb:K.In (vO s₁.heap H):=fun b o e=>rC (KX b o e) (by
   cases q:H b with
   | none=>rfl
   | some u =>
    by_cases z:b=PT
    ·rw [z,hKP] at e; cases e
    ·obtain⟨z1,z2,_⟩:=hA b u q z
     rw [z1,z2] at e; cases e)
  have hM:Mod K mg (vO s₁.heap H):=⟨hKb,nsK hns,⟨mb,nsK hb,hbb⟩,let ⟨mc,h1,h2⟩:=hlim; ⟨mc,nsK h1,h2⟩⟩
  have e0:Env0 P w K mg (vO s₁.heap H) callerA [] s₁ H:=⟨rfl,hM,fun b o e=>K6 e,Nat.le_of_eq (Et _ _),trivial,fun b hb=>absurd (show b∈([]:List Addr) from hb) (by simp),hok,.of_eq hg⟩
  have hBb:(vO s₁.heap H).BuiltinsAt mg PT:=by
   obtain⟨bm,o,h1,h2,h3,h4,h5,h6,h7⟩:=hBm
   refine⟨bm,o,h1,h2,h3,h4,rC h5 ?_,h6,h7⟩
   cases q:H bm with
   | none=>rfl
   | some u =>
    have:=(hA bm u q h4).1
    subst this
    rw [ha] at h5; cases h5
    have h6:Đ "list"=Đ "module":=h6
    exact absurd h6 (by decide)
  refine codeAny_mono ((F _ hKb (nsK hns) hBb).run callerA [] s₁ H ⟨[.ref a],[]⟩ [.ref a] [.ref a] _ _ hr e0 (hbind s₁ (.ref a)) (.cons rfl .nil) (hsp H hS hT)) fun r s' h=>?_
  cases r with
  | error e=>exact h.elim
  | ok fl =>
   cases fl with
   | next=>exact ń h
   | brk=>exact ń h
   | cont=>exact ń h
   | ret u =>
    obtain⟨v,H',os,bare,un,hok',r',q⟩:=h
    have q':v=.bl true:=q
    subst q'
    obtain rfl:u=Value.bool true:=r'
    obtain⟨more,hT'⟩:=un.tbls PT _ hT
    have eT:s'.heap.get? PT=some { cls:=.none,data:=.fields (#[]++more) }:=hok' PT _ hT'
    have kept:∀ b o,s₁.heap.get? b=some o->b≠PT->s'.heap.get? b=some o:=fun b o e nb=>by
     cases q:H b with
     | none=>exact un.keep b o e q (by intro z; exact absurd (show b∈([]:List Addr) from z) (by simp)) (by simp)
     | some u =>
      obtain⟨_,_,ob,u',rfl⟩:=hA b u q nb
      have e1:=(hok b _ q).1
      rw [e] at e1; cases e1
      exact (hok' b _ (un.frzs b _ _ q)).1
    refine⟨rfl,⟨fun b o e=>?_,fun b o e=>?_⟩,os,bare⟩
    ·by_cases z:b=PT
     ·subst z
      rw [hPT] at e
      cases e
      exact .inr (.inl ⟨(hC.tab hPT).isCodeTable,rfl,#[],more,rfl,eT⟩)
     ·exact .inl (kept b o e z)
    ·by_cases z:b=PT
     ·subst z; exact⟨_,eT⟩
     ·exact⟨o,kept b o e z⟩
 cases hk:K.lookup a with
 | some o =>
  have e:=KX a o hk
  rw [ha] at e
  cases e
  refine core (fun b=>if b=PT then some (.tbl #[]) else none) (.inr ⟨_,vs.toArray,_,hk,rfl,rfl,rfl,by rw [Ñ,lenV]; exact hl,by simpa using rv⟩) (fun b u z=>?_) (if_pos rfl) fun b u z nb=>?_
  ·by_cases hb:b=PT
   ·have z':=(if_pos hb).symm.trans z
    cases z'
    subst hb
    exact hPT
   ·have z':=(if_neg hb).symm.trans z
    cases z'
  ·have z':=(if_neg nb).symm.trans z
   cases z'
 | none =>
  let H:Hp:=fun b=>if b=PT then some (.tbl #[]) else if b=a then some (.frz { cls:=.type "list",data:=.seq vs.toArray } (.lst (ns.map Ž))) else none
  have hP1:H PT=some (.tbl #[]):=if_pos rfl
  have hA1:H a=some (.frz { cls:=.type "list",data:=.seq vs.toArray } (.lst (ns.map Ž))):=(if_neg aP).trans (if_pos rfl)
  have hN1:∀ b,b≠PT->b≠a->H b=none:=fun b h1 h2=>(if_neg h1).trans (if_neg h2)
  refine core H (.inl (.inr ⟨_,hA1⟩)) (fun b u z=>?_) hP1 fun b u z nb=>?_
  ·by_cases hb:b=PT
   ·subst hb
    rw [hP1] at z
    cases z
    exact hPT
   ·by_cases hb2:b=a
    ·subst hb2
     rw [hA1] at z
     cases z
     exact⟨ha,by rw [Á]; exact hl,vs,_,rv,ha⟩
    ·rw [hN1 b hb hb2] at z; cases z
  ·by_cases hb2:b=a
   ·subst hb2
    rw [hA1] at z
    cases z
    exact⟨rfl,hk,_,_,rfl⟩
   ·rw [hN1 b nb hb2] at z; cases z
theorem FQ {l:W.OpenLaw}{n k:Nat}{q:Program}{loose:List Str}{XP:(Str->Option Value)->Heap->Prop}{YP:World->Heap->Prop}{d:DefRec}{K:Params->Ú}{x:Str}
  (hn:l.most=some n) (hn2:n<=sizeLine) (hdf:d.params.defaults=[]) (hr:Room k callerA) (hY:∀ (w:World) (h:Heap),YP w h->(K w.params).In h)
  (F:∀ (w:World) (mg:Str->Option Value) (fa:Addr) (h:Heap),(K w.params).In h->h.Ns mainGlobals mg->mg d.name=some (.ref fa) ->
   ∃ (K':Ú) (c PT:Addr) (fd:FuncData) (sp:Sp),K'.In h/\K'.lookup PT=none/\W.CodeHd h c PT/\h.get? PT=some (W.tabObj #[])/\(∀ (s:Shared) (u:Value),BindsTo s fd ⟨[u],[]⟩ [(x,u)]) /\
    (∀ base:Heap,K'.In base->base.Ns mainGlobals mg->base.BuiltinsAt mg PT->FnOk l.prog w K' mg base CX0 k fa fd [x] sp)/\∀ (H:Hp) (a:Addr) (ns:List Int),SqL K' H a (ns.map Ž)->H PT=some (.tbl #[])->sp [.ref a] H (fun v _=>v=.bl true) fun _ _ _=>False) :
  W.WalkO q loose XP YP l.row.toRowW d [] (fun f vs=>PySem.call f vs):=by
 refine Att.yM hn hdf fun w s₀ s₁ mg mb fa o pm cd doc a vs ns G Y ho hd hcd hmg hobj hints hlen hg=>?_
 obtain⟨K',c,PT,fd,sp,k1,k2,k3,k4,hb,hF,hsp⟩:=F w mg fa _ (hY w _ Y) G.T.g hmg
 have hBm:s₁.heap.BuiltinsAt mg PT:=by
  obtain⟨bm,ob,b1,b2,b3,b4,b5,b6⟩:=G.T.bmain
  have n1:bm≠PT:=fun z=>by rw [z,k4] at b3; cases b3; cases b4
  have n2:bm≠mainGlobals:=fun z=>by
   obtain⟨o,es,ep,e,hd,_⟩:=G.T.g
   rw [z,e] at b3; cases b3; rw [hd] at b6; cases b6
  exact⟨bm,ob,b1,b2,n2,n1,b3,b4,b5,b6⟩
 exact Ej k1 k2 k3 k4 G.T.g G.T.b G.T.builtins G.T.nolimit hBm hg hobj hints (þ hlen hn2) hr hF hb fun H hS hT=>hsp H a ns hS hT
section
variable {K:Ú}{PT b f:Addr}{h:Heap}
end
theorem Nx {K:Ú}{PT:Addr}{h:Heap} (X:W.Frag.In ((([PT]:List Addr).map fun a=>(a,W.tabObj #[]))++K) h) (n:K.lookup PT=none):K.In h/\h.get? PT=some (W.tabObj #[]):=by
 refine⟨fun a o e=>X a o ?_,X PT _ ?_⟩
 ·have:a≠PT:=fun z=>by rw [z,n] at e; cases e
  show ų a ((PT,W.tabObj #[])::K)=some o
  rw [ï,show (a == PT)=false by simpa using this]
  exact e
 ·show ų PT ((PT,W.tabObj #[])::K)=_
  rw [ï,beq_self_eq_true]
end L2
namespace Nf
open PySem PySem.W PyProof.Rows
def pO (tb:String->Option Builtin) (p:Program) (w:World) (m:Nat) (ann:Option Value):Nat->SharedT->Thread->Option SharedT
 | 0,_,_=>none
 | n+1,s,t=>match through t with
  | true=>some s
  | false=>match stepOk m ann t with
   | false=>none
   | true=>match stepT (denote tb) p w s t with
    | none=>none
    | some r=>pO tb p w m ann n r.1 r.2
theorem sW {tb:String->Option Builtin}{p:Program}{w:World}{m:Nat}{ann:Option Value}:∀ {n:Nat}{s s':SharedT}{t:Thread},pO tb p w m ann n s t=some s'->topRun tb p w m ann n s.abs t=some s'.abs
 | 0,_,_,_,h=>by cases h
 | n+1,s,s',t,h=>by
  unfold pO at h
  unfold topRun
  cases he:through t with
  | true=>rw [he] at h; cases h; rfl
  | false =>
   rw [he] at h
   cases hk:stepOk m ann t with
   | false=>rw [hk] at h; cases h
   | true =>
    rw [hk] at h
    cases hs:stepT (denote tb) p w s t with
    | none=>rw [hs] at h; cases h
    | some r=>obtain⟨s2,t2⟩:=r; rw [hs] at h; rw [stepT_spec hs]; exact sW h
def rF (P:Params):List DictEntry:=match (ŭ P).data with | .dict es _=>es.toList | _=>[]
def gZ (P:Params) (i:Nat):List DictEntry:=((rF P).drop i).take 16
def b0 (P:Params):List DictEntry:=by
 refine (?f:(l:List DictEntry)->l=gZ P 0->List DictEntry) ?l ?h
 case f=>exact fun l _=>l
 case h=>unfold gZ rF ŭ; dsimp only [ť,ŝ]; exact rfl
def b1 (P:Params):List DictEntry:=by
 refine (?f:(l:List DictEntry)->l=gZ P 16->List DictEntry) ?l ?h
 case f=>exact fun l _=>l
 case h=>unfold gZ rF ŭ; dsimp only [ť,ŝ]; exact rfl
def b2 (P:Params):List DictEntry:=by
 refine (?f:(l:List DictEntry)->l=gZ P 32->List DictEntry) ?l ?h
 case f=>exact fun l _=>l
 case h=>unfold gZ rF ŭ; dsimp only [ť,ŝ]; exact rfl
def b3 (P:Params):List DictEntry:=by
 refine (?f:(l:List DictEntry)->l=gZ P 48->List DictEntry) ?l ?h
 case f=>exact fun l _=>l
 case h=>unfold gZ rF ŭ; dsimp only [ť,ŝ]; exact rfl
def b4 (P:Params):List DictEntry:=by
 refine (?f:(l:List DictEntry)->l=gZ P 64->List DictEntry) ?l ?h
 case f=>exact fun l _=>l
 case h=>unfold gZ rF ŭ; dsimp only [ť,ŝ]; exact rfl
def b5 (P:Params):List DictEntry:=by
 refine (?f:(l:List DictEntry)->l=gZ P 80->List DictEntry) ?l ?h
 case f=>exact fun l _=>l
 case h=>unfold gZ rF ŭ; dsimp only [ť,ŝ]; exact rfl
def b6 (P:Params):List DictEntry:=by
 refine (?f:(l:List DictEntry)->l=gZ P 96->List DictEntry) ?l ?h
 case f=>exact fun l _=>l
 case h=>unfold gZ rF ŭ; dsimp only [ť,ŝ]; exact rfl
def b7 (P:Params):List DictEntry:=by
 refine (?f:(l:List DictEntry)->l=gZ P 112->List DictEntry) ?l ?h
 case f=>exact fun l _=>l
 case h=>unfold gZ rF ŭ; dsimp only [ť,ŝ]; exact rfl
def b8 (P:Params):List DictEntry:=by
 refine (?f:(l:List DictEntry)->l=gZ P 128->List DictEntry) ?l ?h
 case f=>exact fun l _=>l
 case h=>unfold gZ rF ŭ; dsimp only [ť,ŝ]; exact rfl
def b9 (P:Params):List DictEntry:=by
 refine (?f:(l:List DictEntry)->l=gZ P 144->List DictEntry) ?l ?h
 case f=>exact fun l _=>l
 case h=>unfold gZ rF ŭ; dsimp only [ť,ŝ]; exact rfl
def bo0 (P:Params):Obj:={ cls:=.type "dict",data:=.dict ⟨b0 P++(b1 P++(b2 P++(b3 P++(b4 P++(b5 P++(b6 P++(b7 P++(b8 P++(b9 P)))))))))⟩ 159 }
theorem QK:ŭ=bo0:=by funext P; kernel_rfl
def JF (P:Params):Heap:={ objs:=⟨[bo0 P,boot_o_1 P,boot_o_2 P,boot_o_3 P,boot_o_4 P,boot_o_5 P,boot_o_6 P,boot_o_7 P,boot_o_8 P,boot_o_9 P,boot_o_10 P]⟩ }
theorem yK:Ő=JF:=by
 funext P
 show Heap.mk ⟨ŭ P::_⟩ _=_
 rw [QK]
 rfl
def yJ (P:Params):BT:=((((((((((BT.nil.ins 0 (bo0 P)).ins 1 (boot_o_1 P)).ins 2 (boot_o_2 P)).ins 3 (boot_o_3 P)).ins 4 (boot_o_4 P)).ins 5 (boot_o_5 P)).ins 6 (boot_o_6 P)).ins 7 (boot_o_7 P)).ins 8 (boot_o_8 P)).ins 9 (boot_o_9 P)).ins 10 (boot_o_10 P)
def M5:Life:={}
theorem Fv (P:Params):absHeap (yJ P) 11 M5=Ő P:=by rw [yK]; kernel_rfl
def yW (w:World) (os:OsState):SharedT:=⟨yJ w.params,11,M5,#[],boot_drawn,boot_toks,os⟩
theorem Dp (w:World) (os:OsState):(yW w os).abs=⟨Ő w.params,#[],boot_drawn,boot_toks,os⟩:=by
 unfold yW SharedT.abs
 dsimp only
 rw [Fv]
def Bl (P:Params):=((Ő P).isNs mainGlobals,(Ő P).objs.size,(Ő P).nsMap mainGlobals "__annotations__")
theorem yZ:Bl=Bl:=rfl
end Nf
name_quick sizeQ for Nf.Bl by Nf.yZ
namespace Nf
open PySem PySem.W PyProof.Rows
theorem Fw (w:World):((Ő w.params).isNs mainGlobals,(Ő w.params).objs.size,(Ő w.params).nsMap mainGlobals "__annotations__")=(true,11,some (.ref 6)):=by
 show Bl w.params=_
 rw [W.Fast.sizeQ_eq]
 kernel_rfl
def Ds (p:Program) (N:Nat) (w:World) (os:OsState):=pO treeTable p w 11 (some (.ref 6)) N (yW w os) (topStub p)
def Gu (p q:Program) (Xt:Shared->Bool) (w:World) (s:Shared) :=
 (staticsOk (importedModules p.main.body) (JF w.params) s.heap&&namesBound p s.heap&&gensDone s&&laidKept (JF w.params) s.heap,openSeen q [] (importedModules p.main.body) Xt true s)
theorem Ln {p q:Program}{Xt:Shared->Bool}{β:Type}{Yf:Shared->List β}{Ya:World->List β}{N:Nat} (k:Nat)
  (open_:∀ w:World,(fencedOpening treeTable p w N).map (fun s=>(s.heap,s.gens,s.drawn,s.toks))=some (Ő w.params,Array.mk [],boot_drawn,boot_toks))
  (look:∀ (w:World) (os:OsState),(Ds p N w os).map (fun s=>Gu p q Xt w s.abs)=some (true,openGood q []))
  (front:∀ (w:World) (os:OsState),(Ds p N w os).map (fun s=>(Yf s.abs).take k)=some ((Ya w).take k))
  (back:∀ (w:World) (os:OsState),(Ds p N w os).map (fun s=>(Yf s.abs).drop k)=some ((Ya w).drop k)):LeftO p q [] Xt Yf Ya N:=fun w=>by
 obtain⟨⟨h,gs,d,j,os⟩,e,e'⟩:=Option.map_eq_some_iff.mp (open_ w)
 obtain⟨rfl,rfl,rfl,rfl⟩:h=Ő w.params/\gs=#[]/\d=boot_drawn/\j=boot_toks:=by simpa using e'
 obtain⟨z1,z2,z3⟩:_/\_/\_:=by simpa only [Prod.mk.injEq] using Fw w
 obtain⟨s,hs,l⟩:=Option.map_eq_some_iff.mp (look w os)
 have l4:(Yf s.abs).take k=(Ya w).take k:=by
  have:=front w os
  rw [hs] at this
  exact æ this
 have l5:(Yf s.abs).drop k=(Ya w).drop k:=by
  have:=back w os
  rw [hs] at this
  exact æ this
 have l3:Yf s.abs=Ya w:=by rw [← Ŋ k (Yf s.abs),l4,l5,Ŋ]
 unfold Gu at l
 rw [← yK] at l
 obtain⟨l1,l2⟩:=Prod.mk.inj l
 have r:=sW hs
 rw [Dp] at r
 have t:topFrom treeTable p w N ⟨Ő w.params,#[],boot_drawn,boot_toks,os⟩=some s.abs:=by
  unfold topFrom
  dsimp only
  rw [z1,z2,z3,r]
  show (match staticsOk (importedModules p.main.body) (Ő w.params) s.abs.heap&&namesBound p s.abs.heap&&gensDone s.abs&&laidKept (Ő w.params) s.abs.heap with | true=>_ | false=>_)=_
  rw [l1]
 unfold openEnds
 rw [e]
 show (topFrom treeTable p w N _).map _=_
 rw [t]
 exact congrArg some (Prod.ext l2 l3)
end Nf
namespace Nf
open PySem L2 PyProof.Rows Dl
def top (i:Nat):Stmt:=PySem.Challenge.pw_nofall_k31_whole_fewest_ties.main.body.getD i (.Pass ⟨0,0,0,0⟩)
structure Proper (n:Int) (l:List Int):Prop where
 one:1<=l.length
 few:(l.length:Int)<n
 rng:∀ x∈l,0<=x/\x<n
 rise:l.Pairwise (·<·)
 n16:n<=16
def M9 (ds:List D) (P:D->Prop):Prop:=∃ l:List Int,ds=[.list (l.map Â)]/\l.length<=400/\P (.list ((l.dropLast.zip (l.drop 1)).map pD))
def toI:D->Int
 | .int i=>i
 | _=>0
def tE (l:List Int):Bool:=(l.dropLast.zip (l.drop 1)).all fun t=>decide (t.1<t.2)
def J7 (m:Int):D->Bool
 | .list es=>es.all (cW m)&&tE (es.map toI)
 | _=>false
def SN (n:Int):D->Bool
 | .list es=>decide ((1:Int)<=(es.length:Nat))&&decide (((es.length:Nat):Int)<n)
 | _=>false
def cC (n:Int) (d:D):Bool:=J7 n d&&SN n d
def Few (d:D):Prop:=∀ es,d=.list es->es.length<=400
def Cw (ds:List D) (P:D->Prop):Prop:=∃ m d,ds=[.int m,d]/\Few d/\P (.bool (J7 m d))
def vU (ds:List D) (P:D->Prop):Prop:=∃ n d,ds=[.int n,d]/\Few d/\P (.bool (cC n d))
def Jj (ds:List D) (P:D->Prop):Prop:=∃ n us l,ds=[aR n us,.list (l.map Â)]/\Proper n l/\P .none
def lv (l:List Int) (t:Tie):Bool:=decide (t.1∈l) != decide (t.2∈l)
def Tj (ds:List D) (P:D->Prop):Prop:=∃ n us l,ds=[aR n us,.list (l.map Â)]/\Proper n l/\us.length<=100/\P (.list ((us.filter (lv l)).map pD))
def Jh (ds:List D) (P:D->Prop):Prop:=∃ n us l,ds=[aR n us,.list (l.map Â)]/\Proper n l/\us.length<=100/\P (.int ((us.filter (lv l)).length:Nat))
def Cz (ds:List D) (P:D->Prop):Prop:=∃ n us l fa,ds=[aR n us,.int fa,.list (l.map Â)]/\Proper n l/\us.length<=100/\P (.int (if 0 > fa+1 - ((us.filter (lv l)).length:Nat) then 0 else fa+1 - ((us.filter (lv l)).length:Nat)))
theorem Es {l:List Int} (h:l.Pairwise (·<·)):∀ t∈l.dropLast.zip (l.drop 1),t.1<t.2:=by
 intro t ht
 obtain⟨i,hi,e⟩:=List.mem_iff_getElem.mp ht
 have h1:i<l.length - 1:=by
  rw [List.length_zip,ĳ,õ] at hi
  omega
 rw [List.getElem_zip] at e
 have e1:l.dropLast[i]'(by rw [ĳ]; exact h1)=l[i]:=List.getElem_dropLast _
 have e2:(l.drop 1)[i]'(by rw [õ]; exact h1)=l[1+i]:=List.getElem_drop
 rw [← e]
 simp only [e1,e2]
 exact (List.pairwise_iff_getElem.mp h) i (1+i) (by omega) (by omega) (by omega)
theorem Fx {n:Int}{d:D} (h:cW n d=true):∃ i:Int,d=.int i:=by
 cases d with
 | int i=>exact⟨i,rfl⟩
 | _=>cases h
theorem wC (d:D):bx d=.im d\/bx d=.sh d:=by
 unfold bx
 by_cases h:iY d=true
 ·rw [if_pos h]; exact .inl rfl
 ·rw [if_neg h]; exact .inr rfl
theorem ints_of {n:Int}:∀ {es:List D},es.all (cW n)=true->es=(es.map toI).map Â
 | [],_=>rfl
 | d::es,h=>by
  rw [List.all_cons,Ý] at h
  obtain⟨i,rfl⟩:=Fx h.1
  have:=ints_of h.2
  rw [ã,ã,← this]
  rfl
theorem uE (l:List Int):(l.map Â).map toI=l:=by rw [ý]; exact List.map_id' l
theorem qD {n:Int}{l:List Int} (h:Proper n l):cC n (.list (l.map Â))=true:=by
 have h1:=h.one
 have h2:=h.few
 have e1:(l.map Â).all (cW n)=true:=ċ.mpr fun d hd=>by
  obtain⟨x,hx,rfl⟩:=é.mp hd
  exact decide_eq_true (h.rng x hx)
 have e2:tE l=true:=ċ.mpr fun t ht=>decide_eq_true (Es h.rise t ht)
 show (((l.map Â).all (cW n)&&tE ((l.map Â).map toI))&&(decide ((1:Int)<=((l.map Â).length:Nat))&&decide ((((l.map Â).length:Nat):Int)<n)))=true
 rw [e1,uE,e2,Á,decide_eq_true (show (1:Int)<=(l.length:Nat) by omega),decide_eq_true h2]
 rfl
theorem Jc {l:List Int} (h:l.length<=400):Few (.list (l.map Â)):=fun es e=>by
 injection e with e
 rw [← e,Á]
 exact h
theorem gB {α:Type} (l:List α):dW l none (some (-1))=l.dropLast:=by
 unfold dW
 have e1:HT.sIx l.length 0 none=0:=rfl
 have e2:HT.sIx l.length l.length (some (-1))=l.length - 1:=by
  have e:HT.sIx l.length l.length (some (-1))=((-1:Int)+(l.length:Int)).toNat:=rfl
  rw [e]
  omega
 rw [e1,e2,ż,Nat.sub_zero,List.dropLast_eq_take]
theorem jC {α:Type} (l:List α):dW l (some 1) none=l.drop 1:=by
 unfold dW
 have e1:HT.sIx l.length l.length none=l.length:=rfl
 have e2:HT.sIx l.length 0 (some 1)=min 1 l.length:=HT.iz l.length 0 1
 rw [e1,e2]
 rw [Ŗ (by rw [õ]; omega)]
 by_cases h:1<=l.length
 ·rw [Nat.min_eq_left h]
 ·have:l=[]:=List.length_eq_zero_iff.mp (by omega)
  subst this
  rfl
theorem wH (a b:List Int):((a.map Â).zip (b.map Â)).map prD=(a.zip b).map pD:=by
 rw [List.zip_map,ý]
 rfl
section
variable {P:Program}{w:World}{K:Ú}{mg:Str->Option Value}{base:Heap}{f:Addr}{fd:FuncData}
theorem sc4:FnScope ["thing"] ["thing"] (ao (top 4)):=zC
theorem Hu (F:Fun K "is_whole" "is_whole" (top 4) f fd) (B:ļ mg):FnOk P w K mg base CX0 1 f fd ["thing"] (spD Jd):=by
 refine F.ok sc4 Ĵ (fun cdv A outer s H vs Q E hr h=>?_)
 refine⟨_,aH (bB (gF (cZ Lr B.isinstance (dv 0) (lX (v:=.ty "int") rfl B.int boot_int rfl)) (gC (O1 (cZ Ir B.isinstance (dv 0) (lX (v:=.ty "bool") rfl B.bool boot_bool rfl)))))),vV h ?_⟩
 rintro ds P ⟨d,rfl,q⟩
 unfold sS Bf tIs
 refine Gf (d:=d) rfl fun k=>?_
 cases d <;> exact⟨rfl,q⟩
theorem sc5:FnScope ["limit","thing"] ["limit","thing"] (ao (top 5)):=zC
theorem Hy (F:Fun K "is_below" "is_below" (top 5) f fd) (W:ø P w K mg base 1 "is_whole" ["thing"] (spD Jd)):FnOk P w K mg base CX0 2 f fd ["limit","thing"] (spD Al):=by
 refine F.ok sc5 Ĵ (fun cdv A outer s H vs Q E hr h=>?_)
 refine⟨_,aH (bB (gF (dc W hr (aj (dv 1) ak)) (gC (BP aC (dv 1) (dv 0))))),vV h ?_⟩
 rintro ds P ⟨m,d,rfl,q⟩
 unfold sS Bf tFn aG
 refine Gf (d:=d) rfl fun k=>⟨d,rfl,?_⟩
 cases d with
 | int i =>
  have e:P (.bool (decide (0<=i/\i<m))):=q
  by_cases h0:(0:Int)<=i
  ·show if decide ((0:Int)<=i)=true then _ else _
   rw [decide_eq_true h0]
   refine aM (B:=True) ⟨rfl,?_⟩
   have e2:decide (0<=i/\i<m)=decide (i<m):=by simp [h0]
   rw [e2] at e
   exact e
  ·show if decide ((0:Int)<=i)=true then _ else _
   rw [decide_eq_false h0]
   refine aN (A:=True) ⟨rfl,?_⟩
   have e2:decide (0<=i/\i<m)=false:=by simp [h0]
   rw [e2] at e
   exact e
 | _=>exact⟨rfl,q⟩
theorem sc7:FnScope ["places"] ["places"] (ao (top 9)):=zC
theorem K3 (F:Fun K "hops" "hops" (top 9) f fd) (B:ļ mg) (mz:mg "zip"=none):FnOk P w K mg base CX0 1 f fd ["places"] (spD M9):=by
 refine F.ok sc7 Ĵ (fun cdv A outer s H vs Q E hr h=>?_)
 refine⟨_,aH (bB (zy rfl B.list mz (aj (zx (dv 0) eY (cH (iH aC))) (aj (zx (dv 0) (cH aC) eY) ak)))),vV h ?_⟩
 rintro ds P ⟨l,rfl,hl,q⟩
 refine .inl ⟨?_,.inl ⟨?_,?_,.inl ⟨?_,rfl,?_⟩⟩⟩
 ·show eG (dW (l.map Â) none (some (-1)))=true
  rw [gB,← Ż]
  exact fK _
 ·show eG (dW (l.map Â) (some 1) none)=true
  rw [jC,← ŏ]
  exact fK _
 ·show (dW (l.map Â) none (some (-1))).length<=1000
  rw [gB,ĳ,Á]
  omega
 ·show eG _=true
  rw [gB,jC,← Ż,← ŏ,wH]
  exact bL _
 ·show P _
  rw [gB,jC,← Ż,← ŏ,wH]
  exact q
end
section
variable {P:Program}{w:World}{K:Ú}{mg:Str->Option Value}{base:Heap}{f:Addr}{fd:FuncData}
theorem sc9:FnScope ["limit","thing"] ["limit","thing"] (ao (top 11)):=zC
theorem UG:(["number","limit","thing"]:List Str).Nodup:=by decide +kernel
theorem Uz:(["hop","limit","thing"]:List Str).Nodup:=by decide +kernel
theorem DN (F:Fun K "is_rising" "is_rising" (top 11) f fd) (B:ļ mg) (W:ø P w K mg base 2 "is_below" ["limit","thing"] (spD Al)) (HO:ø P w K mg base 1 "hops" ["places"] (spD M9)):FnOk P w K mg base CX0 3 f fd ["limit","thing"] (spD Cw):=by
 refine F.ok sc9 Ĵ (fun cdv A outer s H vs Q E hr h=>?_)
 refine⟨_,aK (gn (PDW.pt (iC (gj (eO (cZ q9 B.isinstance (dv 1) (lX (v:=.ty "list") rfl B.list boot_list rfl)))) (eN (gj (eO (jm rfl B.all Dl.boot_all (aj (j5 ["number"] rfl (dM (dv 1)) (fun c=>aU (ŗ (i:=0) UG rfl (Ğ rfl))) (fun c=>cQ) (fun c=>dc W hr (aj (dv 1) (aj (dv 0) ak)))) ak))))))) (aH (bB xG)) dJ)
  (aH (bB (jm rfl B.all Dl.boot_all (aj (j5 ["hop"] rfl (dM (dc HO hr (aj (dv 1) ak))) (fun c=>aU (ŗ (i:=0) Uz rfl (Ğ rfl))) (fun c=>cQ) (fun c=>tG (fH (dv 0) aC (fun _ _=>rfl)) (fH (dv 0) aC (fun _ _=>rfl)))) ak)))),aX h ?_⟩
 rintro ds P ⟨n,d,rfl,hf,q⟩
 refine⟨[.im (.int n),bx d],rfl,?_⟩
 cases d with
 | list es =>
  have hl:=hf es rfl
  have q:P (.bool (es.all (cW n)&&tE (es.map toI))):=q
  refine aN (A:=True) ⟨by omega,.imm,fun i ys=>ys=(es.take i).map fun d=>Ľ (cW n d),rfl,fun i d ys hd hy=>?_,fun ys hy=>?_⟩
  ·subst hy
   by_cases hi:iY d=true
   ·have en:∀ k,norm k d=.imm:=fun k=>dF hi
    unfold gNm
    simp only [en]
    exact aM (B:=True) ⟨n,d,rfl,rfl,(oG _ hd).symm⟩
   ·have en:∀ k,norm k d=k:=fun k=>mG hi
    unfold gNm
    simp only [en]
    exact aM (B:=True) ⟨n,d,rfl,rfl,(oG _ hd).symm⟩
  ·dsimp only at hy
   rw [Ĥ] at hy
   refine⟨es.map (cW n),by rw [hy,ý]; rfl,?_⟩
   rw [List.all_map]
   show if (!es.all (cW n))=true then _ else _
   cases ha:es.all (cW n) with
   | false =>
    rw [ha] at q
    exact⟨rfl,q⟩
   | true =>
    rw [ha] at q
    have q:P (.bool (tE (es.map toI))):=q
    have ei:=ints_of ha
    generalize hm:es.map toI=l at q ei
    have hll:l.length<=400:=by rw [← hm,Á]; exact hl
    subst ei
    -- rising
    refine⟨l,rfl,hll,?_,.imm,fun i ys=>ys=((l.dropLast.zip (l.drop 1)).take i).map fun t=>Ľ (decide (t.1<t.2)),rfl,?_,?_⟩
    ·rw [Á,List.length_zip,ĳ]
     omega
    ·rintro i d ys hd rfl
     obtain⟨t,ht,rfl⟩:=dI hd
     exact aM (B:=True) ⟨.int t.1,rfl,.int t.2,rfl,rfl,(oG _ ht).symm⟩
    rintro ys rfl
    refine⟨(l.dropLast.zip (l.drop 1)).map fun t=>decide (t.1<t.2),?_,rfl,?_⟩
    ·rw [Á,Ĥ,ý]
     rfl
    ·rw [List.all_map]
     rw [uE] at q
     exact q
 | tuple es=>rcases wC (.tuple es) with e | e <;> rw [e] <;> exact aM (B:=True) ⟨rfl,q⟩
 | _=>exact aM (B:=True) ⟨rfl,q⟩
theorem Ui:FnScope ["n","thing"] ["n","thing"] (ao (top 12)):=zC
theorem DP (F:Fun K "is_proper_set" "is_proper_set" (top 12) f fd) (B:ļ mg) (R:ø P w K mg base 3 "is_rising" ["limit","thing"] (spD Cw)):FnOk P w K mg base CX0 4 f fd ["n","thing"] (spD vU):=by
 refine F.ok Ui Ĵ (fun cdv A outer s H vs Q E hr h=>?_)
 refine⟨_,aH (bB (gF (dc R hr (aj (dv 0) (aj (dv 1) ak))) (gC (BP aC (kJ B.len (aj (dv 1) ak)) (dv 0))))),aX h ?_⟩
 rintro ds P ⟨n,d,rfl,hf,q⟩
 refine⟨[.im (.int n),bx d],rfl,?_⟩
 have q:P (.bool (J7 n d&&SN n d)):=q
 cases d with
 | list es =>
  refine⟨n,.list es,rfl,hf,fQ (fun c=>?_) (fun c=>?_)⟩
  ·rw [c] at q
   have q:P (.bool (decide ((1:Int)<=(es.length:Nat))&&decide (((es.length:Nat):Int)<n))):=q
   show if decide ((1:Int)<=(es.length:Nat))=true then _ else _
   refine fQ (fun c1=>⟨rfl,?_⟩) (fun c1=>⟨rfl,?_⟩)
   ·rw [c1] at q
    exact q
   ·have c1:decide ((1:Int)<=(es.length:Nat))=false:=by simpa using c1
    rw [c1] at q
    exact q
  ·have c:J7 n (.list es)=false:=by simpa using c
   rw [c] at q
   exact⟨rfl,q⟩
 | tuple es=>rcases wC (.tuple es) with e | e <;> rw [e] <;> exact⟨n,.tuple es,rfl,hf,aN (A:=True) ⟨rfl,q⟩⟩
 | _=>exact⟨n,_,rfl,hf,aN (A:=True) ⟨rfl,q⟩⟩
theorem Uo:FnScope ["web","thing"] ["web","thing"] (ao (top 13)):=zC
theorem xT (F:Fun K "check_set" "check_set" (top 13) f fd) (PS:ø P w K mg base 4 "is_proper_set" ["n","thing"] (spD vU)):FnOk P w K mg base CX0 5 f fd ["web","thing"] (spD Jj):=by
 refine F.ok Uo Ĵ (fun cdv A outer s H vs Q E hr h=>?_)
 refine⟨_,aH (gn (gj (eO (dc PS hr (aj (fH (dv 0) aC (fun _ _=>rfl)) (aj (dv 1) ak))))) (aH mR) dJ),aX h ?_⟩
 rintro ds P ⟨n,us,l,rfl,hP,q⟩
 refine⟨[.im (aR n us),.sh (.list (l.map Â))],?_,?_⟩
 ·show [bx (aR n us),bx (.list (l.map Â))]=_
  rw [cJ]
  rfl
 refine⟨.int n,rfl,n,_,rfl,Jc (by have:=hP.few; have:=hP.n16; omega),?_⟩
 show if (!cC n (.list (l.map Â)))=true then _ else _
 rw [qD hP]
 exact aN (A:=False) q
theorem Rw:FnScope ["tie","some"] ["tie","some"] (ao (top 16)):=zC
def fLv (ds:List D) (P:D->Prop):Prop:=∃ t l,ds=[pD t,.list (l.map Â)]/\P (.bool (lv l t))
theorem DQ (F:Fun K "leaves" "leaves" (top 16) f fd):FnOk P w K mg base CX0 1 f fd ["tie","some"] (spD fLv):=by
 refine F.ok Rw Ĵ (fun cdv A outer s H vs Q E hr h=>?_)
 refine⟨_,aH (bB (R3 (Mr hr.units (fH (dv 0) aC (fun _ _=>rfl)) (dv 1)) (Mr hr.units (fH (dv 0) aC (fun _ _=>rfl)) (dv 1)))),aX h ?_⟩
 rintro ds P ⟨t,l,rfl,q⟩
 refine⟨[.im (pD t),.sh (.list (l.map Â))],rfl,?_⟩
 refine⟨.int t.1,rfl,rfl,dY l,.int t.2,rfl,rfl,dY l,rfl,?_⟩
 show P (.bool (!decide ((((l.map Â).any fun e=>ü e (.int t.1)):Bool)=((l.map Â).any fun e=>ü e (.int t.2)))))
 rw [Ŧ,Ŧ]
 have e:(!decide ((decide (t.1∈l):Bool)=decide (t.2∈l)))=lv l t:=by
  unfold lv
  cases decide (t.1∈l) <;> cases decide (t.2∈l) <;> rfl
 rw [e]
 exact q
theorem Um:FnScope ["web","some"] ["web","some"] (ao (top 17)):=zC
theorem UJ:(["tie","web","some"]:List Str).Nodup:=by decide +kernel
theorem Ph (F:Fun K "ties_that_leave" "ties_that_leave" (top 17) f fd) (CH:ø P w K mg base 5 "check_set" ["web","thing"] (spD Jj)) (LV:ø P w K mg base 1 "leaves" ["tie","some"] (spD fLv)):FnOk P w K mg base CX0 6 f fd ["web","some"] (spD Tj):=by
 refine F.ok Um Ĵ (fun cdv A outer s H vs Q E hr h=>?_)
 refine⟨_,aK (qj (dc CH hr (aj (dv 0) (aj (dv 1) ak)))) (aH (bB (j5 ["tie"] rfl (dM (fH (dv 0) aC (fun _ _=>rfl))) (fun c=>aU (ŗ (i:=0) UJ rfl (Ğ rfl)))
  (fun c=>dZ (eO (dc LV hr (aj (dv 0) (aj (dv 2) ak))))) (fun c=>dv 0)))),aX h ?_⟩
 rintro ds P ⟨n,us,l,rfl,hP,hl,q⟩
 refine⟨[.im (aR n us),.sh (.list (l.map Â))],?_,n,us,l,rfl,hP,?_⟩
 ·show [bx (aR n us),bx (.list (l.map Â))]=_
  rw [cJ]
  rfl
 refine⟨.tuple (us.map pD),rfl,by rw [Á]; omega,.imm,fun i ys=>ys=((us.take i).filter (lv l)).map pD,rfl,?_,?_⟩
 ·rintro i d ys hd rfl
  obtain⟨t,ht,rfl⟩:=dI hd
  refine⟨t,l,rfl,?_⟩
  show if lv l t=true then _ else _
  have sn:=LC (lv l) pD ht
  cases hb:lv l t with
  | true =>
   rw [hb,if_pos rfl] at sn
   exact aM (B:=True) ⟨rfl,sn.symm⟩
  | false =>
   rw [hb,if_neg Ö,ù] at sn
   exact aN (A:=True) sn.symm
 ·rintro ys rfl
  refine⟨rfl,?_⟩
  rw [take_all us (by rw [Á]; exact Í _)]
  exact q
theorem Ul:FnScope ["web","some"] ["web","some"] (ao (top 18)):=zC
theorem K1 (F:Fun K "leaving" "leaving" (top 18) f fd) (B:ļ mg) (TL:ø P w K mg base 6 "ties_that_leave" ["web","some"] (spD Tj)):FnOk P w K mg base CX0 7 f fd ["web","some"] (spD Jh):=by
 refine F.ok Ul Ĵ (fun cdv A outer s H vs Q E hr h=>?_)
 refine⟨_,aH (bB (kJ B.len (aj (dc TL hr (aj (dv 0) (aj (dv 1) ak))) ak))),aX h ?_⟩
 rintro ds P ⟨n,us,l,rfl,hP,hl,q⟩
 refine⟨[.im (aR n us),.sh (.list (l.map Â))],?_,n,us,l,rfl,hP,hl,rfl,?_⟩
 ·show [bx (aR n us),bx (.list (l.map Â))]=_
  rw [cJ]
  rfl
 ·show P (.int (((us.filter (lv l)).map pD).length:Nat))
  rw [Á]
  exact q
theorem Uk:FnScope ["web","falls","some"] ["web","falls","some"] (ao (top 19)):=zC
theorem KZ (F:Fun K "need" "need" (top 19) f fd) (B:ļ mg) (LV:ø P w K mg base 7 "leaving" ["web","some"] (spD Jh)):FnOk P w K mg base CX0 8 f fd ["web","falls","some"] (spD Cz):=by
 refine F.ok Uk Ĵ (fun cdv A outer s H vs Q E hr h=>?_)
 refine⟨_,aH (bB (mj rfl B.max (aj (cT (zE (dv 1) aC) (dc LV hr (aj (dv 0) (aj (dv 2) ak)))) (aj aC ak)))),aX h ?_⟩
 rintro ds P ⟨n,us,l,fa,rfl,hP,hl,q⟩
 refine⟨[.im (aR n us),.im (.int fa),.sh (.list (l.map Â))],?_,n,us,l,rfl,hP,hl,rfl,q⟩
 show [bx (aR n us),bx (.int fa),bx (.list (l.map Â))]=_
 rw [cJ]
 rfl
end
def iw:D->List Int
 | .list es=>es.map toI
 | _=>[]
def zO (l:List Int):Bool:=decide ((once l).length=l.length)
def Tc (n:Int):D->Bool
 | .list es=>es.all (cC n)&&zO (es.flatMap iw)
 | _=>false
def Vf (d:D):Prop:=∀ es,d=.list es->es.length<=60/\∀ e∈es,Few e
def Qu (ds:List D) (P:D->Prop):Prop:=∃ n d,ds=[.int n,d]/\Vf d/\n<=16/\P (.bool (Tc n d))
theorem xg {n:Int}{d:D} (n16:n<=16) (h:cC n d=true):∃ l:List Int,d=.list (l.map Â)/\iw d=l/\l.length<=15:=by
 unfold cC at h
 rw [Ý] at h
 cases d with
 | list es =>
  have h1:(es.all (cW n)&&tE (es.map toI))=true:=h.1
  rw [Ý] at h1
  have h2:(decide ((1:Int)<=(es.length:Nat))&&decide (((es.length:Nat):Int)<n))=true:=h.2
  rw [Ý,decide_eq_true_eq,decide_eq_true_eq] at h2
  exact⟨es.map toI,congrArg _ (ints_of h1.1),rfl,by rw [Á]; omega⟩
 | _=>cases h.1
section
variable {P:Program}{w:World}{K:Ú}{mg:Str->Option Value}{base:Heap}{f:Addr}{fd:FuncData}
theorem Ro:FnScope ["n","thing","places","some"] ["n","thing"] (ao (top 21)):=zC
theorem Uy:(["some","n","thing","places",""]:List Str).Nodup:=by decide +kernel
theorem Pq (F:Fun K "is_family" "is_family" (top 21) f fd) (B:ļ mg) (ms:mg "set"=none) (PS:ø P w K mg base 4 "is_proper_set" ["n","thing"] (spD vU)):FnOk P w K mg base CX0 5 f fd ["n","thing"] (spD Qu):=by
 refine F.ok Ro Ĵ (fun cdv A outer s H vs Q E hr h=>?_)
 have nd:=Ro.nd
 refine⟨_,aK (gn (PDW.pt (iC (gj (eO (cZ q9 B.isinstance (dv 1) (lX (v:=.ty "list") rfl B.list boot_list rfl)))) (eN (gj (eO (jm rfl B.all Dl.boot_all (aj (O4 ["some"] ["n","thing","places",""] rfl (dM (dv 1)) (fun c=>aU (ŗ (i:=0) Uy rfl (Ğ rfl))) (fun c=>cQ) (fun c=>dc PS hr (aj (dv 1) (aj (dv 0) ak))) (hk:=rfl)) ak))))))) (aH (bB xG)) dJ)
  (aK (cU (some 0) (bY (i:=2) nd rfl (Ğ rfl) (dB ak)))
  (aK (cV Ą rfl (dM (dv 1)) (aU (ŗ (i:=3) nd rfl (Ğ rfl)))
   (aH (dU (i:=2) (bV (gO ó Ũ ŧ jQ (pv 2) (aj (dv 3) ak))))))
  (aH (bB (R4 (Dw rfl ms B.len (aj (dv 2) ak)) (kJ B.len (aj (dv 2) ak))))))),aX h ?_⟩
 rintro ds P ⟨n,d,rfl,hf,n16,q⟩
 refine⟨[.im (.int n),bx d,.any,.any],rfl,?_⟩
 cases d with
 | list es =>
  obtain⟨hl,hfe⟩:=hf es rfl
  have q:P (.bool (es.all (cC n)&&zO (es.flatMap iw))):=q
  refine aN (A:=True) ⟨by omega,.imm,fun i ys=>ys=(es.take i).map fun d=>Ľ (cC n d),rfl,fun i d ys hd hy=>?_,fun ys hy=>?_⟩
  ·subst hy
   have hfd:=hfe d (Ì hd)
   by_cases hi:iY d=true
   ·have en:∀ k,norm k d=.imm:=fun k=>dF hi
    unfold gNm
    simp only [en]
    exact aM (B:=True) ⟨n,d,rfl,hfd,rfl,(oG _ hd).symm⟩
   ·have en:∀ k,norm k d=k:=fun k=>mG hi
    unfold gNm
    simp only [en]
    exact aM (B:=True) ⟨n,d,rfl,hfd,rfl,(oG _ hd).symm⟩
  ·dsimp only at hy
   rw [Ĥ] at hy
   refine⟨es.map (cC n),by rw [hy,ý]; rfl,?_⟩
   rw [List.all_map]
   show if (!es.all (cC n))=true then _ else _
   cases ha:es.all (cC n) with
   | false =>
    rw [ha] at q
    exact⟨rfl,q⟩
   | true =>
    rw [ha] at q
    have q:P (.bool (zO (es.flatMap iw))):=q
    have pr:∀ e∈es,∃ l:List Int,e=.list (l.map Â)/\iw e=l/\l.length<=15:=fun e he=>xg n16 (ċ.mp ha e he)
    refine aN (A:=True) ⟨by decide,rfl,fun (i:Nat) ρ=>∃ (l:List Int) (s3:Sl),s3.region=none/\ρ=[.im (.int n),.sh (.list es),.dw 0 (.list (l.map Â)),s3]/\l=(es.take i).flatMap iw/\l.length<=15 * i,⟨[],.any,rfl,rfl,rfl,Í _⟩,?_,?_⟩
    ·rintro i d ρ hd ⟨l,s3,h3,rfl,rfl,hl2⟩
     obtain⟨m,rfl,em,hm⟩:=pr d (Ì hd)
     have hi:=(Î.mp hd).1
     have lm:(((es.take i).flatMap iw).map Â).length=((es.take i).flatMap iw).length:=Á ..
     have lm2:(m.map Â).length=m.length:=Á ..
     refine⟨by show (_ || eG (m.map Â))=true; rw [fK,Bool.or_true],by omega,(es.take i).flatMap iw++m,.sh (.list (m.map Â)),rfl,?_,?_,?_⟩
     ·rw [Ø]
      rfl
     ·rw [ğ,hd,List.flatMap_append]
      show _=_++([ē (m.map Â)].flatMap iw)
      rw [List.flatMap_cons,List.flatMap_nil,ù,em]
     ·rw [È]; omega
    ·rintro ρ ⟨l,s3,h3,rfl,rfl,hl2⟩
     rw [Ĥ] at hl2 ⊢
     refine⟨_,_,rfl,by omega,rfl,?_⟩
     show P (.bool (decide ((((once (es.flatMap iw)).length:Nat):Int)=(((es.flatMap iw).map Â).length:Nat))))
     have e:decide ((((once (es.flatMap iw)).length:Nat):Int)=(((es.flatMap iw).map Â).length:Nat))=zO (es.flatMap iw):=by
      unfold zO
      rw [Á,ģ,decide_eq_true_eq,decide_eq_true_eq]
      omega
     rw [e]
     exact q
 | tuple es=>rcases wC (.tuple es) with e | e <;> rw [e] <;> exact aM (B:=True) ⟨rfl,q⟩
 | _=>exact aM (B:=True) ⟨rfl,q⟩
end
def cL (c:Addr) (a r:Int):List (Key×V):=[(.inr "cells",.ref c),(.inr "at",.int a),(.inr "rest",.int r)]
def Nq (p c:Addr) (ns:List Int) (H:Hp):Prop:=∃ a r:Int,H p=some (.dK (cL c a r))/\H c=some (.lst (ns.map Ž))
def Kq (p c:Addr) (ns:List Int):Pn where
 fp:=fun b=>b=p\/b=c
 PI:=Nq p c ns
 pv:=.ref p
 mono:=fun H H' ⟨a,r,h1,h2⟩ k=>⟨a,r,k _ _ (.inl (.inl rfl)) h1,k _ _ (.inl (.inr rfl)) h2⟩
 is:=fun H b ⟨a,r,h1,h2⟩ hb=>by
  rcases hb with rfl | rfl
  ·exact⟨_,h1,(fun xs z=>(nomatch z)),fun ⟨_,_,z⟩=>(nomatch z)⟩
  ·exact⟨_,h2,(fun xs z=>(nomatch z)),fun ⟨_,_,z⟩=>(nomatch z)⟩
def CP (q:Pn):Prop:=∃ p c ns,p≠c/\q=Kq p c ns
theorem JV (c:Addr) (a r:Int):iZ (cL c a r) (.inr "cells")=some (.ref c):=by
 unfold cL iZ
 simp
theorem QT (c:Addr) (a r:Int):iZ (cL c a r) (.inr "at")=some (.int a):=by
 unfold cL iZ
 have h1:¬ ((Ĉ ("cells":Str):Key)=Ĉ ("at":Str)):=by intro z; injection z with z; exact absurd z (by decide +kernel)
 simp [ō,h1]
theorem v_rest (c:Addr) (a r:Int):iZ (cL c a r) (.inr "rest")=some (.int r):=by
 unfold cL iZ
 have h1:¬ ((Ĉ ("cells":Str):Key)=Ĉ ("rest":Str)):=by intro z; injection z with z; exact absurd z (by decide +kernel)
 have h2:¬ ((Ĉ ("at":Str):Key)=Ĉ ("rest":Str)):=by intro z; injection z with z; exact absurd z (by decide +kernel)
 simp [ō,h1,h2]
theorem Uu (c:Addr) (a r b:Int):putK (cL c a r) (.inr "at") (.int b)=cL c b r:=by
 unfold putK
 rw [if_pos (by rw [lJ,QT]; rfl)]
 unfold cL
 have h1:¬ ((Ĉ ("cells":Str):Key)=Ĉ ("at":Str)):=by intro z; injection z with z; exact absurd z (by decide +kernel)
 have h2:¬ ((Ĉ ("rest":Str):Key)=Ĉ ("at":Str)):=by intro z; injection z with z; exact absurd z (by decide +kernel)
 simp [h1,h2]
theorem O6 (c:Addr) (a r b:Int):putK (cL c a r) (.inr "rest") (.int b)=cL c a b:=by
 unfold putK
 rw [if_pos (by rw [lJ,v_rest]; rfl)]
 unfold cL
 have h1:¬ ((Ĉ ("cells":Str):Key)=Ĉ ("rest":Str)):=by intro z; injection z with z; exact absurd z (by decide +kernel)
 have h2:¬ ((Ĉ ("at":Str):Key)=Ĉ ("rest":Str)):=by intro z; injection z with z; exact absurd z (by decide +kernel)
 simp [h1,h2]
def rE (ds:List D) (P:D->Prop):Prop:=∃ m:Int,ds=[.int m]/\0<m/\m<1073741824/\∀ r:Int,0<=r->r<m->P (.int r)
theorem eV {C:Pn->Prop}{f:List D->(D->Prop)->Prop}{n:Nat} (hn:∀ ds P,f ds P->ds.length=n:=by intro _ _ h; repeat (first | (obtain⟨rfl,_⟩:=h; rfl) | obtain⟨_,h⟩:=h)):∀ vs H Q E,spP C f vs H Q E->vs.length=n+1:=fun vs H Q E h=>by
 obtain⟨p,vs',ds,P,_,rfl,_,r,t,_⟩:=h
 rw [Ü,r.length,hn ds P t]
theorem vQ {H:Hp}{p c:Addr}{a r:Int} (h:H p=some (.dK (cL c a r))):rY H p (.str "cells") (some (.ref c)):=by
 have q:=rY.k (k:=Ĉ ("cells":Str)) h
 rw [JV] at q
 exact q
theorem U5 {H:Hp}{p c:Addr}{a r:Int} (h:H p=some (.dK (cL c a r))):rY H p (.str "at") (some (.int a)):=by
 have q:=rY.k (k:=Ĉ ("at":Str)) h
 rw [QT] at q
 exact q
theorem Ag {H:Hp}{p c:Addr}{a r:Int} (h:H p=some (.dK (cL c a r))):rY H p (.str "rest") (some (.int r)):=by
 have q:=rY.k (k:=Ĉ ("rest":Str)) h
 rw [v_rest] at q
 exact q
theorem T7 {H:Hp}{p c:Addr}{a r:Int} (b:Int) (h:H p=some (.dK (cL c a r))):yP H p (.str "at") (.int b) (upd H p (.dK (cL c b r))):=by
 have q:=yP.k (k:=Ĉ ("at":Str)) (v:=.int b) h (by show 3<sizeLine; rw [ê]; decide)
 rw [Uu] at q
 exact q
theorem FZ {H:Hp}{p c:Addr}{a r:Int} (b:Int) (h:H p=some (.dK (cL c a r))):yP H p (.str "rest") (.int b) (upd H p (.dK (cL c a b))):=by
 have q:=yP.k (k:=Ĉ ("rest":Str)) (v:=.int b) h (by show 3<sizeLine; rw [ê]; decide)
 rw [O6] at q
 exact q
theorem wX {ok:Addr->Prop}{H:Hp}:∀ ns:List Int,Rps ok H (ns.map Ž) (ns.map Â)
 | []=>.nil
 | n::ns=>.cons (.int n) (wX ns)
theorem lay_ints:∀ ns:List Int,Ĩ (ns.map Â)=true
 | []=>rfl
 | n::ns=>lay_ints ns
theorem yF:∀ ns:List Int,ķ (ns.map Â)<=0
 | []=>Í _
 | n::ns=>by
  show max 0 (ķ (ns.map Â))<=0
  have:=yF ns
  omega
theorem HJ (ns:List Int):okD (.list (ns.map Â))=true:=by
 have h1:=lay_ints ns
 have h2:ķ (ns.map Â)+1<=60:=by have:=yF ns; omega
 show (Ĩ (ns.map Â)&&decide (ķ (ns.map Â)+1<=60))=true
 rw [h1,decide_eq_true h2]
 rfl
theorem Ma {i:Int}{ns:List Int} (h:(0:Int)<((ns.map Ž).length:Nat)):∃ v:Int,atI (ns.map Ž) (i % (((ns.map Ž).length:Nat):Int))=some (.int v):=by
 rw [Á] at h ⊢
 have h1:=Int.emod_nonneg i (b:=(ns.length:Int)) (by omega)
 have h2:=Int.emod_lt_of_pos i h
 have hk:(i % (ns.length:Int)).toNat<ns.length:=by omega
 have ek:i % (ns.length:Int)=(((i % (ns.length:Int)).toNat:Nat):Int):=by omega
 have q:atI (ns.map Ž) (((i % (ns.length:Int)).toNat:Nat):Int)=some (.int ns[(i % (ns.length:Int)).toNat]):=d7 (by rw [á,Ç hk]; rfl)
 rw [← ek] at q
 exact⟨_,q⟩
theorem Ec {x m:Int} (hm:0<m) (hb:m<=2 ^ 32):-(2 ^ 64)<x % m/\x % m<2 ^ 64:=by
 have h1:=Int.emod_nonneg x (b:=m) (by omega)
 have h2:=Int.emod_lt_of_pos x hm
 omega
theorem S5 {k:Nat}{A:Around} (hr:Room k A):A.units+1<cLine:=by have:=hr.units; omega
theorem PSs.wk {X:Cx}{ss:List Stmt}{t t':TS} (h:PSs X ss t) (w:∀ D σ H,t' D σ H->t D σ H):PSs X ss t':=fun pins s σ H D I q=>h pins s σ H D I (w D σ H q)
def tDr (p c:Addr):TS:=fun D σ H=>∃ (a2 a5:Option V) (m i cell a r:Int),σ=[some (.ref p),some (.int m),a2,some (.int i),some (.int cell),a5]/\0<m/\m<1073741824/\H p=some (.dK (cL c a r))/\∀ r',0<=r'->r'<m->D.rt (.int r') H/\∀ b,D.rt (.int r') (upd H p (.dK (cL c a b)))
section
variable {P:Program}{w:World}{K:Ú}{mg:Str->Option Value}{base:Heap}{f:Addr}{fd:FuncData}
theorem Rv:FnScope ["_law_pen_here","_law_many_here","_law_found","_law_at","_law_cell","_law_number"] ["_law_pen_here","_law_many_here"] (ao (top 45)):=zC
theorem K4 (F:Fun K "_law_draw" "_law_draw" (top 45) f fd) (B:ļ mg):FnOk P w K mg base CX0 1 f fd ["_law_pen_here","_law_many_here"] (spP CP rE):=by
 refine F.ok Rv eV (fun cdv A outer s H vs Q E hr h=>?_)
 obtain⟨_,vs',ds,P,⟨p,c,ns,hpc,rfl⟩,rfl,⟨a,r,hp,hc⟩,rp,⟨m,rfl,m0,m30,hP⟩,q⟩:=h
 obtain rfl:vs'=[.int m]:=by
  cases rp with
  | cons h1 t=>cases h1; cases t; rfl
 have nd:=Rv.nd
 have hu:=S5 hr
 refine⟨_,Ÿ (Bw (pR Mu (iB hu (pv 0) dO (fun _ _=>rfl)) bT (bH _))
   (Ÿ (bY (i:=2) nd rfl (Ğ rfl) (cM jo (iB hu (pv 0) dO (fun _ _=>rfl)) (pv 1)))
   (Ÿ (uT hu (pv 0) dO (cM p7 (iB hu (pv 0) dO (fun _ _=>rfl)) (pv 1)) rfl)
   (fZ (kE (pv 2))))) pU)
  (Ÿ (bY (i:=3) nd rfl (Ğ rfl) (iB hu (pv 0) dO (fun _ _=>rfl)))
  (Ÿ (uT hu (pv 0) dO (cM kO (pv 3) bT) rfl)
  (Ÿ (bY (i:=4) nd rfl (Ğ rfl) bT)
  (Ÿ (Bw (pR (vf hr.units) (iB hu (pv 0) dO (fun _ _=>rfl)) (uU gG) (bH _))
   (fZ (bY (i:=4) nd rfl (Ğ rfl) (xr qb (iB hu (pv 0) dO (fun _ _=>rfl)) (cM jo (pv 3) (lW mY rfl B.len PySem.boot_len (cD (iB hu (pv 0) dO (fun _ _=>rfl)) gG))) (fun _ _=>rfl)))) pU)
  (PSs.wk (t':=tDr p c) (Ÿ (Bw (pR Hr (pv 4) (cM O9 bT bT) (bH _))
   (Ÿ (uT hu (pv 0) dO (cM p7 (pv 4) (pv 1)) rfl)
   (fZ (kE (cM jo (pv 4) (pv 1))))) pU)
  (Ÿ (bY (i:=5) nd rfl (Ğ rfl) (cM jo (cM nY (cM kO (cM kO (cM jo (pv 4) bT) (cM nY bT (pv 3))) bT) bT) bT))
  (Ÿ (bY (i:=5) nd rfl (Ğ rfl) (cM jo (cM kO (cM kO (cM nY (pv 5) (pv 5)) (cM nY bT (pv 3))) bT) bT))
  (fZ (kE (cM jo (cM p7 (pv 5) bT) (pv 1))))))) ?dr))))),?_⟩
 case dr =>
  rintro D σ H' ⟨a2,a5,m,i,cell,a,r,rfl,m0,m30,hp,hq⟩
  have md:∀ x:Int,0<=x % m/\x % m<m:=fun x=>⟨Int.emod_nonneg _ (by omega),Int.emod_lt_of_pos _ m0⟩
  refine⟨_,rfl,_,_,rfl,rfl,⟨by decide,by decide,by decide⟩,_,_,rfl,rfl,_,rfl,fQ (fun c1=>?_) (fun c1=>?_)⟩
  ·exact⟨_,rfl,_,rfl,_,_,rfl,rfl,⟨m0,m30⟩,_,rfl,p,_,rfl,FZ _ hp,_,rfl,_,rfl,_,_,rfl,rfl,m0,(hq _ (md _).1 (md _).2).2 _⟩
  ·refine⟨_,rfl,_,_,rfl,rfl,(by show (0:Int)<2147483629; decide),_,rfl,_,_,rfl,rfl,.inl ⟨by decide,by decide⟩,_,_,rfl,rfl,_,_,rfl,rfl,_,_,rfl,rfl,.inr ⟨by decide,by decide⟩,_,_,rfl,rfl,(by show (0:Int)<2147483647; decide),?_⟩
   refine⟨_,rfl,_,rfl,_,_,rfl,rfl,.inl (Ec (by decide) (by decide)),_,rfl,_,_,rfl,rfl,.inl ⟨by decide,by decide⟩,_,_,rfl,rfl,_,_,rfl,rfl,_,_,rfl,rfl,(by show (0:Int)<2147483587; decide),?_⟩
   exact⟨_,rfl,_,_,rfl,rfl,⟨by decide,by decide⟩,_,rfl,_,_,rfl,rfl,m0,(hq _ (md _).1 (md _).2).1⟩
 have md:∀ x:Int,0<=x % m/\x % m<m:=fun x=>⟨Int.emod_nonneg _ (by omega),Int.emod_lt_of_pos _ m0⟩
 have fin:∀ (H':Hp) (r:Int),0<=r->r<m->(∀ b o,H b=some o->b≠p->H' b=some o)->(∃ a l,H' p=some (.dK (cL c a l)))->Q (.int r) H':=fun H' r h1 h2 k ⟨a',l',e⟩ =>
  q _ _ _ (hP r h1 h2) (fun b o e n=>k b o e fun z=>n (.inl z)) ⟨a',l',e,k c _ hc fun z=>hpc z.symm⟩ (.int r)
 have kU:∀ (H1:Hp) (o:HO),(∀ b o,H b=some o->b≠p->H1 b=some o)->∀ b u,H b=some u->b≠p->upd H1 p o b=some u:=fun H1 o k b u e n=>by rw [aq n]; exact k b u e n
 refine⟨_,rfl,p,_,rfl,Ag hp,_,_,rfl,rfl,_,rfl,fQ (fun c1=>?_) (fun c1=>?_)⟩
 ·exact⟨_,rfl,p,_,rfl,Ag hp,_,rfl,_,_,rfl,rfl,m0,_,rfl,p,_,rfl,Ag hp,_,rfl,_,_,rfl,rfl,⟨m0,m30⟩,_,rfl,p,_,rfl,FZ _ hp,_,rfl,fin _ _ (md _).1 (md _).2 (kU _ _ fun b o e _=>e) ⟨_,_,au⟩⟩
 ·have hp1:upd H p (.dK (cL c (a+1) r)) p=some (.dK (cL c (a+1) r)):=au
  have k1:=kU H (.dK (cL c (a+1) r)) fun b o e _=>e
  have hc1:=k1 c _ hc fun z=>hpc z.symm
  refine⟨_,rfl,p,_,rfl,U5 hp,_,rfl,_,_,rfl,rfl,_,rfl,p,_,rfl,T7 _ hp,?_⟩
  refine⟨_,rfl,p,_,rfl,vQ hp1,by decide,fun z hz=>?_⟩
  have zp:p≠z:=fun e=>by subst e; rw [hp1] at hz; cases hz
  have zc:c≠z:=fun e=>by subst e; rw [hc1] at hz; cases hz
  have k2:∀ b o,H b=some o->b≠p->upd (upd H p (.dK (cL c (a+1) r))) z (.lst []) b=some o:=fun b o e n=>by
   have e1:=k1 b o e n
   have bz:b≠z:=fun y=>by subst y; rw [e1] at hz; cases hz
   rw [aq bz]
   exact e1
  have hp2:upd (upd H p (.dK (cL c (a+1) r))) z (.lst []) p=some (.dK (cL c (a+1) r)):=by rw [aq zp]; exact hp1
  have hc2:upd (upd H p (.dK (cL c (a+1) r))) z (.lst []) c=some (.lst (ns.map Ž)):=by rw [aq zc]; exact hc1
  have dr:∀ cell,tDr p c { nx:=fun _ H'=>Q .non H',rt:=Q } [some (.ref p),some (.int m),none,some (.int a),some (.int cell),none] (upd (upd H p (.dK (cL c (a+1) r))) z (.lst [])):=fun cell =>
   ⟨_,_,m,a,cell,_,_,rfl,m0,m30,hp2,fun r' h1 h2=>⟨fin _ _ h1 h2 k2 ⟨_,_,hp2⟩,fun b=>fin _ _ h1 h2 (kU _ _ k2) ⟨_,_,au⟩⟩⟩
  refine⟨fun _=>True,fun _=>True,.list (ns.map Â),.list [],.lst trivial hc2 (wX ns),.lst trivial au .nil,HJ ns,rfl,?_⟩
  cases ns with
  | nil=>exact⟨_,rfl,aN (dr 0)⟩
  | cons n ns =>
   have l0:(0:Int)<((((n::ns).map Ž).length:Nat):Int):=by rw [Á,Ü]; omega
   obtain⟨v,hv⟩:=Ma (i:=a) l0
   refine⟨_,rfl,aM ⟨_,rfl,p,_,rfl,vQ hp2,_,rfl,_,rfl,p,_,rfl,vQ hp2,c,_,rfl,.inl (SqL.of hc2),_,_,rfl,rfl,l0,c,_,_,_,rfl,rfl,SqL.of hc2,hv,dr v⟩⟩
end
structure IsOrd (n:Int) (l:List Int):Prop where
 len:(l.length:Int)=n
 rng:∀ x∈l,0<=x/\x<n
 nd:l.Nodup
def oM (ds:List D) (P:D->Prop):Prop:=∃ n:Int,ds=[.int n]/\0<=n/\n<=16/\∀ l,IsOrd n l->P (.list (l.map Â))
theorem IsOrd.ins {k:Nat}{l:List Int} (h:IsOrd k l) (j:Nat):IsOrd ((k+1:Nat):Int) (l.take j++((k:Nat):Int)::l.drop j):=by
 have p:(l.take j++((k:Nat):Int)::l.drop j).Perm (((k:Nat):Int)::l):=by
  refine List.perm_middle.trans ?_
  rw [Ŋ]
 refine⟨?_,fun x hx=>?_,?_⟩
 ·rw [p.length_eq,Ü]
  have:=h.len
  omega
 ·rcases Ô.mp (p.mem_iff.mp hx) with z | z
  ·omega
  ·have:=h.rng x z
   omega
 ·refine p.symm.nodup ?_
  refine ę.mpr ⟨fun z=>?_,h.nd⟩
  have:=h.rng _ z
  omega
section
variable {P:Program}{w:World}{K:Ú}{mg:Str->Option Value}{base:Heap}{f:Addr}{fd:FuncData}
theorem Rt:FnScope ["_law_pen_here","_law_n","_law_found","_law_k"] ["_law_pen_here","_law_n"] (ao (top 46)):=zC
abbrev JQ (P:Program) (w:World) (K:Ú) (mg:Str->Option Value) (base:Heap) (k:Nat) (x:Str) (ps:List Str) (g:List D->(D->Prop)->Prop):Prop:=ø P w K mg base k x ps (spP CP g)
theorem Hv (F:Fun K "_law_order" "_law_order" (top 46) f fd) (B:ļ mg) (T:JQ P w K mg base 1 "_law_draw" ["_law_pen_here","_law_many_here"] rE):FnOk P w K mg base CX0 2 f fd ["_law_pen_here","_law_n"] (spP CP oM):=by
 refine F.ok Rt eV (fun cdv A outer s H vs Q E hr h=>?_)
 have nd:=Rt.nd
 refine⟨_,aK (cU (some 0) (bY (i:=2) nd rfl (Ğ rfl) (dB ak)))
  (aK (cV Ą rfl (bC B.range (aj (dv 1) ak)) (aU (ŗ (i:=3) nd rfl (Ğ rfl)))
   (aH (Ey (i:=2) (bV (gO ó PySem.F.slot_list_insert PySem.F.type_list_insert Eb (pv 2) (aj (dcP T hr (pv 0) (aj (zE (dv 3) aC) ak)) (aj (dv 3) ak)))))))
  (aH (bB (dv 2)))),enterQ h ?_⟩
 rintro ds P ⟨n,rfl,n0,n16,q⟩
 refine⟨[.im (.int n),.any,.any],rfl,?_⟩
 refine⟨by decide,⟨by omega,by omega⟩,rfl,fun (i:Nat) ρ=>∃ (l:List Int) (s:Sl),IsOrd i l/\s.region=none/\ρ=[.pen CP,.im (.int n),.dw 0 (.list (l.map Â)),s],⟨[],.any,⟨rfl,fun x hx=>(nomatch hx),.nil⟩,rfl,rfl⟩,?_,?_⟩
 ·rintro i d ρ hd ⟨l,s,hl,hs,rfl⟩
  obtain⟨hi,rfl⟩:=bR hd
  have hlen:=hl.len
  refine⟨rfl,_,rfl,by omega,by omega,fun r r0 r1=>⟨rfl,r0,?_,?_,?_⟩⟩
  ·rw [Á]; omega
  ·rw [Á]; omega
  ·refine⟨l.take r.toNat++((i:Nat):Int)::l.drop r.toNat,.im (.int (0+((i:Nat):Int))),hl.ins r.toNat,rfl,?_⟩
   show [Sl.pen CP,Sl.im (.int n),Sl.dw 0 (.list ((l.map Â).take r.toNat++Â (0+((i:Nat):Int))::(l.map Â).drop r.toNat)),Sl.im _]=_
   rw [Ø,ã,List.map_take,ŏ,Int.zero_add]
 ·rintro ρ ⟨l,s,hl,hs,rfl⟩
  rw [ř] at hl
  have e:((n.toNat:Nat):Int)=n:=by omega
  rw [e] at hl
  exact⟨rfl,q l hl⟩
end
def cO (n:Int) (ts:List Tie):Prop:=∀ t∈ts,(0<=t.1/\t.1<n)/\0<=t.2/\t.2<n
theorem cO.app {n:Int}{a b:List Tie} (h:cO n a) (h':cO n b):cO n (a++b):=fun t ht=>(Û.mp ht).elim (h t) (h' t)
theorem cO.one {n:Int}{t:Tie} (h:(0<=t.1/\t.1<n)/\0<=t.2/\t.2<n):cO n [t]:=fun u hu=>by rw [ç.mp hu]; exact h
def M8 (ds:List D) (P:D->Prop):Prop:=∃ n:Int,ds=[.int n]/\1<=n/\n<=6/\∀ ts:List Tie,ts.length<=40->cO n ts->P (.list (ts.map pD))
abbrev Nr (s:Sl):Prop:=s.region=none
abbrev R18 (n sh:Int) (ds:List D) (s4 s5:Sl):List Sl:=[.pen CP,.im (.int n),.im (.int sh),.dw 0 (.list ds),s4,s5]
theorem fgN {s:Sl}{r:Nat} (h:Nr s):(if s.region=some r then Sl.any else s)=s:=by rw [h]; rfl
theorem JL {n sh:Int}{ds ds':List D}{s4 s5:Sl} (h4:Nr s4) (h5:Nr s5):(forget 0 (R18 n sh ds s4 s5)).set 3 (.dw 0 (.list ds'))=R18 n sh ds' s4 s5:=by
 show [Sl.pen CP,Sl.im (.int n),Sl.im (.int sh),Sl.dw 0 (.list ds'),(if s4.region=some 0 then Sl.any else s4),(if s5.region=some 0 then Sl.any else s5)]=_
 rw [fgN h4,fgN h5]
theorem iu.wk {X:Cx}{ss:List Stmt}{t t':DS} (h:iu X ss t) (w:∀ P ρ,t' P ρ->t P ρ):iu X ss t':=PSs.wk' h (by
 rintro Q σ H ⟨p,H0,own,ρ,P,E,t,wi⟩
 exact⟨p,H0,own,ρ,P,E,w P ρ t,wi⟩)
def jB (L:Nat):DS:=fun P ρ=>∃ (n sh:Int) (ts:List Tie) (s4 s5:Sl),1<=n/\n<=6/\Nr s4/\Nr s5/\ρ=R18 n sh (ts.map pD) s4 s5/\ts.length<=L/\cO n ts/\∀ us:List Tie,us.length<=40->cO n us->P.rt (.list (us.map pD))
theorem jB.on {L:Nat}{P:DEnds}{n sh:Int}{ts:List Tie}{s4 s5:Sl} (n1:1<=n) (n8:n<=6) (h4:Nr s4) (h5:Nr s5) (hl:ts.length<=L) (ok:cO n ts) (q:∀ us:List Tie,us.length<=40->cO n us->P.rt (.list (us.map pD))):jB L P (R18 n sh (ts.map pD) s4 s5) :=
 ⟨n,sh,ts,s4,s5,n1,n8,h4,h5,rfl,hl,ok,q⟩
theorem app1 (ts:List Tie) (a b:Int):ts.map pD++[PyData.tuple [.int a,.int b]]=(ts++[((a,b):Tie)]).map pD:=by
 rw [Ø]
 rfl
theorem in2 {a b x:Int} (h:([Â a,.int b].any fun e=>ü e (.int x))=true):x=a\/x=b:=by
 have h:(a == x || (b == x || false))=true:=h
 simp at h
 omega
theorem in3 {a b c x:Int} (h:([Â a,.int b,.int c].any fun e=>ü e (.int x))=true):x=a\/x=b\/x=c:=by
 have h:(a == x || (b == x || (c == x || false)))=true:=h
 simp at h
 omega
theorem Qo {n sh:Int}{ds:List D}{s4 s5:Sl} (h4:Nr s4) (h5:Nr s5):jy 0 (R18 n sh ds s4 s5) 3=true:=by
 show (s4.region != some 0&&(s5.region != some 0&&true))=true
 rw [h4,h5]
 rfl
theorem QB {n sh:Int}{ds es:List D}{s4 s5:Sl} (h4:Nr s4) (h5:Nr s5):stK (some 0) (R18 n sh ds s4 s5) 3 (norm (Kd.imm.join .new) (.list es)) (.list es)=some (.dw 0 (.list es)):=by
 show (if jy 0 (R18 n sh ds s4 s5) 3=true then some (Sl.dw 0 (.list es)) else none)=_
 rw [if_pos (Qo h4 h5)]
theorem mQ {P:DEnds}{ρ:List Sl}{rg:Option Nat}{i:Nat}{k:Kd}{d:D}{s:Sl} (e:stK rg ρ i (norm k d) d=some s) (h:P.nx (ρ.set i s)):(match stK rg ρ i (norm k d) d with
 | some s=>P.nx (ρ.set i s)
 | none=>False):=by
 rw [e]
 exact h
theorem nZ (ts:List Tie):okD (.list (ts.map pD))=true:=by
 have h1:=Ab ts
 have h2:ķ (ts.map pD)+1<=60:=by have:=rK ts; omega
 show (Ĩ (ts.map pD)&&decide (ķ (ts.map pD)+1<=60))=true
 rw [h1,decide_eq_true h2]
 rfl
theorem RT {j:Int} (h0:0<=j) (h4:j<4):∃ m:Int,atI [Â 3,.int 1,.int 6,.int 13] j=some (.int m)/\1<=m/\m<=13:=by
 obtain rfl | rfl | rfl | rfl:j=0\/j=1\/j=2\/j=3:=by omega
 ·exact⟨3,rfl,by decide,by decide⟩
 ·exact⟨1,rfl,by decide,by decide⟩
 ·exact⟨6,rfl,by decide,by decide⟩
 ·exact⟨13,rfl,by decide,by decide⟩
theorem tri (i l m:Nat) (h:2 * l<=i * (i+1)) (hm:m<=i+1):2 * (l+m)<=(i+1) * (i+1+1):=by
 have e:(i+1) * (i+1+1)=i * (i+1)+2 * (i+1):=by rw [Nat.mul_comm (i+1) (i+1+1),Nat.add_assoc,Nat.add_mul]
 omega
section
variable {P:Program}{w:World}{K:Ú}{mg:Str->Option Value}{base:Heap}{f:Addr}{fd:FuncData}
abbrev N18:List Str:=["_law_pen_here","_law_n","_law_shape","_law_ties_here","_law_k","_law_some"]
theorem Rr:FnScope N18 ["_law_pen_here","_law_n"] (ao (top 47)):=zC
theorem Sx:(["_law_j","_law_pen_here","_law_n","_law_shape","_law_ties_here","_law_k","_law_some"]:List Str).Nodup:=by decide +kernel
theorem MN:(["_law_tie_here","_law_pen_here","_law_n","_law_shape","_law_ties_here","_law_k","_law_some"]:List Str).Nodup:=by decide +kernel
theorem Sw:(["_law_k","_law_pen_here","_law_n","_law_shape","_law_ties_here","","_law_some"]:List Str).Nodup:=by decide +kernel
theorem KQ (F:Fun K "_law_ties" "_law_ties" (top 47) f fd) (B:ļ mg) (T:JQ P w K mg base 1 "_law_draw" ["_law_pen_here","_law_many_here"] rE):FnOk P w K mg base CX0 2 f fd ["_law_pen_here","_law_n"] (spP CP M8):=by
 refine F.ok Rr eV (fun cdv A outer s H vs Q E hr h=>?_)
 have nd:=Rr.nd
 refine⟨_,aK (cU none (bY (i:=2) nd rfl (Ğ rfl) (dcP T hr (pv 0) (aj aC ak))))
  (aK (cU (some 0) (bY (i:=3) nd rfl (Ğ rfl) (dB ak)))
  (aK (cV Ą rfl (Ez B.range (aj aC (aj (dv 1) ak))) (aU (ŗ (i:=4) nd rfl (Or.inr rfl)))
   (aK (gn (eE hr.units (dv 2) (bF (aj aC (aj aC ak)))) (aH (cG (i:=3) (bV (gO ó ī Ī dR (pv 3) (aj (bF (aj (cT (dv 4) aC) (aj (dv 4) ak))) ak))))) dJ)
   (aK (gn (eE hr.units (dv 2) (bF (aj aC (aj aC (aj aC ak))))) (aH (cG (i:=3) (bV (gO ó ī Ī dR (pv 3) (aj (bF (aj (dcP T hr (pv 0) (aj (dv 4) ak)) (aj (dv 4) ak))) ak))))) dJ)
   (aH (gn (uW (dv 2) aC) (aH (dU (i:=3) (bV (gO ó Ũ ŧ jQ (pv 3) (aj (j5 ["_law_j"] rfl (bC B.range (aj (dv 4) ak)) (fun c=>aU (ŗ (i:=0) Sx rfl (Ğ rfl))) (fun c=>cQ) (fun c=>bF (aj (dv 0) (aj (dv 5) ak)))) ak))))) dJ)))))
  (iu.wk (t':=jB 15) (aK (gn (PDW.pt (gb (uW (dv 2) aC) (d8 (iG (dv 1) aC)))) (aH (cG (i:=3) (bV (gO ó ī Ī dR (pv 3) (aj (bF (aj aC (aj (cT (dv 1) aC) ak))) ak))))) dJ)
  (iu.wk (t':=jB 16) (aK (gn (eE hr.units (dv 2) (bF (aj aC (aj aC (aj aC ak)))))
   (aK (cU none (PS.wk' (GX ["_law_k"] ["_law_pen_here","_law_n","_law_shape","_law_ties_here","","_law_some"] (i:=5) rfl nd rfl (Ğ rfl) (bC B.range (aj (dcP T hr (pv 0) (aj (O2 aC (dv 1)) ak)) ak)) (fun c=>aU (ŗ (i:=0) Sw rfl (Ğ rfl))) (fun c=>cQ) (fun c=>bF (aj (dcP T hr (pv 1) (aj (dv 2) ak)) (aj (dcP T hr (pv 1) (aj (dv 2) ak)) ak))) rfl rfl) (fun D σ H q=>jR σ H _ q)))
   (aH (dU (i:=3) (bV (gO ó Ũ ŧ jQ (pv 3) (aj (j5 ["_law_tie_here"] rfl (dM (dv 5)) (fun c=>aU (ŗ (i:=0) MN rfl (Ğ rfl))) (fun c=>dZ (OD (fH (dv 0) aC (fun _ _=>rfl)) (fH (dv 0) aC (fun _ _=>rfl)))) (fun c=>dv 0)) ak)))))) dJ)
  (iu.wk (t':=jB 27) (aK (gn (uW (dv 2) aC) (aH (cU (some 0) (PS.wk' (Bv ["_law_tie_here"] (i:=3) rfl nd rfl (Ğ rfl) (dM (dv 3)) (fun c=>aU (ŗ (i:=0) MN rfl (Ğ rfl))) (fun c=>dZ (uW (tG (fH (dv 0) aC (fun _ _=>rfl)) (mD (dv 2) aC)) (tG (fH (dv 0) aC (fun _ _=>rfl)) (mD (dv 2) aC)))) (fun c=>dv 0)) (fun D σ H q=>jR σ H _ q)))) dJ)
  (iu.wk (t':=jB 27) (aK (cV Ą rfl (bC B.range (aj (dcP T hr (pv 0) (aj (vd (dB (aj aC (aj aC (aj aC (aj aC ak))))) (dcP T hr (pv 0) (aj aC ak)) (fun _ _=>rfl)) ak)) ak)) (aU (ŗ (i:=4) nd rfl (Or.inr rfl)))
   (aH (gn (Kw hr.units (dv 3) (dB ak)) (aH (cG (i:=3) (bV (gO ó ī Ī dR (pv 3) (aj (vd (dv 3) (dcP T hr (pv 0) (aj (kJ B.len (aj (dv 3) ak)) ak)) (fun _ _=>rfl)) ak))))) dJ)))
  (aH (bB (dv 3)))) ?m4)) ?m3)) ?m2)) ?m1))),enterQ h ?_⟩
 case m1 =>
  rintro P ρ ⟨n,sh,ts,s4,s5,n1,n8,h4,h5,rfl,hl,ok,q⟩
  have lm:(ts.map pD).length<1000:=by rw [Á]; omega
  refine fQ (fun c1=>fQ (fun c2=>⟨zK,rfl,lm,?_⟩) (fun c2=>?_)) (fun c1=>aN ?_)
  ·have c2:=of_decide_eq_true c2
   show jB 16 P ((forget 0 (R18 n sh (ts.map pD) s4 s5)).set 3 (.dw 0 (.list (ts.map pD++[PyData.tuple [.int 0,.int (n - 1)]]))))
   rw [JL h4 h5,app1]
   exact jB.on n1 n8 h4 h5 (by rw [È,Þ]; omega) (ok.app (cO.one ⟨by show (0:Int)<=0/\0<n; omega,by show 0<=n - 1/\n - 1<n; omega⟩)) q
  ·exact jB.on n1 n8 h4 h5 (by omega) ok q
  ·exact jB.on n1 n8 h4 h5 (by omega) ok q
 case m2 =>
  rintro P ρ ⟨n,sh,ts,s4,s5,n1,n8,h4,h5,rfl,hl,ok,q⟩
  have lm:(ts.map pD).length=ts.length:=Á ..
  refine⟨by decide,rfl,rfl,fQ (fun c1=>⟨rfl,.inl ⟨by decide,by decide⟩,2 * n,rfl,by omega,by omega,fun r r0 r1=>⟨⟨by omega,by omega⟩,by rw [ř]; omega,.imm,fun i ys=>∃ ts':List Tie,ys=ts'.map pD/\ts'.length=i/\cO n ts',⟨[],rfl,rfl,fun t ht=>nomatch ht⟩,?_,?_⟩⟩) (fun c1=>jB.on n1 n8 h4 h5 (by omega) ok q)⟩
  ·rintro i d ys hd ⟨ts',rfl,hl',ok'⟩
   obtain⟨hi,rfl⟩:=bR hd
   exact aM (B:=True) ⟨rfl,n,rfl,by omega,by omega,fun a a0 a1=>⟨rfl,n,rfl,by omega,by omega,fun b b0 b1=>⟨zK,rfl,ts'++[(a,b)],app1 _ _ _,by rw [È,Þ,hl'],ok'.app (cO.one ⟨⟨a0,a1⟩,b0,b1⟩)⟩⟩⟩
  ·rintro ys ⟨ts',rfl,hl',ok'⟩
   rw [ř] at hl'
   have lm':(ts'.map pD).length=ts'.length:=Á ..
   refine⟨by omega,.imm,fun i ys=>∃ us:List Tie,ys=us.map pD/\us.length<=i/\cO n us,⟨[],rfl,Í _,fun t ht=>nomatch ht⟩,?_,?_⟩
   ·rintro i d ys hd ⟨us,rfl,hu,oku⟩
    obtain⟨t,ht,rfl⟩:=dI hd
    refine⟨.int t.1,rfl,.int t.2,rfl,fQ (fun c=>⟨rfl,us++[t],?_,?_,?_⟩) (fun c=>⟨us,rfl,by omega,oku⟩)⟩
    ·rw [Ø]; rfl
    ·rw [È,Þ]; omega
    ·exact oku.app (cO.one (ok' t (Ì ht)))
   ·rintro ys ⟨us,rfl,hu,oku⟩
    have lu:(us.map pD).length=us.length:=Á ..
    rw [lm'] at hu
    refine⟨rfl,by omega,?_⟩
    show jB 27 P ((forget 0 (R18 n sh (ts.map pD) s4 (.sn (.list (ts'.map pD))))).set 3 (.dw 0 (.list (ts.map pD++us.map pD))))
    rw [JL h4 rfl,← Ø]
    exact jB.on n1 n8 h4 rfl (by rw [È]; omega) (ok.app oku) q
 case m3 =>
  rintro P ρ ⟨n,sh,ts,s4,s5,n1,n8,h4,h5,rfl,hl,ok,q⟩
  have lm:(ts.map pD).length=ts.length:=Á ..
  refine fQ (fun c1=>⟨by omega,.imm,fun i ys=>∃ us:List Tie,ys=us.map pD/\us.length<=i/\cO n us,⟨[],rfl,Í _,fun t ht=>nomatch ht⟩,?_,?_⟩) (fun c1=>jB.on n1 n8 h4 h5 hl ok q)
  ·rintro i d ys hd ⟨us,rfl,hu,oku⟩
   obtain⟨t,ht,rfl⟩:=dI hd
   refine⟨.int t.1,rfl,⟨by decide,by decide⟩,.int t.2,rfl,⟨by decide,by decide⟩,fQ (fun c=>⟨rfl,us++[t],?_,?_,?_⟩) (fun c=>⟨us,rfl,by omega,oku⟩)⟩
   ·rw [Ø]; rfl
   ·rw [È,Þ]; omega
   ·exact oku.app (cO.one (ok t (Ì ht)))
  ·rintro ys ⟨us,rfl,hu,oku⟩
   rw [lm] at hu
   exact mQ (QB h4 h5) (jB.on n1 n8 h4 h5 (by omega) oku q)
 case m4 =>
  rintro P ρ ⟨n,sh,ts,s4,s5,n1,n8,h4,h5,rfl,hl,ok,q⟩
  refine⟨rfl,by decide,rfl,4,rfl,by decide,by decide,fun j j0 j4=>?_⟩
  obtain⟨m,hm,m1,m13⟩:=RT j0 j4
  refine⟨.int m,hm,m,rfl,by omega,by omega,fun c c0 c1=>⟨⟨by omega,by omega⟩,rfl,fun (i:Nat) ρ=>∃ (ts:List Tie) (s4 s5:Sl),Nr s4/\Nr s5/\ρ=R18 n sh (ts.map pD) s4 s5/\ts.length<=27+i/\cO n ts,⟨ts,s4,s5,h4,h5,rfl,hl,ok⟩,?_,?_⟩⟩
  ·rintro i d ρ hd ⟨ts,s4,s5,h4,h5,rfl,hl,ok⟩
   obtain⟨hi,rfl⟩:=bR hd
   have lm:(ts.map pD).length=ts.length:=Á ..
   refine⟨by decide,nZ ts,rfl,fQ (fun c=>?_) (fun c=>⟨ts,_,s5,rfl,h5,rfl,by omega,ok⟩)⟩
   have tn:0<ts.length:=by
    cases ts with
    | nil=>exact absurd c Ö
    | cons t ts=>exact Nat.succ_pos _
   refine⟨rfl,((ts.map pD).length:Nat),rfl,by omega,by omega,fun r r0 r1=>?_⟩
   have hk:r.toNat<ts.length:=by omega
   refine⟨pD ts[r.toNat],?_,rfl,by omega,ts++[ts[r.toNat]],.im (.int (0+((i:Nat):Int))),s5,rfl,h5,?_,?_,?_⟩
   ·have ek:r=((r.toNat:Nat):Int):=by omega
    have z:atI (ts.map pD) ((r.toNat:Nat):Int)=some (pD ts[r.toNat]):=d7 (by rw [á,Ç hk]; rfl)
    rw [← ek] at z
    exact z
   ·show (forget 0 (R18 n sh (ts.map pD) (.im (.int (0+((i:Nat):Int)))) s5)).set 3 (.dw 0 (.list (ts.map pD++[pD ts[r.toNat]])))=_
    rw [JL rfl h5,Ø]
    rfl
   ·rw [È,Þ]; omega
   ·exact ok.app (cO.one (ok _ (ĥ hk)))
  ·rintro ρ ⟨ts,s4,s5,h4,h5,rfl,hl,ok⟩
   rw [ř] at hl
   exact⟨rfl,q ts (by omega) ok⟩
 rintro ds P ⟨n,rfl,n1,n8,q⟩
 refine⟨[.im (.int n),.any,.any,.any,.any],rfl,?_⟩
 refine⟨rfl,8,rfl,by decide,by decide,fun sh s0 s8=>⟨by decide,⟨by decide,by decide,by omega,by omega⟩,rfl,fun (i:Nat) ρ=>∃ (ts:List Tie) (s4:Sl),Nr s4/\ρ=R18 n sh (ts.map pD) s4 .any/\2 * ts.length<=i * (i+1)/\cO n ts,⟨[],.any,rfl,rfl,Í _,fun t ht=>nomatch ht⟩,?_,?_⟩⟩
 ·rintro i d ρ hd ⟨ts,s4,h4,rfl,hl,ok⟩
  obtain⟨hi,rfl⟩:=bR hd
  have i7:i<=6:=by omega
  have lm:(ts.map pD).length=ts.length:=Á ..
  have l28:2 * ts.length<=56:=þ hl (Nat.mul_le_mul (show i<=7 by omega) (show i+1<=8 by omega))
  refine⟨by decide,rfl,rfl,fQ (fun c1=>⟨zK,rfl,by omega,?_⟩) (fun c1=>?_)⟩
  ·have c1:=in2 c1
   refine⟨by decide,rfl,rfl,fQ (fun c2=>?_) (fun c2=>fQ (fun c3=>?_) (fun c3=>?_))⟩
   ·have c2:=in3 c2
    omega
   ·have c3:sh=5:=by simpa using c3
    omega
   ·refine⟨ts++[(1+((i:Nat):Int) - 1,1+((i:Nat):Int))],.im (.int (1+((i:Nat):Int))),rfl,by rw [← app1]; rfl,?_,?_⟩
    ·rw [È,Þ]
     exact tri i _ 1 hl (by omega)
    ·exact ok.app (cO.one ⟨by show 0<=1+((i:Nat):Int) - 1/\1+((i:Nat):Int) - 1<n; omega,by show 0<=1+((i:Nat):Int)/\1+((i:Nat):Int)<n; omega⟩)
  ·refine⟨by decide,rfl,rfl,fQ (fun c2=>⟨rfl,1+((i:Nat):Int),rfl,by omega,by omega,fun r r0 r1=>⟨zK,rfl,by omega,?_⟩⟩) (fun c2=>fQ (fun c3=>?_) (fun c3=>?_))⟩
   ·have c2:=in3 c2
    refine fQ (fun c3=>?_) (fun c3=>?_)
    ·have c3:sh=5:=by simpa using c3
     omega
    ·refine⟨ts++[(r,1+((i:Nat):Int))],.im (.int (1+((i:Nat):Int))),rfl,by rw [← app1]; rfl,?_,?_⟩
     ·rw [È,Þ]
      exact tri i _ 1 hl (by omega)
     ·exact ok.app (cO.one ⟨by show 0<=r/\r<n; omega,by show 0<=1+((i:Nat):Int)/\1+((i:Nat):Int)<n; omega⟩)
   ·refine⟨⟨by omega,by omega⟩,by rw [ř]; omega,.imm,fun j ys=>∃ us:List Tie,ys=us.map pD/\us.length=j/\cO n us,⟨[],rfl,rfl,fun t ht=>nomatch ht⟩,?_,?_⟩
    ·rintro j d ys hd ⟨us,rfl,hu,oku⟩
     obtain⟨hj,rfl⟩:=bR hd
     exact aM (B:=True) ⟨zK,rfl,us++[(0+((j:Nat):Int),1+((i:Nat):Int))],app1 _ _ _,by rw [È,Þ,hu],oku.app (cO.one ⟨by show 0<=0+((j:Nat):Int)/\0+((j:Nat):Int)<n; omega,by show 0<=1+((i:Nat):Int)/\1+((i:Nat):Int)<n; omega⟩)⟩
    ·rintro ys ⟨us,rfl,hu,oku⟩
     rw [ř] at hu
     have lu:(us.map pD).length=us.length:=Á ..
     refine⟨rfl,by omega,ts++us,.im (.int (1+((i:Nat):Int))),rfl,by rw [Ø]; rfl,?_,ok.app oku⟩
     rw [È]
     exact tri i _ _ hl (by omega)
   ·exact⟨ts,.im (.int (1+((i:Nat):Int))),rfl,rfl,tri i _ 0 hl (by omega),ok⟩
 ·rintro ρ ⟨ts,s4,h4,rfl,hl,ok⟩
  rw [ř] at hl
  have hk:(n - 1).toNat<=5:=by omega
  have l28:2 * ts.length<=5 * 6:=þ hl (Nat.mul_le_mul hk (show (n - 1).toNat+1<=6 by omega))
  exact jB.on n1 n8 h4 rfl (by omega) ok q
end
def Tg (ds:List D) (P:D->Prop):Prop:=∃ m:Int,ds=[.int m]/\1<=m/\m<=6/\∀ (n:Int) (us:List Tie),1<=n->n<=6->us.length<=40->cO n us->P (aR n us)
theorem IsOrd.at {n:Int}{l:List Int} (h:IsOrd n l) {a:Int} (h0:0<=a) (h1:a<n):∃ x:Int,atI (l.map Â) a=some (.int x)/\0<=x/\x<n:=by
 have hl:=h.len
 have hk:a.toNat<l.length:=by omega
 have ek:a=((a.toNat:Nat):Int):=by omega
 have z:atI (l.map Â) ((a.toNat:Nat):Int)=some (.int l[a.toNat]):=d7 (by rw [á,Ç hk]; rfl)
 rw [← ek] at z
 exact⟨_,z,h.rng _ (ĥ hk)⟩
theorem Fe {α:Type} (l:List α) {m:Int} (h0:0<=m) (h1:m<=l.length):dW l none (some m)=l.take m.toNat:=by
 unfold dW
 have e1:HT.sIx l.length 0 none=0:=rfl
 have e2:HT.sIx l.length l.length (some m)=m.toNat:=by
  have ek:m=((m.toNat:Nat):Int):=by omega
  rw [ek,HT.iz]
  omega
 rw [e1,e2,ż,Nat.sub_zero]
section
variable {P:Program}{w:World}{K:Ú}{mg:Str->Option Value}{base:Heap}{f:Addr}{fd:FuncData}
theorem Rq:FnScope ["_law_pen_here","_law_most","_law_n","_law_order_here","_law_ties_here"] ["_law_pen_here","_law_most"] (ao (top 48)):=zC
theorem MK:(["_law_a","_law_b","_law_pen_here","_law_most","_law_n","_law_order_here","_law_ties_here"]:List Str).Nodup:=by decide +kernel
theorem Sv:(["_law_tie_here","_law_pen_here","_law_most","_law_n","_law_order_here","_law_ties_here"]:List Str).Nodup:=by decide +kernel
theorem KN (F:Fun K "_law_web" "_law_web" (top 48) f fd) (B:ļ mg) (T:JQ P w K mg base 1 "_law_draw" ["_law_pen_here","_law_many_here"] rE) (OR:JQ P w K mg base 2 "_law_order" ["_law_pen_here","_law_n"] oM) (TI:JQ P w K mg base 2 "_law_ties" ["_law_pen_here","_law_n"] M8):FnOk P w K mg base CX0 3 f fd ["_law_pen_here","_law_most"] (spP CP Tg):=by
 refine F.ok Rq eV (fun cdv A outer s H vs Q E hr h=>?_)
 have nd:=Rq.nd
 refine⟨_,aK (cU none (bY (i:=2) nd rfl (Ğ rfl) (zE aC (dcP T hr (pv 0) (aj (dv 1) ak)))))
  (aK (cU none (bY (i:=3) nd rfl (Or.inr rfl) (dcP OR hr (pv 0) (aj (dv 2) ak))))
  (aK (cU none (PS.wk' (Bv ["_law_a","_law_b"] (i:=4) rfl nd rfl (Ğ rfl) (dM (dcP TI hr (pv 0) (aj (dv 2) ak))) (fun c=>gJ (n:=2) rfl (jA (aU (ŗ (i:=0) MK rfl (Ğ rfl))) (jA (aU (ŗ (i:=1) MK rfl (Ğ rfl))) dN))) (fun c=>cQ) (fun c=>bF (aj (vd (dv 5) (dv 0) (fun _ _=>rfl)) (aj (vd (dv 5) (dv 1) (fun _ _=>rfl)) ak)))) (fun D σ H q=>jR σ H _ q)))
  (aH (bB (bF (aj (dv 2) (aj (gk B.tuple (aj (cN B.sorted (aj (j5 ["_law_tie_here"] rfl (dM (dv 4)) (fun c=>aU (ŗ (i:=0) Sv rfl (Ğ rfl))) (fun c=>cQ) (fun c=>bF (aj (Ky rfl B.min (aj (dv 0) ak)) (aj (Kz rfl B.max (aj (dv 0) ak)) ak)))) ak)) ak)) ak))))))),enterQ h ?_⟩
 rintro ds P ⟨m,rfl,m1,m8,q⟩
 refine⟨[.im (.int m),.any,.any,.any],rfl,?_⟩
 refine⟨rfl,m,rfl,by omega,by omega,fun r r0 r1=>⟨rfl,1+r,rfl,by omega,by omega,fun l hl=>⟨rfl,1+r,rfl,by omega,by omega,fun ts lt ok=>?_⟩⟩⟩
 have lm:(ts.map pD).length=ts.length:=Á ..
 refine⟨by omega,.imm,fun i ys=>∃ us:List Tie,ys=us.map pD/\us.length=i/\cO (1+r) us,⟨[],rfl,rfl,fun t ht=>nomatch ht⟩,?_,?_⟩
 ·rintro i d ys hd ⟨us,rfl,hu,oku⟩
  obtain⟨t,ht,rfl⟩:=dI hd
  obtain⟨⟨a0,a1⟩,b0,b1⟩:=ok t (Ì ht)
  obtain⟨x,ex,x0,x1⟩:=hl.at a0 a1
  obtain⟨y,ey,y0,y1⟩:=hl.at b0 b1
  exact⟨rfl,aM (B:=True) ⟨.int x,ex,.int y,ey,zK,rfl,us++[(x,y)],app1 _ _ _,by rw [È,Þ,hu],oku.app (cO.one ⟨⟨x0,x1⟩,y0,y1⟩)⟩⟩
 rintro ys ⟨us,rfl,hu,oku⟩
 have lu:(us.map pD).length=us.length:=Á ..
 refine⟨by omega,.imm,fun i ys=>∃ vs:List Tie,ys=vs.map pD/\vs.length=i/\cO (1+r) vs,⟨[],rfl,rfl,fun t ht=>nomatch ht⟩,?_,?_⟩
 ·rintro i d ys hd ⟨vs,rfl,hv,okv⟩
  obtain⟨t,ht,rfl⟩:=dI hd
  obtain⟨⟨a0,a1⟩,b0,b1⟩:=oku t (Ì ht)
  refine aM (B:=True) ⟨zK,rfl,vs++[((if t.2<t.1 then t.2 else t.1),(if t.2 > t.1 then t.2 else t.1))],app1 _ _ _,by rw [È,Þ,hv],okv.app (cO.one ⟨?_,?_⟩)⟩
  ·show 0<=(if t.2<t.1 then t.2 else t.1)/\(if t.2<t.1 then t.2 else t.1)<1+r
   split <;> omega
  ·show 0<=(if t.2 > t.1 then t.2 else t.1)/\(if t.2 > t.1 then t.2 else t.1)<1+r
   split <;> omega
 rintro ys ⟨vs,rfl,hv,okv⟩
 refine⟨vs,.inl rfl,by omega,fun t ht=>⟨(okv t ht).2.1,by have:=(okv t ht).2.2; omega⟩,fun us' hp _=>⟨zK,?_,q (1+r) us' (by omega) (by omega) (by rw [hp.length_eq]; omega) fun t ht=>okv t (hp.mem_iff.mp ht)⟩⟩
 have e:=mH (1+r) us'
 show (norm _ (aR (1+r) us')).le .n0=true
 rw [dF e]
 rfl
end
def lD (l:List Int):D:=.list (l.map Â)
def subs:Nat->List (List Int)
 | 0=>[[]]
 | k+1=>subs k++(subs k).map fun l=>l++[0+((k:Nat):Int)]
theorem aW:∀ k,(subs k).length=2 ^ k
 | 0=>rfl
 | k+1=>by
  show (subs k++(subs k).map _).length=_
  rw [È,Á,aW k,ž]
  omega
theorem jJ:∀ k,∃ r,subs k=[]::r/\∀ l∈r,l≠[]
 | 0=>⟨[],rfl,fun l h=>nomatch h⟩
 | k+1=>by
  obtain⟨r,e,h⟩:=jJ k
  refine⟨r++(subs k).map fun l=>l++[0+((k:Nat):Int)],?_,fun l hl=>?_⟩
  ·have h2:∀ M:List (List Int),subs k++M=[]::(r++M):=fun M=>by rw [e]; rfl
   exact h2 _
  ·rcases Û.mp hl with z | z
   ·exact h l z
   ·obtain⟨a,_,rfl⟩:=é.mp z
    simp
theorem fU:∀ k (l:List Int),l∈subs k->l.Pairwise (·<·)/\(∀ x∈l,0<=x/\x<k)/\l.length<=k
 | 0,l,h=>by
  rw [ç.mp h]
  exact⟨.nil,fun x h=>(nomatch h),Í _⟩
 | k+1,l,h=>by
  rcases Û.mp h with z | z
  ·obtain⟨h1,h2,h3⟩:=fU k l z
   exact⟨h1,fun x hx=>by have:=h2 x hx; omega,by omega⟩
  ·obtain⟨a,ha,rfl⟩:=é.mp z
   obtain⟨h1,h2,h3⟩:=fU k a ha
   refine⟨List.pairwise_append.mpr ⟨h1,by simp,fun x hx y hy=>?_⟩,fun x hx=>?_,by rw [È,Þ]; omega⟩
   ·rw [ç.mp hy]
    have:=h2 x hx
    omega
   ·rcases Û.mp hx with z | z
    ·have:=h2 x z; omega
    ·rw [ç.mp z]; omega
def d9 (k:Nat):List Int:=(ä k).map fun i=>0+((i:Nat):Int)
theorem qd (p:Int->Bool):∀ k,(d9 k).filter p∈subs k
 | 0=>ç.mpr rfl
 | k+1=>by
  have e:d9 (k+1)=d9 k++[0+((k:Nat):Int)]:=by
   unfold d9
   rw [List.range_succ,Ø]
   rfl
  rw [e,List.filter_append]
  cases hp:p (0+((k:Nat):Int)) with
  | true =>
   rw [List.filter_cons_of_pos hp]
   exact å _ (é.mpr ⟨_,qd p k,rfl⟩)
  | false =>
   rw [List.filter_cons_of_neg (by rw [hp]; exact Ö)]
   rw [List.filter_nil,ù]
   exact Ā _ (qd p k)
theorem dH {k:Nat}{x:Int}:x∈d9 k↔0<=x/\x<k:=by
 unfold d9
 rw [é]
 constructor
 ·rintro ⟨i,hi,rfl⟩
  have:=č.mp hi
  omega
 ·rintro ⟨h0,h1⟩
  exact⟨x.toNat,č.mpr (by omega),by omega⟩
def fSB (ds:List D) (P:D->Prop):Prop:=∃ c:Int,ds=[.int c]/\0<=c/\c<=8/\P (.list ((subs c.toNat).map lD))
def ni (n:Int) (us:List Tie) (fa:Int):Prop:=∀ l∈(subs (n - 1).toNat).drop 1,fa<((us.filter (lv l)).length:Nat)
def mO (ds:List D) (P:D->Prop):Prop:=∃ (n:Int) (us:List Tie) (fa:Int),ds=[aR n us,.int fa]/\1<=n/\n<=8/\us.length<=100/\∀ b:Bool,(b=true↔ni n us fa)->P (.bool b)
def Jf (ds:List D) (P:D->Prop):Prop:=∃ (n:Int) (us:List Tie) (fa:Int),ds=[aR n us,.int fa]/\1<=n/\n<=8/\us.length<=100/\∀ d:D,(K7 d=true↔ni n us fa)->P d
theorem wO {n:Int}{l:List Int} (n1:1<=n) (n8:n<=8) (h:l∈(subs (n - 1).toNat).drop 1):Proper n l:=by
 obtain⟨r,e,hr⟩:=jJ (n - 1).toNat
 obtain⟨h1,h2,h3⟩:=fU _ l (List.mem_of_mem_drop h)
 rw [e] at h
 have hne:=hr l h
 have hp:0<l.length:=List.length_pos_iff.mpr hne
 exact⟨hp,by omega,fun x hx=>by have:=h2 x hx; omega,h1,by omega⟩
section
variable {P:Program}{w:World}{K:Ú}{mg:Str->Option Value}{base:Heap}{f:Addr}{fd:FuncData}
theorem Ml:FnScope ["count","told","place"] ["count"] (ao (top 14)):=zC
theorem Sy:(["some","count","told","place"]:List Str).Nodup:=by decide +kernel
theorem R5 (F:Fun K "sets_below" "sets_below" (top 14) f fd) (B:ļ mg):FnOk P w K mg base CX0 1 f fd ["count"] (spD fSB):=by
 refine F.ok Ml Ĵ (fun cdv A outer s H vs Q E hr h=>?_)
 have nd:=Ml.nd
 refine⟨_,aK (cU none (bY (i:=1) nd rfl (Ğ rfl) (dB (aj (dB ak) ak))))
  (aK (cV Ą rfl (bC B.range (aj (dv 0) ak)) (aU (ŗ (i:=2) nd rfl (Or.inr rfl)))
   (aH (cU none (bY (i:=1) nd rfl (Ğ rfl) (Hi (dv 1) (j5 ["some"] rfl (dM (dv 1)) (fun c=>aU (ŗ (i:=0) Sy rfl (Ğ rfl))) (fun c=>cQ) (fun c=>Hi (dv 0) (dB (aj (dv 3) ak)))))))))
  (aH (bB (dv 1)))),aX h ?_⟩
 rintro ds P ⟨c,rfl,c0,c7,q⟩
 refine⟨[.im (.int c),.any,.any],rfl,zK,zK,⟨by omega,by omega⟩,rfl,fun (i:Nat) ρ=>∃ s2,ρ=[.im (.int c),.sn (.list ((subs i).map lD)),s2],⟨_,rfl⟩,?_,?_⟩
 ·rintro i d ρ hd ⟨s2,rfl⟩
  obtain⟨hi,rfl⟩:=bR hd
  have ls:((subs i).map lD).length<=128:=by
   rw [Á,aW]
   exact Ģ (by decide) (show i<=7 by omega)
  refine⟨by omega,.new,fun j ys=>ys=((subs i).take j).map fun l=>lD (l++[0+((i:Nat):Int)]),rfl,?_,?_⟩
  ·rintro j d ys hd rfl
   obtain⟨l,hl,rfl⟩:=dI hd
   have hok:=fU i l (Ì hl)
   have im:=fK (l++[0+((i:Nat):Int)])
   rw [Ø] at im
   refine aM (B:=True) ⟨zK,?_,.inl ⟨im,rfl,?_⟩⟩
   ·show (l.map Â).length+1<=1000
    rw [Á]
    omega
   ·dsimp only
    rw [oG _ hl]
    show _++[ē (l.map Â++[.int (0+((i:Nat):Int))])]=_++[ē ((l++[0+((i:Nat):Int)]).map Â)]
    rw [Ø]
    rfl
  ·rintro ys rfl
   refine⟨?_,.inr ⟨.im (.int (0+((i:Nat):Int))),?_⟩⟩
   ·rw [Á (as:=ŝ _ _),Ċ]
    rw [Á] at ls ⊢
    omega
   ·have e:(subs i).map lD++(((subs i).take ((subs i).map lD).length).map fun l=>lD (l++[0+((i:Nat):Int)]))=(subs (i+1)).map lD:=by
     rw [Á,Ĥ]
     show _=(subs i++(subs i).map _).map lD
     rw [Ø,ý]
     rfl
    rw [e]
    rfl
 ·rintro ρ ⟨s2,rfl⟩
  rw [ř]
  exact⟨rfl,q⟩
theorem Mj:FnScope ["web","falls","some"] ["web","falls"] (ao (top 37)):=zC
theorem Hw (F:Fun K "needy_set" "needy_set" (top 37) f fd) (SB:ø P w K mg base 1 "sets_below" ["count"] (spD fSB)) (NE:ø P w K mg base 8 "need" ["web","falls","some"] (spD Cz)):FnOk P w K mg base CX0 9 f fd ["web","falls"] (spD Jf):=by
 refine F.ok Mj Ĵ (fun cdv A outer s H vs Q E hr h=>?_)
 have nd:=Mj.nd
 refine⟨_,aK (cV Ą rfl (dM (zx (dc SB hr (aj (cT (fH (dv 0) aC (fun _ _=>rfl)) aC) ak)) (cH aC) eY)) (aU (ŗ (i:=2) nd rfl (Ğ rfl)))
   (aH (gn (iG (dc NE hr (aj (dv 0) (aj (dv 1) (aj (dv 2) ak)))) aC) (aH (bB (dv 2))) dJ)))
  (aH (bB Hf)),aX h ?_⟩
 rintro ds P ⟨n,us,fa,rfl,n1,n8,lu,q⟩
 refine⟨[.im (aR n us),.im (.int fa),.any],?_,.int n,rfl,n - 1,rfl,by omega,by omega,.inr ?_⟩
 ·show [bx (aR n us),bx (.int fa),.any]=_
  rw [cJ]
  rfl
 dsimp only
 rw [jC,← ŏ]
 refine⟨rfl,fun (i:Nat) ρ=>∃ s2,ρ=[.im (aR n us),.im (.int fa),s2]/\∀ l∈((subs (n - 1).toNat).drop 1).take i,fa<((us.filter (lv l)).length:Nat),⟨_,rfl,fun l h=>nomatch h⟩,?_,?_⟩
 ·rintro i d ρ hd ⟨s2,rfl,al⟩
  obtain⟨l,hl,rfl⟩:=dI hd
  refine⟨n,us,l,fa,rfl,wO n1 n8 (Ì hl),lu,fQ (fun c=>?_) (fun c=>⟨_,rfl,fun l' hl'=>?_⟩)⟩
  ·have c:=of_decide_eq_true c
   refine⟨rfl,q _ ⟨fun z=>absurd z Ö,fun z=>?_⟩⟩
   have:=z l (Ì hl)
   split at c <;> omega
  ·rw [ğ,hl] at hl'
   rcases Û.mp hl' with z | z
   ·exact al l' z
   ·have z:l'=l:=by simpa using z
    rw [z]
    have c:¬ (0<if 0 > fa+1 - ((us.filter (lv l)).length:Nat) then 0 else fa+1 - ((us.filter (lv l)).length:Nat)):=fun y=>c (decide_eq_true y)
    split at c <;> omega
 ·rintro ρ ⟨s2,rfl,al⟩
  rw [Á,Ĥ] at al
  exact⟨rfl,q _ ⟨fun _=>al,fun _=>rfl⟩⟩
theorem Ru:FnScope ["web","falls"] ["web","falls"] (ao (top 38)):=zC
theorem Dz (F:Fun K "stands" "stands" (top 38) f fd) (NS:ø P w K mg base 9 "needy_set" ["web","falls"] (spD Jf)):FnOk P w K mg base CX0 10 f fd ["web","falls"] (spD mO):=by
 refine F.ok Ru Ĵ (fun cdv A outer s H vs Q E hr h=>?_)
 refine⟨_,aH (bB (O5 (dc NS hr (aj (dv 0) (aj (dv 1) ak))) Hf)),aX h ?_⟩
 rintro ds P ⟨n,us,fa,rfl,n1,n8,lu,q⟩
 refine⟨[.im (aR n us),.im (.int fa)],?_,n,us,fa,rfl,n1,n8,lu,fun d hd=>⟨rfl,q _ hd⟩⟩
 show [bx (aR n us),bx (.int fa)]=_
 rw [cJ]
 rfl
def Gm (K:Ú):Sp:=fun vs H Q _=>∃ (sc:Addr) (ns:List Int),vs=[.ref sc]/\SqL K H sc (ns.map Ž)/\∀ p c ns' H',p≠c->Nq p c ns' H'->Same H H'->Q (.ref p) H'
def Rj (K:Ú):Sp:=fun vs H Q _=>∃ (a:Addr) (ns:List Int),vs=[.ref a]/\SqL K H a (ns.map Ž)/\∀ H',Q (.bl true) H'
theorem Rd.same {H H':Hp}{a:Addr}{u:HO} (r:Rd H a u) (s:Same H H'):Rd H' a u:=r.elim (fun h=>.inl (s _ _ h)) fun ⟨o,h⟩=>.inr ⟨o,s _ _ h⟩
theorem SqL.same {K:Ú}{H H':Hp}{a:Addr}{xs:List V} (h:SqL K H a xs) (s:Same H H'):SqL K H' a xs:=h.elim (fun h=>.inl (Rd.same h s)) .inr
theorem qz {H:Hp}{p:Addr} (h:H p=none) (o:HO):Same H (upd H p o):=fun b u q=>by rw [aq (aD q h)]; exact q
theorem Ef (c:Addr):kZ [] [(Ĉ ("cells":Str),V.ref c),(Ĉ ("at":Str),Ž 0),(Ĉ ("rest":Str),Ž 0)]=cL c 0 0:=by
 have h1:¬ ((Ĉ ("cells":Str):Key)=Ĉ ("at":Str)):=by intro z; injection z with z; exact absurd z (by decide +kernel)
 have h2:¬ ((Ĉ ("cells":Str):Key)=Ĉ ("rest":Str)):=by intro z; injection z with z; exact absurd z (by decide +kernel)
 have h3:¬ ((Ĉ ("at":Str):Key)=Ĉ ("rest":Str)):=by intro z; injection z with z; exact absurd z (by decide +kernel)
 simp [kZ,putK,cL,h1,h2,h3]
theorem Jz (ns:List Int) (lo hi:Option Int):∃ ns':List Int,oR (ns.map Ž) lo hi=ns'.map Ž:=by
 unfold oR
 exact⟨_,by rw [← ŏ,← List.map_take]⟩
theorem Uj:FnScope ["_law_script"] ["_law_script"] (ao (top 44)):=zC
theorem Pj (F:Fun K "_law_pen" "_law_pen" (top 44) f fd) (B:ļ mg):FnOk P w K mg base CX0 1 f fd ["_law_script"] (Gm K):=by
 refine F.ok Uj (fun vs H Q E h=>?_) (fun cdv A outer s H vs Q E hr h=>?_)
 ·obtain⟨sc,ns,rfl,_⟩:=h
  rfl
 obtain⟨sc,ns,rfl,hS,q⟩:=h
 refine⟨_,fZ (kE (Ks (qF dO (nU mX rfl B.list boot_list (cD (qH uN (pv 0) BJ (Bx bT)) gG)) (qF dO bT (qF dO bT Kh))) rfl rfl (by intro z; cases z) (by show 3<=15; decide))),?_⟩
 intro p hp
 obtain⟨ns',e'⟩:=Jz ns none (some 63)
 have s1:=qz hp (.dK [])
 refine⟨_,rfl,63,rfl,sc,_,rfl,SqL.same hS s1,fun l hl=>⟨l,_,rfl,.inl (SqL.of au),fun c hc=>?_⟩⟩
 have pl:p≠l:=fun z=>by rw [← z,au] at hl; cases hl
 have pc:p≠c:=fun z=>by rw [← z,aq pl,au] at hc; cases hc
 refine⟨by rw [aq pc,aq pl]; exact au,[(Ĉ ("cells":Str),.ref c),(Ĉ ("at":Str),.int 0),(Ĉ ("rest":Str),.int 0)],rfl,(by show 3<=15; decide),?_⟩
 rw [Ef]
 exact q p c ns' _ pc ⟨0,0,au,by rw [aq (Į pc),au,e']⟩ fun b o e=>by rw [aq (aD e hp)]; exact qz hc _ b o (qz hl _ b o (s1 b o e))
end
end Nf
set_option maxHeartbeats 4000000
namespace Nf
open PySem L2 PyProof.Rows Dl
def allB (n:Nat) (p:Nat->Bool):Bool:=(ä n).all p
theorem allB_iff {n:Nat}{p:Nat->Bool} (h:allB n p=true):∀ i,i<n->p i=true:=fun i hi=>ċ.mp h i (č.mpr hi)
def inB (s r:Nat):Bool:=(s &&& r) == s
def chn:Nat->Nat->Nat->List Nat
 | 0,_,_=>[]
 | f+1,r,s=>s::(if s=0 then [] else chn f r ((s - 1) &&& r))
theorem LK:allB 128 (fun r=>chn 129 r r == (ä (r+1)).reverse.filter (fun s=>inB s r))=true:=by decide +kernel
theorem Te:allB 128 (fun r=>allB (r+1) fun s=>!inB s r || (((r - s) &&& s == 0)&&inB (r - s) r))=true:=by decide +kernel
theorem Td:allB 8 (fun j=>allB (2 ^ j) fun r=>allB (r+1) fun s=>!inB s r || inB (s+2 ^ j) (r+2 ^ j))=true:=by decide +kernel
theorem Tf:allB 8 (fun j=>allB (2 ^ j) fun k=>allB (2 ^ j) fun s=>(k &&& (s+2 ^ j)) == (k &&& s))=true:=by decide +kernel
theorem U9:allB 8 (fun j=>allB (2 ^ j) fun r=>allB (2 ^ (j+1)) fun m=>!inB m (r+2 ^ j) || (if m<2 ^ j then inB m r else inB (m - 2 ^ j) r))=true:=by decide +kernel
theorem M7:allB 9 (fun n=>allB (2 ^ n) fun a=>(subs n).getD a [] == ((ä n).filter (fun i=>a.testBit i)).map fun i:Nat=>0+((i:Nat):Int))=true:=by decide +kernel
theorem iM {s r:Nat}:inB s r=true↔s &&& r=s:=beq_iff_eq
theorem gH {s r:Nat} (h:inB s r=true):s<=r:=by
 have:=iM.mp h
 rw [← this]
 exact Nat.and_le_right
theorem TV {r s:Nat} (hr:r<128) (h:inB s r=true):((r - s) &&& s)=0/\inB (r - s) r=true:=by
 have a:=allB_iff (allB_iff Te r hr) s (by have:=gH h; omega)
 rw [h] at a
 simp only [Bool.not_true,Bool.false_or,Ý,beq_iff_eq] at a
 exact a
theorem TQ {j r s:Nat} (hj:j<8) (hr:r<2 ^ j) (h:inB s r=true):inB (s+2 ^ j) (r+2 ^ j)=true:=by
 have a:=allB_iff (allB_iff (allB_iff Td j hj) r hr) s (by have:=gH h; omega)
 rw [h] at a
 simpa using a
theorem Nm {j k s:Nat} (hj:j<8) (hk:k<2 ^ j) (hs:s<2 ^ j):k &&& (s+2 ^ j)=k &&& s:=beq_iff_eq.mp (allB_iff (allB_iff (allB_iff Tf j hj) k hk) s hs)
theorem Va {j r m:Nat} (hj:j<8) (hr:r<2 ^ j) (hm:m<2 ^ (j+1)) (h:inB m (r+2 ^ j)=true):(m<2 ^ j/\inB m r=true)\/(2 ^ j<=m/\inB (m - 2 ^ j) r=true):=by
 have a:=allB_iff (allB_iff (allB_iff U9 j hj) r hr) m hm
 rw [h] at a
 by_cases c:m<2 ^ j
 ·rw [if_pos c] at a
  exact .inl ⟨c,by simpa using a⟩
 ·rw [if_neg c] at a
  exact .inr ⟨by omega,by simpa using a⟩
theorem wB {r:Nat} (hr:r<128):∀ s,s∈chn 129 r r↔inB s r=true:=fun s=>by
 rw [beq_iff_eq.mp (allB_iff LK r hr),ĉ,List.mem_reverse,č]
 exact⟨fun h=>h.2,fun h=>⟨by have:=gH h; omega,h⟩⟩
theorem Kl {j:Nat} (h:j<8):2 ^ j<=128:=þ (Ģ (n:=2) (by decide) (show j<=7 by omega)) (by decide)
abbrev En:=Int×List Int
def rZ (ws ks:List Int):Int:=(ks.map fun k=>ws.getD k.toNat 0).sum
theorem Gd (ws ks:List Int) (k:Int):rZ ws (ks++[k])=rZ ws ks+ws.getD k.toNat 0:=by
 unfold rZ
 rw [Ø,List.sum_append]
 simp
structure BE (ws:List Int) (n m:Nat) (e:En):Prop where
 sum:e.1=rZ ws e.2
 mem:∀ k∈e.2,0<k/\inB k.toNat m=true/\k.toNat+1<2 ^ n
 apart:e.2.Pairwise fun a b=>a.toNat &&& b.toNat=0
 top:∀ s,inB s m=true->ws.getD s 0<=e.1
 len:∀ j,m<2 ^ j->e.2.length<=j
theorem BE.nil {ws:List Int}{n:Nat} (h:ws.getD 0 0=0):BE ws n 0 (0,[]):=⟨rfl,fun k h=>(nomatch h),.nil,fun s hs=>by
 have:s=0:=by have:=gH hs; omega
 rw [this,h]
 exact ě _,fun _ _=>Ć _⟩
theorem BE.nn {ws:List Int}{n m:Nat}{e:En} (h:BE ws n m e) (h0:ws.getD 0 0=0):0<=e.1:=by
 have:=h.top 0 (iM.mpr (Nat.zero_and m))
 rwa [h0] at this
theorem BE.zero {ws:List Int}{n:Nat}{e:En} (h:BE ws n 0 e):e=(0,[]):=by
 obtain⟨t,L⟩:=e
 have hL:L=[]:=by
  cases L with
  | nil=>rfl
  | cons k L =>
   obtain⟨h1,h2,_⟩:=h.mem k Æ
   have:=gH h2
   omega
 subst hL
 have:=h.sum
 exact Prod.ext this rfl
def je (ws:List Int) (bs:List En) (top rest:Nat) (found:En) (sub:Nat):En :=
 if found.1<ws.getD (sub+top) 0+(bs.getD (rest - sub) (0,[])).1 then (ws.getD (sub+top) 0+(bs.getD (rest - sub) (0,[])).1,(bs.getD (rest - sub) (0,[])).2++[((sub+top:Nat):Int)]) else found
structure FE (ws:List Int) (n j rest:Nat) (seen:List Nat) (e:En):Prop where
 sum:e.1=rZ ws e.2
 mem:∀ k∈e.2,0<k/\inB k.toNat (rest+2 ^ j)=true/\k.toNat+1<2 ^ n
 apart:e.2.Pairwise fun a b=>a.toNat &&& b.toNat=0
 low:∀ s,inB s rest=true->ws.getD s 0<=e.1
 upp:∀ s∈seen,ws.getD (s+2 ^ j) 0<=e.1
 len:e.2.length<=j+1
section
variable {ws:List Int}{n j rest:Nat}{bs:List En} (h0:ws.getD 0 0=0) (h1:ws.getD (2 ^ n - 1) 0=0) (hn:n<=8) (hj:j<n) (hr:rest<2 ^ j) (hb:∀ m,m<2 ^ j->BE ws n m (bs.getD m (0,[])))
theorem Cp {k r j:Nat} (hj:j<8) (hr:r<2 ^ j) (h:inB k r=true):inB k (r+2 ^ j)=true:=by
 rw [iM] at h ⊢
 have:=gH (iM.mpr h)
 rw [Nm hj (by omega) hr]
 exact h
include hn hj hr hb in
theorem FE.start:FE ws n j rest [] (bs.getD rest (0,[])):=by
 have b:=hb rest hr
 exact⟨b.sum,fun k hk=>let ⟨x,y,z⟩:=b.mem k hk; ⟨x,Cp (by omega) hr y,z⟩,b.apart,b.top,fun s h=>(nomatch h),by have:=b.len j hr; omega⟩
include h0 h1 hn hj hr hb in
theorem FE.step {seen:List Nat}{e:En} (f:FE ws n j rest seen e) {s:Nat} (hs:inB s rest=true):FE ws n j rest (s::seen) (je ws bs (2 ^ j) rest e s):=by
 have p8:=Kl (show j<8 by omega)
 have sl:=gH hs
 obtain⟨q1,q2⟩:=TV (show rest<128 by omega) hs
 have b:=hb (rest - s) (by omega)
 have bn:=b.nn h0
 have en:0<=e.1:=by
  have:=f.low 0 (iM.mpr (Nat.zero_and _))
  rwa [h0] at this
 unfold je
 by_cases c:e.1<ws.getD (s+2 ^ j) 0+(bs.getD (rest - s) (0,[])).1
 ·rw [if_pos c]
  have kr:∀ k,inB k (rest - s)=true->inB k rest=true/\k &&& s=0:=fun k hk=>by
   rw [iM] at hk q2 ⊢
   refine⟨?_,?_⟩
   ·rw [← hk,Nat.and_assoc,q2]
   ·rw [← hk,Nat.and_assoc,q1,Nat.and_zero]
  refine⟨?_,fun k hk=>?_,?_,fun x hx=>?_,fun x hx=>?_,?_⟩
  ·show _=rZ ws (_++[_])
   rw [Gd,← b.sum,Ù]
   omega
  ·rcases Û.mp hk with z | z
   ·obtain⟨x,y,w⟩:=b.mem k z
    exact⟨x,Cp (by omega) hr (kr _ y).1,w⟩
   ·rw [ç.mp z,Ù]
    have pj:=Nat.two_pow_pos j
    refine⟨by omega,TQ (by omega) hr hs,?_⟩
    have pn:2 ^ (j+1)<=2 ^ n:=Ģ (by decide) (by omega)
    rw [ž] at pn
    rcases Nat.lt_or_ge (s+2 ^ j+1) (2 ^ n) with z | z
    ·exact z
    ·have e1:rest - s=0:=by omega
     have e2:s+2 ^ j=2 ^ n - 1:=by omega
     rw [e1] at b c
     rw [e2,h1,b.zero] at c
     exact absurd c (by show ¬ e.1<0+0; omega)
  ·refine List.pairwise_append.mpr ⟨b.apart,by simp,fun x hx y hy=>?_⟩
   rw [ç.mp hy,Ù]
   obtain⟨_,y1,_⟩:=b.mem x hx
   have k1:=kr _ y1
   have:=gH k1.1
   rw [Nm (by omega) (by omega) (by omega)]
   exact k1.2
  ·have:=f.low x hx
   show _<=_+_
   omega
  ·show _<=ws.getD (s+2 ^ j) 0+_
   rcases Ô.mp hx with rfl | hx
   ·omega
   ·have:=f.upp x hx
    omega
  ·show (_++[_]).length<=_
   rw [È,Þ]
   have:=b.len j (by omega)
   omega
 ·rw [if_neg c]
  refine⟨f.sum,f.mem,f.apart,f.low,fun x hx=>?_,f.len⟩
  rcases Ô.mp hx with rfl | hx
  ·omega
  ·exact f.upp x hx
include h0 h1 hn hj hr hb in
theorem FE.walk:∀ (l:List Nat) {seen:List Nat}{e:En},FE ws n j rest seen e->(∀ s∈l,inB s rest=true)->FE ws n j rest (l.reverse++seen) (l.foldl (je ws bs (2 ^ j) rest) e)
 | [],_,_,f,_=>f
 | s::l,seen,e,f,h=>by
  have:=FE.walk l (FE.step h0 h1 hn hj hr hb f (h s Æ)) fun x hx=>h x (Ã _ hx)
  rw [ź,Ŏ]
  exact this
include hn hj hr in
theorem FE.done {seen:List Nat}{e:En} (f:FE ws n j rest seen e) (h:∀ s,inB s rest=true->s∈seen):BE ws n (rest+2 ^ j) e:=by
 refine⟨f.sum,f.mem,f.apart,fun s hs=>?_,fun i hi=>?_⟩
 ·have sl:=gH hs
  rcases Va (by omega) hr (by rw [ž]; omega) hs with ⟨_,z⟩ | ⟨c,z⟩
  ·exact f.low s z
  ·have:=f.upp _ (h _ z)
   rwa [show s - 2 ^ j+2 ^ j=s by omega] at this
 ·have:j+1<=i:=by
   rcases Nat.lt_or_ge j i with z | z
   ·omega
   ·have:=Ģ (n:=2) (by decide) z
    omega
  exact þ f.len this
end
def bwF (ws:List Int) (bs:List En) (top rest:Nat):En:=(chn 129 rest rest).foldl (je ws bs top rest) (bs.getD rest (0,[]))
def Cq (ws:List Int) (bs:List En) (top:Nat):Nat->List En
 | 0=>bs
 | i+1=>Cq ws bs top i++[bwF ws (Cq ws bs top i) top i]
def grow (ws:List Int):Nat->List En
 | 0=>[(0,[])]
 | j+1=>Cq ws (grow ws j) (2 ^ j) (2 ^ j)
def JH (ws:List Int) (n:Nat):En:=(grow ws n).getD (2 ^ n - 1) (0,[])
def setOf (n:Nat) (k:Int):List Int:=(subs n).getD k.toNat []
structure HAok (n:Nat) (ws ks:List Int):Prop where
 len:ks.length<=n
 rng:∀ k∈ks,0<k/\k<(2 ^ n:Nat) - 1
 apart:ks.Pairwise fun a b=>∀ x∈setOf n a,x∉setOf n b
 top:∀ w∈ws,w<=rZ ws ks
 is:ks=(JH ws n).2
 tot:rZ ws ks=(JH ws n).1
theorem BE.ha {n:Nat}{ws:List Int}{e:En} (hn:n<=8) (hl:ws.length=2 ^ n) (b:BE ws n (2 ^ n - 1) e) (he:e=JH ws n):HAok n ws e.2:=by
 have pn:=Nat.two_pow_pos n
 have sb:∀ a,a<2 ^ n->(subs n).getD a []=((ä n).filter (fun i=>a.testBit i)).map fun i:Nat=>0+((i:Nat):Int):=fun a ha=>beq_iff_eq.mp (allB_iff (allB_iff M7 n (by omega)) a ha)
 refine⟨b.len n (by omega),fun k hk=>?_,?_,fun w hw=>?_,by rw [he],by rw [← b.sum,he]⟩
 ·obtain⟨h1,_,h3⟩:=b.mem k hk
  omega
 ·have key:∀ {l:List Int},l.Pairwise (fun a b=>a.toNat &&& b.toNat=0)->(∀ k∈l,k.toNat<2 ^ n)->l.Pairwise fun a b=>∀ x∈setOf n a,x∉setOf n b:=fun {l} h m=>by
   induction h with
   | nil=>exact .nil
   | cons h t ih =>
    refine .cons (fun y hy x hx hx2=>?_) (ih fun k hk=>m k (Ã _ hk))
    unfold setOf at hx hx2
    rw [sb _ (m _ Æ)] at hx
    rw [sb _ (m _ (Ã _ hy))] at hx2
    obtain⟨i,hi,rfl⟩:=é.mp hx
    obtain⟨i2,hi2,e⟩:=é.mp hx2
    have e:i2=i:=by omega
    subst e
    have z:=congrArg (fun v=>Nat.testBit v i2) (h y hy)
    simp only [Nat.testBit_and,Nat.zero_testBit,(ĉ.mp hi).2,(ĉ.mp hi2).2] at z
    cases z
  exact key b.apart fun k hk=>by have:=(b.mem k hk).2.2; omega
 ·obtain⟨s,hs,rfl⟩:=List.getElem_of_mem hw
  have h2:s<2 ^ n:=by omega
  have:=b.top s (iM.mpr (by rw [Nat.and_two_pow_sub_one_eq_mod,Nat.mod_eq_of_lt h2]))
  rw [Ë,Ç hs] at this
  rw [← b.sum]
  exact this
def fHA (ds:List D) (P:D->Prop):Prop:=∃ (n:Nat) (ws:List Int),ds=[iD ws]/\1<=n/\n<=8/\ws.length=2 ^ n/\(∀ x∈ws,0<=x)/\ws.head?=some 0/\ws.getLast?=some 0/\∀ ks,HAok n ws ks->P (iD ks)
def enD (e:En):D:=.tuple [.int e.1,iD e.2]
def fBW (ds:List D) (P:D->Prop):Prop:=∃ (n j rest:Nat) (ws:List Int) (bs:List En),ds=[iD ws,.list (bs.map enD),.int ((2 ^ j:Nat):Int),.int ((rest:Nat):Int)]/\n<=8/\j<n/\rest<2 ^ j/\ws.length=2 ^ n/\bs.length=2 ^ j+rest/\(∀ e∈bs,e.2.length<=8)/\P (enD (bwF ws bs (2 ^ j) rest))
theorem JK (a b:Nat):Ų ((a:Nat):Int) ((b:Nat):Int)=((a &&& b:Nat):Int):=by
 unfold Ų
 rw [decide_eq_true (by omega),decide_eq_true (by omega)]
 rfl
theorem TX {ws:List Int}{i:Nat} (h:i<ws.length):atI (ws.map Â) ((i:Nat):Int)=some (.int (ws.getD i 0)):=by
 refine d7 ?_
 rw [á,Ë,Ç h]
 rfl
theorem Np {bs:List En}{i:Nat} (h:i<bs.length):atI (bs.map enD) ((i:Nat):Int)=some (enD (bs.getD i (0,[]))):=by
 refine d7 ?_
 rw [á,Ë,Ç h]
 rfl
def IvB (ws:List Int) (bs:List En) (j rest m:Nat) (ρ:List Sl):Prop:=∃ (s:Int) (l:List Nat) (e:En) (s4:Sl),ρ=[.sh (iD ws),.sh (.list (bs.map enD)),.im (.int ((2 ^ j:Nat):Int)),.im (.int ((rest:Nat):Int)),s4,.im (.int s),.any]/\(s4=.sh (enD e)\/s4=.sn (enD e))/\((s=-1/\l=[])\/∃ f sN:Nat,s=((sN:Nat):Int)/\sN+1<=f/\l=chn f rest sN)/\l.foldl (je ws bs (2 ^ j) rest) e=bwF ws bs (2 ^ j) rest/\(∀ x∈l,inB x rest=true)/\m=l.length
theorem JD (g r s:Nat):chn (g+1) r s=s::(if s=0 then [] else chn g r ((s - 1) &&& r)):=rfl
theorem Dg {ws:List Int}{bs:List En}{j rest sN g:Nat}{e e':En}{s4:Sl}{t:Int}{Q:DEnds} (hsf:sN+1<=g+1) (h4:s4=.sh (enD e')\/s4=.sn (enD e')) (hf:(chn (g+1) rest sN).foldl (je ws bs (2 ^ j) rest) e=bwF ws bs (2 ^ j) rest) (he:e'=je ws bs (2 ^ j) rest e sN) (hin:∀ x∈chn (g+1) rest sN,inB x rest=true)
  (hQ:∀ ρ2,(∃ m',m'<(chn (g+1) rest sN).length/\IvB ws bs j rest m' ρ2)->Q.nx ρ2) :
  pN (Av 5 none (NP (cR (t2 (gI0 fun i j=>Ľ (decide (j<i))) (tV 5) (tK (Â 0)))) (t2 (gI0 fun i j=>Â (Ų i j)) (t2 (gI0 fun i j=>Â (i - j)) (tV 5) (tK (Â 1))) (tV 3)) (J0 (tK (Â 1))))) (rM [6] mV) Q
   [.sh (iD ws),.sh (.list (bs.map enD)),.im (.int ((2 ^ j:Nat):Int)),.im (.int ((rest:Nat):Int)),s4,.im (.int ((sN:Nat):Int)),.im (.int t)]:=by
 rw [JD] at hf hin hQ
 show if decide ((0:Int)<((sN:Nat):Int))=true then _ else _
 by_cases c:sN=0
 ·subst c
  rw [decide_eq_false (by omega)]
  refine aN (A:=True) ?_
  rw [if_pos rfl] at hf hin hQ
  exact hQ _ ⟨0,by simp,-1,[],e',s4,rfl,h4,.inl ⟨rfl,rfl⟩,by rw [he]; exact hf,fun x hx=>(nomatch hx),rfl⟩
 ·rw [decide_eq_true (by omega)]
  refine aM (B:=True) ?_
  rw [if_neg c] at hf hin hQ
  have eb:Ų (((sN:Nat):Int) - 1) ((rest:Nat):Int)=(((sN - 1) &&& rest:Nat):Int):=by
   rw [show ((sN:Nat):Int) - 1=((sN - 1:Nat):Int) by omega]
   exact JK _ _
  have hl:((sN - 1) &&& rest)<=sN - 1:=Nat.and_le_left
  exact hQ _ ⟨(chn g rest ((sN - 1) &&& rest)).length,by simp,(((sN - 1) &&& rest:Nat):Int),chn g rest ((sN - 1) &&& rest),e',s4,by rw [← eb]; rfl,h4,.inr ⟨g,(sN - 1) &&& rest,rfl,by omega,rfl⟩,by rw [he]; exact hf,fun x hx=>hin x (Ã _ hx),rfl⟩
section
variable {P:Program}{w:World}{K:Ú}{mg:Str->Option Value}{base:Heap}{f:Addr}{fd:FuncData}{CN:Addr}
theorem lO:FnScope ["weights","best","top","rest","found","sub","total"] ["weights","best","top","rest"] (ao (top 25)):=zC
theorem vm (F:Fun K "best_with" "best_with" (top 25) f fd) (B:ļ mg):FnOk P w K mg base CX0 1 f fd ["weights","best","top","rest"] (spR fBW):=by
 refine F.ok lO vK (fun cdv A outer s H vs Q E hr h=>?_)
 have nd:=lO.nd
 refine⟨_,Dl.WR.h (Dl.uO (ö none (i:=4) nd rfl zQ (ò (Ê 1) (Ê 3)))
  (Dl.uO (ö none (i:=5) nd rfl zQ (Ê 3))
  (Dl.uO (Wr.jz Ą (Wr.zu (Ê 5) Õ) (Ó (ö none (i:=6) nd rfl zQ (Ę (ò (Ê 0) (Ę (Ê 5) (Ê 2))) (ò (ò (Ê 1) (Wr.cT (Ê 3) (Ê 5))) Õ)))
  (Ó (ŋ (Wr.iG (Ê 6) (ò (Ê 4) Õ)) (ð (ö none (i:=4) nd rfl zQ (Ĝ (À (Ê 6) (À (Ę (ò (ò (Ê 1) (Wr.cT (Ê 3) (Ê 5))) Õ) (Ņ (À (Ę (Ê 5) (Ê 2)) Å))) Å))))) Č)
  (Ó (ö none (i:=5) nd rfl zQ (Wr.jl (Wr.iG (Ê 5) Õ) (Wr.KC (Wr.cT (Ê 5) Õ) (Ê 3)) (Wr.iH Õ))) (ĕ [6] Č)))))
  (Dl.zf (Ê 4))))),Am h ?_⟩
 rintro ds P ⟨n,j,rest,ws,bs,rfl,n8,jn,rj,lw,lb,le,q⟩
 refine⟨[.sh (iD ws),.sh (.list (bs.map enD)),.im (.int ((2 ^ j:Nat):Int)),.im (.int ((rest:Nat):Int)),.any,.any,.any],rfl,?_⟩
 have p8:=Kl (show j<8 by omega)
 have pn:2 ^ (j+1)<=2 ^ n:=Ģ (by decide) (by omega)
 rw [ž] at pn
 refine⟨_,Np (by omega),?_⟩
 refine mQ (rg:=none) (i:=4) (k:=norm .shr (enD (bs.getD rest (0,[])))) (d:=enD (bs.getD rest (0,[]))) (s:=.sh (enD (bs.getD rest (0,[])))) (by rfl) ?_
 show Rz (Ar _ _) (RB (tV 4)) P [.sh (iD ws),.sh (.list (bs.map enD)),.im (.int ((2 ^ j:Nat):Int)),.im (.int ((rest:Nat):Int)),.sh (enD (bs.getD rest (0,[]))),.im (.int ((rest:Nat):Int)),.any]
 refine⟨IvB ws bs j rest,
  ⟨_,_,chn 129 rest rest,bs.getD rest (0,[]),_,rfl,.inl rfl,.inr ⟨129,rest,rfl,by omega,rfl⟩,rfl,fun x hx=>(wB (by omega) x).mp hx,rfl⟩,?_⟩
 rintro m ρ ⟨s,l,e,s4,rfl,h4,hs,hf,hin,rfl⟩
 show if decide ((0:Int)<=s)=true then _ else _
 rcases hs with ⟨rfl,rfl⟩ | ⟨f,sN,rfl,hsf,rfl⟩
 ·rw [decide_eq_false (by omega)]
  refine aN (A:=True) ?_
  have hf:e=bwF ws bs (2 ^ j) rest:=hf
  rw [← hf] at q
  rcases h4 with rfl | rfl <;> exact q
 ·rw [decide_eq_true (by omega)]
  refine aM (B:=True) ?_
  obtain⟨g,rfl⟩:∃ g,f=g+1:=⟨f - 1,by omega⟩
  have hsr:inB sN rest=true:=hin sN Æ
  have hsl:=gH hsr
  have i1:atI (ws.map Â) (((sN:Nat):Int)+((2 ^ j:Nat):Int))=some (.int (ws.getD (sN+2 ^ j) 0)):=by
   rw [show ((sN:Nat):Int)+((2 ^ j:Nat):Int)=((sN+2 ^ j:Nat):Int) by omega]
   exact TX (by omega)
  have i2:atI (bs.map enD) (((rest:Nat):Int) - ((sN:Nat):Int))=some (enD (bs.getD (rest - sN) (0,[]))):=by
   rw [show ((rest:Nat):Int) - ((sN:Nat):Int)=((rest - sN:Nat):Int) by omega]
   exact Np (by omega)
  refine⟨_,i1,_,i2,_,rfl,?_⟩
  refine mQ (rg:=none) (i:=6) (k:=.imm) (d:=.int (ws.getD (sN+2 ^ j) 0+(bs.getD (rest - sN) (0,[])).1)) (s:=.im (.int (ws.getD (sN+2 ^ j) 0+(bs.getD (rest - sN) (0,[])).1))) (by rfl) ?_
  have ln:(bs.getD (rest - sN) (0,[])).2.length<=8:=by
   rw [Ë,Ç (by omega)]
   exact le _ (ĥ _)
  have h40:∀ {R:Prop},(s4=.sh (enD e)->R)->(s4=.sn (enD e)->R)->R:=fun a b=>h4.elim a b
  by_cases c:e.1<ws.getD (sN+2 ^ j) 0+(bs.getD (rest - sN) (0,[])).1
  ·have he:(ws.getD (sN+2 ^ j) 0+(bs.getD (rest - sN) (0,[])).1,(bs.getD (rest - sN) (0,[])).2++[((sN+2 ^ j:Nat):Int)])=je ws bs (2 ^ j) rest e sN:=by
    unfold je
    rw [if_pos c]
   have ed:(bs.getD (rest - sN) (0,[])).2.map Â++Ĳ (fun x:Kd×D=>x.snd) [(Kd.imm,Â (((sN:Nat):Int)+((2 ^ j:Nat):Int)))]=((bs.getD (rest - sN) (0,[])).2++[((sN+2 ^ j:Nat):Int)]).map Â:=by
    rw [Ø,show ((sN+2 ^ j:Nat):Int)=((sN:Nat):Int)+((2 ^ j:Nat):Int) by omega]
    rfl
   rcases h4 with rfl | rfl
   all_goals
    refine⟨.int e.1,rfl,?_⟩
    show if decide (e.1<_)=true then _ else _
    rw [decide_eq_true c]
    refine aM (B:=True) ⟨_,i2,_,rfl,zK,?_,.inl ⟨?_,zK,?_⟩⟩
    ·rw [Á]
     show _+1<=1000
     omega
    ·rw [ed]
     exact fK _
    ·dsimp only
     rw [ed]
     exact Dg (s4:=.sn (enD (ws.getD (sN+2 ^ j) 0+(bs.getD (rest - sN) (0,[])).1,(bs.getD (rest - sN) (0,[])).2++[((sN+2 ^ j:Nat):Int)]))) hsf (.inr rfl) hf he hin fun ρ2 h=>h
  ·have he:e=je ws bs (2 ^ j) rest e sN:=by
    unfold je
    rw [if_neg c]
   rcases h4 with rfl | rfl
   all_goals
    refine⟨.int e.1,rfl,?_⟩
    show if decide (e.1<_)=true then _ else _
    rw [decide_eq_false c]
    refine aN (A:=True) ?_
    exact Dg hsf (by first | exact .inl rfl | exact .inr rfl) hf he hin fun ρ2 h=>h
theorem fW:FnScope ["weights","best","top","rest"] ["weights"] (ao (top 26)):=zC
theorem mF (F:Fun K "heaviest_apart" "heaviest_apart" (top 26) f fd) (B:ļ mg) (C_best_with:ø P w K mg base 1 "best_with" ["weights","best","top","rest"] (spR fBW)):FnOk P w K mg base CX0 2 f fd ["weights"] (spD fHA):=by
 refine F.ok fW Ĵ (fun cdv A outer s H vs Q E hr h=>?_)
 have nd:=fW.nd
 refine⟨_,ĝ (Ó (Wr.vW 0 true (i:=1) nd rfl zQ (À (Ĝ (À Õ (À (Ņ Å) Å))) Å))
  (Ó (ö none (i:=2) nd rfl zQ Õ)
  (Ó (Wr.jz Ą (Wr.qI (Ê 2) (Ň B.len (À (Ê 0) Å))) (Ó (Wr.cV Ą rfl (Wr.bC B.range (À (Ê 2) Å)) (ñ (i:=3) nd rfl zQ) (Ó (Wr.v7 C_best_with hr (Ř 1) (Ř 0) (Ř 1) (Ř 2) (Ř 3)) (ĕ [3] Č)))
  (ĕ [3] (Ó (ö none (i:=2) nd rfl zQ (Wr.jk Õ (Ê 2))) (ĕ [3] Č)))))
  (ĕ [2,3] (ð (ā (ò (ò (Ê 1) (Wr.iH Õ)) Õ))))))),aX h ?_⟩
 rintro ds P ⟨n,ws,rfl,n1,n8,lw,w0,hh,hl,q⟩
 refine⟨[.sh (iD ws),.any,.any,.any],rfl,?_⟩
 have pn:=Nat.two_pow_pos n
 have p2:2 ^ n<=256:=Ģ (n:=2) (by decide) n8
 have h0:ws.getD 0 0=0:=by
  cases ws with
  | nil=>rfl
  | cons x l=>cases hh; rfl
 have h1:ws.getD (2 ^ n - 1) 0=0:=by
  rw [List.getLast?_eq_getElem?,lw] at hl
  rw [Ë,hl]
  rfl
 have el:((iD ws:D)=.list (ws.map Â)):=rfl
 refine⟨zK,zK,zK,rfl,rfl,?_⟩
 refine⟨fun m ρ=>∃ (j:Nat) (bs:List En),ρ=[.sh (iD ws),.sp 0 true (bs.map enD),.im (.int ((2 ^ j:Nat):Int)),.any]/\j<=n/\bs.length=2 ^ j/\bs=grow ws j/\(∀ i,i<2 ^ j->BE ws n i (bs.getD i (0,[])))/\m=n - j,⟨_,0,[(0,[])],rfl,by omega,rfl,rfl,fun i hi=>?_,rfl⟩,?_⟩
 ·have:i=0:=by omega
  subst this
  exact .nil h0
 rintro m ρ ⟨j,bs,rfl,jn,lb,eg,hb,rfl⟩
 show if decide (((2 ^ j:Nat):Int)<(((ws.map Â).length:Nat):Int))=true then _ else _
 rw [Á,lw]
 by_cases c:j<n
 ·have pj:2 ^ (j+1)<=2 ^ n:=Ģ (by decide) (by omega)
  have pjj:2 ^ (j+1)=2 ^ j * 2:=ž ..
  have pp:=Nat.two_pow_pos j
  rw [decide_eq_true (by omega)]
  refine aM (B:=True) ⟨⟨by omega,by omega⟩,rfl,fun (i:Nat) ρ=>∃ bs:List En,ρ=[.sh (iD ws),.sp 0 true (bs.map enD),.im (.int ((2 ^ j:Nat):Int)),.any]/\bs.length=2 ^ j+i/\bs=Cq ws (grow ws j) (2 ^ j) i/\∀ t,t<2 ^ j+i->BE ws n t (bs.getD t (0,[])),⟨bs,rfl,lb,eg,hb⟩,?_,?_⟩
  ·rintro i d ρ hd ⟨bs,rfl,lb,eg,hb⟩
   obtain⟨hi,rfl⟩:=bR hd
   rw [Ù] at hi
   have be:=(FE.walk h0 h1 n8 c hi (fun m hm=>hb m (by omega)) (chn 129 i i) (FE.start n8 c hi fun m hm=>hb m (by omega)) fun s hs=>(wB (by have:=Kl (show j<8 by omega); omega) s).mp hs).done n8 c hi fun s hs=>by
    rw [ù,List.mem_reverse]
    exact (wB (by have:=Kl (show j<8 by omega); omega) s).mpr hs
   have be:BE ws n (i+2 ^ j) (bwF ws bs (2 ^ j) i):=be
   have l8:∀ e∈bs,e.2.length<=8:=fun e he=>by
    obtain⟨t,ht,rfl⟩:=List.getElem_of_mem he
    have:=(hb t (by omega)).len n (by omega)
    rw [Ë,Ç ht] at this
    exact þ this n8
   have tn:i+2 ^ j<2 ^ n:=by omega
   have ln:=be.len n tn
   have lt:n<2 ^ n:=Nat.lt_two_pow_self
   refine⟨0,bs.map enD,ws,((2 ^ j:Nat):Int),0+((i:Nat):Int),rfl,rfl,rfl,rfl,?_,by rw [Á]; omega,n,j,i,ws,bs,by rw [Int.zero_add],n8,c,hi,lw,lb,l8,(bwF ws bs (2 ^ j) i).1,(bwF ws bs (2 ^ j) i).2,rfl,by omega,bs++[bwF ws bs (2 ^ j) i],?_,by rw [È,Þ]; omega,by rw [eg]; rfl,fun t ht=>?_⟩
   ·cases bs with
    | nil=>simp at lb; omega
    | cons e tl=>exact⟨_,_,_,rfl⟩
   ·show [_,Sl.sp 0 true (bs.map enD++[enD (bwF ws bs (2 ^ j) i)]),_,_]=[_,Sl.sp 0 true ((bs++[bwF ws bs (2 ^ j) i]).map enD),_,_]
    rw [Ø]
    rfl
   ·rcases Nat.lt_or_ge t (2 ^ j+i) with z | z
    ·have:=hb t z
     rw [Ë] at this ⊢
     rw [ô (by omega)]
     exact this
    ·have e:t=i+2 ^ j:=by omega
     subst e
     rw [Ë,ë (by omega),show i+2 ^ j - bs.length=0 by omega]
     exact be
  ·rintro ρ ⟨bs,rfl,lb,eg,hb⟩
   rw [ř,Ù] at lb eg hb
   refine⟨?_,n - (j+1),by omega,j+1,bs,?_,by omega,by omega,eg,fun t ht=>hb t (by omega),rfl⟩
   ·exact .inl ⟨by decide,by decide⟩
   ·rw [show ((2 ^ (j+1):Nat):Int)=2 * ((2 ^ j:Nat):Int) by omega]
    rfl
 ·have jn:j=n:=by omega
  subst jn
  rw [decide_eq_false (by omega)]
  refine aN (A:=True) ?_
  have be:=hb (2 ^ j - 1) (by omega)
  have e1:atI (bs.map enD) (-1)=some (enD (bs.getD (2 ^ j - 1) (0,[]))):=by
   rcases List.eq_nil_or_concat bs with rfl | ⟨B,e,hB⟩
   ·simp at lb; omega
   ·rw [List.concat_eq_append] at hB
    subst hB
    rw [È,Þ] at lb
    rw [Ø,Ë,ë (by omega),show 2 ^ j - 1 - B.length=0 by omega]
    exact yN _ _
  exact⟨_,e1,_,rfl,rfl,q _ (be.ha n8 lw (by rw [eg]; rfl))⟩
end
def lH (n:Nat) (W:List Int->Int):List Int:=0::(((subs n).drop 1).dropLast.map W++[0])
def Di (n:Nat) (W:List Int->Int) (out:List (List Int)):Prop:=∃ ks,HAok n (lH n W) ks/\out.Perm (ks.map (setOf n))/\out.Pairwise (fun a b=>bw 40 a<=bw 40 b)/\∀ l∈out,nj l
def fWt (n:Nat) (W:List Int->Int) (ds:List D) (P:D->Prop):Prop:=∃ l:List Int,ds=[.list (l.map Â)]/\Proper ((n:Nat):Int) l/\P (.int (W l))
def tHF (g:List D->(D->Prop)->Prop) (m:Int) (Pd:D->Prop):Prop:=∃ (n:Nat) (W:List Int->Int),m=((n:Nat):Int)/\1<=n/\n<=8/\g=fWt n W/\(∀ l,0<=W l)/\∀ out,Di n W out->Pd (.list (out.map iD))
theorem Dc {α:Type} (l:List α) (h:2<=l.length):dW l (some 1) (some (-1))=(l.drop 1).dropLast:=by
 unfold dW
 have e1:HT.sIx l.length l.length (some (-1))=l.length - 1:=by
  have e:HT.sIx l.length l.length (some (-1))=((-1:Int)+(l.length:Int)).toNat:=rfl
  rw [e]
  omega
 have e2:HT.sIx l.length 0 (some 1)=min 1 l.length:=HT.iz l.length 0 1
 rw [e1,e2,Nat.min_eq_left (by omega),List.dropLast_eq_take,õ]
theorem nM:∀ k,∃ M f,subs k=M++[f]/\∀ l∈M,l.length<k
 | 0=>⟨[],[],rfl,fun l h=>nomatch h⟩
 | k+1=>by
  obtain⟨M,f,e,h⟩:=nM k
  refine⟨subs k++M.map fun l=>l++[0+((k:Nat):Int)],f++[0+((k:Nat):Int)],?_,fun l hl=>?_⟩
  ·show subs k++(subs k).map _=_
   rw [show (subs k).map (fun l=>l++[0+((k:Nat):Int)])=(M++[f]).map (fun l=>l++[0+((k:Nat):Int)]) by rw [← e],Ø,Ŏ]
   rfl
  ·rcases Û.mp hl with z | z
   ·have:=(fU k l z).2.2
    omega
   ·obtain⟨a,ha,rfl⟩:=é.mp z
    have:=h a ha
    rw [È,Þ]
    omega
theorem lM {n:Nat} (n1:1<=n) (n8:n<=8):2<=2 ^ n/\2 ^ n<=256:=⟨Ģ (n:=2) (by decide) n1,Ģ (n:=2) (by decide) n8⟩
theorem iJ {n:Nat} (n1:1<=n) (n8:n<=8) {l:List Int} (h:l∈((subs n).drop 1).dropLast):Proper ((n:Nat):Int) l:=by
 obtain⟨M,f,e,hM⟩:=nM n
 obtain⟨r,e2,hr⟩:=jJ n
 have h1:=(List.dropLast_sublist _).mem h
 obtain⟨o1,o2,o3⟩:=fU n l (List.mem_of_mem_drop h1)
 have hne:l≠[]:=by
  rw [e2] at h1
  exact hr l h1
 have p2:=lM n1 n8
 have hM1:l∈M:=by
  have lm:(subs n).length=M.length+1:=by rw [e]; simp
  have:((subs n).drop 1).dropLast=M.drop 1:=by
   rw [e,List.drop_append_of_le_length (by rw [aW] at lm; omega),List.dropLast_concat]
  rw [this] at h
  exact List.mem_of_mem_drop h
 have:=hM l hM1
 exact⟨List.length_pos_iff.mpr hne,by omega,o2,o1,by omega⟩
theorem wJ {n:Nat}{W:List Int->Int} (n1:1<=n) (n8:n<=8) (w0:∀ l,0<=W l):(lH n W).length=2 ^ n/\(∀ x∈lH n W,0<=x)/\(lH n W).head?=some 0/\(lH n W).getLast?=some 0:=by
 have p2:=lM n1 n8
 unfold lH
 refine⟨?_,fun x hx=>?_,rfl,?_⟩
 ·rw [Ü,È,Á,ĳ,õ,aW,Þ]
  omega
 ·rcases Ô.mp hx with rfl | hx
  ·exact ě _
  ·rcases Û.mp hx with z | z
   ·obtain⟨l,_,rfl⟩:=é.mp z
    exact w0 l
   ·rw [ç.mp z]; exact ě _
 ·rw [← List.cons_append,List.getLast?_concat]
theorem jK {n:Nat}{k:Int} (h:k.toNat<2 ^ n):(subs n)[k.toNat]?=some (setOf n k)/\setOf n k∈subs n:=by
 have hl:k.toNat<(subs n).length:=by rw [aW]; exact h
 have e:(subs n)[k.toNat]?=some (setOf n k):=by
  unfold setOf
  rw [Ë,Ç hl]
  rfl
 exact⟨e,Ì e⟩
section
variable {P:Program}{w:World}{K:Ú}{mg:Str->Option Value}{base:Heap}{f:Addr}{fd:FuncData}{CN:Addr}
theorem fD:FnScope ["n","weigh","sets","weights"] ["n","weigh"] (ao (top 27)):=zC
theorem jt:(["some","n","weigh","sets","weights"]:List Str).Nodup:=by decide +kernel
theorem jr:(["number","n","weigh","sets","weights"]:List Str).Nodup:=by decide +kernel
theorem kW (F:Fun K "heaviest_family" "heaviest_family" (top 27) f fd) (B:ļ mg) (C_sets_below:ø P w K mg base 1 "sets_below" ["count"] (spD fSB)) (C_heaviest_apart:ø P w K mg base 2 "heaviest_apart" ["weights"] (spD fHA)):FnOk P w K mg base CX0 10 f fd ["n","weigh"] (spF P w K mg base 9 ["some"] tHF):=by
 refine F.ok fD (fun vs H Q E h=>by obtain⟨_,_,_,_,_,rfl,_⟩:=h; rfl) (fun cdv A outer s H vs Q E hr h=>?_)
 obtain⟨n,fl,Z,g,Pd,rfl,⟨fdl,FW,FA,BW,hZ⟩,z,ht,k⟩:=h
 have nd:=fD.nd
 letI:=grZ Z
 refine⟨_,ĝ (Ó (ö none (i:=2) nd rfl zQ (Ť C_sets_below hr (À (Ê 0) Å)))
  (Ó (ö none (i:=3) nd rfl zQ (Ę (Ę (Ņ (À Õ Å)) (ţ ["some"] rfl (ĵ (Wr.o9 (Ê 2) (Wr.cH Õ) (Wr.cH (Wr.iH Õ)))) (fun c=>(ñ (i:=0) jt rfl zQ)) (fun c=>ś) (fun c=>(Wr.dcV hZ FW FA hr BW (Ř 2) (À (Ê 0) Å))))) (Ņ (À Õ Å))))
  (ð (ā (Wr.qJ hr.units B.sorted (À (ţ ["number"] rfl (ĵ (Ť C_heaviest_apart hr (À (Ê 3) Å))) (fun c=>(ñ (i:=0) jr rfl zQ)) (fun c=>ś) (fun c=>(ò (Ê 3) (Ê 0)))) Å)))))),Qz z k rfl ?_⟩
 obtain⟨n,W,rfl,n1,n8,rfl,w0,q⟩:=ht
 refine⟨((n:Nat):Int),rfl,by omega,by omega,?_⟩
 rw [Ù]
 refine mQ (rg:=none) (i:=2) (k:=norm .new (.list ((subs n).map lD))) (d:=.list ((subs n).map lD)) (s:=.sn (.list ((subs n).map lD))) (by rfl) ?_
 have p2:=lM n1 n8
 have ls:=aW n
 obtain⟨f1,f2,f3,f4⟩:=wJ (W:=W) n1 n8 w0
 refine⟨zK,.inr ?_⟩
 have ec:dW ((subs n).map lD) (some 1) (some (-1))=(((subs n).drop 1).dropLast).map lD:=by
  rw [Dc _ (by rw [Á]; omega),← ŏ,← Ż]
 have ml:(((subs n).drop 1).dropLast).length<=256:=by rw [ĳ,õ]; omega
 dsimp only
 rw [ec]
 refine sO (((subs n).drop 1).dropLast) lD (fun l=>.int (W l)) .imm rfl (by omega) (fun l hl A B h=>aM (B:=True) ⟨⟨false,rfl⟩,l,rfl,iJ n1 n8 hl,rfl,h⟩) ?_
 refine⟨?_,.inr ⟨zK,?_,.inr ?_⟩⟩
 ·show 1+(Ĳ _ _).length<=1000
  rw [Á]
  omega
 ·show (Ĳ _ _++Ĳ _ _).length+1<=1000
  rw [È,Á,Á]
  show 1+_+1<=1000
  omega
 have ew:(Ĳ (fun x:Kd×D=>x.snd) [(Kd.imm,Â 0)]++(((subs n).drop 1).dropLast).map fun l=>Â (W l))++Ĳ (fun x:Kd×D=>x.snd) [(Kd.imm,Â 0)]=(lH n W).map Â:=by
  show Â 0::((((subs n).drop 1).dropLast).map (fun l=>Â (W l))++[Â 0])=Â 0::((((subs n).drop 1).dropLast).map W++[0]).map Â
  rw [Ø,ý]
  rfl
 dsimp only
 rw [ew]
 show sS (tCl vR (aG (dLC [í "number"].length (iSq (tFn fHA (aG (tV 3) cu))) (gNm 0) (fun x P=>P true) (t2 gIx (tV 3) (tV 0))) cu)) { nx:=fun x=>Pd PyData.none,rt:=Pd } [.im (.int n),.scr (.ref fl) false,.sn (.list ((subs n).map lD)),.sn (iD (lH n W))]
 refine⟨n,lH n W,rfl,n1,n8,f1,f2,f3,f4,fun ks hk=>?_⟩
 have kl:=hk.len
 have km:∀ k∈ks,k.toNat<2 ^ n/\0<=k:=fun k h=>by have:=hk.rng k h; omega
 refine sO ks Â (fun k=>lD (setOf n k)) .snw rfl (by omega) (fun k h A B z=>aM (B:=True) ⟨lD (setOf n k),?_,rfl,z⟩) ?_
 ·obtain⟨h1,h2⟩:=km k h
  have:=(jK h1).1
  have ek:((k.toNat:Nat):Int)=k:=by omega
  have:=d7 (xs:=(subs n).map lD) (j:=k.toNat) (v:=lD (setOf n k)) (by rw [á,this]; rfl)
  rw [ek] at this
  exact this
 ·have nic:∀ l∈ks.map (setOf n),nj l:=fun l hl=>by
   obtain⟨k,hk',rfl⟩:=é.mp hl
   obtain⟨o1,o2,o3⟩:=fU n _ (jK (km k hk').1).2
   exact⟨by omega,fun x hx=>by have:=o2 x hx; omega⟩
  refine⟨ks.map (setOf n),by rw [ý]; rfl,by rw [Á]; omega,nic,fun out hp hs=>⟨rfl,q out ⟨ks,hk,hp,hs,fun l hl=>nic l (hp.mem_iff.mp hl)⟩⟩⟩
end
def dG (us:List Tie) (fa:Int) (l:List Int):Int:=if 0 > fa+1 - ((us.filter (lv l)).length:Nat) then 0 else fa+1 - ((us.filter (lv l)).length:Nat)
theorem xW (us:List Tie) (fa:Int) (l:List Int):0<=dG us fa l:=by
 unfold dG
 split <;> omega
def Jk (ds:List D) (P:D->Prop):Prop:=∃ (n:Int) (us:List Tie) (fa:Int),ds=[aR n us,.int fa]/\1<=n/\n<=8/\us.length<=100/\∀ out,Di n.toNat (dG us fa) out->P (.list (out.map iD))
def lamOf:Expr->Arguments×Expr×Scope×Pos
 | .Lambda a b s p=>(a,b,s,p)
 | e=>(⟨[],[],none,[],[],none,[]⟩,e,{ kind:=.function,names:=[],isGenerator:=false,isCoroutine:=false },⟨0,0,0,0⟩)
def Lq:List Stmt->Expr
 | [.Return (some (.Call _ [_,e] _ _)) _]=>e
 | _=>.Constant .none 0 ⟨0,0,0,0⟩
def U0 (st:Stmt):Arguments:=(lamOf (Lq (cI st))).1
def UW (st:Stmt):Expr:=(lamOf (Lq (cI st))).2.1
def Ip (st:Stmt):Scope:=(lamOf (Lq (cI st))).2.2.1
def lamP (st:Stmt):Pos:=(lamOf (Lq (cI st))).2.2.2
structure CalA (P:Program) (w:World) (K:Ú) (mg:Str->Option Value) (k:Nat) (x:Str) (ps:List Str) (sp:Heap->Sp):Prop where
 ex:∃ f fd,(∀ base,FnOk P w K mg base CX0 k f fd ps (sp base))/\Binds K fd ps []/\W.keepIn K (.ref f)=true/\mg x=some (.ref f)
def rQ:Str:=("best_family":Str)++".<locals>."++"<lambda>"
section
variable {P:Program}{w:World}{K:Ú}{mg:Str->Option Value}{base:Heap}{f:Addr}{fd:FuncData}{CN:Addr}
theorem J3:FnScope ["web","falls"] ["web","falls"] (ao (top 28)):=zC
theorem Ek (b:Nat):LamScope ["some"] ["web","falls"] (Ip (top 28)) [(í "web",b+1),(í "falls",b+1+1)]:=by
 have ne:(í "falls" == í "web")=false:=by decide +kernel
 have fr:∀ y∈(Ip (top 28)).names,y.2=.free->y.1="web"\/y.1="falls":=by decide +kernel
 have lw:ų (í "web") [(í "web",b+1),(í "falls",b+1+1)]=some (b+1):=by rw [ï,beq_self_eq_true]
 have lf:ų (í "falls") [(í "web",b+1),(í "falls",b+1+1)]=some (b+1+1):=by rw [ï,ne,ï,beq_self_eq_true]
 have inv:∀ x c,ų x [(í "web",b+1),(í "falls",b+1+1)]=some c->(x="web"/\c=b+1)\/(x="falls"/\c=b+1+1):=fun x c h=>by
  rw [ï,ï] at h
  cases e1:x == í "web" with
  | true=>rw [e1] at h; cases h; exact .inl ⟨eq_of_beq e1,rfl⟩
  | false =>
   rw [e1] at h
   cases e2:x == í "falls" with
   | true=>rw [e2] at h; cases h; exact .inr ⟨eq_of_beq e2,rfl⟩
   | false=>rw [e2] at h; cases h
 refine⟨rfl,rfl,rfl,by decide +kernel,fun x hx=>?_,fun y hy=>?_,by decide +kernel,fun x h=>?_,fun x y c h1 h2=>?_⟩
 ·rw [ç.mp hx]; rfl
 ·rcases Ô.mp hy with rfl | hy
  ·rfl
  ·rw [ç.mp hy]; rfl
 ·rcases fr _ (Ě h) rfl with z | z
  ·have z:x="web":=z
   subst z; exact⟨_,lw⟩
  ·have z:x="falls":=z
   subst z; exact⟨_,lf⟩
 ·rcases inv x c h1 with ⟨a1,a2⟩ | ⟨a1,a2⟩ <;> rcases inv y c h2 with ⟨b1,b2⟩ | ⟨b1,b2⟩
  ·rw [a1,b1]
  ·exact absurd (a2.symm.trans b2) (by omega)
  ·exact absurd (b2.symm.trans a2) (by omega)
  ·rw [a1,b1]
theorem K5 {c PT:Addr}{oc kV doc pm ct:Value}{od an:Option Addr}{osl:Array (Option Value)} (lk:K.lookup f=some ⟨oc,od,.func (W.fnOf "best_family" "best_family" (gw (top 28)) (cI (top 28)) (ao (top 28)) .none kV doc pm an (.ref c) ct),osl⟩) (hcd:W.codeIn K (.ref c) "best_family"=true)
  (hC:∀ h:Heap,K.In h->W.CodeHd h c PT) (hB:base.BuiltinsAt mg PT) (C_hf:CalA P w K mg 10 "heaviest_family" ["n","weigh"] (fun base=>spF P w K mg base 9 ["some"] tHF)) (C_need:∀ base,ø P w K mg base 8 "need" ["web","falls","some"] (spD Cz)) :
  FnOk P w K mg base CX0 11 f (W.fnOf "best_family" "best_family" (gw (top 28)) (cI (top 28)) (ao (top 28)) .none kV doc pm an (.ref c) ct) ["web","falls"] (spT (Ko PT (lamP (top 28)) rQ) Jk):=by
 obtain⟨fh,fdh,HF,hbH,hkH,hmH⟩:=C_hf.ex
 refine M6 (N:=["web","falls"]) lk hcd J3 vJ (fun A outer s H vs Q E hr h=>?_)
 obtain⟨ds,Pd,ti,r,⟨n,us,fa,rfl,n1,n8,lu,q⟩,k⟩:=h
 obtain⟨vw,v2,rfl,rw,r2⟩:=r.two
 have e2:=r2.int'
 subst e2
 refine⟨_,PSs.nox (fZ (kE (zq (X:=(Aw CX0 P w K mg base ["web","falls"] "best_family" (ao (top 28)) f (.ref c) A outer s H E).nox) (x:="heaviest_family") (c:=c) (P:=PT) (ys:=["web","falls"]) (qual:=rQ) HF hr rfl hmH hkH hbH (ò (Ê 0) Õ).h rfl rfl rfl rfl (hC base) (fun _=>hB) (fun _=>rfl) ?_ ?_))),?_⟩
 ·intro y b h
  show ų y [(í "falls",s.heap.objs.size+1+1),(í "web",s.heap.objs.size+1)]=some b
  have h:ų y [(í "web",s.heap.objs.size+1),(í "falls",s.heap.objs.size+1+1)]=some b:=h
  rw [ï,ï] at h ⊢
  have ne:(í "web" == í "falls")=false:=by decide +kernel
  cases e1:y == í "web" with
  | true =>
   have e1:=eq_of_beq e1
   subst e1
   rw [ne]
   rw [beq_self_eq_true] at h
   exact h
  | false =>
   rw [e1] at h
   cases e2:y == í "falls" with
   | true=>rw [e2] at h; exact h
   | false=>rw [e2] at h; cases h
 ·intro y hy
  rcases Ô.mp hy with rfl | hy
  ·exact⟨rfl,_,rfl⟩
  ·rw [ç.mp hy]
   exact⟨rfl,_,rfl⟩
 have r0:Rp (fun _=>False) H vw (aR n us):=rw.imm (mH n us)
 have lk':∀ {base':Heap}{fl c':Addr}{cl:List (Str×Addr)}{pm ctv:Value},base'.get? fl=some (W.kla_obj "<lambda>" rQ (U0 (top 28)) (UW (top 28)) (Ip (top 28)) cl pm c' ctv)->LamScope ["some"] ["web","falls"] (Ip (top 28)) cl->Caps base' cl ["web","falls"] [vw,.int fa] ->
   Hand P w K mg base' 9 fl ["some"] (fun H=>uz H c' rQ/\Rp (fun _=>False) H vw (aR n us)) (fWt n.toNat (dG us fa)):=fun {base' fl c' cl pm ctv} e S C=>by
  refine⟨_,Qq (cvs:=[vw,.int fa]) e (fun _ _ _ _ h=>h.1.1) S C (fun vs H Q E h=>?_) (fun A outer s H vs Q E hr h=>?_),⟨_,_,_,_,e⟩,.all fun us hl=>?_,fun H H' ⟨⟨x,φ,h1,h2⟩,h3⟩ sm=>⟨⟨x,φ,sm _ _ h1,h2⟩,h3.mono (fun _ o=>o) (fun _ _ o=>o.elim) fun a xs h=>sm a _ h⟩⟩
  ·obtain⟨_,ds,Pd,r,⟨l,rfl,_⟩,_⟩:=h
   exact r.length
  ·obtain⟨⟨_,z⟩,ds,Pd2,r,⟨l,rfl,pr,p⟩,kk⟩:=h
   obtain⟨v1,rfl,r1⟩:∃ v1,vs=[v1]/\Rp (fun _=>True) H v1 (.list (l.map Â)):=by
    cases r with
    | cons h t=>cases t; exact⟨_,rfl,h⟩
   refine⟨_,(Ť (C_need base') hr (À (Ê 1) (À (Ê 2) (À (Ê 0) Å)))).h,?_⟩
   refine⟨fJ,H,fun _=>none,[.sh (.list (l.map Â)),.im (aR n us),.im (.int fa)],fun k d=>d=.int (dG us fa l),?_,?_,fun kd d v H' hd A rp=>?_⟩
   ·refine⟨fun _ _ e _=>e,trivial,(fun _ _ e=>(nomatch e)),fun i s e=>?_,rfl,trivial⟩
    match i,e with
    | 0,e=>cases e; exact⟨v1,rfl,r1.mono (fun _ _=>⟨fun z=>z,rfl⟩) (fun _ _ _ e=>e) fun _ _ e=>e⟩
    | 1,e=>cases e; exact⟨vw,rfl,z⟩
    | 2,e=>cases e; exact⟨.int fa,rfl,.int fa⟩
   ·exact⟨n,us,l,fa,rfl,by rw [show ((n.toNat:Nat):Int)=n by omega] at pr; exact pr,lu,rfl⟩
   ·subst hd
    have:=rp.int'
    subst this
    exact kk _ _ H' p (fun b o e=>A.kp b o e fun z=>z) (.int _)
  ·obtain⟨_,rfl⟩:∃ a,us=[a]:=by
    match us,hl with
    | [a],_=>exact⟨a,rfl⟩
   rfl
 refine⟨fJ,H,fun _=>none,[.im (aR n us),.im (.int fa)],fun k d=>d=.int n,?_,⟨.int n,rfl,rfl⟩,fun kd d v H1 hd A1 rp=>?_⟩
 ·refine⟨fun _ _ e _=>e,trivial,(fun _ _ e=>(nomatch e)),fun i s e=>?_,rfl,trivial⟩
  match i,e with
  | 0,e=>cases e; exact⟨vw,rfl,r0⟩
  | 1,e=>cases e; exact⟨.int fa,rfl,.int fa⟩
 subst hd
 have ev:=rp.int'
 subst ev
 have s1:Same H H1:=fun b o e=>A1.kp b o e fun z=>z
 refine⟨(Ko PT (lamP (top 28)) rQ).mono H H1 ti fun b o _ e=>s1 b o e,[vw,.int fa],rfl,fun j y v h1 h2=>⟨j,h1,?_⟩,fun base' fl c' H' lam T' kp=>?_⟩
 ·match j,h2 with
  | 0,h2=>cases h2; rfl
  | 1,h2=>cases h2; rfl
 have tp:∀ a xs,H a=some (.tup xs)->H' a=some (.tup xs):=fun a xs e=>kp a _ (s1 _ _ e) fun z=>by
  obtain⟨ps,h,_⟩:=ti
  rw [z,h] at e
  cases e
 have S:LamScope ["some"] ["web","falls"] (Ip (top 28)) [(í "web",s.heap.objs.size+1),(í "falls",s.heap.objs.size+1+1)]:=Ek _
 obtain⟨pm',ctv,hfn⟩:=lam.fn
 refine⟨n,fl,_,_,Pd,rfl,lk' hfn S lam.caps,⟨lam.kn,r0.mono (fun _ o=>o) (fun _ _ o=>o.elim) tp⟩,⟨n.toNat,dG us fa,by omega,by omega,by omega,rfl,xW us fa,q⟩,fun d v H2 hP sm rp2=>k d v H2 hP (fun b o e nb=>sm b o (kp b o (s1 b o e) nb)) ((Ko PT (lamP (top 28)) rQ).mono H' H2 T' fun b o _ e=>sm b o e) (rp2.mono (fun a ha=>?_) (fun _ _ _ e=>e) fun _ _ e=>e)⟩
 cases e:H a with
 | none=>rfl
 | some o =>
  by_cases z:a=PT
  ·obtain⟨ps,h,_⟩:=T'
   rw [z,h] at ha
   cases ha
  ·rw [kp a o (s1 a o e) z] at ha
   cases ha
end
theorem JW (l:List Int):iw (iD l)=l:=uE l
theorem Cv {n:Int}{L:List (List Int)} (h:∀ l∈L,Proper n l) (nd:L.flatten.Nodup):Tc n (.list (L.map iD))=true:=by
 show ((L.map iD).all (cC n)&&zO ((L.map iD).flatMap iw))=true
 have e1:(L.map iD).all (cC n)=true:=ċ.mpr fun d hd=>by
  obtain⟨l,hl,rfl⟩:=é.mp hd
  exact qD (h l hl)
 have e2:(L.map iD).flatMap iw=L.flatten:=by
  rw [List.flatMap_map]
  have:(fun l=>iw (iD l))=id:=funext JW
  rw [this,List.flatMap_id]
 rw [e1,e2]
 show zO L.flatten=true
 exact decide_eq_true ((zJ _).mpr nd)
def Ng (ds:List D) (P:D->Prop):Prop:=∃ (n:Int) (us:List Tie) (L:List (List Int)),ds=[aR n us,.list (L.map iD)]/\n<=16/\L.length<=60/\(∀ l∈L,Proper n l)/\L.flatten.Nodup/\P .none
def Nb (ds:List D) (P:D->Prop):Prop:=∃ t:Int,ds=[.int t]/\P (.int ((t+1) / 2))
def fBo (ds:List D) (P:D->Prop):Prop:=∃ (n:Int) (us:List Tie) (fa:Int) (L:List (List Int)),ds=[aR n us,.int fa,.list (L.map iD)]/\n<=16/\us.length<=100/\0<=fa/\fa<=10/\L.length<=60/\(∀ l∈L,Proper n l)/\L.flatten.Nodup/\P (.int (((L.map (dG us fa)).sum+1) / 2))
theorem DX {us:List Tie}{fa:Int} (h0:0<=fa) (h1:fa<=10) (l:List Int):-1000000<=dG us fa l/\dG us fa l<=1000000:=by
 unfold dG
 split <;> omega
section
variable {P:Program}{w:World}{K:Ú}{mg:Str->Option Value}{base:Heap}{f:Addr}{fd:FuncData}{CN:Addr}
theorem iT:FnScope ["web","thing"] ["web","thing"] (ao (top 22)):=zC
theorem pH (F:Fun K "check_family" "check_family" (top 22) f fd) (B:ļ mg) (C_is_family:ø P w K mg base 5 "is_family" ["n","thing"] (spD Qu)):FnOk P w K mg base CX0 6 f fd ["web","thing"] (spD Ng):=by
 refine F.ok iT Ĵ (fun cdv A outer s H vs Q E hr h=>?_)
 have nd:=iT.nd
 refine⟨_,ĝ (ð (ŋ (ŵ (Ś (Ť C_is_family hr (À (ò (Ê 0) Õ) (À (Ê 1) Å))))) (ð Wr.mR) Č)),aX h ?_⟩
 rintro ds P ⟨n,us,L,rfl,n16,ll,hL,nd,q⟩
 refine⟨[.im (aR n us),.sh (.list (L.map iD))],by show [bx (aR n us),_]=_; rw [cJ]; rfl,?_⟩
 refine⟨.int n,rfl,n,.list (L.map iD),rfl,fun es e=>?_,n16,?_⟩
 ·cases e
  refine⟨by rw [Á]; exact ll,fun e he=>?_⟩
  obtain⟨l,hl,rfl⟩:=é.mp he
  intro es e2
  cases e2
  rw [Á]
  have:=(hL l hl).few
  omega
 ·rw [Cv hL nd]
  exact aN (A:=True) q
theorem fG:FnScope ["total"] ["total"] (ao (top 23)):=zC
theorem kY (F:Fun K "half_made_whole" "half_made_whole" (top 23) f fd) (B:ļ mg):FnOk P w K mg base CX0 1 f fd ["total"] (spD Nb):=by
 refine F.ok fG Ĵ (fun cdv A outer s H vs Q E hr h=>?_)
 have nd:=fG.nd
 refine⟨_,ĝ (ð (ā (Wr.mD (Ę (Ê 0) Õ) Õ))),aX h ?_⟩
 rintro ds P ⟨t,rfl,q⟩
 refine⟨[.im (.int t)],rfl,?_⟩
 exact⟨⟨by decide,by decide⟩,rfl,q⟩
theorem wV:FnScope ["web","falls","family"] ["web","falls","family"] (ao (top 24)):=zC
theorem zT:(["some","web","falls","family"]:List Str).Nodup:=by decide +kernel
theorem Hx (F:Fun K "bound" "bound" (top 24) f fd) (B:ļ mg) (m_sum:mg "sum"=none) (C_check_family:ø P w K mg base 6 "check_family" ["web","thing"] (spD Ng)) (C_half_made_whole:ø P w K mg base 1 "half_made_whole" ["total"] (spD Nb)) (C_need:ø P w K mg base 8 "need" ["web","falls","some"] (spD Cz)):FnOk P w K mg base CX0 9 f fd ["web","falls","family"] (spD fBo):=by
 refine F.ok wV Ĵ (fun cdv A outer s H vs Q E hr h=>?_)
 have nd:=wV.nd
 refine⟨_,ĝ (Ó (Wr.qj (Ť C_check_family hr (À (Ê 0) (À (Ê 2) Å))))
  (ð (ā (Ť C_half_made_whole hr (À (Wr.uX rfl m_sum (À (ţ ["some"] rfl (ĵ (Ê 2)) (fun c=>(ñ (i:=0) zT rfl zQ)) (fun c=>ś) (fun c=>(Ť C_need hr (À (Ê 1) (À (Ê 2) (À (Ê 0) Å)))))) Å)) Å))))),aX h ?_⟩
 rintro ds P ⟨n,us,fa,L,rfl,n16,lu,h0,h1,ll,hL,nd,q⟩
 refine⟨[.im (aR n us),.im (.int fa),.sh (.list (L.map iD))],by show [bx (aR n us),_,_]=_; rw [cJ]; rfl,?_⟩
 refine⟨n,us,L,rfl,n16,ll,hL,nd,?_⟩
 refine sO L iD (fun l=>.int (dG us fa l)) .imm rfl (by omega) (fun l hl A B h=>aM (B:=True) ⟨n,us,l,fa,rfl,hL l hl,lu,rfl,h⟩) ?_
 refine⟨L.map (dG us fa),by rw [ý]; rfl,by rw [Á]; omega,fun x hx=>?_,_,rfl,rfl,q⟩
 obtain⟨l,_,rfl⟩:=é.mp hx
 exact DX h0 h1 l
end
theorem Ca {us:List Tie}{fa:Int}{l:List Int}:dG us fa l=0↔fa<((us.filter (lv l)).length:Nat):=by
 unfold dG
 split <;> omega
theorem QG {n:Int}{us:List Tie} (ok:cO n us) {l c:List Int} (h:∀ x,0<=x->x<n->(x∈c↔x∉l)):(us.filter (lv c)).length=(us.filter (lv l)).length:=by
 congr 1
 refine List.filter_congr fun t ht=>?_
 obtain⟨⟨a0,a1⟩,b0,b1⟩:=ok t ht
 have e1:=h t.1 a0 a1
 have e2:=h t.2 b0 b1
 unfold lv
 by_cases c1:t.1∈l <;> by_cases c2:t.2∈l <;> simp [e1,e2,c1,c2]
theorem Bm {m k:Nat} (h:k<2 ^ m):setOf (m+1) ((k:Nat):Int)=setOf m ((k:Nat):Int):=by
 unfold setOf
 rw [Ù]
 show (subs m++_).getD k []=_
 rw [Ë,Ë,ô (by rw [aW]; exact h)]
theorem J2 {m k:Nat} (h:k<2 ^ m):setOf (m+1) ((k+2 ^ m:Nat):Int)=setOf m ((k:Nat):Int)++[0+((m:Nat):Int)]:=by
 have e:=(jK (n:=m) (k:=((k:Nat):Int)) (by rw [Ù]; exact h)).1
 rw [Ù] at e
 unfold setOf at e ⊢
 rw [Ù]
 show (subs m++(subs m).map _).getD (k+2 ^ m) []=_
 rw [Ë,ë (by rw [aW]; omega),aW,Nat.add_sub_cancel,á,e]
 rfl
theorem uH {m:Nat}{us:List Tie}{fa:Int} (ok:cO ((m+1:Nat):Int) us):ni ((m+1:Nat):Int) us fa↔∀ k:Nat,0<k->k+1<2 ^ (m+1)->dG us fa (setOf (m+1) ((k:Nat):Int))=0:=by
 have em:(((m+1:Nat):Int) - 1).toNat=m:=by omega
 have pm:=Nat.two_pow_pos m
 unfold ni
 rw [em]
 obtain⟨r,er,hr⟩:=jJ m
 have dr:(subs m).drop 1=r:=by rw [er]; rfl
 constructor
 ·intro h k k0 k1
  rw [ž] at k1
  rw [Ca]
  rcases Nat.lt_or_ge k (2 ^ m) with z | z
  ·rw [Bm z]
   refine h _ ?_
   have e:=(jK (n:=m) (k:=((k:Nat):Int)) (by rw [Ù]; exact z)).1
   rw [Ù] at e
   refine Ì (i:=k - 1) ?_
   rw [List.getElem?_drop,show 1+(k - 1)=k by omega]
   exact e
  ·obtain⟨q,rfl⟩:∃ q,k=q+2 ^ m:=⟨k - 2 ^ m,by omega⟩
   rw [J2 (by omega)]
   have hq:q+1<2 ^ m:=by omega
   obtain⟨e,mm⟩:=jK (n:=m) (k:=((q:Nat):Int)) (by rw [Ù]; omega)
   rw [Ù] at e
   obtain⟨o1,o2,o3⟩:=fU m _ mm
   have ce:∀ x,x∈(d9 m).filter (fun x=>!decide (x∈setOf m ((q:Nat):Int)))↔(0<=x/\x<(m:Int))/\x∉setOf m ((q:Nat):Int):=fun x=>by
    rw [ĉ,dH,Bool.not_eq_true',decide_eq_false_iff_not]
   rw [← QG ok (l:=setOf m ((q:Nat):Int)++[0+((m:Nat):Int)]) (c:=(d9 m).filter fun x=>!decide (x∈setOf m ((q:Nat):Int))) fun x h0 h1=>by
    rw [ce,List.mem_append,List.mem_singleton]
    constructor
    ·rintro ⟨⟨_,a⟩,b⟩ (c | c)
     ·exact b c
     ·omega
    ·intro c
     refine⟨⟨h0,?_⟩,fun d=>c (.inl d)⟩
     have:x≠0+((m:Nat):Int):=fun d=>c (.inr d)
     omega]
   refine h _ ?_
   have hm:=qd (fun x=>!decide (x∈setOf m ((q:Nat):Int))) m
   rw [er] at hm
   rcases Ô.mp hm with z | z
   ·exfalso
    obtain⟨M,f,eM,hM⟩:=nM m
    have lm:M.length+1=2 ^ m:=by rw [← aW m,eM]; simp
    have hlt:(setOf m ((q:Nat):Int)).length<m:=by
     rw [eM,ô (by omega)] at e
     exact hM _ (Ì e)
    have all:∀ x∈d9 m,x∈setOf m ((q:Nat):Int):=fun x hx=>û fun nx=>by
     have:=(ce x).mpr ⟨dH.mp hx,nx⟩
     rw [z] at this
     cases this
    have nd:(d9 m).Nodup:=by
     unfold d9
     exact List.Pairwise.map _ (fun a b hab h=>hab (by omega)) List.nodup_range
    have:=nd.length_le_of_subset all
    unfold d9 at this
    rw [Á,ł] at this
    omega
   ·rw [dr]; exact z
 ·intro h l hl
  obtain⟨i,hi⟩:=ŀ hl
  rw [List.getElem?_drop] at hi
  have li:1+i<(subs m).length:=(Î.mp hi).1
  rw [aW] at li
  have e:setOf (m+1) ((1+i:Nat):Int)=l:=by
   rw [Bm li]
   unfold setOf
   rw [Ù,Ë,hi]
   rfl
  have:=h (1+i) (by omega) (by rw [ž]; omega)
  rw [e,Ca] at this
  exact this
theorem wK {N k:Nat}{W:List Int->Int} (k0:0<k) (k1:k+1<2 ^ N):(lH N W).getD k 0=W (setOf N ((k:Nat):Int))/\setOf N ((k:Nat):Int)∈((subs N).drop 1).dropLast:=by
 have e:=(jK (n:=N) (k:=((k:Nat):Int)) (by rw [Ù]; omega)).1
 rw [Ù] at e
 have em:(((subs N).drop 1).dropLast)[k - 1]?=some (setOf N ((k:Nat):Int)):=by
  rw [List.dropLast_eq_take,List.getElem?_take_of_lt (by rw [õ,aW]; omega),List.getElem?_drop,show 1+(k - 1)=k by omega]
  exact e
 refine⟨?_,Ì em⟩
 unfold lH
 rw [Ë,show k=(k - 1)+1 by omega,Ŵ,ô (by rw [Á,ĳ,õ,aW]; omega),á,em]
 rw [show k - 1+1=k by omega]
 rfl
theorem G4 {a b:List Int} (h:a.Perm b):a.sum=b.sum:=by
 induction h with
 | nil=>rfl
 | cons x _ ih=>rw [î,î,ih]
 | swap x y l=>rw [î,î,î,î]; omega
 | trans _ _ h1 h2=>exact h1.trans h2
theorem Ew {N:Nat}{W:List Int->Int}{out:List (List Int)} (n1:1<=N) (n8:N<=8) (w0:∀ l,0<=W l) (h:Di N W out):(∀ l∈out,Proper ((N:Nat):Int) l)/\out.flatten.Nodup/\out.length<=60/\(((out.map W).sum+1) / 2=0↔∀ k:Nat,0<k->k+1<2 ^ N->W (setOf N ((k:Nat):Int))=0):=by
 obtain⟨ks,ha,hp,_⟩:=h
 have kr:∀ k∈ks,∃ q:Nat,k=((q:Nat):Int)/\0<q/\q+1<2 ^ N:=fun k hk=>by
  have:=ha.rng k hk
  exact⟨k.toNat,by omega,by omega,by omega⟩
 have mem:∀ l∈out,∃ q:Nat,l=setOf N ((q:Nat):Int)/\0<q/\q+1<2 ^ N:=fun l hl=>by
  obtain⟨k,hk,rfl⟩:=é.mp (hp.mem_iff.mp hl)
  obtain⟨q,rfl,a,b⟩:=kr k hk
  exact⟨q,rfl,a,b⟩
 have pr:∀ l∈out,Proper ((N:Nat):Int) l:=fun l hl=>by
  obtain⟨q,rfl,a,b⟩:=mem l hl
  exact iJ n1 n8 (wK (W:=W) a b).2
 have es:(out.map W).sum=rZ (lH N W) ks:=by
  rw [G4 (hp.map W)]
  unfold rZ
  rw [ý]
  congr 1
  refine ő fun k hk=>?_
  obtain⟨q,rfl,a,b⟩:=kr k hk
  rw [Ù,(wK a b).1]
  rfl
 have ll:out.length<=60:=by rw [hp.length_eq,Á]; have:=ha.len; omega
 obtain⟨f1,f2,f3,f4⟩:=wJ (W:=W) n1 n8 w0
 refine⟨pr,?_,ll,?_⟩
 ·refine (hp.flatten).nodup_iff.mpr (List.pairwise_flatten.mpr ⟨fun l hl=>?_,?_⟩)
  ·have:=(pr l (hp.mem_iff.mpr hl)).rise
   exact this.imp fun z=>by omega
  ·exact List.pairwise_map.mpr (ha.apart.imp fun z x hx y hy (e:x=y)=>z x hx (by rw [e]; exact hy))
 ·have sn:∀ l:List (List Int),0<=(l.map W).sum:=fun l=>by
   induction l with
   | nil=>exact ě _
   | cons a l ih=>rw [ã,î]; have:=w0 a; omega
  have s0:=sn out
  constructor
  ·intro z k k0 k1
   have e:=(wK (N:=N) (W:=W) k0 k1).1
   have hm:(lH N W).getD k 0∈lH N W:=by
    rw [Ë,Ç (by rw [f1]; omega)]
    exact ĥ _
   have:=ha.top _ hm
   rw [e,← es] at this
   have:=w0 (setOf N ((k:Nat):Int))
   omega
  ·intro z
   have:∀ l:List (List Int),(∀ x∈l,W x=0)->(l.map W).sum=0:=fun l=>by
    induction l with
    | nil=>intro _; rfl
    | cons a l ih=>intro h; rw [ã,î,h a Æ,ih fun x hx=>h x (Ã _ hx)]; rfl
   rw [this out fun l hl=>by obtain⟨q,rfl,a,b⟩:=mem l hl; exact z q a b]
   rfl
section
variable {P:Program}{w:World}{K:Ú}{mg:Str->Option Value}{base:Heap}{f:Addr}{fd:FuncData}{CN:Addr}
end
abbrev aL (PT:Addr):Pn:=Ko PT (lamP (top 28)) rQ
def Gp (K:Ú) (T:Pn):Sp:=fun vs H Q _=>∃ (a:Addr) (ns:List Int),vs=[.ref a]/\SqL K H a (ns.map Ž)/\T.PI H/\∀ H',Q (.bl true) H'
theorem QM {p c PT:Addr}{ns:List Int}:Apart (Kq p c ns) (aL PT):=fun H ⟨a,r,h1,h2⟩ ⟨ps,h,_⟩ b hb hT=>by
 have hT:b=PT:=hT
 subst hT
 rcases hb with rfl | rfl
 ·rw [h1] at h; cases h
 ·rw [h2] at h; cases h
theorem Qy {K:Ú}{T:DS}{N:List Str}{H:Hp}{Q:VK}{sc PT:Addr}{ns:List Int} (hS:SqL K H sc (ns.map Ž)) (q:(aL PT).PI H/\∀ H',Q (.bl true) H') (hN:2<=N.length)
  (body:T { nx:=fun _=>False,rt:=fun d=>d=.bool true } (.any::.pen (CT CP (aL PT))::É (N.length - 2) .any)) :
  QZ (qu (oX (Gm K) [] E0 (oW (iy 0) Gh)) (iV 1)) (j7 T) { nx:=fun _ H'=>Q .non H',rt:=Q } (L2.start N [.ref sc]) H:=by
 refine⟨_,rfl,sc,ns,rfl,hS,fun p c ns' H' hpc hP sm=>?_⟩
 show j7 T _ ((L2.start N [.ref sc]).set 1 (some (.ref p))) _
 refine⟨(Kq p c ns').plus (aL PT),H',fun _=>none,_,_,?_,body,⟨fun _ _ _ _ _ _ n=>n.elim,fun d v H' n w=>?_,fun _ _ _ _ _ _ n=>n.elim,fun _ _ _ _ _ _ n=>n.elim⟩⟩
 ·have hl:(L2.start N [.ref sc]).length=N.length:=by unfold L2.start; simp; omega
  refine⟨fun b o e _=>e,⟨hP,(aL PT).mono H H' q.1 fun b o _ e=>sm b o e⟩,fun a r e=>(nomatch e),fun j s e=>?_,by rw [List.length_set,hl,Ü,Ü,Ď]; omega,trivial⟩
  rcases j with _ | _ | j
  ·cases e; trivial
  ·cases e
   exact⟨ą (by rw [hl]; omega),Kq p c ns',⟨p,c,ns',hpc,rfl⟩,QM,rfl⟩
  ·rw [Ŵ,Ŵ] at e
   have e2:=(Ļ.mp (Ì e)).2
   subst e2
   trivial
 ·have n:d=.bool true:=n
  subst n
  have r:=w.rp
  cases r
  exact q.2 H'
abbrev e0:En:=(0,[])
section
variable {ws:List Int}{n:Nat}
end
abbrev Spr:=List (List Int×Int)
def mb (l:List Int) (v:Int):Bool:=decide (v∈l)
def psN (n:Nat):List (List Int):=((subs n).drop 1).dropLast
def vH (n:Nat) (X:Int->Bool):List Int:=(d9 n).filter X
abbrev RgT (n:Nat) (us:List Tie):Prop:=∀ t∈us,(0<=t.1/\t.1<(n:Int))/\(0<=t.2/\t.2<(n:Int))
abbrev RgE (n:Nat) (es:List Int):Prop:=∀ e∈es,0<=e/\e<(n:Int)
theorem oF {n:Nat}{X:Int->Bool}{v:Int} (h:0<=v/\v<(n:Int)):mb (vH n X) v=X v:=by
 unfold mb vH
 rw [ģ,decide_eq_true_iff,ĉ,dH]
 exact⟨fun h=>h.2,fun q=>⟨h,q⟩⟩
theorem Jv {n:Nat}{us:List Tie} (hu:RgT n us) {X Y:Int->Bool} (h:∀ v,0<=v/\v<(n:Int)->X v=Y v):Cut.dg us X=Cut.dg us Y:=by
 unfold Cut.dg
 refine List.countP_congr fun t ht=>?_
 obtain⟨a,b⟩:=hu t ht
 rw [h _ a,h _ b]
theorem SJ {n:Nat}{es:List Int} (he:RgE n es) {X Y:Int->Bool} (h:∀ v,0<=v/\v<(n:Int)->X v=Y v):Cut.mg es X=Cut.mg es Y:=by
 unfold Cut.mg
 refine List.countP_congr fun t ht=>?_
 rw [h _ (he t ht)]
theorem Tw {n:Nat}{us:List Tie}{es:List Int} (hu:RgT n us) (he:RgE n es) {X Y:Int->Bool} (h:∀ v,0<=v/\v<(n:Int)->X v=Y v):Cut.dD us es X=Cut.dD us es Y:=by
 unfold Cut.dD
 rw [Jv hu h,SJ he h]
theorem Ju (us:List Tie) (l:List Int):((us.filter (lv l)).length:Nat)=Cut.dg us (mb l):=by
 unfold Cut.dg
 rw [← List.countP_eq_length_filter]
 refine List.countP_congr fun t _=>?_
 unfold lv mb
 cases decide (t.1∈l) <;> cases decide (t.2∈l) <;> simp
theorem Oj {n:Nat}{l:List Int} (h:Proper ((n:Nat):Int) l):Cut.Prp n (mb l):=by
 refine⟨?_,?_⟩
 ·cases l with
  | nil=>have:=h.one; simp at this
  | cons v r=>exact⟨v,h.rng v Æ,decide_eq_true Æ⟩
 ·apply û
  intro hn
  have all:∀ x∈d9 n,x∈l:=fun x hx=>by
   apply û
   intro hx2
   exact hn ⟨x,dH.mp hx,decide_eq_false hx2⟩
  have nd:(d9 n).Nodup:=by
   unfold d9
   exact List.Pairwise.map _ (fun a b hab h=>hab (by omega)) List.nodup_range
  have:=nd.length_le_of_subset all
  have fw:=h.few
  unfold d9 at this
  rw [Á,ł] at this
  omega
theorem nR {n:Nat} (n1:1<=n) (n8:n<=8) {l:List Int} (h:l∈psN n):Cut.Prp n (mb l):=Oj (iJ n1 n8 h)
theorem CK {n:Nat} (n8:n<=8) {X:Int->Bool} (h:Cut.Prp n X):∃ q:Nat,0<q/\q+1<2 ^ n/\setOf n ((q:Nat):Int)=vH n X/\∀ i,i<n->q.testBit i=X ((i:Nat):Int):=by
 obtain⟨q,hq⟩:=ŀ (qd X n)
 have hl:=(Î.mp hq).1
 rw [aW] at hl
 have es:setOf n ((q:Nat):Int)=vH n X:=by
  unfold setOf
  rw [Ù,Ë,hq]
  rfl
 have sb:(subs n).getD q []=((ä n).filter (fun i=>q.testBit i)).map fun i:Nat=>0+((i:Nat):Int):=beq_iff_eq.mp (allB_iff (allB_iff M7 n (by omega)) q hl)
 have tb:∀ i,i<n->q.testBit i=X ((i:Nat):Int):=fun i hi=>by
  have e:(((ä n).filter (fun i=>q.testBit i)).map fun i:Nat=>0+((i:Nat):Int))=vH n X:=by
   rw [← sb,← es]
   unfold setOf
   rw [Ù]
  have m:=congrArg (fun l=>mb l ((i:Nat):Int)) e
  have m:mb (((ä n).filter (fun i=>q.testBit i)).map fun i:Nat=>0+((i:Nat):Int)) ((i:Nat):Int)=mb (vH n X) ((i:Nat):Int):=m
  rw [oF (by omega)] at m
  rw [← m]
  unfold mb
  rw [ģ,decide_eq_true_iff,é]
  constructor
  ·exact fun h=>⟨i,ĉ.mpr ⟨č.mpr hi,h⟩,by omega⟩
  ·rintro ⟨j,hj,e⟩
   have:j=i:=by omega
   subst this
   exact (ĉ.mp hj).2
 refine⟨q,?_,?_,es,tb⟩
 ·obtain⟨v,⟨v0,v1⟩,hv⟩:=h.ins
  rcases Nat.eq_zero_or_pos q with z | z
  ·subst z
   have:=tb v.toNat (by omega)
   rw [Nat.zero_testBit,show ((v.toNat:Nat):Int)=v by omega,hv] at this
   cases this
  ·exact z
 ·obtain⟨v,⟨v0,v1⟩,hv⟩:=h.out
  rcases Nat.lt_or_ge (q+1) (2 ^ n) with z | z
  ·exact z
  ·have e:q=2 ^ n - 1:=by omega
   have:=tb v.toNat (by omega)
   rw [e,Nat.testBit_two_pow_sub_one,show ((v.toNat:Nat):Int)=v by omega,hv,decide_eq_true (by omega)] at this
   cases this
theorem PL {n:Nat} (n8:n<=8) {X:Int->Bool} (h:Cut.Prp n X):vH n X∈psN n:=by
 obtain⟨q,q0,q1,e,_⟩:=CK n8 h
 rw [← e]
 exact (wK (W:=fun _=>0) q0 q1).2
def mnF (k:Int):List Int->Int
 | []=>k
 | x::l=>if x<mnF k l then x else mnF k l
theorem vC (k:Int):∀ l,mnF k l∈k::l
 | []=>Æ
 | x::l=>by
  show (if x<mnF k l then x else mnF k l)∈_
  split
  ·exact Ã _ Æ
  ·rcases Ô.mp (vC k l) with z | z
   ·rw [z]; exact Æ
   ·exact Ã _ (Ã _ z)
theorem xY (k:Int):∀ l,∀ a∈k::l,mnF k l<=a
 | [],a,h=>by rw [ç.mp h]; exact ě _
 | x::l,a,h=>by
  show (if x<mnF k l then x else mnF k l)<=a
  have ih:=xY k l
  rcases Ô.mp h with rfl | h
  ·have:=ih a Æ
   split <;> omega
  ·rcases Ô.mp h with rfl | h
   ·split <;> omega
   ·have:=ih a (Ã _ h)
    split <;> omega
theorem K8 {k M:Int}{l:List Int} (h1:M∈k::l) (h2:∀ a∈k::l,M<=a):M=mnF k l:=by
 have a:=h2 _ (vC k l)
 have b:=xY k l M h1
 omega
def bK (n:Nat) (us:List Tie):Spr:=(psN n).map fun l=>(l,(((us.filter (lv l)).length:Nat):Int))
def aB (n k:Nat) (us:List Tie) (es:List Int):Spr:=(psN n).map fun l=>(l,((Cut.dD us es (mb l):Nat):Int) - (k:Int))
def wR (rows:Spr) (es:List Int) (k:Int):Spr:=rows.map fun r=>(r.1,r.2+(((es.filter (mb r.1)).length:Nat):Int) - k)
def iU (sp:Spr) (v:Int) (k:Int):Int:=mnF k ((sp.filter fun r=>mb r.1 v).map (·.2))
def pA (sp:Spr) (v lost:Int):Spr:=sp.map fun r=>(r.1,if mb r.1 v=true then r.2 - lost else r.2)
def eF (sp0:Spr) (k:Int):Nat->Spr×List Int
 | 0=>(sp0,[])
 | i+1=>(pA (eF sp0 k i).1 i (iU (eF sp0 k i).1 i k),(eF sp0 k i).2++É (k - iU (eF sp0 k i).1 i k).toNat ((i:Nat):Int))
def rst (n k i:Nat):List Int:=((ä n).drop i).flatMap fun v=>É k ((v:Nat):Int)
def jW (n k:Nat) (rows:Spr):List Int:=(eF (wR rows (rst n k 0) k) k n).2
theorem uI (n k:Nat) (us:List Tie) (es:List Int):wR (bK n us) es k=aB n k us es:=by
 unfold wR bK aB
 rw [ý]
 refine ő fun l _=>?_
 show (l,(((us.filter (lv l)).length:Nat):Int)+(((es.filter (mb l)).length:Nat):Int) - (k:Int))=_
 rw [Ju,← List.countP_eq_length_filter]
 unfold Cut.dD Cut.mg
 simp
theorem oE (a b:List Int) (X:Int->Bool):Cut.mg (a++b) X=Cut.mg a X+Cut.mg b X:=List.countP_append
theorem zU (m:Nat) (v:Int) (X:Int->Bool):Cut.mg (É m v) X=if X v=true then m else 0:=by
 unfold Cut.mg
 rw [List.countP_replicate]
theorem Gy {n k i:Nat} (h:i<n):rst n k i=É k ((i:Nat):Int)++rst n k (i+1):=by
 unfold rst
 rw [Ĺ (by rw [ł]; exact h),List.flatMap_cons,List.getElem_range]
theorem J5 (n k:Nat):rst n k n=[]:=by
 unfold rst
 rw [List.drop_of_length_le (by rw [ł]; exact Í _)]
 rfl
theorem Gx (n k i:Nat):RgE n (rst n k i):=fun e he=>by
 unfold rst at he
 obtain⟨v,hv,hm⟩:=List.mem_flatMap.mp he
 have:=č.mp (List.mem_of_mem_drop hv)
 rw [(Ļ.mp hm).2]
 omega
theorem Ry {n k:Nat}{X:Int->Bool} (h:Cut.Prp n X):k<=Cut.mg (rst n k 0) X:=by
 obtain⟨v,⟨v0,v1⟩,hv⟩:=h.ins
 have m:v.toNat∈ä n:=č.mpr (by omega)
 obtain⟨s,t,e⟩:=List.append_of_mem m
 unfold rst
 rw [ż,e,List.flatMap_append,List.flatMap_cons,oE,oE,zU,show ((v.toNat:Nat):Int)=v by omega,if_pos hv]
 omega
theorem HY {n k:Nat}{us:List Tie}{es:List Int} (n8:n<=8) (hu:RgT n us) (he:RgE n es) {X:Int->Bool} (h:Cut.Prp n X):(vH n X,((Cut.dD us es X:Nat):Int) - (k:Int))∈aB n k us es:=by
 refine é.mpr ⟨vH n X,PL n8 h,?_⟩
 rw [Tw hu he fun v hv=>oF hv]
structure FewP (n k:Nat) (us:List Tie) (L E:List Int):Prop where
 rg:RgE n E
 C:∀ X,Cut.Prp n X->k<=Cut.dD us E X
 tg:∀ v∈L,∃ X,Cut.Prp n X/\X v=true/\Cut.dD us E X=k
theorem qe {n k:Nat}{us:List Tie} (n1:1<=n) (n8:n<=8) (hu:RgT n us):∀ i,i<=n->∃ L:List Int,eF (aB n k us (rst n k 0)) k i=(aB n k us (L++rst n k i),L)/\FewP n k us L (L++rst n k i)/\L.Pairwise (·<=·)/\(∀ v∈L,v<(i:Int))/\L.length<=i * k
 | 0,_=>⟨[],rfl,⟨Gx n k 0,fun X hX=>by have:=Ry (k:=k) hX; unfold Cut.dD; rw [ů]; omega,fun v h=>(nomatch h)⟩,.nil,fun v h=>(nomatch h),Ć _⟩
 | i+1,hi=>by
  obtain⟨L,e,F,so,lt,ln⟩:=qe n1 n8 hu i (by omega)
  have hin:i<n:=by omega
  generalize hlost:iU (aB n k us (L++rst n k i)) ((i:Nat):Int) (k:Int)=lost
  have l1:lost<=(k:Int):=by rw [← hlost]; exact xY _ _ _ Æ
  have l2:∀ X,Cut.Prp n X->X ((i:Nat):Int)=true->lost<=((Cut.dD us (L++rst n k i) X:Nat):Int) - (k:Int):=fun X hX hXi=>by
   rw [← hlost]
   refine xY _ _ _ (Ã _ (é.mpr ⟨_,ĉ.mpr ⟨HY n8 hu F.rg hX,?_⟩,rfl⟩))
   rw [oF (by omega),hXi]
  have l3:lost=(k:Int)\/∃ l∈psN n,mb l ((i:Nat):Int)=true/\lost=((Cut.dD us (L++rst n k i) (mb l):Nat):Int) - (k:Int):=by
   have:=vC (k:Int) (((aB n k us (L++rst n k i)).filter fun r=>mb r.1 ((i:Nat):Int)).map (·.2))
   rw [show mnF (k:Int) (((aB n k us (L++rst n k i)).filter fun r=>mb r.1 ((i:Nat):Int)).map (·.2))=lost from hlost] at this
   rcases Ô.mp this with z | z
   ·exact .inl z
   ·obtain⟨r,hr,e⟩:=é.mp z
    obtain⟨h1,h2⟩:=ĉ.mp hr
    obtain⟨l,hl,rfl⟩:=é.mp h1
    exact .inr ⟨l,hl,h2,e.symm⟩
  have l0:0<=lost:=by
   rcases l3 with z | ⟨l,hl,_,z⟩
   ·omega
   ·have:=F.C _ (nR n1 n8 hl)
    omega
  obtain⟨q,rfl⟩:∃ q:Nat,lost=((q:Nat):Int):=⟨lost.toNat,by omega⟩
  have qk:q<=k:=by omega
  have dd:∀ X:Int->Bool,Cut.dD us ((L++É (k - q) ((i:Nat):Int))++rst n k (i+1)) X+(if X ((i:Nat):Int)=true then q else 0)=Cut.dD us (L++rst n k i) X:=fun X=>by
   unfold Cut.dD
   rw [Gy hin,oE,oE,oE,oE,zU,zU]
   split <;> omega
  refine⟨L++É (k - q) ((i:Nat):Int),?_,⟨fun v hv=>?_,fun X hX=>?_,fun v hv=>?_⟩,?_,fun v hv=>?_,?_⟩
  ·show (pA (eF _ _ i).1 _ (iU (eF _ _ i).1 _ _),_++É ((k:Int) - iU (eF _ _ i).1 _ _).toNat _)=_
   rw [e]
   show (pA (aB n k us (L++rst n k i)) _ (iU (aB n k us (L++rst n k i)) _ _),L++É ((k:Int) - iU (aB n k us (L++rst n k i)) _ _).toNat _)=_
   rw [hlost,show ((k:Int) - ((q:Nat):Int)).toNat=k - q by omega]
   refine Prod.ext ?_ rfl
   show pA _ _ _=aB _ _ _ _
   unfold pA aB
   rw [ý]
   refine ő fun l _=>?_
   have:=dd (mb l)
   refine Prod.ext rfl ?_
   show (if mb l ((i:Nat):Int)=true then ((Cut.dD us (L++rst n k i) (mb l):Nat):Int) - (k:Int) - ((q:Nat):Int) else ((Cut.dD us (L++rst n k i) (mb l):Nat):Int) - (k:Int))=((Cut.dD us ((L++É (k - q) ((i:Nat):Int))++rst n k (i+1)) (mb l):Nat):Int) - (k:Int)
   split
   ·rename_i c; rw [if_pos c] at this; omega
   ·rename_i c; rw [if_neg c] at this; omega
  ·rcases Û.mp hv with z | z
   ·rcases Û.mp z with z | z
    ·exact F.rg v (Ā _ z)
    ·rw [(Ļ.mp z).2]; omega
   ·exact Gx n k _ v z
  ·have a:=F.C X hX
   have b:=dd X
   by_cases c:X ((i:Nat):Int)=true
   ·have:=l2 X hX c
    rw [if_pos c] at b
    omega
   ·rw [if_neg c] at b
    omega
  ·rcases Û.mp hv with z | z
   ·obtain⟨X,x1,x2,x3⟩:=F.tg v z
    refine⟨X,x1,x2,?_⟩
    have b:=dd X
    by_cases c:X ((i:Nat):Int)=true
    ·have:=l2 X x1 c
     rw [if_pos c] at b
     omega
    ·rw [if_neg c] at b
     omega
   ·obtain⟨hne,rfl⟩:=Ļ.mp z
    rcases l3 with y | ⟨l,hl,y1,y2⟩
    ·omega
    ·refine⟨mb l,nR n1 n8 hl,y1,?_⟩
     have b:=dd (mb l)
     rw [if_pos y1] at b
     have:=F.C _ (nR n1 n8 hl)
     omega
  ·refine List.pairwise_append.mpr ⟨so,List.pairwise_replicate.mpr (.inr (ě _)),fun x hx y hy=>?_⟩
   rw [(Ļ.mp hy).2]
   have:=lt x hx
   omega
  ·rcases Û.mp hv with z | z
   ·have:=lt v z; omega
   ·rw [(Ļ.mp z).2]; omega
  ·rw [È,Ď,Nat.add_mul]
   omega
theorem Ak {n k:Nat}{us:List Tie} (n1:1<=n) (n8:n<=8) (hu:RgT n us):FewP n k us (jW n k (bK n us)) (jW n k (bK n us))/\(jW n k (bK n us)).Pairwise (·<=·)/\(jW n k (bK n us)).length<=n * k:=by
 obtain⟨L,e,F,so,_,ln⟩:=qe (k:=k) n1 n8 hu n (Í _)
 have:jW n k (bK n us)=L:=by
  unfold jW
  rw [uI,e]
 rw [this]
 rw [J5,ù] at F
 exact⟨F,so,ln⟩
def iR (sp:Spr) (a b:Int):Bool:=!decide (a=b)&&((sp.filter fun r=>mb r.1 a&&mb r.1 b).map fun r=>decide (2<=r.2)).all id
def jd (sp:Spr) (a b:Int):Spr:=sp.map fun r=>(r.1,if (mb r.1 a&&mb r.1 b)=true then r.2 - 2 else r.2)
def j9:Nat->Spr->List Int->List Tie
 | 0,_,_=>[]
 | _+1,_,[]=>[]
 | f+1,sp,a::rest=>match (a::rest).find? (iR sp a) with
  | some b=>(a,b)::j9 f (jd sp a b) (rest.erase b)
  | none=>[]
def tZ:Nat->Spr->List Int->Prop
 | _,_,[]=>True
 | 0,_,_::_=>False
 | f+1,sp,a::rest=>∃ b,(a::rest).find? (iR sp a)=some b/\b∈rest/\tZ f (jd sp a b) (rest.erase b)
theorem K9 {a b:List Int} (h:a.Perm b) (X:Int->Bool):Cut.mg a X=Cut.mg b X:=h.countP_eq X
theorem uF {us:List Tie}{a b:Int}{rest:List Int} (hb:b∈rest) (X:Int->Bool):Cut.dD ((a,b)::us) (rest.erase b) X+(if (X a&&X b)=true then 2 else 0)=Cut.dD us (a::rest) X:=by
 unfold Cut.dD
 rw [Cut.mU,Cut.eU,K9 (List.perm_cons_erase hb) X,Cut.eU]
 cases X a <;> cases X b <;> simp <;> omega
theorem JX {n k:Nat}{us:List Tie}{a b:Int}{rest:List Int} (hb:b∈rest):jd (aB n k us (a::rest)) a b=aB n k ((a,b)::us) (rest.erase b):=by
 unfold jd aB
 rw [ý]
 refine ő fun l _=>?_
 have:=uF (us:=us) (a:=a) hb (mb l)
 refine Prod.ext rfl ?_
 show (if (mb l a&&mb l b)=true then ((Cut.dD us (a::rest) (mb l):Nat):Int) - (k:Int) - 2 else ((Cut.dD us (a::rest) (mb l):Nat):Int) - (k:Int))=((Cut.dD ((a,b)::us) (rest.erase b) (mb l):Nat):Int) - (k:Int)
 split
 ·rename_i c; rw [if_pos c] at this; omega
 ·rename_i c; rw [if_neg c] at this; omega
theorem Df {n k:Nat}{us:List Tie}{es:List Int} (n1:1<=n) (n8:n<=8) (hu:RgT n us) (he:RgE n es) {a b:Int} (ha:0<=a/\a<(n:Int)) (hb:0<=b/\b<(n:Int)):iR (aB n k us es) a b=true↔a≠b/\∀ X,Cut.Prp n X->X a=true->X b=true->k+2<=Cut.dD us es X:=by
 unfold iR
 rw [Ý,Bool.not_eq_true',decide_eq_false_iff_not,ċ]
 refine and_congr Iff.rfl ⟨fun h X hX xa xb=>?_,fun h y hy=>?_⟩
 ·have:=h (decide (2<=((Cut.dD us es X:Nat):Int) - (k:Int))) (é.mpr ⟨_,ĉ.mpr ⟨HY n8 hu he hX,by rw [oF ha,oF hb,xa,xb]; rfl⟩,rfl⟩)
  have:=of_decide_eq_true this
  omega
 ·obtain⟨r,hr,rfl⟩:=é.mp hy
  obtain⟨h1,h2⟩:=ĉ.mp hr
  obtain⟨l,hl,rfl⟩:=é.mp h1
  rw [Ý] at h2
  have:=h _ (nR n1 n8 hl) h2.1 h2.2
  refine decide_eq_true ?_
  show (2:Int)<=((Cut.dD us es (mb l):Nat):Int) - (k:Int)
  omega
theorem gq {a b:List Tie} (h:a.Perm b) (X:Int->Bool):Cut.dg a X=Cut.dg b X:=h.countP_eq _
theorem Ge {n k:Nat} (n1:1<=n) (n8:n<=8) (k2:2<=k):∀ (f:Nat) (us:List Tie) (es:List Int),es.length<=f->RgT n us->RgE n es->es.Pairwise (·<=·)->es.length % 2=0->(∀ X,Cut.Prp n X->k<=Cut.dD us es X)->(∀ v,2<=es.count v->∃ X,Cut.Prp n X/\X v=true/\Cut.dD us es X<=k+1) ->
  tZ f (aB n k us es) es/\(j9 f (aB n k us es) es).length * 2=es.length/\(∀ t∈j9 f (aB n k us es) es,0<=t.1/\t.1<t.2/\t.2<(n:Int))/\∀ X,Cut.Prp n X->k<=Cut.dg (j9 f (aB n k us es) es++us) X
 | f,us,[],_,_,_,_,_,hC,_=>by
  have e:j9 f (aB n k us []) []=[]:=by cases f <;> rfl
  rw [e]
  refine⟨by cases f <;> trivial,rfl,fun t h=>(nomatch h),fun X hX=>?_⟩
  have:=hC X hX
  unfold Cut.dD at this
  exact this
 | 0,us,a::rest,hf,_,_,_,_,_,_=>by simp at hf
 | f+1,us,a::rest,hf,hu,he,so,ev,hC,two=>by
  have ha:=he a Æ
  obtain⟨b0,m0,n0,h0⟩:=Cut.split k2 he hC ev rfl fun hm=>two a (by
   rw [List.count_cons_self]
   have:=List.count_pos_iff.mpr hm
   omega)
  have hfind:∃ b,(a::rest).find? (iR (aB n k us (a::rest)) a)=some b:=by
   cases c:(a::rest).find? (iR (aB n k us (a::rest)) a) with
   | some b=>exact⟨b,rfl⟩
   | none =>
    have:=List.find?_eq_none.mp c b0 (Ã _ m0)
    exact absurd ((Df n1 n8 hu he ha (he b0 (Ã _ m0))).mpr ⟨Į n0,h0⟩) this
  obtain⟨b,hb⟩:=hfind
  have cb:=List.find?_some hb
  have mb':=List.mem_of_find?_eq_some hb
  have rb:=he b mb'
  obtain⟨nab,hX⟩:=(Df n1 n8 hu he ha rb).mp cb
  have mr:b∈rest:=(Ô.mp mb').elim (fun z=>absurd z.symm nab) id
  have sub:(rest.erase b).Sublist rest:=List.erase_sublist
  have lr:(rest.erase b).length+1=rest.length:=by
   have:=List.length_erase_of_mem mr
   have:0<rest.length:=List.length_pos_of_mem mr
   omega
  have lt:a<b:=by
   have:=(List.pairwise_cons.mp so).1 b mr
   omega
  obtain⟨g1,g2,g3,g4⟩:=Ge n1 n8 k2 f ((a,b)::us) (rest.erase b) (by rw [Ü] at hf; omega) (fun t ht=>by
   rcases Ô.mp ht with rfl | ht
   ·exact⟨ha,rb⟩
   ·exact hu t ht) (fun e h=>he e (Ã _ (sub.mem h))) ((List.pairwise_cons.mp so).2.sublist sub) (by rw [Ü] at ev; omega) (fun X hp=>by
    have d:=uF (us:=us) (a:=a) mr X
    have c:=hC X hp
    by_cases z:(X a&&X b)=true
    ·rw [if_pos z] at d
     rw [Ý] at z
     have:=hX X hp z.1 z.2
     omega
    ·rw [if_neg z] at d
     omega) (fun v hv=>by
    obtain⟨X,x1,x2,x3⟩:=two v (by
     have a1:=sub.count_le v
     have a2:rest.count v<=(a::rest).count v:=(List.sublist_cons_self a rest).count_le v
     omega)
    refine⟨X,x1,x2,?_⟩
    have d:=uF (us:=us) (a:=a) mr X
    omega)
  rw [← JX mr] at g1 g2 g3 g4
  have e:j9 (f+1) (aB n k us (a::rest)) (a::rest)=(a,b)::j9 f (jd (aB n k us (a::rest)) a b) (rest.erase b):=by
   show (match (a::rest).find? (iR (aB n k us (a::rest)) a) with | some b=>_ | none=>_)=_
   rw [hb]
  rw [e]
  refine⟨⟨b,hb,mr,g1⟩,?_,fun t ht=>?_,fun X hp=>?_⟩
  ·rw [Ü,Ü]
   omega
  ·rcases Ô.mp ht with rfl | ht
   ·exact⟨ha.1,lt,rb.2⟩
   ·exact g3 t ht
  ·rw [List.cons_append,← gq (List.perm_middle (a:=(a,b)) (l₁:=j9 f (jd (aB n k us (a::rest)) a b) (rest.erase b)) (l₂:=us)) X]
   exact g4 X hp
def rwD (r:List Int×Int):D:=.tuple [iD r.1,.int r.2]
def fM (sp:Spr):D:=.list (sp.map rwD)
def fPS (ds:List D) (P:D->Prop):Prop:=∃ n:Nat,ds=[.int ((n:Nat):Int)]/\1<=n/\n<=8/\P (.list ((psN n).map iD))
def fWS (ds:List D) (P:D->Prop):Prop:=∃ (rows:Spr) (es:List Int) (k:Int),ds=[fM rows,iD es,.int k]/\rows.length<=300/\es.length<=300/\P (fM (wR rows es k))
def fFE (ds:List D) (P:D->Prop):Prop:=∃ (n k:Nat) (us:List Tie),ds=[.int ((n:Nat):Int),fM (bK n us),.int ((k:Nat):Int)]/\1<=n/\n<=8/\k<=3/\RgT n us/\P (iD (jW n k (bK n us)))
def fCB (ds:List D) (P:D->Prop):Prop:=∃ (sp:Spr) (a b:Int),ds=[fM sp,.int a,.int b,.int 2]/\sp.length<=300/\P (.bool (iR sp a b))
def fTd (ds:List D) (P:D->Prop):Prop:=∃ (sp:Spr) (a b:Int),ds=[fM sp,.int a,.int b,.int 2]/\sp.length<=300/\P (fM (jd sp a b))
def fTE (ds:List D) (P:D->Prop):Prop:=∃ (sp:Spr) (es:List Int),ds=[fM sp,iD es]/\sp.length<=300/\es.length<=100/\tZ es.length sp es/\P (.list ((j9 es.length sp es).map pD))
section
variable {P:Program}{w:World}{K:Ú}{mg:Str->Option Value}{base:Heap}{f:Addr}{fd:FuncData}{CN PT:Addr}
theorem jg:FnScope ["n"] ["n"] (ao (top 15)):=zC
theorem qO (F:Fun K "proper_sets" "proper_sets" (top 15) f fd) (B:ļ mg) (C_sets_below:ø P w K mg base 1 "sets_below" ["count"] (spD fSB)):FnOk P w K mg base CX0 2 f fd ["n"] (spD fPS):=by
 refine F.ok jg Ĵ (fun cdv A outer s H vs Q E hr h=>?_)
 have nd:=jg.nd
 refine⟨_,ĝ (ð (ā (Wr.o9 (Ť C_sets_below hr (À (Ê 0) Å)) (Wr.cH Õ) (Wr.cH (Wr.iH Õ))))),aX h ?_⟩
 rintro ds P ⟨n,rfl,n1,n8,q⟩
 refine⟨[.im (.int ((n:Nat):Int))],rfl,?_⟩
 have p2:=lM n1 n8
 refine⟨((n:Nat):Int),rfl,by omega,by omega,.inr ⟨rfl,?_⟩⟩
 rw [Ù,Dc _ (by rw [Á,aW]; omega),← ŏ,← Ż]
 exact q
theorem jf:FnScope ["rows","ends","most"] ["rows","ends","most"] (ao (top 30)):=zC
theorem gR:(["some","count","rows","ends","most"]:List Str).Nodup:=by decide +kernel
theorem oh:(["v","some","count","rows","ends","most"]:List Str).Nodup:=by decide +kernel
theorem qN (F:Fun K "with_spares" "with_spares" (top 30) f fd) (B:ļ mg):FnOk P w K mg base CX0 1 f fd ["rows","ends","most"] (spR fWS):=by
 refine F.ok jf vK (fun cdv A outer s H vs Q E hr h=>?_)
 have nd:=jf.nd
 refine⟨_,Dl.WR.h (Dl.zf (ţ ["some","count"] rfl (ĵ (Ê 0)) (fun c=>(Wr.gJ (n:=2) rfl (ĭ (ñ (i:=0) gR rfl zQ) (ĭ (ñ (i:=1) gR rfl zQ) Wr.dN)))) (fun c=>ś) (fun c=>(Ĝ (À (Ê 0) (À (Wr.cT (Ę (Ê 1) (Ň B.len (À (ţ ["v"] rfl (ĵ (Ê 3)) (fun c=>(ñ (i:=0) oh rfl zQ)) (fun c=>(Wr.dZ (Wr.eE hr.units (Ê 0) (Ê 1)))) (fun c=>(Ê 0))) Å))) (Ê 4)) Å)))))),Am h ?_⟩
 rintro ds P ⟨rows,es,k,rfl,lr,le,q⟩
 refine⟨[.sh (fM rows),.sh (iD es),.im (.int k)],rfl,?_⟩
 refine sO rows rwD (fun r=>rwD (r.1,r.2+(((es.filter (mb r.1)).length:Nat):Int) - k)) .shr rfl (by omega) (fun r hr A B hA=>⟨rfl,aM (B:=B) ?_⟩) ?_
 ·refine Ci es Â (mb r.1) Â .imm rfl (by omega) (fun v hv A B hA hB=>?_) ?_
  ·refine⟨rfl,dY r.1,?_⟩
   show if (((r.1.map Â).any fun e=>ü e (.int v)):Bool)=true then _ else _
   rw [Ŧ]
   cases c:mb r.1 v with
   | true =>
    rw [show decide (v∈r.1)=true from c]
    exact aM (B:=True) ⟨rfl,hA c⟩
   | false =>
    rw [show decide (v∈r.1)=false from c]
    exact aN (A:=True) (hB c)
  ·refine⟨zK,?_,?_⟩
   ·rfl
   ·show A (.tuple [iD r.1,.int (r.2+(((Ĳ Â (List.filter (mb r.1) es)).length:Nat):Int) - k)])
    rw [Á]
    exact hA
 ·unfold fM wR at q
  rw [ý] at q
  exact q
theorem mL (m:Nat) (v:Int):(É m [Â v]).flatten=(É m v).map Â:=by
 induction m with
 | zero=>rfl
 | succ m ih=>rw [ĩ,Ĭ,ih,ĩ]; rfl
theorem Bh (rows:Spr) (es:List Int) (k:Int):(wR rows es k).length=rows.length:=Á _
theorem Cu (sp0:Spr) (k:Int):∀ i,(eF sp0 k i).1.length=sp0.length
 | 0=>rfl
 | i+1=>by
  show (pA _ _ _).length=_
  unfold pA
  rw [Á,Cu]
theorem Jb {n k i:Nat}{us:List Tie} (n1:1<=n) (n8:n<=8) (hu:RgT n us) (hi:i<n):0<=iU (eF (aB n k us (rst n k 0)) k i).1 ((i:Nat):Int) k/\iU (eF (aB n k us (rst n k 0)) k i).1 ((i:Nat):Int) k<=k:=by
 obtain⟨L,e,F,_⟩:=qe (k:=k) n1 n8 hu i (by omega)
 rw [e]
 refine⟨?_,xY _ _ _ Æ⟩
 show 0<=mnF _ _
 rcases Ô.mp (vC (k:Int) (((aB n k us (L++rst n k i)).filter fun r=>mb r.1 ((i:Nat):Int)).map (·.2))) with z | z
 ·rw [z]; omega
 ·obtain⟨r,hr,e⟩:=é.mp z
  obtain⟨l,hl,rfl⟩:=é.mp (ĉ.mp hr).1
  have:=F.C _ (nR n1 n8 hl)
  rw [← e]
  show 0<=((Cut.dD us (L++rst n k i) (mb l):Nat):Int) - (k:Int)
  omega
theorem Qs {n k i:Nat}{us:List Tie} (n1:1<=n) (n8:n<=8) (hu:RgT n us) (hi:i<=n):(eF (aB n k us (rst n k 0)) k i).2.length<=i * k:=by
 obtain⟨L,e,_,_,_,ln⟩:=qe (k:=k) n1 n8 hu i hi
 rw [e]
 exact ln
theorem wZ {n:Nat} (n1:1<=n) (n8:n<=8) (us:List Tie):(bK n us).length<=254:=by
 have p2:=lM n1 n8
 unfold bK psN
 rw [Á,ĳ,õ,aW]
 omega
theorem jh:FnScope ["n","rows","most","ends","v","spares","left","lost"] ["n","rows","most"] (ao (top 31)):=zC
theorem cF:(["some","spare","n","rows","most","ends","v","spares","left","lost"]:List Str).Nodup:=by decide +kernel
theorem qP (F:Fun K "fewest_ends" "fewest_ends" (top 31) f fd) (B:ļ mg) (C_with_spares:ø P w K mg base 1 "with_spares" ["rows","ends","most"] (spR fWS)):FnOk P w K mg base CX0 2 f fd ["n","rows","most"] (spD fFE):=by
 refine F.ok jh Ĵ (fun cdv A outer s H vs Q E hr h=>?_)
 have nd:=jh.nd
 refine⟨_,ĝ (Ó (ö (some 0) (i:=3) nd rfl zQ (Ņ Å))
  (Ó (Wr.cV Ą rfl (Wr.bC B.range (À (Ê 0) Å)) (ñ (i:=4) nd rfl zQ) (Ó (Wr.dU (Ř 3) (À (Wr.jk (Ņ (À (Ê 4) Å)) (Ê 2)) Å)) (ĕ [4] Č)))
  (ĕ [4] (Wr.Ao 3 (Ó (ö none (i:=5) nd rfl zQ (Dl.dcR C_with_spares hr (À (Ê 1) (À (Ê 3) (À (Ê 2) Å)))))
  (Ó (ö (some 1) (i:=6) nd rfl zQ (Ņ Å))
  (Ó (Wr.cV Ą rfl (Wr.bC B.range (À (Ê 0) Å)) (ñ (i:=4) nd rfl zQ) (Ó (ö none (i:=7) nd rfl zQ (Wr.u9 rfl B.min (À (Ę (Ņ (À (Ê 2) Å)) (ţ ["some","spare"] rfl (ĵ (Ê 5)) (fun c=>(Wr.gJ (n:=2) rfl (ĭ (ñ (i:=0) cF rfl zQ) (ĭ (ñ (i:=1) cF rfl zQ) Wr.dN)))) (fun c=>(Wr.dZ (Wr.eE hr.units (Ê 6) (Ê 0)))) (fun c=>(Ê 1)))) Å)))
  (Ó (Wr.rG none ["some","spare"] (i:=5) rfl nd rfl zQ (ĵ (Ê 5)) (fun c=>(Wr.gJ (n:=2) rfl (ĭ (ñ (i:=0) cF rfl zQ) (ĭ (ñ (i:=1) cF rfl zQ) Wr.dN)))) (fun c=>ś) (fun c=>(Ĝ (À (Ê 0) (À (Wr.jl (Wr.eE hr.units (Ê 6) (Ê 0)) (Wr.cT (Ê 1) (Ê 9)) (Ê 1)) Å)))))
  (Ó (Wr.dU (Ř 6) (À (Wr.jk (Ņ (À (Ê 4) Å)) (Wr.cT (Ê 2) (Ê 7))) Å)) (ĕ [4,7] Č)))))
  (ĕ [4,5,7] (ð (ā (Ê 6))))))))))),aX h ?_⟩
 rintro ds P ⟨n,k,us,rfl,n1,n8,k3,hu,q⟩
 have lr:=wZ n1 n8 us
 have lost:=fun i=>Jb (k:=k) (i:=i) n1 n8 hu
 have lnI:=fun i=>Qs (k:=k) (i:=i) n1 n8 hu
 have spe:=uI n k us (rst n k 0)
 unfold jW at q
 rw [spe] at q
 have lsp:(aB n k us (rst n k 0)).length<=254:=by rw [← spe,Bh]; exact lr
 have lfi:=Cu (aB n k us (rst n k 0)) k
 generalize bK n us=rows at spe lr
 refine⟨[.im (.int ((n:Nat):Int)),.sh (fM rows),.im (.int ((k:Nat):Int)),.any,.any,.any,.any,.any],rfl,?_⟩
 have pre:∀ i,((ä (i+1)).flatMap fun v=>É k ((v:Nat):Int))=((ä i).flatMap fun v=>É k ((v:Nat):Int))++É k ((i:Nat):Int):=fun i=>by
  rw [List.range_succ,List.flatMap_append,List.flatMap_cons,List.flatMap_nil,ù]
 have lpre:∀ i,((ä i).flatMap fun v=>É k ((v:Nat):Int)).length=i * k:=fun i=>by
  induction i with
  | zero=>simp
  | succ i ih=>rw [List.range_succ,List.flatMap_append,È,ih]; simp [Nat.add_mul]
 have nk:n * k<=24:=Nat.mul_le_mul n8 k3
 have ik:∀ i,i<=n->i * k<=24:=fun i hi=>þ (Nat.mul_le_mul_right k hi) nk
 refine⟨zK,⟨by omega,by omega⟩,rfl,fun (i:Nat) ρ=>ρ=[.im (.int ((n:Nat):Int)),.sh (fM rows),.im (.int ((k:Nat):Int)),.dw 0 (iD ((ä i).flatMap fun v=>É k ((v:Nat):Int))),.any,.any,.any,.any],rfl,?_,?_⟩
 ·rintro i d ρ hd rfl
  obtain⟨hi,rfl⟩:=bR hd
  rw [Ù] at hi
  rw [Int.zero_add]
  have l1:=lpre i
  have l2:=ik i (by omega)
  refine⟨zK,by omega,by omega,?_,.inr ⟨rfl,?_,?_⟩⟩
  ·show 1 * (((k:Nat):Int)).toNat<=1000
   omega
  ·rw [Ù]
   show (Ĳ Â _).length+(É k [Â ((i:Nat):Int)]).flatten.length<=1000
   rw [mL,Á,Á,Ď,l1]
   omega
  ·rw [Ù]
   show [_,_,_,Sl.dw 0 (.list (Ĳ Â _++(É k [Â ((i:Nat):Int)]).flatten)),_,_,_,_]=[_,_,_,Sl.dw 0 (iD ((ä (i+1)).flatMap fun v=>É k ((v:Nat):Int))),_,_,_,_]
   rw [mL,pre i]
   show _=[_,_,_,Sl.dw 0 (.list (Ĳ Â (_++_))),_,_,_,_]
   rw [Ø]
   rfl
 rintro ρ rfl
 rw [ř,Ù]
 have e0:((ä n).flatMap fun v=>É k ((v:Nat):Int))=rst n k 0:=by
  unfold rst
  rw [ż]
 have l0:=lpre n
 rw [e0] at l0 ⊢
 refine⟨rfl,?_⟩
 refine⟨rfl,rows,rst n k 0,((k:Nat):Int),rfl,by omega,by omega,?_⟩
 rw [spe]
 generalize hsp:aB n k us (rst n k 0)=sp0 at q lost lnI lsp lfi
 refine⟨zK,⟨by omega,by omega⟩,rfl,fun (i:Nat) ρ=>ρ=[.im (.int ((n:Nat):Int)),.sh (fM rows),.im (.int ((k:Nat):Int)),.sn (iD (rst n k 0)),.any,.sh (fM (eF sp0 k i).1),.dw 1 (iD (eF sp0 k i).2),.any],rfl,?_,?_⟩
 ·rintro i d ρ hd rfl
  obtain⟨hi,rfl⟩:=bR hd
  rw [Ù] at hi
  rw [Int.zero_add]
  have b:=lost i hi
  have l2:=ik i (by omega)
  have ll:=lnI i (by omega)
  have lf:=lfi i
  have eS:(eF sp0 k (i+1)).1=pA (eF sp0 k i).1 i (iU (eF sp0 k i).1 i k):=rfl
  have eL:(eF sp0 k (i+1)).2=(eF sp0 k i).2++É ((k:Int) - iU (eF sp0 k i).1 i k).toNat ((i:Nat):Int):=rfl
  generalize (eF sp0 k i).1=sp at b lf eS eL ⊢
  generalize (eF sp0 k i).2=L at ll eL ⊢
  refine⟨zK,?_⟩
  refine Ci sp rwD (fun r=>mb r.1 ((i:Nat):Int)) (fun r=>.int r.2) .imm rfl (by omega) (fun r hr A B hA hB=>⟨rfl,?_⟩) ?_
  ·refine⟨rfl,dY r.1,?_⟩
   show if (((r.1.map Â).any fun e=>ü e (.int ((i:Nat):Int))):Bool)=true then _ else _
   rw [Ŧ]
   cases c:mb r.1 ((i:Nat):Int) with
   | true =>
    rw [show decide (((i:Nat):Int)∈r.1)=true from c]
    exact aM (B:=True) ⟨rfl,hA c⟩
   | false =>
    rw [show decide (((i:Nat):Int)∈r.1)=false from c]
    exact aN (A:=True) (hB c)
  have lfl:(sp.filter fun r=>mb r.1 ((i:Nat):Int)).length<=sp.length:=List.length_filter_le _ _
  refine⟨?_,.inr ⟨((k:Nat):Int)::(sp.filter fun r=>mb r.1 ((i:Nat):Int)).map (·.2),?_,by simp,fun M h1 h2=>?_⟩⟩
  ·show 1+(Ĳ _ _).length<=1000
   rw [Á]
   omega
  ·show Â ((k:Nat):Int)::Ĳ (fun r:List Int×Int=>Â r.2) _=Â ((k:Nat):Int)::Ĳ Â (Ĳ _ _)
   rw [ý]
   rfl
  have eM:M=iU sp ((i:Nat):Int) k:=K8 h1 h2
  rw [← eM] at b eS eL
  refine sO sp rwD (fun r=>rwD (r.1,if mb r.1 ((i:Nat):Int)=true then r.2 - M else r.2)) .shr rfl (by omega) (fun r hr A B hA=>⟨rfl,aM (B:=B) ⟨rfl,dY r.1,?_⟩⟩) ?_
  ·show if (((r.1.map Â).any fun e=>ü e (.int ((i:Nat):Int))):Bool)=true then _ else _
   rw [Ŧ]
   cases c:mb r.1 ((i:Nat):Int) with
   | true =>
    rw [show decide (((i:Nat):Int)∈r.1)=true from c]
    rw [c] at hA
    exact aM (B:=True) ⟨zK,rfl,hA⟩
   | false =>
    rw [show decide (((i:Nat):Int)∈r.1)=false from c]
    rw [c] at hA
    exact aN (A:=True) ⟨zK,rfl,hA⟩
  refine⟨zK,by omega,by omega,?_,.inr ⟨rfl,?_,?_⟩⟩
  ·show 1 * (((k:Nat):Int) - M).toNat<=1000
   omega
  ·show (Ĳ Â _).length+(É (((k:Nat):Int) - M).toNat [Â ((i:Nat):Int)]).flatten.length<=1000
   rw [mL,Á,Á,Ď]
   omega
  ·show [_,_,_,_,_,Sl.sh (.list (sp.map fun r=>rwD (r.1,if mb r.1 ((i:Nat):Int)=true then r.2 - M else r.2))),Sl.dw 1 (.list (Ĳ Â L++(É (((k:Nat):Int) - M).toNat [Â ((i:Nat):Int)]).flatten)),_]=[_,_,_,_,_,Sl.sh (fM (eF sp0 k (i+1)).1),Sl.dw 1 (iD (eF sp0 k (i+1)).2),_]
   rw [mL,eS,eL]
   show _=[_,_,_,_,_,Sl.sh (.list (Ĳ rwD (Ĳ _ sp))),Sl.dw 1 (.list (Ĳ Â (_++_))),_]
   rw [Ø,ý]
   rfl
 rintro ρ rfl
 rw [ř,Ù]
 exact⟨rfl,q⟩
theorem ji:FnScope ["spares","a","b","taken"] ["spares","a","b","taken"] (ao (top 32)):=zC
theorem gU:(["some","spare","spares","a","b","taken"]:List Str).Nodup:=by decide +kernel
theorem qQ (F:Fun K "can_be_tied" "can_be_tied" (top 32) f fd) (B:ļ mg):FnOk P w K mg base CX0 1 f fd ["spares","a","b","taken"] (spD fCB):=by
 refine F.ok ji Ĵ (fun cdv A outer s H vs Q E hr h=>?_)
 have nd:=ji.nd
 refine⟨_,ĝ (ð (ā (Wr.gF (Wr.u5 hr.units (Ê 1) (Ê 2)) (Wr.gC (Wr.jm rfl B.all Dl.boot_all (À (ţ ["some","spare"] rfl (ĵ (Ê 0)) (fun c=>(Wr.gJ (n:=2) rfl (ĭ (ñ (i:=0) gU rfl zQ) (ĭ (ñ (i:=1) gU rfl zQ) Wr.dN)))) (fun c=>(Wr.dZ (Wr.wpt (Wr.gb (Wr.eE hr.units (Ê 3) (Ê 0)) (Wr.d8 (Wr.eE hr.units (Ê 4) (Ê 0))))))) (fun c=>(Wr.Hh (Ê 1) (Ê 5)))) Å)))))),aX h ?_⟩
 rintro ds P ⟨sp,a,b,rfl,ls,q⟩
 refine⟨[.sh (fM sp),.im (.int a),.im (.int b),.im (.int 2)],rfl,?_⟩
 by_cases c:a=b
 ·subst c
  have:iR sp a a=false:=by
   unfold iR
   rw [decide_eq_true rfl]
   rfl
  rw [this] at q
  show if (!decide (a=a))=true then _ else _
  rw [decide_eq_true rfl]
  exact aN (A:=True) ⟨rfl,q⟩
 show if (!decide (a=b))=true then _ else _
 rw [decide_eq_false c]
 refine aM (B:=True) ?_
 refine Ci sp rwD (fun r=>mb r.1 a&&mb r.1 b) (fun r=>.bool (decide (2<=r.2))) .imm rfl (by omega) (fun r hr A B hA hB=>⟨rfl,?_⟩) ?_
 ·refine⟨rfl,dY r.1,?_⟩
  show if (((r.1.map Â).any fun e=>ü e (.int a)):Bool)=true then _ else _
  rw [Ŧ]
  cases ca:mb r.1 a with
  | false =>
   rw [show decide (a∈r.1)=false from ca]
   exact aN (A:=True) (aN (A:=True) (hB (by rw [ca]; rfl)))
  | true =>
   rw [show decide (a∈r.1)=true from ca]
   refine aM (B:=True) ⟨rfl,dY r.1,?_⟩
   show if (((r.1.map Â).any fun e=>ü e (.int b)):Bool)=true then _ else _
   rw [Ŧ]
   cases cb:mb r.1 b with
   | false =>
    rw [show decide (b∈r.1)=false from cb]
    exact aN (A:=True) (hB (by rw [ca,cb]; rfl))
   | true =>
    rw [show decide (b∈r.1)=true from cb]
    exact aM (B:=True) ⟨rfl,hA (by rw [ca,cb]; rfl)⟩
 ·refine⟨(sp.filter fun r=>mb r.1 a&&mb r.1 b).map fun r=>decide (2<=r.2),by rw [ý]; rfl,rfl,?_⟩
  have:iR sp a b=((sp.filter fun r=>mb r.1 a&&mb r.1 b).map fun r=>decide (2<=r.2)).all id:=by
   unfold iR
   rw [decide_eq_false c]
   rfl
  rw [this] at q
  exact q
theorem Bo:FnScope ["spares","a","b","taken"] ["spares","a","b","taken"] (ao (top 33)):=zC
theorem tL:(["some","spare","spares","a","b","taken"]:List Str).Nodup:=by decide +kernel
theorem KR (F:Fun K "tied" "tied" (top 33) f fd) (B:ļ mg):FnOk P w K mg base CX0 1 f fd ["spares","a","b","taken"] (spR fTd):=by
 refine F.ok Bo vK (fun cdv A outer s H vs Q E hr h=>?_)
 have nd:=Bo.nd
 refine⟨_,Dl.WR.h (Dl.zf (ţ ["some","spare"] rfl (ĵ (Ê 0)) (fun c=>(Wr.gJ (n:=2) rfl (ĭ (ñ (i:=0) tL rfl zQ) (ĭ (ñ (i:=1) tL rfl zQ) Wr.dN)))) (fun c=>ś) (fun c=>(Ĝ (À (Ê 0) (À (Wr.jl (Wr.wpt (Wr.gb (Wr.eE hr.units (Ê 3) (Ê 0)) (Wr.d8 (Wr.eE hr.units (Ê 4) (Ê 0))))) (Wr.cT (Ê 1) (Ê 5)) (Ê 1)) Å)))))),Am h ?_⟩
 rintro ds P ⟨sp,a,b,rfl,ls,q⟩
 refine⟨[.sh (fM sp),.im (.int a),.im (.int b),.im (.int 2)],rfl,?_⟩
 refine sO sp rwD (fun r=>rwD (r.1,if (mb r.1 a&&mb r.1 b)=true then r.2 - 2 else r.2)) .shr rfl (by omega) (fun r hr A B hA=>⟨rfl,aM (B:=B) ⟨rfl,dY r.1,?_⟩⟩) ?_
 ·show if (((r.1.map Â).any fun e=>ü e (.int a)):Bool)=true then _ else _
  rw [Ŧ]
  cases ca:mb r.1 a with
  | false =>
   rw [show decide (a∈r.1)=false from ca]
   rw [ca] at hA
   exact aN (A:=True) (aN (A:=True) ⟨zK,rfl,hA⟩)
  | true =>
   rw [show decide (a∈r.1)=true from ca]
   refine aM (B:=True) ⟨rfl,dY r.1,?_⟩
   show if (((r.1.map Â).any fun e=>ü e (.int b)):Bool)=true then _ else _
   rw [Ŧ]
   cases cb:mb r.1 b with
   | false =>
    rw [show decide (b∈r.1)=false from cb]
    rw [ca,cb] at hA
    exact aN (A:=True) ⟨zK,rfl,hA⟩
   | true =>
    rw [show decide (b∈r.1)=true from cb]
    rw [ca,cb] at hA
    exact aM (B:=True) ⟨zK,rfl,hA⟩
 ·unfold fM jd at q
  rw [ý] at q
  exact q
theorem oY:FnScope ["spares","ends","added","a","b"] ["spares","ends"] (ao (top 34)):=zC
theorem sJ:(["v","spares","ends","added","a","b"]:List Str).Nodup:=by decide +kernel
theorem xP (F:Fun K "tie_ends" "tie_ends" (top 34) f fd) (B:ļ mg) (C_can_be_tied:ø P w K mg base 1 "can_be_tied" ["spares","a","b","taken"] (spD fCB)) (C_tied:ø P w K mg base 1 "tied" ["spares","a","b","taken"] (spR fTd)):FnOk P w K mg base CX0 2 f fd ["spares","ends"] (spD fTE):=by
 refine F.ok oY Ĵ (fun cdv A outer s H vs Q E hr h=>?_)
 have nd:=oY.nd
 refine⟨_,ĝ (Ó (ö (some 0) (i:=2) nd rfl zQ (Ņ Å))
  (Ó (Wr.jz Ą (Wr.uV (Ê 1)) (Ó (ö none (i:=3) nd rfl zQ (ò (Ê 1) Õ))
  (Ó (ö none (i:=4) nd rfl zQ (ò (ţ ["v"] rfl (ĵ (Ê 1)) (fun c=>(ñ (i:=0) sJ rfl zQ)) (fun c=>(Wr.dZ (Ś (Ť C_can_be_tied hr (À (Ê 1) (À (Ê 4) (À (Ê 0) (À Õ Å)))))))) (fun c=>(Ê 0))) Õ))
  (Ó (ö none (i:=0) nd rfl zQ (Dl.dcR C_tied hr (À (Ê 0) (À (Ê 3) (À (Ê 4) (À Õ Å))))))
  (Ó (Wr.cG (Ř 2) (À (Ĝ (À (Ê 3) (À (Ê 4) Å))) Å))
  (Ó (ö (some 1) (i:=1) nd rfl zQ (Wr.o9 (Ê 1) (Wr.cH Õ) Wr.eY))
  (Ó (Wr.oO (Ř 1) (À (Ê 4) Å)) (ĕ [3,4] Č))))))))
  (ĕ [0,1,3,4] (ð (ā (Ê 2)))))),aX h ?_⟩
 rintro ds P ⟨sp,es,rfl,ls,le,g,q⟩
 refine⟨[.sh (fM sp),.sh (iD es),.any,.any,.any],rfl,?_⟩
 refine⟨zK,fun m ρ=>∃ (sp':Spr) (es':List Int) (ad:List Tie) (g:Nat) (s1:Sl),ρ=[.sh (fM sp'),s1,.dw 0 (.list (ad.map pD)),.any,.any]/\(s1=.sh (iD es')\/s1=.dw 1 (iD es'))/\sp'.length<=300/\ad.length+es'.length<=100/\tZ g sp' es'/\ad++j9 g sp' es'=j9 es.length sp es/\m=es'.length,⟨_,sp,es,[],es.length,_,rfl,.inl rfl,ls,by simpa using le,g,rfl,rfl⟩,?_⟩
 rintro m ρ ⟨sp',es',ad,g,s1,rfl,hs,ls',le',gd,et,rfl⟩
 cases es' with
 | nil =>
  have e0:j9 g sp' []=[]:=by cases g <;> rfl
  rw [e0,ù] at et
  rw [← et] at q
  rcases hs with rfl | rfl
  all_goals exact aN (A:=True) ⟨rfl,q⟩
 | cons a rest =>
  cases g with
  | zero=>exact gd.elim
  | succ g =>
  obtain⟨b,hb,mr,gd⟩:=gd
  have et':j9 (g+1) sp' (a::rest)=(a,b)::j9 g (jd sp' a b) (rest.erase b):=by
   show (match (a::rest).find? (iR sp' a) with | some b=>_ | none=>_)=_
   rw [hb]
  have hx:atI (((a::rest).filter (iR sp' a)).map Â) 0=some (.int b):=by
   have h1:((a::rest).filter (iR sp' a)).head?=some b:=by rw [List.head?_filter,hb]
   have h2:((a::rest).filter (iR sp' a))[0]?=some b:=by rw [← List.head?_eq_getElem?]; exact h1
   exact d7 (j:=0) (by rw [á,h2]; rfl)
  have h0:atI ((a::rest).map Â) 0=some (.int a):=d7 (j:=0) rfl
  have lt:(jd sp' a b).length=sp'.length:=Á _
  have lre:(rest.erase b).length+1=rest.length:=by
   have:=List.length_erase_of_mem mr
   have:0<rest.length:=List.length_pos_of_mem mr
   omega
  rw [Ü] at le'
  have ec:dW ((a::rest).map Â) (some 1) none=rest.map Â:=by
   rw [jC]
   rfl
  rcases hs with rfl | rfl
  all_goals
   refine aM (B:=True) ⟨_,h0,?_⟩
   refine Ci (a::rest) Â (iR sp' a) Â .imm rfl (by rw [Ü]; omega) (fun v hv A B hA hB=>⟨sp',a,v,rfl,ls',?_⟩) ?_
   ·show if iR sp' a v=true then _ else _
    cases c:iR sp' a v with
    | true=>exact aM (B:=True) ⟨rfl,hA c⟩
    | false=>exact aN (A:=True) (hB c)
   refine⟨_,hx,rfl,sp',a,b,rfl,ls',zK,rfl,by rw [Á]; omega,?_⟩
   refine .inl ⟨?_,1,rest,?_,mr,?_⟩
   ·rw [ec]
    exact fK rest
   ·rw [ec]
    rfl
   ·refine⟨(rest.erase b).length,by rw [Ü]; omega,jd sp' a b,rest.erase b,ad++[(a,b)],g,_,?_,.inr rfl,by omega,by rw [È,Þ]; omega,gd,by rw [Ŏ,← et,et']; rfl,rfl⟩
    rw [Ø]
    rfl
end
def endsF (n k:Nat) (us:List Tie):List Int:=if (jW n k (bK n us)).length % 2=1 then 0::jW n k (bK n us) else jW n k (bK n us)
def mZ (n k:Nat) (us:List Tie):List Tie:=j9 (endsF n k us).length (aB n k us (endsF n k us)) (endsF n k us)
structure PutsOk (n k:Nat) (us A:List Tie) (F:List (List Int)):Prop where
 fam:Di n (dG us ((k:Int) - 1)) F
 perm:A.Perm (mZ n k us)
 so:A.Pairwise fun a b=>aJ a<=aJ b
theorem tu:∀ {l1 l2:List Tie},(∀ t∈l1,nq t)->l1.Perm l2->l1.Pairwise (fun a b=>aJ a<=aJ b)->l2.Pairwise (fun a b=>aJ a<=aJ b)->l1=l2
 | [],l2,_,p,_,_=>p.nil_eq
 | a::l1,[],_,p,_,_=>absurd p.length_eq (by simp)
 | a::l1,b::l2,hn,p,s1,s2=>by
  have s1:=List.pairwise_cons.mp s1
  have s2:=List.pairwise_cons.mp s2
  have hb:b∈a::l1:=p.mem_iff.mpr Æ
  have ha:a∈b::l2:=p.mem_iff.mp Æ
  have e1:aJ a<=aJ b:=by
   rcases Ô.mp hb with z | z
   ·rw [z]; exact ě _
   ·exact s1.1 b z
  have e2:aJ b<=aJ a:=by
   rcases Ô.mp ha with z | z
   ·rw [z]; exact ě _
   ·exact s2.1 a z
  have e:a=b:=code_inj (hn a Æ) (hn b hb) (by omega)
  subst e
  rw [tu (fun t ht=>hn t (Ã _ ht)) ((List.perm_cons a).mp p) s1.2 s2.2]
theorem qg {n k:Nat}{us:List Tie} (n1:1<=n) (n8:n<=8) (k3:k<=3) (hu:RgT n us):RgE n (endsF n k us)/\(endsF n k us).Pairwise (·<=·)/\(endsF n k us).length % 2=0/\(∀ X,Cut.Prp n X->k<=Cut.dD us (endsF n k us) X)/\(∀ v,2<=(endsF n k us).count v->∃ X,Cut.Prp n X/\X v=true/\Cut.dD us (endsF n k us) X<=k+1)/\(endsF n k us).length<=25:=by
 obtain⟨F,so,ln⟩:=Ak (k:=k) n1 n8 hu
 have nk:n * k<=24:=Nat.mul_le_mul n8 k3
 unfold endsF
 generalize jW n k (bK n us)=L at F so ln
 split
 ·rename_i c
  have dd:∀ X:Int->Bool,Cut.dD us (0::L) X=Cut.dD us L X+(X 0).toNat:=fun X=>by
   unfold Cut.dD
   rw [Cut.eU]
   omega
  have bt:∀ b:Bool,b.toNat<=1:=by decide
  refine⟨fun e he=>?_,.cons (fun x hx=>(F.rg x hx).1) so,by rw [Ü]; omega,fun X hX=>?_,fun v hv=>?_,by rw [Ü]; omega⟩
  ·rcases Ô.mp he with rfl | he
   ·omega
   ·exact F.rg e he
  ·have:=F.C X hX
   rw [dd]
   omega
  ·have mv:v∈L:=by
    apply û
    intro hn
    have h0:=List.count_eq_zero.mpr hn
    rw [List.count_cons,h0] at hv
    split at hv <;> omega
   obtain⟨X,x1,x2,x3⟩:=F.tg v mv
   refine⟨X,x1,x2,?_⟩
   have:=bt (X 0)
   rw [dd]
   omega
 ·rename_i c
  refine⟨F.rg,so,by omega,F.C,fun v hv=>?_,by omega⟩
  have mv:v∈L:=List.count_pos_iff.mp (by omega)
  obtain⟨X,x1,x2,x3⟩:=F.tg v mv
  exact⟨X,x1,x2,by omega⟩
theorem rR {n k:Nat}{us:List Tie} (n1:1<=n) (n8:n<=8) (k2:2<=k) (k3:k<=3) (hu:RgT n us):tZ (endsF n k us).length (aB n k us (endsF n k us)) (endsF n k us)/\(mZ n k us).length * 2=(endsF n k us).length/\(∀ t∈mZ n k us,0<=t.1/\t.1<t.2/\t.2<(n:Int))/\∀ X,Cut.Prp n X->k<=Cut.dg (mZ n k us++us) X:=by
 obtain⟨e1,e2,e3,e4,e5,e6⟩:=qg (k:=k) n1 n8 k3 hu
 exact Ge n1 n8 k2 _ us _ (Í _) hu e1 e2 e3 e4 e5
theorem Rk {L out:List Int} (so:L.Pairwise (·<=·)) (h0:∀ x∈L,0<=x) (hp:out.Perm (L++[0])) (hs:out.Pairwise (·<=·)):out=0::L:=by
 have p2:out.Perm (0::L):=hp.trans (List.perm_append_comm (l₁:=L) (l₂:=[0]))
 have s2:(0::L).Pairwise (·<=·):=.cons h0 so
 exact p2.eq_of_pairwise (le:=fun a b:Int=>a<=b) (fun a b _ _ h1 h2=>Int.le_antisymm h1 h2) hs s2
def Cy (ds:List D) (P:D->Prop):Prop:=∃ (n k:Nat) (us:List Tie),ds=[aR ((n:Nat):Int) us,.int ((k:Int) - 1)]/\1<=n/\n<=8/\2<=k/\k<=3/\us.length<=100/\RgT n us/\∀ A F,PutsOk n k us A F->P (.tuple [.list (A.map pD),.list (F.map iD)])
section
variable {P:Program}{w:World}{K:Ú}{mg:Str->Option Value}{base:Heap}{f:Addr}{fd:FuncData}{CN PT:Addr}
theorem Bp:FnScope ["web","falls","rows","ends","added"] ["web","falls"] (ao (top 35)):=zC
theorem DY:(["some","web","falls","rows","ends","added"]:List Str).Nodup:=by decide +kernel
theorem KY (F:Fun K "puts" "puts" (top 35) f fd) (B:ļ mg) (C_proper_sets:ø P w K mg base 2 "proper_sets" ["n"] (spD fPS)) (C_leaving:ø P w K mg base 7 "leaving" ["web","some"] (spD Jh)) (C_fewest_ends:ø P w K mg base 2 "fewest_ends" ["n","rows","most"] (spD fFE)) (C_tie_ends:ø P w K mg base 2 "tie_ends" ["spares","ends"] (spD fTE)) (C_with_spares:ø P w K mg base 1 "with_spares" ["rows","ends","most"] (spR fWS)) (C_best_family:ø P w K mg base 11 "best_family" ["web","falls"] (spT (aL PT) Jk)):FnOk P w K mg base CX0 12 f fd ["web","falls"] (spT (aL PT) Cy):=by
 refine F.ok Bp vJ (fun cdv A outer s H vs Q E hr h=>?_)
 have nd:=Bp.nd
 letI:=grU (aL PT)
 refine⟨_,ĝ (Ó (Wr.rG none ["some"] (i:=2) rfl nd rfl zQ (ĵ (Ť C_proper_sets hr (À (ò (Ê 0) Õ) Å))) (fun c=>(ñ (i:=0) DY rfl zQ)) (fun c=>ś) (fun c=>(Ĝ (À (Ê 0) (À (Ť C_leaving hr (À (Ê 1) (À (Ê 0) Å))) Å)))))
  (Ó (ö none (i:=3) nd rfl zQ (Ť C_fewest_ends hr (À (ò (Ê 0) Õ) (À (Ê 2) (À (Ę (Ê 1) Õ) Å)))))
  (Ó (ŋ (Wr.jO hr.units (Wr.u6 (Ň B.len (À (Ê 3) Å)) Õ) Õ) (ð (ö none (i:=3) nd rfl zQ (Wr.lY B.sorted (À (Ę (Ê 3) (Ņ (À Õ Å))) Å)))) Č)
  (Ó (ö none (i:=4) nd rfl zQ (Ť C_tie_ends hr (À (Dl.dcR C_with_spares hr (À (Ê 2) (À (Ê 3) (À (Ę (Ê 1) Õ) Å)))) (À (Ê 3) Å))))
  (ð (ā (Ĝ (À (Wr.cN B.sorted (À (Ê 4) Å)) (À (Wr.dcU C_best_family hr (À (Ê 0) (À (Ê 1) Å))) Å))))))))),Jo h ?_⟩
 rintro ds P ⟨n,k,us,rfl,n1,n8,k2,k3,lu,hu,q⟩
 refine⟨[.im (aR ((n:Nat):Int) us),.im (.int ((k:Int) - 1)),.any,.any,.any],by show [bx (aR _ us),_,_,_,_]=_; rw [cJ]; rfl,?_⟩
 have lr:=wZ n1 n8 us
 obtain⟨g1,g2,g3,g4⟩:=rR n1 n8 k2 k3 hu
 obtain⟨e1,e2,e3,e4,e5,e6⟩:=qg (k:=k) n1 n8 k3 hu
 obtain⟨F,so,ln⟩:=Ak (k:=k) n1 n8 hu
 have nk:n * k<=24:=Nat.mul_le_mul n8 k3
 have ek:(k:Int) - 1+1=(k:Int):=by omega
 refine⟨_,rfl,n,rfl,n1,n8,?_⟩
 refine sO (psN n) iD (fun l=>rwD (l,(((us.filter (lv l)).length:Nat):Int))) .snw rfl (by unfold bK at lr; rw [Á] at lr; omega) (fun l hl A B hA=>aM (B:=B) ⟨((n:Nat):Int),us,l,rfl,iJ n1 n8 hl,lu,zK,rfl,hA⟩) ?_
 have er:ē ((psN n).map fun l=>rwD (l,(((us.filter (lv l)).length:Nat):Int)))=fM (bK n us):=by
  unfold fM bK
  rw [ý]
  rfl
 rw [er]
 have fin:pN (Av 4 none (tFn fTE (aG (Rb fWS (aG (tV 2) (aG (tV 3) (aG (t2 Cr (tV 1) (tK (Â 1))) cu)))) (aG (tV 3) cu)))) (sS (nF (aG (tCl oK (aG (tV 4) cu)) (aG (Gi Jk (aG (tV 0) (aG (tV 1) cu))) cu)))) { nx:=fun _=>P .none,rt:=P } [.im (aR ((n:Nat):Int) us),.im (.int ((k:Int) - 1)),.sn (fM (bK n us)),.sn (iD (endsF n k us)),.any]:=by
  have gs:tZ (endsF n k us).length (wR (bK n us) (endsF n k us) ((k:Int) - 1+1)) (endsF n k us):=by rw [ek,uI]; exact g1
  refine⟨rfl,bK n us,endsF n k us,(k:Int) - 1+1,rfl,by omega,by omega,wR (bK n us) (endsF n k us) ((k:Int) - 1+1),endsF n k us,rfl,by rw [Bh]; omega,by omega,gs,?_⟩
  rw [ek,uI]
  refine⟨mZ n k us,.inl rfl,by omega,fun t ht=>?_,fun A hp hs=>⟨((n:Nat):Int),us,(k:Int) - 1,rfl,by omega,by omega,lu,fun out ho=>⟨zK,?_,?_⟩⟩⟩
  ·have:=g3 t ht
   exact⟨by omega,by omega⟩
  ·rfl
  ·rw [Ù] at ho
   exact q A out ⟨ho,hp,hs⟩
 refine⟨_,rfl,n,k,us,by rw [ek]; rfl,n1,n8,k3,hu,(show (0:Int)<2 by decide),?_⟩
 show if decide ((((jW n k (bK n us)).map Â).length:Nat) % (2:Int)=1)=true then _ else _
 rw [Á]
 by_cases c:(jW n k (bK n us)).length % 2=1
 ·rw [decide_eq_true (by omega)]
  refine aM (B:=True) ⟨zK,?_,.inr ⟨jW n k (bK n us)++[0],?_,?_,fun out hp hs=>?_⟩⟩
  ·rw [Á]
   show _+1<=1000
   omega
  ·rw [Ø]
   rfl
  ·rw [È,Þ]
   omega
  ·have eo:=Rk so (fun x hx=>(F.rg x hx).1) hp hs
   have ee:out=endsF n k us:=by
    unfold endsF
    rw [if_pos c]
    exact eo
   subst ee
   exact fin
 ·rw [decide_eq_false (by omega)]
  have ee:jW n k (bK n us)=endsF n k us:=by
   unfold endsF
   rw [if_neg c]
  refine aN (A:=True) ?_
  rw [ee]
  exact fin
end
def Does (n k:Nat) (us B:List Tie):Prop:=RgT n B/\∀ X,Cut.Prp n X->k<=Cut.dg (B++us) X
theorem bM (a b:List Tie) (X:Int->Bool):Cut.dg (a++b) X=Cut.dg a X+Cut.dg b X:=List.countP_append
theorem Ga {n:Nat}{Gs:List (Int->Bool)} (h:Gs.Pairwise (Cut.Dj n)):∀ {B:List Tie},RgT n B->(Gs.map fun X=>Cut.dg B X).sum<=2 * B.length
 | [],_=>by
  have:∀ m:List (Int->Bool),(m.map fun X=>Cut.dg [] X).sum=0:=fun m=>by
   induction m with
   | nil=>rfl
   | cons Y m ih=>rw [ã,î,ih]; rfl
  rw [this]
  exact Ć _
 | t::B,hB=>by
  have ih:=Ga h (B:=B) fun x hx=>hB x (Ã _ hx)
  obtain⟨ha,hb⟩:=hB t Æ
  have o1:=(Cut.zH h ha).1
  have o2:=(Cut.zH h hb).1
  have le:∀ m:List (Int->Bool),(m.map fun X=>Cut.dg (t::B) X).sum<=(m.map fun X=>Cut.dg B X).sum+((m.map fun X=>(X t.1).toNat).sum+(m.map fun X=>(X t.2).toNat).sum):=fun m=>by
   induction m with
   | nil=>exact Í _
   | cons X m ih =>
    rw [ã,ã,ã,ã,î,î,î,î,Cut.mU]
    have:(X t.1 != X t.2).toNat<=(X t.1).toNat+(X t.2).toNat:=by
     cases X t.1 <;> cases X t.2 <;> decide
    omega
  have:=le Gs
  rw [Ü]
  omega
theorem zG {n k:Nat}{us B:List Tie} (n1:1<=n) (n8:n<=8) (k2:2<=k) (k3:k<=3) (hu:RgT n us) (h:Does n k us B):(mZ n k us).length<=B.length:=by
 obtain⟨g1,g2,g3,g4⟩:=rR n1 n8 k2 k3 hu
 obtain⟨F,so,ln⟩:=Ak (k:=k) n1 n8 hu
 obtain⟨Gs,s1,s2,s3⟩:=Cut.Eu F.rg F.C F.tg
 have t:=Ga s1 h.1
 have le:(Gs.map fun X=>k - Cut.dg us X).sum<=(Gs.map fun X=>Cut.dg B X).sum:=by
  clear t s1 s3
  induction Gs with
  | nil=>exact Í _
  | cons X Gs ih =>
   simp only [ã,î]
   have i:=ih fun Y hY=>s2 Y (Ã _ hY)
   have d:=h.2 X (s2 X Æ)
   rw [bM] at d
   omega
 unfold endsF at g2
 split at g2
 ·rw [Ü] at g2
  omega
 ·omega
theorem gQ {n k:Nat}{us:List Tie} (n1:1<=n) (n8:n<=8) (k2:2<=k) (k3:k<=3) (hu:RgT n us):Does n k us (mZ n k us):=by
 obtain⟨g1,g2,g3,g4⟩:=rR n1 n8 k2 k3 hu
 exact⟨fun t ht=>by have:=g3 t ht; exact⟨⟨by omega,by omega⟩,by omega,by omega⟩,g4⟩
def optN (n k:Nat) (us:List Tie):Nat:=(mZ n k us).length
theorem gP {n k k':Nat}{us vs:List Tie} (n1:1<=n) (n8:n<=8) (k2:2<=k) (k3:k<=3) (k2':2<=k') (k3':k'<=3) (hu:RgT n us) (hv:RgT n vs) (C:List Tie) (hC:RgT n C) (h:∀ B,Does n k us B->Does n k' vs (C++B)):optN n k' vs<=C.length+optN n k us:=by
 have:=zG n1 n8 k2' k3' hv (h _ (gQ n1 n8 k2 k3 hu))
 rw [È] at this
 exact this
theorem xJ {n k:Nat}{us vs:List Tie} (n1:1<=n) (n8:n<=8) (k2:2<=k) (k3:k<=3) (hu:RgT n us) (hp:vs.Perm us):optN n k vs=optN n k us:=by
 have hv:RgT n vs:=fun t ht=>hu t (hp.mem_iff.mp ht)
 have a:=gP n1 n8 k2 k3 k2 k3 hu hv [] (fun t h=>nomatch h) fun B hB=>⟨hB.1,fun X hX=>by rw [ů,gq (hp.append_left B)]; exact hB.2 X hX⟩
 have b:=gP n1 n8 k2 k3 k2 k3 hv hu [] (fun t h=>nomatch h) fun B hB=>⟨hB.1,fun X hX=>by rw [ů,← gq (hp.append_left B)]; exact hB.2 X hX⟩
 simp at a b
 omega
theorem Dy {n:Nat}{us:List Tie} (n1:1<=n) (n8:n<=8) (hu:RgT n us):optN n 2 us<=optN n 3 us:=by
 have:=gP (k:=3) (k':=2) n1 n8 (by decide) (by decide) (by decide) (by decide) hu hu [] (fun t h=>nomatch h) fun B hB=>⟨hB.1,fun X hX=>by have:=hB.2 X hX; rw [ů]; omega⟩
 simpa using this
theorem Hl {n k:Nat}{us C R:List Tie} (n1:1<=n) (n8:n<=8) (k2:2<=k) (k3:k<=3) (hu:RgT n us) (hp:(C++R).Perm (mZ n k us)):optN n k (us++C)=R.length:=by
 obtain⟨d1,d2⟩:=gQ n1 n8 k2 k3 hu
 have rc:RgT n C:=fun t ht=>d1 t (hp.mem_iff.mp (Ā _ ht))
 have rr:RgT n R:=fun t ht=>d1 t (hp.mem_iff.mp (å _ ht))
 have hv:RgT n (us++C):=fun t ht=>(Û.mp ht).elim (hu t) (rc t)
 have le:optN n k (us++C)<=R.length:=zG n1 n8 k2 k3 hv ⟨rr,fun X hX=>by
  have:=d2 X hX
  rw [bM,← gq hp,bM] at this
  rw [bM,bM]
  omega⟩
 have ge:=gP n1 n8 k2 k3 k2 k3 hv hu C rc fun B hB=>⟨fun t ht=>(Û.mp ht).elim (rc t) (hB.1 t),fun X hX=>by
  have:=hB.2 X hX
  rw [bM,bM] at this
  rw [bM,bM]
  omega⟩
 have ln:=hp.length_eq
 rw [È] at ln
 unfold optN at le ge ⊢
 omega
theorem BR {n k:Nat}{us:List Tie}{t:Tie} (n1:1<=n) (n8:n<=8) (k2:2<=k) (k3:k<=3) (hu:RgT n us) (ht:RgT n [t]):optN n k (us++[t])<=optN n k us/\optN n k us<=optN n k (us++[t])+1:=by
 have hv:RgT n (us++[t]):=fun x hx=>(Û.mp hx).elim (hu x) (ht x)
 have a:=gP n1 n8 k2 k3 k2 k3 hu hv [] (fun t h=>nomatch h) fun B hB=>⟨hB.1,fun X hX=>by
  have:=hB.2 X hX
  rw [bM] at this
  rw [ů,bM,bM]
  omega⟩
 have b:=gP n1 n8 k2 k3 k2 k3 hv hu [t] ht fun B hB=>⟨fun x hx=>(Û.mp hx).elim (ht x) (hB.1 x),fun X hX=>by
  have:=hB.2 X hX
  rw [bM,bM] at this
  rw [bM,bM]
  omega⟩
 simp at a b
 omega
theorem qM {n k:Nat}{us:List Tie} (n1:1<=n) (n8:n<=8) (k2:2<=k) (k3:k<=3) (hu:RgT n us) {σ:Int->Int}{vs:List Tie} (hv:RgT n vs) (hs:∀ v,0<=v/\v<(n:Int)->0<=σ v/\σ v<(n:Int)) (on:∀ v,0<=v/\v<(n:Int)->∃ u,(0<=u/\u<(n:Int))/\σ u=v)
  (hd:∀ X:Int->Bool,Cut.dg vs X=Cut.dg us fun v=>X (σ v)):optN n k vs<=optN n k us:=by
 obtain⟨d1,d2⟩:=gQ n1 n8 k2 k3 hu
 have hm:∀ X:Int->Bool,Cut.dg ((mZ n k us).map fun t=>(σ t.1,σ t.2)) X=Cut.dg (mZ n k us) fun v=>X (σ v):=fun X=>by
  unfold Cut.dg
  rw [List.countP_map]
  rfl
 have:=zG (B:=(mZ n k us).map fun t=>(σ t.1,σ t.2)) n1 n8 k2 k3 hv ⟨fun t ht=>by
  obtain⟨x,hx,rfl⟩:=é.mp ht
  obtain⟨a,b⟩:=d1 x hx
  exact⟨hs _ a,hs _ b⟩,fun X hX=>by
  rw [bM,hm,hd,← bM]
  refine d2 _ ⟨?_,?_⟩
  ·obtain⟨v,hr,h⟩:=hX.ins
   obtain⟨u,ur,rfl⟩:=on v hr
   exact⟨u,ur,h⟩
  ·obtain⟨v,hr,h⟩:=hX.out
   obtain⟨u,ur,rfl⟩:=on v hr
   exact⟨u,ur,h⟩⟩
 rw [Á] at this
 exact this
theorem kh {n:Nat}{us:List Tie}{fa:Int} (n1:1<=n) (n8:n<=8) (hu:RgT n us):ni ((n:Nat):Int) us fa↔∀ X,Cut.Prp n X->fa<((Cut.dg us X:Nat):Int):=by
 obtain⟨m,rfl⟩:∃ m,n=m+1:=⟨n - 1,by omega⟩
 rw [uH (fun t ht=>hu t ht)]
 constructor
 ·intro h X hX
  obtain⟨q,q0,q1,e,_⟩:=CK n8 hX
  have:=h q q0 q1
  rw [Ca,e,Ju,Jv hu fun v hv=>oF hv] at this
  exact this
 ·intro h q q0 q1
  rw [Ca,Ju]
  exact h _ (nR n1 n8 (wK (W:=fun _=>0) q0 q1).2)
structure FamL (n:Int) (L:List (List Int)):Prop where
 each:∀ l∈L,Proper n l
 nd:L.flatten.Nodup
 few:L.length<=8
def rI (S:List (List Int)):List (List D):=S.map fun l=>l.map Â
theorem Oa (S:List (List Int)) (k:Nat) (l:List Int) (u:Int):(rI S).set k (l.map Â++[Â u])=rI (S.set k (l++[u])):=by
 unfold rI
 rw [List.map_set,Ø]
 rfl
theorem yx:∀ (S:List (List Int)) (k:Nat) (l:List Int) (u:Int),S[k]?=some l->(S.set k (l++[u])).flatten.Perm (u::S.flatten)
 | [],k,l,u,h=>by simp at h
 | x::S,0,l,u,h=>by
  have e:x=l:=by simpa using h
  subst e
  simp only [List.set_cons_zero,Ĭ,Ŏ]
  exact (List.perm_middle (a:=u) (l₁:=x) (l₂:=S.flatten))
 | x::S,k+1,l,u,h=>by
  have ih:=yx S k l u (by simpa using h)
  simp only [List.set_cons_succ,Ĭ]
  exact (ih.append_left x).trans List.perm_middle
theorem qT {l:List Int} (nd:l.Nodup) (h:∀ x∈l,0<=x/\x<16):l.length<=16:=by
 have:=List.Nodup.length_le_of_subset nd (l₂:=(ä 16).map fun i=>((i:Nat):Int)) fun x hx=>by
  have:=h x hx
  exact é.mpr ⟨x.toNat,č.mpr (by omega),by omega⟩
 simpa using this
def CJ (ds:List D) (P:D->Prop):Prop:=∃ n:Int,ds=[.int n]/\1<=n/\n<=8/\∀ L,FamL n L->P (.list (L.map iD))
section
variable {P:Program}{w:World}{K:Ú}{mg:Str->Option Value}{base:Heap}{f:Addr}{fd:FuncData}
theorem jZ:FnScope ["_law_pen_here","_law_n","_law_rows","_law_place","_law_at"] ["_law_pen_here","_law_n"] (ao (top 49)):=zC
theorem pK:(["_law_k","_law_pen_here","_law_n","_law_rows","_law_place","_law_at"]:List Str).Nodup:=by decide +kernel
theorem pJ:(["_law_row","_law_pen_here","_law_n","_law_rows","_law_place","_law_at"]:List Str).Nodup:=by decide +kernel
theorem sH (F:Fun K "_law_family" "_law_family" (top 49) f fd) (B:ļ mg) (C__law_draw:ø P w K mg base 1 "_law_draw" ["_law_pen_here","_law_many_here"] (spP CP rE)) (C__law_order:ø P w K mg base 2 "_law_order" ["_law_pen_here","_law_n"] (spP CP oM)):FnOk P w K mg base CX0 3 f fd ["_law_pen_here","_law_n"] (spP CP CJ):=by
 refine F.ok jZ eV (fun cdv A outer s H vs Q E hr h=>?_)
 have nd:=jZ.nd
 refine⟨_,ĝ (Ó (Wr.rH 0 ["_law_k"] (i:=2) rfl nd rfl zQ (Wr.bC B.range (À (Ę Õ (Wr.dcP C__law_draw hr (Ř 0) (À (Ê 1) Å))) Å)) (fun c=>(ñ (i:=0) pK rfl zQ)))
  (Ó (Wr.cV Ą rfl (ĵ (Wr.dcP C__law_order hr (Ř 0) (À (Ê 1) Å))) (ñ (i:=3) nd rfl zQ) (Ó (ö none (i:=4) nd rfl zQ (Wr.dcP C__law_draw hr (Ř 0) (À (Ę (Ň B.len (À (Ê 2) Å)) Õ) Å)))
  (Ó (ŋ (Wr.qI (Ê 4) (Ň B.len (À (Ê 2) Å))) (ð (Wr.oN (Ř 2) (Ê 4) (À (Ê 3) Å))) Č) (ĕ [3,4] Č))))
  (ĕ [3,4] (ð (ā (ţ ["_law_row"] rfl (ĵ (Ê 2)) (fun c=>(ñ (i:=0) pJ rfl zQ)) (fun c=>(Wr.dZ (Wr.nW xK xK Õ (Ň B.len (À (Ê 0) Å)) (Ê 2)))) (fun c=>(Wr.lY B.sorted (À (Ê 0) Å))))))))),enterQ h ?_⟩
 rintro ds P ⟨n,rfl,n1,n8,q⟩
 refine⟨[.im (.int n),.any,.any,.any],rfl,?_⟩
 refine⟨rfl,n,rfl,by omega,by omega,fun m m0 m1=>⟨⟨by omega,by omega⟩,by rw [ř]; omega,rfl,?_⟩⟩
 rw [ř]
 refine⟨rfl,n,rfl,by omega,by omega,fun l hl=>⟨rfl,fun (i:Nat) ρ=>∃ S,ρ=[.pen CP,.im (.int n),.rw 0 (rI S),.any,.any]/\S.length=(1+m).toNat/\S.flatten.Nodup/\(∀ x∈S.flatten,x∈l.take i),?_,?_,?_⟩⟩
 ·refine⟨É (1+m).toNat [],?_,Ď ..,?_,?_⟩
  ·unfold rI
   rw [List.map_replicate]
   rfl
  ·rw [List.flatten_replicate_nil]; exact .nil
  ·rw [List.flatten_replicate_nil]; exact fun x h=>nomatch h
 ·rintro i d ρ hd ⟨S,rfl,hS,nd',sb⟩
  obtain⟨x,hx,rfl⟩:=dI hd
  have tk:l.take (i+1)=l.take i++[x]:=by rw [ğ,hx]; rfl
  have ll:=hl.len
  have ls:((rI S).map ē).length=S.length:=by unfold rI; rw [Á,Á]
  refine⟨rfl,_,rfl,by rw [ls]; omega,by rw [ls]; omega,fun r r0 r1=>?_⟩
  rw [ls] at r1
  show if decide (r<(((rI S).map ē).length:Nat))=true then _ else _
  rw [ls]
  refine fQ (fun c=>?_) (fun c=>?_)
  ·have c:=of_decide_eq_true c
   have hlt:r.toNat<S.length:=by omega
   have hg:=Ç hlt
   generalize S[r.toNat]=l0 at hg
   have fl:=yx S r.toNat l0 x hg
   have xn:x∉S.flatten:=fun z=>by
    have z2:=sb x z
    obtain⟨j,hj⟩:=ŀ z2
    have hj1:=(Î.mp hj).1
    rw [Ċ] at hj1
    rw [List.getElem?_take_of_lt (by omega)] at hj
    have:=(List.getElem?_inj (by have:=(Î.mp hj).1; omega) hl.nd).mp (hj.trans hx.symm)
    omega
   have nd2:(S.set r.toNat (l0++[x])).flatten.Nodup:=fl.nodup_iff.mpr (ę.mpr ⟨xn,nd'⟩)
   have l0s:l0.length<=16:=by
    have h1:l0.Nodup:=by
     exact (List.sublist_flatten_of_mem (Ì hg)).nodup nd'
    refine qT h1 fun y hy=>?_
    have:=hl.rng y (Ţ (sb y (List.mem_flatten.mpr ⟨l0,Ì hg,hy⟩)))
    omega
   refine⟨r.toNat,l0.map Â,?_,by unfold rI; rw [á,hg]; rfl,rfl,by rw [Á]; omega,S.set r.toNat (l0++[x]),?_,by rw [List.length_set]; exact hS,nd2,fun y hy=>?_⟩
   ·unfold ixN rI
    rw [if_pos r0,if_pos (by rw [Á]; omega)]
   ·rw [← Oa]
    rfl
   ·rw [tk]
    rcases Ô.mp (fl.mem_iff.mp hy) with z | z
    ·rw [z]; exact å _ (ç.mpr rfl)
    ·exact Ā _ (sb y z)
  ·refine⟨S,rfl,hS,nd',fun y hy=>?_⟩
   rw [tk]
   exact Ā _ (sb y hy)
 ·rintro ρ ⟨S,rfl,hS,nd',sb⟩
  have sr:∀ x∈S.flatten,0<=x/\x<n:=fun x hx=>hl.rng x (Ţ (sb x hx))
  have ls:((rI S).map ē).length=S.length:=by unfold rI; rw [Á,Á]
  refine⟨by rw [ls]; omega,.new,fun i ys=>∃ L:List (List Int),ys=L.map iD/\(∀ l∈L,Proper n l)/\L.flatten.Nodup/\(∀ x∈L.flatten,x∈(S.take i).flatten)/\L.length<=i,⟨[],rfl,fun _ h=>(nomatch h),.nil,fun _ h=>(nomatch h),Í _⟩,?_,?_⟩
  ·rintro i d ys hd ⟨L,rfl,e1,e2,e3,e4⟩
   obtain⟨r,hr,rfl⟩:∃ r,S[i]?=some r/\iD r=d:=by
    unfold rI at hd
    rw [á,á] at hd
    cases e:S[i]? with
    | none=>rw [e] at hd; cases hd
    | some r=>rw [e] at hd; exact⟨r,rfl,æ hd⟩
   have tk:S.take (i+1)=S.take i++[r]:=by rw [ğ,hr]; rfl
   have rn:r.Nodup:=(List.sublist_flatten_of_mem (Ì hr)).nodup nd'
   have rr:∀ x∈r,0<=x/\x<n:=fun x hx=>sr x (List.mem_flatten.mpr ⟨r,Ì hr,hx⟩)
   have r16:=qT rn fun y hy=>by have:=rr y hy; omega
   have skip:∃ L':List (List Int),L.map iD=L'.map iD/\(∀ l∈L',Proper n l)/\L'.flatten.Nodup/\(∀ x∈L'.flatten,x∈(S.take (i+1)).flatten)/\L'.length<=i+1:=⟨L,rfl,e1,e2,fun x hx=>by
    rw [tk,Ū]
    exact Ā _ (e3 x hx),by omega⟩
   have dj:∀ x∈r,x∉(S.take i).flatten:=fun x hx hz=>by
    have ef:S.flatten=(S.take i).flatten++(S.drop i).flatten:=by rw [← Ū,Ŋ]
    rw [ef] at nd'
    have hi:=(Î.mp hr).1
    have dr:S.drop i=r::S.drop (i+1):=by rw [Ĺ hi,(Î.mp hr).2]
    rw [dr,Ĭ] at nd'
    exact (List.nodup_append.mp nd').2.2 x hz x (Ā _ hx) rfl
   show if decide ((0:Int)<(((r.map Â).length:Nat):Int))=true then _ else _
   rw [Á]
   refine fQ (fun c1=>?_) (fun c1=>aN (A:=True) skip)
   have c1:=of_decide_eq_true c1
   show if decide (((r.length:Nat):Int)<n)=true then _ else _
   refine fQ (fun c2=>?_) (fun c2=>skip)
   have c2:=of_decide_eq_true c2
   refine⟨r,rfl,by omega,fun out hp hs=>⟨rfl,L++[out],?_,fun l' hl'=>?_,?_,fun x hx=>?_,by rw [È,Þ]; omega⟩⟩
   ·rw [Ø]
    rfl
   ·rcases Û.mp hl' with z | z
    ·exact e1 l' z
    ·rw [ç.mp z]
     refine⟨by rw [hp.length_eq]; omega,by rw [hp.length_eq]; omega,fun x hx=>rr x (hp.mem_iff.mp hx),?_,by omega⟩
     have on:out.Nodup:=hp.nodup_iff.mpr rn
     exact (hs.and on).imp fun ⟨a,b⟩=>by omega
   ·rw [Ū,List.flatten_singleton]
    refine List.nodup_append.mpr ⟨e2,hp.nodup_iff.mpr rn,fun x hx y hy z=>?_⟩
    rw [z] at hx
    exact dj y (hp.mem_iff.mp hy) (e3 y hx)
   ·rw [Ū,List.flatten_singleton] at hx
    rw [tk,Ū,List.flatten_singleton]
    rcases Û.mp hx with z | z
    ·exact Ā _ (e3 x z)
    ·exact å _ (hp.mem_iff.mp z)
  ·rintro ys ⟨L,rfl,e1,e2,e3,e4⟩
   rw [ls] at e4
   exact⟨rfl,q L ⟨e1,e2,by omega⟩⟩
end
def GdT (n:Nat) (A:List Tie):Prop:=∀ t∈A,0<=t.1/\t.1<t.2/\t.2<(n:Int)
def Tp (ds:List D) (P:D->Prop):Prop:=∃ (n:Nat) (t:Tie),ds=[.int ((n:Nat):Int),pD t]/\(0<=t.1/\t.1<t.2/\t.2<(n:Int))/\P (.bool true)
def LQ (ds:List D) (P:D->Prop):Prop:=∃ (n:Nat) (us A:List Tie),ds=[aR ((n:Nat):Int) us,.list (A.map pD)]/\n<=8/\A.length<60/\GdT n A/\A.Pairwise (fun a b=>aJ a<=aJ b)/\P (.bool true)
def Ti (ds:List D) (P:D->Prop):Prop:=∃ (n:Nat) (us vs:List Tie),ds=[aR ((n:Nat):Int) us,.list (vs.map pD)]/\us.length+vs.length<64/\n<=16/\RgT n us/\RgT n vs/\∀ ws:List Tie,ws.Perm (us++vs)->P (aR ((n:Nat):Int) ws)
def Qt (ds:List D) (P:D->Prop):Prop:=∃ (n k:Nat) (us A:List Tie) (F:List (List Int)),ds=[aR ((n:Nat):Int) us,.int ((k:Int) - 1),.list (A.map pD),.list (F.map iD)]/\1<=n/\n<=8/\2<=k/\k<=3/\us.length+A.length<64/\A.length<60/\RgT n us/\GdT n A/\A.Pairwise (fun a b=>aJ a<=aJ b)/\F.length<=60/\(∀ l∈F,Proper ((n:Nat):Int) l)/\F.flatten.Nodup/\∀ b:Bool,(b=true->((A.length:Nat):Int)<=((F.map (dG us ((k:Int) - 1))).sum+1) / 2/\∀ X,Cut.Prp n X->(k:Int) - 1<((Cut.dg (us++A) X:Nat):Int))->P (.bool b)
def CG (ds:List D) (P:D->Prop):Prop:=∃ (n k:Nat) (us:List Tie) (d:D),ds=[.int ((n:Nat):Int),d,.int ((k:Int) - 1)]/\(d=.list (us.map pD)\/d=.tuple (us.map pD))/\1<=n/\n<=8/\2<=k/\k<=3/\us.length<64/\RgT n us/\P (.int ((optN n k us:Nat):Int))
theorem GdT.rg {n:Nat}{A:List Tie} (h:GdT n A):RgT n A:=fun t ht=>by have:=h t ht; exact⟨⟨by omega,by omega⟩,by omega,by omega⟩
section
variable {P:Program}{w:World}{K:Ú}{mg:Str->Option Value}{base:Heap}{f:Addr}{fd:FuncData}{CN PT:Addr}
theorem tD:FnScope ["n","thing"] ["n","thing"] (ao (top 6)):=zC
theorem DW (F:Fun K "is_tie" "is_tie" (top 6) f fd) (B:ļ mg) (C_is_below:ø P w K mg base 2 "is_below" ["limit","thing"] (spD Al)):FnOk P w K mg base CX0 3 f fd ["n","thing"] (spD Tp):=by
 refine F.ok tD Ĵ (fun cdv A outer s H vs Q E hr h=>?_)
 have nd:=tD.nd
 refine⟨_,ĝ (Ó (ŋ (Wr.wpt (Wr.iC (ŵ (Ś (Wr.cZ kit_tuple B.isinstance (Ê 1) (Wr.wty rfl B.tuple boot_tuple)))) (Wr.eN (Wr.jN hr.units (Ň B.len (À (Ê 1) Å)) Õ)))) (ð (ā Ş)) Č)
  (ð (ā (Wr.gF (Ť C_is_below hr (À (Ê 0) (À (ò (Ê 1) Õ) Å))) (Wr.gF (Ť C_is_below hr (À (Ê 0) (À (ò (Ê 1) Õ) Å))) (Wr.gC (Wr.u5 hr.units (ò (Ê 1) Õ) (ò (Ê 1) Õ)))))))),aX h ?_⟩
 rintro ds P ⟨n,t,rfl,ht,q⟩
 refine⟨[.im (.int ((n:Nat):Int)),.im (pD t)],rfl,?_⟩
 refine aN (A:=True) (aN (A:=True) ⟨.int t.1,rfl,_,_,rfl,?_⟩)
 have bl:∀ x:Int,0<=x->x<(n:Int)->cW ((n:Nat):Int) (.int x)=true:=fun x h0 h1=>by
  show (decide _)=true
  exact decide_eq_true ⟨h0,h1⟩
 show if cW ((n:Nat):Int) (.int t.1)=true then _ else _
 rw [bl _ (by omega) (by omega)]
 refine aM (B:=True) ⟨.int t.2,rfl,_,_,rfl,?_⟩
 show if cW ((n:Nat):Int) (.int t.2)=true then _ else _
 rw [bl _ (by omega) (by omega)]
 refine aM (B:=True) ⟨.int t.1,rfl,.int t.2,rfl,rfl,?_⟩
 show P (.bool (!decide (t.1=t.2)))
 rw [decide_eq_false (by omega)]
 exact q
theorem lN:FnScope ["web","added"] ["web","added"] (ao (top 7)):=zC
theorem vh (F:Fun K "with_ties" "with_ties" (top 7) f fd) (B:ļ mg):FnOk P w K mg base CX0 1 f fd ["web","added"] (spD Ti):=by
 refine F.ok lN Ĵ (fun cdv A outer s H vs Q E hr h=>?_)
 have nd:=lN.nd
 refine⟨_,ĝ (ð (ā (Ĝ (À (ò (Ê 0) Õ) (À (Wr.gk B.tuple (À (Wr.cN B.sorted (À (Ę (ò (Ê 0) Õ) (Wr.gk B.tuple (À (Ê 1) Å))) Å)) Å)) Å))))),aX h ?_⟩
 rintro ds P ⟨n,us,vs,rfl,lu,n16,oku,okv,q⟩
 refine⟨[.im (aR ((n:Nat):Int) us),.sh (.list (vs.map pD))],?_,?_⟩
 ·show [bx (aR _ us),bx (.list (vs.map pD))]=_
  rw [cJ]
  rfl
 have lm:∀ xs:List Tie,(xs.map pD).length=xs.length:=fun xs=>Á ..
 have ok:RgT n (us++vs):=fun t ht=>(Û.mp ht).elim (oku t) (okv t)
 refine⟨.int ((n:Nat):Int),rfl,.tuple (us.map pD),rfl,by rw [lm,lm]; omega,us++vs,.inr ?_,by rw [È]; omega,fun t ht=>?_,fun ws hp hs=>⟨zK,?_,q ws hp⟩⟩
 ·rw [Ø]
 ·have:=ok t ht
  exact⟨by omega,by omega⟩
 ·have e:=mH ((n:Nat):Int) ws
  show (norm _ (aR ((n:Nat):Int) ws)).le .n0=true
  rw [dF e]
  rfl
theorem lQ:FnScope ["web","thing"] ["web","thing"] (ao (top 40)):=zC
theorem qU:(["tie","web","thing"]:List Str).Nodup:=by decide +kernel
theorem vo (F:Fun K "are_leads" "are_leads" (top 40) f fd) (B:ļ mg) (C_is_tie:ø P w K mg base 3 "is_tie" ["n","thing"] (spD Tp)):FnOk P w K mg base CX0 4 f fd ["web","thing"] (spD LQ):=by
 refine F.ok lQ Ĵ (fun cdv A outer s H vs Q E hr h=>?_)
 have nd:=lQ.nd
 refine⟨_,ĝ (Ó (ŋ (Wr.wpt (Wr.iC (ŵ (Ś (Wr.cZ q9 B.isinstance (Ê 1) (Wr.wty rfl B.list boot_list)))) (Wr.eN (ŵ (Ś (Wr.jm rfl B.all Dl.boot_all (À (ţ ["tie"] rfl (ĵ (Ê 1)) (fun c=>(ñ (i:=0) qU rfl zQ)) (fun c=>ś) (fun c=>(Ť C_is_tie hr (À (ò (Ê 1) Õ) (À (Ê 0) Å))))) Å))))))) (ð (ā Ş)) Č)
  (ð (ā (Wr.qK hr.units (Wr.cN B.sorted (À (Ê 1) Å)) (Ê 1))))),aX h ?_⟩
 rintro ds P ⟨n,us,A,rfl,n8,lA,gA,so,q⟩
 refine⟨[.im (aR ((n:Nat):Int) us),.sh (.list (A.map pD))],by show [bx (aR _ us),_]=_; rw [cJ]; rfl,?_⟩
 refine aN (A:=True) ?_
 refine sO A pD (fun _=>.bool true) .imm rfl (by omega) (fun t ht A' B hA=>aM (B:=B) ⟨_,rfl,n,t,rfl,gA t ht,rfl,hA⟩) ?_
 refine⟨A.map fun _=>true,by rw [ý]; rfl,?_⟩
 have al:(A.map fun _=>true).all id=true:=ċ.mpr fun x hx=>by
  obtain⟨_,_,rfl⟩:=é.mp hx
  rfl
 show if (!(A.map fun _=>true).all id)=true then _ else _
 rw [al]
 refine aN (A:=True) ⟨A,.inl rfl,by omega,fun t ht=>?_,fun ws hp hs=>?_⟩
 ·have:=gA t ht
  exact⟨by omega,by omega⟩
 ·have e:A=ws:=tu (fun t ht=>by have:=gA t ht; exact⟨by omega,by omega⟩) hp.symm so hs
  subst e
  refine⟨nZ A,nZ A,rfl,?_⟩
  show P (.bool (ü (.list (A.map pD)) (.list (A.map pD))))
  rw [LR,decide_eq_true rfl]
  exact q
theorem lR:FnScope ["web","thing"] ["web","thing"] (ao (top 41)):=zC
theorem qW:(["tie","web","thing"]:List Str).Nodup:=by decide +kernel
theorem vp (F:Fun K "are_added" "are_added" (top 41) f fd) (B:ļ mg) (C_are_leads:ø P w K mg base 4 "are_leads" ["web","thing"] (spD LQ)):FnOk P w K mg base CX0 5 f fd ["web","thing"] (spD LQ):=by
 refine F.ok lR Ĵ (fun cdv A outer s H vs Q E hr h=>?_)
 have nd:=lR.nd
 refine⟨_,ĝ (ð (ā (Wr.gF (Ť C_are_leads hr (À (Ê 0) (À (Ê 1) Å))) (Wr.gC (Wr.jm rfl B.all Dl.boot_all (À (ţ ["tie"] rfl (ĵ (Ê 1)) (fun c=>(ñ (i:=0) qW rfl zQ)) (fun c=>ś) (fun c=>(Wr.tG (ò (Ê 0) Õ) (ò (Ê 0) Õ)))) Å)))))),aX h ?_⟩
 rintro ds P ⟨n,us,A,rfl,n8,lA,gA,so,q⟩
 refine⟨[.im (aR ((n:Nat):Int) us),.sh (.list (A.map pD))],by show [bx (aR _ us),_]=_; rw [cJ]; rfl,?_⟩
 refine⟨n,us,A,rfl,n8,lA,gA,so,aM (B:=True) ?_⟩
 refine sO A pD (fun _=>.bool true) .imm rfl (by omega) (fun t ht A' B hA=>aM (B:=B) ⟨.int t.1,rfl,.int t.2,rfl,rfl,?_⟩) ?_
 ·show A' (.bool (decide (t.1<t.2)))
  rw [decide_eq_true (gA t ht).2.1]
  exact hA
 refine⟨A.map fun _=>true,by rw [ý]; rfl,rfl,?_⟩
 have al:(A.map fun _=>true).all id=true:=ċ.mpr fun x hx=>by
  obtain⟨_,_,rfl⟩:=é.mp hx
  rfl
 show P (.bool ((A.map fun _=>true).all id))
 rw [al]
 exact q
theorem qx:FnScope ["web","falls","added","family"] ["web","falls","added","family"] (ao (top 42)):=zC
theorem zM (F:Fun K "lets_by" "lets_by" (top 42) f fd) (B:ļ mg) (C_is_family:ø P w K mg base 5 "is_family" ["n","thing"] (spD Qu)) (C_are_added:ø P w K mg base 5 "are_added" ["web","thing"] (spD LQ)) (C_stands:ø P w K mg base 10 "stands" ["web","falls"] (spD mO)) (C_with_ties:ø P w K mg base 1 "with_ties" ["web","added"] (spD Ti)) (C_bound:ø P w K mg base 9 "bound" ["web","falls","family"] (spD fBo)):FnOk P w K mg base CX0 11 f fd ["web","falls","added","family"] (spD Qt):=by
 refine F.ok qx Ĵ (fun cdv A outer s H vs Q E hr h=>?_)
 have nd:=qx.nd
 refine⟨_,ĝ (Ó (ŋ (Wr.wpt (Wr.iC (ŵ (Ś (Ť C_are_added hr (À (Ê 0) (À (Ê 2) Å))))) (Wr.eN (ŵ (Ś (Ť C_is_family hr (À (ò (Ê 0) Õ) (À (Ê 3) Å)))))))) (ð (ā Ş)) Č)
  (ð (ā (Wr.gF (Wr.BL (Ň B.len (À (Ê 2) Å)) (Ť C_bound hr (À (Ê 0) (À (Ê 1) (À (Ê 3) Å))))) (Wr.gC (Ť C_stands hr (À (Ť C_with_ties hr (À (Ê 0) (À (Ê 2) Å))) (À (Ê 1) Å)))))))),aX h ?_⟩
 rintro ds P ⟨n,k,us,A,F,rfl,n1,n8,k2,k3,l1,l2,hu,gA,so,lF,pr,nd,q⟩
 refine⟨[.im (aR ((n:Nat):Int) us),.im (.int ((k:Int) - 1)),.sh (.list (A.map pD)),.sh (.list (F.map iD))],by show [bx (aR _ us),_,_,_]=_; rw [cJ]; rfl,?_⟩
 refine⟨n,us,A,rfl,n8,l2,gA,so,aN (A:=True) ?_⟩
 refine⟨.int ((n:Nat):Int),rfl,((n:Nat):Int),.list (F.map iD),rfl,fun es e=>?_,by omega,?_⟩
 ·cases e
  refine⟨by rw [Á]; exact lF,fun e he=>?_⟩
  obtain⟨l,hl,rfl⟩:=é.mp he
  intro es e2
  cases e2
  rw [Á]
  have:=(pr l hl).few
  omega
 rw [Cv pr nd]
 refine aN (A:=True) ⟨((n:Nat):Int),us,(k:Int) - 1,F,rfl,by omega,by omega,by omega,by omega,lF,pr,nd,?_⟩
 show if decide ((((A.map pD).length:Nat):Int)<=((F.map (dG us ((k:Int) - 1))).sum+1) / 2)=true then _ else _
 rw [Á]
 by_cases c:((A.length:Nat):Int)<=((F.map (dG us ((k:Int) - 1))).sum+1) / 2
 ·rw [decide_eq_true c]
  refine aM (B:=True) ⟨n,us,A,rfl,l1,by omega,hu,gA.rg,fun ws hp=>⟨((n:Nat):Int),ws,(k:Int) - 1,rfl,by omega,by omega,by rw [hp.length_eq,È]; omega,fun b hb=>⟨rfl,q b fun hbt=>⟨c,fun X hX=>?_⟩⟩⟩⟩
  have hw:RgT n ws:=fun t ht=>(Û.mp (hp.mem_iff.mp ht)).elim (hu t) (gA.rg t)
  have:=(kh n1 n8 hw).mp (hb.mp hbt) X hX
  rw [gq hp] at this
  exact this
 ·rw [decide_eq_false c]
  exact aN (A:=True) ⟨rfl,q false fun z=>nomatch z⟩
theorem o7:FnScope ["_law_n","_law_ties_here","_law_falls"] ["_law_n","_law_ties_here","_law_falls"] (ao (top 51)):=zC
theorem xR (F:Fun K "_law_many" "_law_many" (top 51) f fd) (B:ļ mg) (C_puts:ø P w K mg base 12 "puts" ["web","falls"] (spT (aL PT) Cy)):FnOk P w K mg base CX0 13 f fd ["_law_n","_law_ties_here","_law_falls"] (spT (aL PT) CG):=by
 refine F.ok o7 vJ (fun cdv A outer s H vs Q E hr h=>?_)
 have nd:=o7.nd
 letI:=grU (aL PT)
 refine⟨_,ĝ (ð (ā (Ň B.len (À (ò (Wr.dcU C_puts hr (À (Ĝ (À (Ê 0) (À (Wr.gk B.tuple (À (Wr.cN B.sorted (À (Ê 1) Å)) Å)) Å))) (À (Ê 2) Å))) Õ) Å)))),Jo h ?_⟩
 rintro ds P ⟨n,k,us,d,rfl,hd,n1,n8,k2,k3,lu,hu,q⟩
 have nic:∀ t∈us,nq t:=fun t ht=>by have:=hu t ht; exact⟨by omega,by omega⟩
 have fin:∀ (s1:Sl) (d:D),(d=.list (us.map pD)\/d=.tuple (us.map pD))->(s1=.sh d\/s1=.im d)->sS (tCl Ai (aG (t2 gIx (Gi Cy (aG (nF (aG (tV 0) (aG (tCl yr (aG (tCl oK (aG (tV 1) cu)) cu)) cu))) (aG (tV 2) cu))) (tK (Â 0))) cu)) { nx:=fun _=>P .none,rt:=P } [.im (.int ((n:Nat):Int)),s1,.im (.int ((k:Int) - 1))]:=fun s1 d hd hs=>by
  have go:∀ ws:List Tie,ws.Perm us->∀ A F,PutsOk n k ws A F->P (.int (((A.map pD).length:Nat):Int)):=fun ws hp A F pk=>by
   have:=xJ (k:=k) n1 n8 k2 k3 hu hp
   unfold optN at this q
   rw [Á,pk.perm.length_eq,this]
   exact q
  rcases hs with rfl | rfl
  all_goals
   refine⟨us,hd,lu,nic,fun ws hp hs=>⟨zK,n,k,ws,rfl,n1,n8,k2,k3,by rw [hp.length_eq]; omega,fun t ht=>hu t (hp.mem_iff.mp ht),fun A F pk=>⟨.list (A.map pD),rfl,rfl,go ws hp A F pk⟩⟩⟩
 rcases hd with rfl | rfl
 ·exact⟨[.im (.int ((n:Nat):Int)),.sh (.list (us.map pD)),.im (.int ((k:Int) - 1))],rfl,fin _ _ (.inl rfl) (.inl rfl)⟩
 ·exact⟨[.im (.int ((n:Nat):Int)),.im (.tuple (us.map pD)),.im (.int ((k:Int) - 1))],by show [_,bx (.tuple (us.map pD)),_]=_; rw [show bx (.tuple (us.map pD))=.im (.tuple (us.map pD)) from if_pos (bL us)]; rfl,fin _ _ (.inr rfl) (.inr rfl)⟩
end
def Je (ds:List D) (P:D->Prop):Prop:=∃ n:Int,ds=[.int n]/\2<=n/\n<=8/\∀ t:Tie,0<=t.1->t.1<t.2->t.2<n->P (pD t)
def Tn (ds:List D) (P:D->Prop):Prop:=∃ (n k:Nat) (us A:List Tie),ds=[.int ((n:Nat):Int),.tuple (us.map pD),.int ((k:Int) - 1),.list (A.map pD)]/\1<=n/\n<=8/\2<=k/\k<=3/\us.length<=45/\A.length<=13/\RgT n us/\A.Perm (mZ n k us)/\P (.bool true)
def Jg (ds:List D) (P:D->Prop):Prop:=∃ (n k:Nat) (us:List Tie),ds=[.int ((n:Nat):Int),.tuple (us.map pD),.int ((k:Int) - 1),.int ((optN n k us:Nat):Int)]/\2<=n/\n<=8/\2<=k/\k<=3/\us.length<=45/\RgT n us/\P (.bool true)
def Ji (ds:List D) (P:D->Prop):Prop:=∃ (n k:Nat) (us A:List Tie) (F:List (List Int)),ds=[.int ((n:Nat):Int),.tuple (us.map pD),.int ((k:Int) - 1),.tuple [.list (A.map pD),.list (F.map iD)]]/\2<=n/\n<=8/\2<=k/\k<=3/\us.length<=45/\RgT n us/\PutsOk n k us A F/\P (.bool true)
theorem Fd (ds:List D) {k:Nat} (h:k<ds.length):dW ds none (some ((k:Nat):Int))=ds.take k/\dW ds (some (((k:Nat):Int)+1)) none=ds.drop (k+1):=by
 unfold dW
 have e1:HT.sIx ds.length 0 none=0:=rfl
 have e2:HT.sIx ds.length ds.length (some ((k:Nat):Int))=min k ds.length:=HT.iz _ _ _
 have e3:HT.sIx ds.length ds.length none=ds.length:=rfl
 have e4:HT.sIx ds.length 0 (some ((k+1:Nat):Int))=min (k+1) ds.length:=HT.iz _ _ _
 rw [e1,e2,e3,show ((k:Nat):Int)+1=((k+1:Nat):Int) by omega,e4,ż,Nat.sub_zero,Nat.min_eq_left (by omega),Nat.min_eq_left (by omega)]
 refine⟨rfl,?_⟩
 rw [Ŗ]
 rw [õ]
 exact Í _
theorem HD (us:List Tie):okD (.tuple (us.map pD))=true:=by
 have h1:=Ab us
 have h2:ķ (us.map pD)+1<=60:=by have:=rK us; omega
 show (Ĩ (us.map pD)&&decide (ķ (us.map pD)+1<=60))=true
 rw [h1,decide_eq_true h2]
 rfl
theorem yR {k:Kd}{Q:List Sl->Prop}{ρ:List Sl}{n:Int}{us:List Tie} (h:Q ((ρ.set 2 (.im (.int n))).set 3 (.im (.tuple (us.map pD))))):vP (gNm 2) (vP (gNm 3) Iz) k [.int n,.tuple (us.map pD)] ρ Q:=by
 have en:∀ k,norm k (.tuple (us.map pD))=.imm:=fun k=>dF (bL us)
 show Q ((ρ.set 2 (Bk (norm _ (.int n)) (.int n))).set 3 (Bk (norm _ (.tuple (us.map pD))) (.tuple (us.map pD))))
 rw [en,show norm (norm k (.int n)) (.int n)=.imm from dF rfl]
 exact h
def sgF (l:List Int) (v:Int):Int:=l.getD v.toNat 0
def qZ (l:List Int) (us:List Tie):List Tie:=us.map fun t=>((if sgF l t.2<sgF l t.1 then sgF l t.2 else sgF l t.1),(if sgF l t.2 > sgF l t.1 then sgF l t.2 else sgF l t.1))
theorem fV {n:Nat}{l:List Int} (h:IsOrd ((n:Nat):Int) l) {v:Int} (hv:0<=v/\v<(n:Int)):atI (l.map Â) v=some (.int (sgF l v))/\0<=sgF l v/\sgF l v<(n:Int)/\l[v.toNat]?=some (sgF l v):=by
 have ln:=h.len
 have h2:v.toNat<l.length:=by omega
 have e:l[v.toNat]?=some (sgF l v):=by
  unfold sgF
  rw [Ë,Ç h2]
  rfl
 have ev:v=((v.toNat:Nat):Int):=by omega
 have a:=d7 (xs:=l.map Â) (j:=v.toNat) (v:=.int (sgF l v)) (by rw [á,e]; rfl)
 rw [← ev] at a
 exact⟨a,(h.rng _ (Ì e)).1,(h.rng _ (Ì e)).2,e⟩
theorem Io (l:List Int) (us:List Tie) (X:Int->Bool):Cut.dg (qZ l us) X=Cut.dg us fun v=>X (sgF l v):=by
 unfold qZ Cut.dg
 rw [List.countP_map]
 refine List.countP_congr fun t _=>?_
 show (X (if sgF l t.2<sgF l t.1 then sgF l t.2 else sgF l t.1) != X (if sgF l t.2 > sgF l t.1 then sgF l t.2 else sgF l t.1))=true↔(X (sgF l t.1) != X (sgF l t.2))=true
 rcases Int.lt_trichotomy (sgF l t.2) (sgF l t.1) with h | h | h
 ·rw [if_pos h,if_neg (by omega)]
  cases X (sgF l t.1) <;> cases X (sgF l t.2) <;> simp
 ·rw [h]; simp
 ·rw [if_neg (by omega),if_pos h]
theorem Lp {n k:Nat}{us:List Tie}{l:List Int} (n1:1<=n) (n8:n<=8) (k2:2<=k) (k3:k<=3) (hu:RgT n us) (hl:IsOrd ((n:Nat):Int) l):RgT n (qZ l us)/\optN n k (qZ l us)=optN n k us:=by
 have ln:=hl.len
 have rl:RgT n (qZ l us):=fun t ht=>by
  obtain⟨x,hx,rfl⟩:=é.mp ht
  obtain⟨a,b⟩:=hu x hx
  have a:=fV hl a
  have b:=fV hl b
  exact⟨⟨by dsimp only; split <;> omega,by dsimp only; split <;> omega⟩,by dsimp only; split <;> omega,by dsimp only; split <;> omega⟩
 -- the order turned about
 have inv:∀ v:Int,0<=v/\v<(n:Int)->∃ u:Int,(0<=u/\u<(n:Int))/\sgF l u=v:=fun v hv=>by
  apply û
  intro hn
  have nm:v∉l:=fun hm=>by
   obtain⟨j,hj⟩:=ŀ hm
   have hj1:=(Î.mp hj).1
   refine hn ⟨((j:Nat):Int),by omega,?_⟩
   unfold sgF
   rw [Ù,Ë,hj]
   rfl
  have:(v::l).length<=(d9 n).length:=(ę.mpr ⟨nm,hl.nd⟩).length_le_of_subset fun y hy=>by
   rcases Ô.mp hy with rfl | hy
   ·exact dH.mpr hv
   ·exact dH.mpr (hl.rng y hy)
  unfold d9 at this
  rw [Á,ł,Ü] at this
  omega
 have inj:∀ u v:Int,(0<=u/\u<(n:Int))->(0<=v/\v<(n:Int))->sgF l u=sgF l v->u=v:=fun u v hu hv e=>by
  have a:=(fV hl hu).2.2.2
  have b:=(fV hl hv).2.2.2
  rw [e] at a
  have:=(List.getElem?_inj (by omega) hl.nd).mp (a.trans b.symm)
  omega
 have le1:=qM (k:=k) n1 n8 k2 k3 hu (σ:=sgF l) rl (fun v hv=>⟨(fV hl hv).2.1,(fV hl hv).2.2.1⟩) inv (Io l us)
 have ch:∀ v:Int,∃ u:Int,(0<=v/\v<(n:Int))->(0<=u/\u<(n:Int))/\sgF l u=v:=fun v=>by
  by_cases hv:0<=v/\v<(n:Int)
  ·obtain⟨u,a,b⟩:=inv v hv
   exact⟨u,fun _=>⟨a,b⟩⟩
  ·exact⟨0,fun h=>absurd h hv⟩
 obtain⟨tau,ht⟩:=Classical.axiomOfChoice ch
 have le2:=qM (k:=k) n1 n8 k2 k3 rl (σ:=tau) hu (fun v hv=>(ht v hv).1) (fun v hv=>⟨sgF l v,⟨(fV hl hv).2.1,(fV hl hv).2.2.1⟩,by
  have s:=fV hl hv
  have t:=ht (sgF l v) ⟨s.2.1,s.2.2.1⟩
  exact inj _ _ t.1 hv t.2⟩) fun X=>by
  rw [Io]
  refine Jv hu fun v hv=>?_
  have s:=fV hl hv
  have t:=ht (sgF l v) ⟨s.2.1,s.2.2.1⟩
  show X v=X (tau (sgF l v))
  rw [inj _ _ t.1 hv t.2]
 exact⟨rl,by omega⟩
section
variable {P:Program}{w:World}{K:Ú}{mg:Str->Option Value}{base:Heap}{f:Addr}{fd:FuncData}{CN PT:Addr}
theorem qy:FnScope ["_law_pen_here","_law_n","_law_a","_law_b"] ["_law_pen_here","_law_n"] (ao (top 50)):=zC
theorem zN (F:Fun K "_law_tie" "_law_tie" (top 50) f fd) (B:ļ mg) (C__law_order:ø P w K mg base 2 "_law_order" ["_law_pen_here","_law_n"] (spP CP oM)):FnOk P w K mg base CX0 3 f fd ["_law_pen_here","_law_n"] (spP CP Je):=by
 refine F.ok qy eV (fun cdv A outer s H vs Q E hr h=>?_)
 have nd:=qy.nd
 refine⟨_,ĝ (Ó (Wr.vZ (Wr.o9 (Wr.dcP C__law_order hr (Ř 0) (À (Ê 1) Å)) Wr.eY (Wr.cH Õ)) (Wr.Aq (n:=2) rfl (ĭ (ñ (i:=2) nd rfl zQ) (ĭ (ñ (i:=3) nd rfl zQ) Wr.dN))))
  (ð (ā (Ĝ (À (Wr.pZ rfl B.min (À (Ê 2) (À (Ê 3) Å))) (À (Wr.mj rfl B.max (À (Ê 2) (À (Ê 3) Å))) Å)))))),enterQ h ?_⟩
 rintro ds P ⟨n,rfl,n2,n8,q⟩
 refine⟨[.im (.int n),.any,.any],rfl,?_⟩
 refine⟨rfl,n,rfl,by omega,by omega,fun l hl=>?_⟩
 have ll:=hl.len
 obtain⟨a,b,r,rfl⟩:∃ a b r,l=a::b::r:=by
  match l,ll with
  | [],ll=>simp at ll; omega
  | [_],ll=>simp at ll; omega
  | a::b::r,_=>exact⟨a,b,r,rfl⟩
 have ec:dW ((a::b::r).map Â) none (some 2)=[Â a,Â b]:=by
  rw [Fe _ (by decide) (by rw [Á]; omega)]
  rfl
 have ha:=hl.rng a Æ
 have hb:=hl.rng b (Ã _ Æ)
 have nab:a≠b:=fun z=>(ę.mp hl.nd).1 (by rw [z]; exact Æ)
 refine .inl ⟨by rw [ec]; rfl,?_⟩
 rw [ec]
 refine⟨rfl,zK,rfl,?_⟩
 exact q (if b<a then b else a,if b > a then b else a) (by show 0<=(if b<a then b else a); split <;> omega) (by show (if b<a then b else a)<(if b > a then b else a); split <;> split <;> omega) (by show (if b > a then b else a)<n; split <;> omega)
theorem jY:FnScope ["_law_pen_here","_law_n","_law_ties_here","_law_falls","_law_added","_law_here","_law_left","_law_k"] ["_law_pen_here","_law_n","_law_ties_here","_law_falls","_law_added"] (ao (top 52)):=zC
theorem sG (F:Fun K "_law_ladder" "_law_ladder" (top 52) f fd) (B:ļ mg) (C__law_order:ø P w K mg base 2 "_law_order" ["_law_pen_here","_law_n"] (spP CP oM)) (C__law_many:ø P w K mg base 13 "_law_many" ["_law_n","_law_ties_here","_law_falls"] (spT (aL PT) CG)) (C_stands:ø P w K mg base 10 "stands" ["web","falls"] (spD mO)):FnOk P w K mg base CX0 14 f fd ["_law_pen_here","_law_n","_law_ties_here","_law_falls","_law_added"] (spP (CT CP (aL PT)) Tn):=by
 refine F.ok jY eV (fun cdv A outer s H vs Q E hr h=>?_)
 have nd:=jY.nd
 refine⟨_,ĝ (Ó (ö (some 0) (i:=5) nd rfl zQ (Wr.mq B.list (À (Ê 2) Å)))
  (Ó (ö none (i:=6) nd rfl zQ (Ň B.len (À (Ê 4) Å)))
  (Ó (Wr.cV Ą rfl (ĵ (Wr.dcP (Ű (T:=aL PT) C__law_order) hr (Ř 0) (À (Ň B.len (À (Ê 4) Å)) Å))) (ñ (i:=7) nd rfl zQ) (Ó (Wr.cG (Ř 5) (À (ò (Ê 4) (Ê 7)) Å))
  (Ó (ö none (i:=6) nd rfl zQ (Wr.cT (Ê 6) Õ))
  (Ó (ŋ (Wr.jN hr.units (Wr.dcT (C:=CP) (i:=0) C__law_many hr (À (Ê 1) (À (Ê 5) (À (Ê 3) Å)))) (Ê 6)) (ð (ā Ş)) Č) (ĕ [7] Č)))))
  (ĕ [6,7] (ð (ā (Wr.zA (Ť C_stands hr (À (Ĝ (À (Ê 1) (À (Wr.gk B.tuple (À (Wr.cN B.sorted (À (Ê 5) Å)) Å)) Å))) (À (Ê 3) Å))) Ş))))))),enterQ h ?_⟩
 rintro ds P ⟨n,k,us,A,rfl,n1,n8,k2,k3,lu,lA,hu,hp,q⟩
 refine⟨[.im (.int ((n:Nat):Int)),.im (.tuple (us.map pD)),.im (.int ((k:Int) - 1)),.sh (.list (A.map pD)),.any,.any,.any],by show [_,bx (.tuple (us.map pD)),_,_,_,_,_]=_; rw [show bx (.tuple (us.map pD))=.im (.tuple (us.map pD)) from if_pos (bL us)]; rfl,?_⟩
 have pick:∀ l:List Int,IsOrd ((A.length:Nat):Int) l->(l.map fun x=>A.getD x.toNat (0,0)).Perm A:=fun l hl=>by
  have ln:=hl.len
  have p1:l.Perm (d9 A.length):=by
   refine (List.perm_ext_iff_of_nodup hl.nd ?_).mpr fun x=>?_
   ·unfold d9
    exact List.Pairwise.map _ (fun a b hab h=>hab (by omega)) List.nodup_range
   ·rw [dH]
    constructor
    ·exact fun h=>hl.rng x h
    ·intro hx
     apply û
     intro hn
     have:(x::l).length<=(d9 A.length).length:=(ę.mpr ⟨hn,hl.nd⟩).length_le_of_subset fun y hy=>by
      rcases Ô.mp hy with rfl | hy
      ·exact dH.mpr hx
      ·exact dH.mpr (hl.rng y hy)
     unfold d9 at this
     rw [Á,ł,Ü] at this
     omega
  have p2:=p1.map fun x=>A.getD x.toNat (0,0)
  have e:(d9 A.length).map (fun x=>A.getD x.toNat (0,0))=A:=by
   unfold d9
   rw [ý]
   have:((fun x:Int=>A.getD x.toNat (0,0)) ∘ fun i:Nat=>0+((i:Nat):Int))=fun i:Nat=>A.getD i (0,0):=by
    funext i
    show A.getD (0+((i:Nat):Int)).toNat (0,0)=_
    rw [show (0+((i:Nat):Int)).toNat=i by omega]
   rw [this]
   exact cg A (0,0)
  rw [e] at p2
  exact p2
 have rA:RgT n A:=fun t ht=>(gQ n1 n8 k2 k3 hu).1 t (hp.mem_iff.mp ht)
 refine .inl ⟨bL us,?_⟩
 refine⟨rfl,(((A.map pD).length:Nat):Int),rfl,by omega,by rw [Á]; omega,fun l hl=>?_⟩
 rw [Á] at hl
 have pl:=pick l hl
 have ll:=hl.len
 refine⟨rfl,fun (i:Nat) ρ=>ρ=[.pen (CT CP (aL PT)),.im (.int ((n:Nat):Int)),.im (.tuple (us.map pD)),.im (.int ((k:Int) - 1)),.sh (.list (A.map pD)),.dw 0 (.list ((us++(l.take i).map fun x=>A.getD x.toNat (0,0)).map pD)),.im (.int ((A.length:Int) - (i:Nat))),.any],?_,?_,?_⟩
 ·show [_,_,_,_,_,Sl.dw 0 (.list (us.map pD)),Sl.im (.int (((A.map pD).length:Nat):Int)),_]=[_,_,_,_,_,Sl.dw 0 (.list ((us++[]).map pD)),Sl.im (.int ((A.length:Int) - ((0:Nat):Int))),_]
  rw [Á,ù,show (A.length:Int) - ((0:Nat):Int)=((A.length:Nat):Int) by omega]
 ·rintro i d ρ hd rfl
  obtain⟨x,hx,rfl⟩:=dI hd
  have rx:=hl.rng x (Ì hx)
  have hi:=(Î.mp hx).1
  have tk:l.take (i+1)=l.take i++[x]:=by rw [ğ,hx]; rfl
  have hA:atI (A.map pD) x=some (pD (A.getD x.toNat (0,0))):=by
   have ex:x=((x.toNat:Nat):Int):=by omega
   have h2:x.toNat<A.length:=by omega
   have:=d7 (xs:=A.map pD) (j:=x.toNat) (v:=pD (A.getD x.toNat (0,0))) (by rw [á,Ë,Ç h2]; rfl)
   rw [← ex] at this
   exact this
  have lC:((l.take (i+1)).map fun x=>A.getD x.toNat (0,0)).length=i+1:=by rw [Á,Ċ]; omega
  have eL:(us++(l.take i).map fun x=>A.getD x.toNat (0,0)).map pD++[pD (A.getD x.toNat (0,0))]=(us++(l.take (i+1)).map fun x=>A.getD x.toNat (0,0)).map pD:=by
   rw [tk,Ø (l₁:=l.take i),← Ŏ,Ø (l₂:=Ĳ (fun x=>A.getD x.toNat (0,0)) [x])]
   rfl
  have pp:(((l.take (i+1)).map fun x=>A.getD x.toNat (0,0))++((l.drop (i+1)).map fun x=>A.getD x.toNat (0,0))).Perm (mZ n k us):=by
   rw [← Ø,Ŋ]
   exact pl.trans hp
  have op:=Hl n1 n8 k2 k3 hu pp
  rw [Á,õ] at op
  refine⟨_,hA,rfl,by rw [Á,È,Á,Ċ]; omega,?_⟩
  rw [eL]
  refine⟨rfl,n,k,us++(l.take (i+1)).map fun x=>A.getD x.toNat (0,0),_,rfl,.inl rfl,n1,n8,k2,k3,by rw [È,lC]; omega,fun t ht=>?_,?_⟩
  ·rcases Û.mp ht with z | z
   ·exact hu t z
   ·exact rA t (pl.mem_iff.mp (by
     obtain⟨y,hy,rfl⟩:=é.mp z
     exact é.mpr ⟨y,Ţ hy,rfl⟩))
  ·show if (!decide (((optN n k (us++(l.take (i+1)).map fun x=>A.getD x.toNat (0,0)):Nat):Int)=(A.length:Int) - (i:Nat) - 1))=true then _ else _
   rw [op,decide_eq_true (by omega)]
   refine aN (A:=True) ?_
   show [_,_,_,_,_,_,Sl.im (.int ((A.length:Int) - (i:Nat) - 1)),_]=_
   rw [show (A.length:Int) - (i:Nat) - 1=(A.length:Int) - ((i+1:Nat):Int) by omega]
   rfl
 ·rintro ρ rfl
  rw [Á,Ĥ]
  generalize hB:(l.map fun x=>A.getD x.toNat (0,0))=Bs at pl
  have lB:=pl.length_eq
  have rB:RgT n (us++Bs):=fun t ht=>(Û.mp ht).elim (hu t) fun z=>rA t (pl.mem_iff.mp z)
  refine⟨us++Bs,.inl rfl,by rw [È]; omega,fun t ht=>?_,fun ws hpw _=>?_⟩
  ·have:=rB t ht
   exact⟨by omega,by omega⟩
  ·have rw':RgT n ws:=fun t ht=>rB t (hpw.mem_iff.mp ht)
   refine⟨zK,((n:Nat):Int),ws,(k:Int) - 1,rfl,by omega,by omega,by rw [hpw.length_eq,È]; omega,fun b hb=>?_⟩
   have eb:b=true:=hb.mpr ((kh n1 n8 rw').mpr fun X hX=>by
    have:=(gQ n1 n8 k2 k3 hu).2 X hX
    rw [gq hpw,bM]
    rw [bM,← gq (pl.trans hp)] at this
    omega)
   subst eb
   exact⟨rfl,q⟩
theorem oZ:FnScope ["_law_pen_here","_law_n","_law_ties_here","_law_falls","_law_many_here","_law_more","_law_at","_law_less"] ["_law_pen_here","_law_n","_law_ties_here","_law_falls","_law_many_here"] (ao (top 53)):=zC
theorem xQ (F:Fun K "_law_near" "_law_near" (top 53) f fd) (B:ļ mg) (C__law_many:ø P w K mg base 13 "_law_many" ["_law_n","_law_ties_here","_law_falls"] (spT (aL PT) CG)) (C__law_tie:ø P w K mg base 3 "_law_tie" ["_law_pen_here","_law_n"] (spP CP Je)) (C__law_draw:ø P w K mg base 1 "_law_draw" ["_law_pen_here","_law_many_here"] (spP CP rE)):FnOk P w K mg base CX0 14 f fd ["_law_pen_here","_law_n","_law_ties_here","_law_falls","_law_many_here"] (spP (CT CP (aL PT)) Jg):=by
 refine F.ok oZ eV (fun cdv A outer s H vs Q E hr h=>?_)
 have nd:=oZ.nd
 refine⟨_,ĝ (Ó (ö none (i:=5) nd rfl zQ (Wr.dcT (C:=CP) (i:=0) C__law_many hr (À (Ê 1) (À (Ę (Wr.mq B.list (À (Ê 2) Å)) (Ņ (À (Wr.dcP (Ű (T:=aL PT) C__law_tie) hr (Ř 0) (À (Ê 1) Å)) Å))) (À (Ê 3) Å)))))
  (Ó (ŋ (Wr.wpt (Wr.iC (Wr.iG (Ê 5) (Ê 4)) (Wr.eN (Wr.qI (Ê 5) (Wr.cT (Ê 4) Õ))))) (ð (ā Ş)) Č)
  (Ó (ŋ (Wr.jO hr.units (Ê 2) (Ĝ Å)) (ð (ā Ş)) Č)
  (Ó (ö none (i:=6) nd rfl zQ (Wr.dcP (Ű (T:=aL PT) C__law_draw) hr (Ř 0) (À (Ň B.len (À (Ê 2) Å)) Å)))
  (Ó (ö none (i:=7) nd rfl zQ (Wr.dcT (C:=CP) (i:=0) C__law_many hr (À (Ê 1) (À (Ę (Wr.o9 (Ê 2) Wr.eY (Wr.cH (Ê 6))) (Wr.o9 (Ê 2) (Wr.cH (Ę (Ê 6) Õ)) Wr.eY)) (À (Ê 3) Å)))))
  (ð (ā (Wr.G9 (Wr.qK hr.units (Ê 7) (Ê 4)) (Wr.gC (Wr.qK hr.units (Ê 7) (Ę (Ê 4) Õ))))))))))),enterQ h ?_⟩
 rintro ds P ⟨n,k,us,rfl,n1,n8,k2,k3,lu,hu,q⟩
 refine⟨[.im (.int ((n:Nat):Int)),.im (.tuple (us.map pD)),.im (.int ((k:Int) - 1)),.im (.int ((optN n k us:Nat):Int)),.any,.any,.any],by show [_,bx (.tuple (us.map pD)),_,_,_,_,_]=_; rw [show bx (.tuple (us.map pD))=.im (.tuple (us.map pD)) from if_pos (bL us)]; rfl,?_⟩
 have n1':1<=n:=by omega
 refine⟨rfl,.inl ⟨bL us,rfl,((n:Nat):Int),rfl,by omega,by omega,fun t t0 t1 t2=>?_⟩⟩
 have rt:RgT n [t]:=fun x hx=>by rw [ç.mp hx]; exact⟨⟨by omega,by omega⟩,by omega,by omega⟩
 have rv:RgT n (us++[t]):=fun x hx=>(Û.mp hx).elim (hu x) (rt x)
 obtain⟨o1,o2⟩:=BR (k:=k) n1' n8 k2 k3 hu rt
 have es:us.map pD++[pD t]=(us++[t]).map pD:=by rw [Ø]; rfl
 refine⟨zK,?_,.inr ⟨n,k,us++[t],_,rfl,.inl ?_,n1',n8,k2,k3,by rw [È,Þ]; omega,rv,?_⟩⟩
 ·rw [Á]
  show _+1<=1000
  omega
 ·exact congrArg ē es
 show if decide (((optN n k us:Nat):Int)<((optN n k (us++[t]):Nat):Int))=true then _ else _
 rw [decide_eq_false (by omega)]
 refine aN (A:=True) ?_
 show if decide (((optN n k (us++[t]):Nat):Int)<((optN n k us:Nat):Int) - 1)=true then _ else _
 rw [decide_eq_false (by omega)]
 refine aN (A:=True) ?_
 refine⟨zK,HD us,rfl,?_⟩
 cases us with
 | nil=>exact aM (B:=True) ⟨rfl,q⟩
 | cons t0' us' =>
  refine aN (A:=True) ⟨rfl,((((t0'::us').map pD).length:Nat):Int),rfl,?_,?_,fun r r0 r1=>?_⟩
  ·rw [Á,Ü]; omega
  ·rw [Á]; omega
  rw [Á] at r1
  generalize t0'::us'=us at *
  obtain⟨j,rfl⟩:∃ j:Nat,r=((j:Nat):Int):=⟨r.toNat,by omega⟩
  have hj:j<us.length:=by omega
  have hg:=Ç hj
  obtain⟨c1,c2⟩:=Fd (us.map pD) (k:=j) (by rw [Á]; exact hj)
  have pm:us.Perm ((us.take j++us.drop (j+1))++[us[j]]):=by
   have e:us=us.take j++us[j]::us.drop (j+1):=by rw [← Ĺ hj,Ŋ]
   have p:(us.take j++us[j]::us.drop (j+1)).Perm (us[j]::(us.take j++us.drop (j+1))):=List.perm_middle
   exact (List.Perm.of_eq e).trans (p.trans (List.perm_append_comm (l₁:=[us[j]])))
  have rl:RgT n (us.take j++us.drop (j+1)):=fun x hx=>hu x (pm.mem_iff.mpr (Ā _ hx))
  obtain⟨p1,p2⟩:=BR (k:=k) (t:=us[j]) n1' n8 k2 k3 rl fun x hx=>hu x (pm.mem_iff.mpr (å _ hx))
  have oe:=xJ (k:=k) (us:=(us.take j++us.drop (j+1))++[us[j]]) n1' n8 k2 k3 (fun x hx=>hu x (pm.mem_iff.mpr hx)) pm
  have lmj:j<(us.map pD).length:=by rw [Á]; exact hj
  refine⟨rfl,fun z=>?_,fun z=>?_,?_,n,k,us.take j++us.drop (j+1),_,rfl,.inr ?_,n1',n8,k2,k3,by rw [È,Ċ,õ]; omega,rl,?_⟩
  ·have:=z.2
   rw [HT.iz] at this
   omega
  ·have:=z.1
   rw [show ((j:Nat):Int)+1=((j+1:Nat):Int) by omega,HT.iz] at this
   omega
  ·rw [c1,c2,Ċ,õ,Á]
   omega
  ·show PyData.tuple (dW (us.map pD) none (some ((j:Nat):Int))++dW (us.map pD) (some (((j:Nat):Int)+1)) none)=_
   rw [c1,c2,← List.map_take,← ŏ,← Ø]
  ·show if decide (((optN n k (us.take j++us.drop (j+1)):Nat):Int)=((optN n k us:Nat):Int))=true then _ else _
   by_cases c:optN n k (us.take j++us.drop (j+1))=optN n k us
   ·rw [decide_eq_true (by omega)]
    exact aM (B:=True) ⟨rfl,q⟩
   ·rw [decide_eq_false (by omega)]
    refine aN (A:=True) ⟨rfl,?_⟩
    show P (.bool (decide (((optN n k (us.take j++us.drop (j+1)):Nat):Int)=((optN n k us:Nat):Int)+1)))
    rw [decide_eq_true (by omega)]
    exact q
theorem jX:FnScope ["_law_pen_here","_law_n","_law_ties_here","_law_falls","_law_told","_law_families","_law_k","_law_some","_law_family_here","_law_here"] ["_law_pen_here","_law_n","_law_ties_here","_law_falls","_law_told"] (ao (top 54)):=zC
theorem pI:(["_law_tie_here","_law_pen_here","_law_n","_law_ties_here","_law_falls","_law_told","_law_families","_law_k","_law_some","_law_family_here","_law_here"]:List Str).Nodup:=by decide +kernel
theorem sE (F:Fun K "_law_let_by" "_law_let_by" (top 54) f fd) (B:ļ mg) (C__law_family:ø P w K mg base 3 "_law_family" ["_law_pen_here","_law_n"] (spP CP CJ)) (C__law_tie:ø P w K mg base 3 "_law_tie" ["_law_pen_here","_law_n"] (spP CP Je)) (C_lets_by:ø P w K mg base 11 "lets_by" ["web","falls","added","family"] (spD Qt)) (C_stands:ø P w K mg base 10 "stands" ["web","falls"] (spD mO)):FnOk P w K mg base CX0 12 f fd ["_law_pen_here","_law_n","_law_ties_here","_law_falls","_law_told"] (spP (CT CP (aL PT)) Ji):=by
 refine F.ok jX eV (fun cdv A outer s H vs Q E hr h=>?_)
 have nd:=jX.nd
 refine⟨_,ĝ (Ó (ö none (i:=5) nd rfl zQ (Ņ (À (ò (Ê 4) Õ) (À (Wr.dcP (Ű (T:=aL PT) C__law_family) hr (Ř 0) (À (Ê 1) Å)) (À (Wr.uY (ò (Ê 4) Õ)) Å)))))
  (Ó (Wr.cV Ą rfl (Wr.bC B.range (À Õ Å)) (ñ (i:=6) nd rfl zQ) (Ó (ö none (i:=7) nd rfl zQ (Wr.cN B.sorted (À (ţ ["_law_tie_here"] rfl (ĵ (ò (Ê 4) Õ)) (fun c=>(ñ (i:=0) pI rfl zQ)) (fun c=>ś) (fun c=>(Wr.dcP (Ű (T:=aL PT) C__law_tie) hr (Ř 1) (À (Ê 2) Å)))) Å)))
  (Ó (ŋ (Wr.jO hr.units (Ê 6) Õ) (ð (ö none (i:=7) nd rfl zQ (ò (Ê 4) Õ))) Č)
  (Ó (ö none (i:=8) nd rfl zQ (ò (Ê 5) (Wr.u6 (Ê 6) Õ)))
  (Ó (ŋ (Ś (Ť C_lets_by hr (À (Ĝ (À (Ê 1) (À (Ê 2) Å))) (À (Ê 3) (À (Ê 7) (À (Ê 8) Å)))))) (Ó (ö none (i:=9) nd rfl zQ (Ĝ (À (Ê 1) (À (Wr.gk B.tuple (À (Wr.cN B.sorted (À (Ę (Wr.mq B.list (À (Ê 2) Å)) (Ê 7)) Å)) Å)) Å))))
  (ð (ŋ (Wr.wpt (Wr.iC (Wr.jN hr.units (Ň B.len (À (Ê 7) Å)) (Ň B.len (À (ò (Ê 4) Õ) Å))) (Wr.eN (Wr.kI (Ť C_stands hr (À (Ê 9) (À (Ê 3) Å))) Ş)))) (ð (ā Ş)) Č))) Č) (ĕ [6,7,8,9] Č))))))
  (ĕ [6,7,8,9] (ð (ā Ş))))),enterQ h ?_⟩
 rintro ds P ⟨n,k,us,A,F,rfl,n2,n8,k2,k3,lu,hu,pk,q⟩
 refine⟨[.im (.int ((n:Nat):Int)),.im (.tuple (us.map pD)),.im (.int ((k:Int) - 1)),.sh (.tuple [.list (A.map pD),.list (F.map iD)]),.any,.any,.any,.any,.any],by show [_,bx (.tuple (us.map pD)),_,_,_,_,_,_,_]=_; rw [show bx (.tuple (us.map pD))=.im (.tuple (us.map pD)) from if_pos (bL us)]; rfl,?_⟩
 have n1':1<=n:=by omega
 have la:A.length=optN n k us:=pk.perm.length_eq
 have oA:=(gQ n1' n8 k2 k3 hu).1
 obtain⟨g1,g2,g3,g4⟩:=rR n1' n8 k2 k3 hu
 obtain⟨e1,e2,e3,e4,e5,e6⟩:=qg (k:=k) n1' n8 k3 hu
 have lA:A.length<=13:=by have:=pk.perm.length_eq; omega
 have gA:GdT n A:=fun t ht=>g3 t (pk.perm.mem_iff.mp ht)
 obtain⟨pr,ndf,ll,_⟩:=Ew n1' n8 (xW us _) pk.fam
 refine⟨.list (F.map iD),rfl,rfl,((n:Nat):Int),rfl,by omega,by omega,fun L hL=>⟨.list (F.map iD),rfl,.inr ⟨zK,?_⟩⟩⟩
 have er:(F.map iD).reverse=F.reverse.map iD:=by rw [List.map_reverse]
 rw [er]
 have fin:∀ (i:Nat) (S:List Tie) (s7:Sl) (E:DEnds),i<6->(s7=.sn (.list (S.map pD))\/s7=.sh (.list (S.map pD)))->GdT n S->S.Pairwise (fun a b=>aJ a<=aJ b)->S.length=A.length->E.nx [.pen (CT CP (aL PT)),.im (.int ((n:Nat):Int)),.im (.tuple (us.map pD)),.im (.int ((k:Int) - 1)),.sh (.tuple [.list (A.map pD),.list (F.map iD)]),.sh (.list [.list (F.map iD),.list (L.map iD),.list (F.reverse.map iD)]),.any,.any,.any,.any] ->
   pN
       (Av 8 none
        (t2 gIx (tV 5) (t2 (gI (fun x j=>0<j) fun i j=>Â (i % j)) (tV 6) (tK (Â 3)))))
       (pN
        (dIf
         (cR
          (tFn Qt
           (aG (nF (aG (tV 1) (aG (tV 2) cu)))
            (aG (tV 3) (aG (tV 7) (aG (tV 8) cu))))))
         (pN
          (Av 9 none
           (nF
            (aG (tV 1)
             (aG
              (tCl yr
               (aG (tCl oK (aG (t2 Cr (tCl Dl.I9 (aG (tV 2) cu)) (tV 7)) cu))
                cu))
              cu))))
          (dIf
           (dOr
            (cR
             (t2 (lE true) (tCl Ai (aG (tV 7) cu))
              (tCl Ai (aG (t2 gIx (tV 4) (tK (Â 0))) cu))))
            (cR (t2 yt (tFn mO (aG (tV 9) (aG (tV 3) cu))) (tK (Ľ true)))))
           (sS (tK (Ľ false))) mV))
         mV)
        (rM [6,7,8,9] mV)) E [.pen (CT CP (aL PT)),.im (.int ((n:Nat):Int)),.im (.tuple (us.map pD)),.im (.int ((k:Int) - 1)),.sh (.tuple [.list (A.map pD),.list (F.map iD)]),.sh (.list [.list (F.map iD),.list (L.map iD),.list (F.reverse.map iD)]),.im (.int ((i:Nat):Int)),s7,.any,.any]:=by
  intro i S s7 E hi hs gS so lS hE
  obtain⟨G,hG,pG,nG,lG⟩:∃ G:List (List Int),atI [ē (F.map iD),.list (L.map iD),.list (F.reverse.map iD)] (((i:Nat):Int) % 3)=some (.list (G.map iD))/\(∀ l∈G,Proper ((n:Nat):Int) l)/\G.flatten.Nodup/\G.length<=60:=by
   obtain h | h | h:((i:Nat):Int) % 3=0\/((i:Nat):Int) % 3=1\/((i:Nat):Int) % 3=2:=by omega
   ·rw [h]; exact⟨F,rfl,pr,ndf,ll⟩
   ·rw [h]; exact⟨L,rfl,hL.each,hL.nd,by have:=hL.few; omega⟩
   ·rw [h]
    refine⟨F.reverse,rfl,fun l hl=>pr l (List.mem_reverse.mp hl),?_,by rw [List.length_reverse]; exact ll⟩
    exact (List.Perm.flatten (List.reverse_perm F)).nodup_iff.mpr ndf
  have nS:∀ t∈us++S,nq t:=fun t ht=>(Û.mp ht).elim (fun z=>by have:=hu t z; exact⟨by omega,by omega⟩) fun z=>by have:=gS t z; exact⟨by omega,by omega⟩
  have es:us.map pD++S.map pD=(us++S).map pD:=by rw [Ø]
  rcases hs with rfl | rfl
  all_goals
   refine⟨(show (0:Int)<3 by decide),_,hG,?_⟩
   refine⟨zK,n,k,us,S,G,rfl,n1',n8,k2,k3,by omega,by omega,hu,gS,so,lG,pG,nG,fun b hb=>?_⟩
   cases b with
   | false=>exact aN (A:=True) hE
   | true =>
    obtain⟨hb1,hb2'⟩:=hb rfl
    refine aM (B:=True) (.inl ⟨bL us,?_,.inr ⟨us++S,.inl (congrArg ē es),by rw [È]; omega,nS,fun ws hp _=>⟨zK,?_⟩⟩⟩)
    ·rw [Á,Á]; omega
    refine mQ (rg:=none) (i:=9) (d:=aR ((n:Nat):Int) ws) (s:=.im (aR ((n:Nat):Int) ws)) (by rw [dF (mH _ ws)]; rfl) ?_
    refine⟨.list (A.map pD),rfl,?_⟩
    show if (!decide ((((S.map pD).length:Nat):Int)=(((A.map pD).length:Nat):Int)))=true then _ else _
    rw [Á,Á,decide_eq_true (by omega)]
    refine aN (A:=True) ⟨((n:Nat):Int),ws,(k:Int) - 1,rfl,by omega,by omega,by rw [hp.length_eq,È]; omega,fun b2 hb2=>?_⟩
    have rw':RgT n ws:=fun t ht=>(Û.mp (hp.mem_iff.mp ht)).elim (hu t) (gS.rg t)
    have eb:b2=true:=hb2.mpr ((kh n1' n8 rw').mpr fun X hX=>by
     rw [gq hp]
     exact hb2' X hX)
    subst eb
    exact aN (A:=True) hE
 refine⟨⟨by decide,by decide⟩,rfl,fun (i:Nat) ρ=>ρ=[.pen (CT CP (aL PT)),.im (.int ((n:Nat):Int)),.im (.tuple (us.map pD)),.im (.int ((k:Int) - 1)),.sh (.tuple [.list (A.map pD),.list (F.map iD)]),.sh (.list [.list (F.map iD),.list (L.map iD),.list (F.reverse.map iD)]),.any,.any,.any,.any],rfl,?_,?_⟩
 ·rintro i d ρ hd rfl
  obtain⟨hi,rfl⟩:=bR hd
  rw [Int.zero_add]
  refine⟨.list (A.map pD),rfl,by rw [Á]; omega,.imm,fun j ys=>∃ ts:List Tie,ys=ts.map pD/\ts.length=j/\GdT n ts,⟨[],rfl,rfl,fun t ht=>nomatch ht⟩,?_,?_⟩
  ·rintro j d ys hd ⟨ts,rfl,lt,gt⟩
   refine aM (B:=True) ⟨rfl,((n:Nat):Int),rfl,by omega,by omega,fun t t0 t1 t2=>⟨rfl,ts++[t],by rw [Ø]; rfl,by rw [È,Þ,lt],fun x hx=>?_⟩⟩
   rcases Û.mp hx with z | z
   ·exact gt x z
   ·rw [ç.mp z]; exact⟨t0,t1,t2⟩
  ·rintro ys ⟨ts,rfl,lt,gt⟩
   rw [Á] at lt
   refine⟨ts,.inl rfl,by omega,fun t ht=>?_,fun S hp hs=>?_⟩
   ·have:=gt t ht
    exact⟨by omega,by omega⟩
   have gS:GdT n S:=fun t ht=>gt t (hp.mem_iff.mp ht)
   have lS:S.length=A.length:=by rw [hp.length_eq,lt]
   show if decide (((i:Nat):Int)=5)=true then _ else _
   refine fQ (fun c=>?_) (fun c=>?_)
   ·exact⟨.list (A.map pD),rfl,fin i A _ _ (by omega) (.inr rfl) gA pk.so rfl rfl⟩
   ·exact fin i S _ _ (by omega) (.inl rfl) gS hs lS rfl
 ·rintro ρ rfl
  exact⟨rfl,q⟩
theorem Gv:FnScope ["_law_script","_law_pen_here","_law_n","_law_ties_here","_law_ladder_here","_law_order_here","_law_led","_law_counts","_law_falls","_law_told"] ["_law_script"] (ao (top 55)):=zC
theorem xX:(["_law_a","_law_b","_law_script","_law_pen_here","_law_n","_law_ties_here","_law_ladder_here","_law_order_here","_law_led","_law_counts","_law_falls","_law_told"]:List Str).Nodup:=by decide +kernel
theorem Pk (F:Fun K "law" "law" (top 55) f fd) (B:ļ mg) (C__law_pen:ø P w K mg base 1 "_law_pen" ["_law_script"] (Gm K)) (C__law_web:ø P w K mg base 3 "_law_web" ["_law_pen_here","_law_most"] (spP CP Tg)) (C__law_draw:ø P w K mg base 1 "_law_draw" ["_law_pen_here","_law_many_here"] (spP CP rE)) (C__law_order:ø P w K mg base 2 "_law_order" ["_law_pen_here","_law_n"] (spP CP oM)) (C_puts:ø P w K mg base 12 "puts" ["web","falls"] (spT (aL PT) Cy)) (C__law_many:ø P w K mg base 13 "_law_many" ["_law_n","_law_ties_here","_law_falls"] (spT (aL PT) CG)) (C__law_ladder:ø P w K mg base 14 "_law_ladder" ["_law_pen_here","_law_n","_law_ties_here","_law_falls","_law_added"] (spP (CT CP (aL PT)) Tn)) (C__law_near:ø P w K mg base 14 "_law_near" ["_law_pen_here","_law_n","_law_ties_here","_law_falls","_law_many_here"] (spP (CT CP (aL PT)) Jg)) (C__law_let_by:ø P w K mg base 12 "_law_let_by" ["_law_pen_here","_law_n","_law_ties_here","_law_falls","_law_told"] (spP (CT CP (aL PT)) Ji)):FnOk P w K mg base CX0 15 f fd ["_law_script"] (Gp K (aL PT)):=by
 refine F.ok Gv (fun vs H Q E h=>by obtain⟨a,ns,rfl,_⟩:=h; rfl) (fun cdv A outer s H vs Q E hr h=>?_)
 obtain⟨sc,ns,rfl,hS,q⟩:=h
 have nd:=Gv.nd
 refine⟨_,(Ÿ (bY (i:=1) nd rfl zQ (pcS C__law_pen hr (cD (pv 0) gG) (by decide) rfl (by decide) rfl rfl)) (ĝ (Ó (Wr.vZ (Wr.dcP (Ű (T:=(aL PT)) C__law_web) hr (Ř 1) (À Õ Å)) (Wr.gJ (n:=2) rfl (ĭ (ñ (i:=2) nd rfl zQ) (ĭ (ñ (i:=3) nd rfl zQ) Wr.dN))))
  (Ó (ö none (i:=4) nd rfl zQ (Ę Õ (Wr.dcP (Ű (T:=(aL PT)) C__law_draw) hr (Ř 1) (À Õ Å))))
  (Ó (ö none (i:=5) nd rfl zQ (Wr.dcP (Ű (T:=(aL PT)) C__law_order) hr (Ř 1) (À (Ê 2) Å)))
  (Ó (Wr.rG none ["_law_a","_law_b"] (i:=6) rfl nd rfl zQ (ĵ (Ê 3)) (fun c=>(Wr.gJ (n:=2) rfl (ĭ (ñ (i:=0) xX rfl zQ) (ĭ (ñ (i:=1) xX rfl zQ) Wr.dN)))) (fun c=>ś) (fun c=>(Ĝ (À (Wr.pZ rfl B.min (À (ò (Ê 7) (Ê 0)) (À (ò (Ê 7) (Ê 1)) Å))) (À (Wr.mj rfl B.max (À (ò (Ê 7) (Ê 0)) (À (ò (Ê 7) (Ê 1)) Å))) Å)))))
  (Ó (ö (some 0) (i:=7) nd rfl zQ (Ņ Å))
  (Ó (Wr.cV Ą rfl (ĵ (Ĝ (À Õ (À Õ Å)))) (ñ (i:=8) nd rfl zQ) (Ó (ö none (i:=9) nd rfl zQ (Wr.dcT (C:=CP) (i:=1) C_puts hr (À (Ĝ (À (Ê 2) (À (Ê 3) Å))) (À (Ê 8) Å))))
  (Ó (Wr.cG (Ř 7) (À (Ň B.len (À (ò (Ê 9) Õ) Å)) Å))
  (Ó (ŋ (Wr.jN hr.units (Wr.dcT (C:=CP) (i:=1) C__law_many hr (À (Ê 2) (À (Ê 6) (À (Ê 8) Å)))) (ò (Ê 7) (Wr.iH Õ))) (ð (ā Ş)) Č)
  (Ó (ŋ (Wr.wpt (Wr.gb (Wr.jO hr.units (Ê 8) (Ê 4)) (Wr.d8 (ŵ (Ś (Wr.dcP C__law_ladder hr (Ř 1) (À (Ê 2) (À (Ê 3) (À (Ê 8) (À (ò (Ê 9) Õ) Å)))))))))) (ð (ā Ş)) Č)
  (Ó (ŋ (Wr.wpt (Wr.gb (Wr.iG (Ê 2) Õ) (Wr.d8 (ŵ (Ś (Wr.dcP C__law_near hr (Ř 1) (À (Ê 2) (À (Ê 3) (À (Ê 8) (À (ò (Ê 7) (Wr.iH Õ)) Å)))))))))) (ð (ā Ş)) Č)
  (Ó (ŋ (Wr.wpt (Wr.gb (Wr.iG (Ê 2) Õ) (Wr.d8 (ŵ (Ś (Wr.dcP C__law_let_by hr (Ř 1) (À (Ê 2) (À (Ê 3) (À (Ê 8) (À (Ê 9) Å)))))))))) (ð (ā Ş)) Č) (ĕ [8,9] Č))))))))
  (ĕ [8,9] (ð (ā (Wr.BL (ò (Ê 7) Õ) (ò (Ê 7) Õ))))))))))))),Qy hS q (by decide) ?_⟩
 refine⟨rfl,6,rfl,by decide,by decide,fun n us n1 n6 lu ok=>⟨rfl,yR ?_⟩⟩
 obtain⟨m,rfl⟩:∃ m:Nat,n=((m:Nat):Int):=⟨n.toNat,by omega⟩
 have hu:RgT m us:=fun t ht=>ok t ht
 have m1:1<=m:=by omega
 have m8:m<=8:=by omega
 refine⟨rfl,2,rfl,by decide,by decide,fun r r0 r1=>⟨rfl,((m:Nat):Int),rfl,by omega,by omega,fun l hl=>?_⟩⟩
 refine sO us pD (fun t=>pD ((if sgF l t.2<sgF l t.1 then sgF l t.2 else sgF l t.1),(if sgF l t.2 > sgF l t.1 then sgF l t.2 else sgF l t.1))) .imm rfl (by omega) (fun t ht A B hA=>⟨rfl,aM (B:=B) ⟨_,(fV hl (hu t ht).1).1,_,(fV hl (hu t ht).2).1,_,(fV hl (hu t ht).1).1,_,(fV hl (hu t ht).2).1,zK,rfl,hA⟩⟩) ?_
 have el:ē (us.map fun t=>pD ((if sgF l t.2<sgF l t.1 then sgF l t.2 else sgF l t.1),(if sgF l t.2 > sgF l t.1 then sgF l t.2 else sgF l t.1)))=.list ((qZ l us).map pD):=by
  unfold qZ
  rw [ý]
  rfl
 rw [el]
 have ll:(qZ l us).length=us.length:=Á _
 have ks:∀ k:Nat,2<=k->k<=3->RgT m (qZ l us)/\optN m k (qZ l us)=optN m k us:=fun k k2 k3=>Lp m1 m8 k2 k3 hu hl
 generalize qZ l us=led at ll ks
 show pN _ _ _ [.any,.pen (CT CP (aL PT)),.im (.int ((m:Nat):Int)),.im (.tuple (us.map pD)),.im (.int (1+r)),.sn (iD l),.sn (.list (led.map pD)),.any,.any,.any]
 refine⟨zK,zK,rfl,fun (i:Nat) ρ=>ρ=[.any,.pen (CT CP (aL PT)),.im (.int ((m:Nat):Int)),.im (.tuple (us.map pD)),.im (.int (1+r)),.sn (iD l),.sn (.list (led.map pD)),.dw 0 (.list (([optN m 2 us,optN m 3 us].take i).map fun x:Nat=>Â ((x:Nat):Int))),.any,.any],rfl,?_,?_⟩
 ·rintro i d ρ hd rfl
  obtain⟨k,rfl,k2,k3,tk⟩:∃ k:Nat,d=.int ((k:Int) - 1)/\2<=k/\k<=3/\[optN m 2 us,optN m 3 us].take (i+1)=[optN m 2 us,optN m 3 us].take i++[optN m k us]:=by
   rcases i with _ | _ | i
   ·cases hd; exact⟨2,rfl,by decide,by decide,rfl⟩
   ·cases hd; exact⟨3,rfl,by decide,by decide,rfl⟩
   ·cases hd
  have lc:([optN m 2 us,optN m 3 us].take i).length<=2:=by rw [Ċ]; exact Nat.min_le_right ..
  generalize [optN m 2 us,optN m 3 us].take i=cs at tk lc ⊢
  refine⟨rfl,zK,m,k,us,rfl,m1,m8,k2,k3,by omega,hu,fun A F pk=>?_⟩
  have la:A.length=optN m k us:=pk.perm.length_eq
  obtain⟨g1,g2,g3,g4⟩:=rR m1 m8 k2 k3 hu
  obtain⟨e1,e2,e3,e4,e5,e6⟩:=qg (k:=k) m1 m8 k3 hu
  have lA:A.length<=13:=by have:=pk.perm.length_eq; omega
  obtain⟨rl,ol⟩:=ks k k2 k3
  have ec:(cs.map fun x:Nat=>Â ((x:Nat):Int))++[Â (((A.map pD).length:Nat):Int)]=(cs++[optN m k us]).map fun x:Nat=>Â ((x:Nat):Int):=by
   rw [Á,la,Ø]
   rfl
  have at1:atI ((cs++[optN m k us]).map fun x:Nat=>Â ((x:Nat):Int)) (-1)=some (.int ((optN m k us:Nat):Int)):=by
   rw [Ø]
   exact yN _ _
  refine⟨.list (A.map pD),rfl,rfl,by rw [Á]; omega,?_⟩
  rw [ec]
  show pN _ _ _ [.any,.pen (CT CP (aL PT)),.im (.int ((m:Nat):Int)),.im (.tuple (us.map pD)),.im (.int (1+r)),.sn (iD l),.sn (.list (led.map pD)),.dw 0 (.list ((cs++[optN m k us]).map fun x:Nat=>Â ((x:Nat):Int))),.im (.int ((k:Int) - 1)),.sn (.tuple [.list (A.map pD),.list (F.map iD)])]
  refine⟨rfl,m,k,led,_,rfl,.inl rfl,m1,m8,k2,k3,by omega,rl,_,at1,?_⟩
  show if (!decide (((optN m k led:Nat):Int)=((optN m k us:Nat):Int)))=true then _ else _
  rw [ol,decide_eq_true rfl]
  refine aN (A:=True) ?_
  have fin:∀ E:DEnds,E.nx [.any,.pen (CT CP (aL PT)),.im (.int ((m:Nat):Int)),.im (.tuple (us.map pD)),.im (.int (1+r)),.sn (iD l),.sn (.list (led.map pD)),.dw 0 (.list (([optN m 2 us,optN m 3 us].take (i+1)).map fun x:Nat=>Â ((x:Nat):Int))),.any,.any]->pN
             (dIf
              (Jy (cR (t2 (gI0 fun i j=>Ľ (decide (j<i))) (tV 2) (tK (Â 1))))
               (Mf
                (cR
                 (Gj (CT CP (aL PT)) Jg 1
                  (aG (tV 2)
                   (aG (tV 3)
                    (aG (tV 8) (aG (t2 gIx (tV 7) (J0 (tK (Â 1)))) cu))))))))
              (sS (tK (Ľ false))) mV)
             (pN
              (dIf
               (Jy (cR (t2 (gI0 fun i j=>Ľ (decide (j<i))) (tV 2) (tK (Â 1))))
                (Mf
                 (cR
                  (Gj (CT CP (aL PT)) Ji 1
                   (aG (tV 2) (aG (tV 3) (aG (tV 8) (aG (tV 9) cu))))))))
               (sS (tK (Ľ false))) mV)
              (rM [8,9] mV)) E [.any,.pen (CT CP (aL PT)),.im (.int ((m:Nat):Int)),.im (.tuple (us.map pD)),.im (.int (1+r)),.sn (iD l),.sn (.list (led.map pD)),.dw 0 (.list ((cs++[optN m k us]).map fun x:Nat=>Â ((x:Nat):Int))),.im (.int ((k:Int) - 1)),.sn (.tuple [.list (A.map pD),.list (F.map iD)])]:=by
   intro E hE
   rw [tk] at hE
   show if decide ((1:Int)<((m:Nat):Int))=true then _ else _
   by_cases c:1<m
   ·rw [decide_eq_true (by omega)]
    refine aM (B:=True) ⟨rfl,_,at1,m,k,us,rfl,by omega,m8,k2,k3,by omega,hu,aN (A:=True) ?_⟩
    show if decide ((1:Int)<((m:Nat):Int))=true then _ else _
    rw [decide_eq_true (by omega)]
    exact aM (B:=True) ⟨rfl,m,k,us,A,F,rfl,by omega,m8,k2,k3,by omega,hu,pk,aN (A:=True) hE⟩
   ·rw [decide_eq_false (by omega)]
    refine aN (A:=True) (aN (A:=True) ?_)
    show if decide ((1:Int)<((m:Nat):Int))=true then _ else _
    rw [decide_eq_false (by omega)]
    exact aN (A:=True) (aN (A:=True) hE)
  show if decide ((k:Int) - 1=1+r)=true then _ else _
  by_cases c:(k:Int) - 1=1+r
  ·rw [decide_eq_true c]
   exact aM (B:=True) ⟨rfl,.list (A.map pD),rfl,m,k,us,A,rfl,m1,m8,k2,k3,by omega,lA,hu,pk.perm,aN (A:=True) (fin _ rfl)⟩
  ·rw [decide_eq_false c]
   exact aN (A:=True) (aN (A:=True) (fin _ rfl))
 ·rintro ρ rfl
  have:=Dy m1 m8 hu
  refine⟨.int ((optN m 2 us:Nat):Int),rfl,.int ((optN m 3 us:Nat):Int),rfl,rfl,?_⟩
  show Ľ (decide (((optN m 2 us:Nat):Int)<=((optN m 3 us:Nat):Int)))=.bool true
  rw [decide_eq_true (by omega)]
end
theorem len1 {α:Type}:∀ us:List α,us.length=1->∃ a,us=[a]
 | [a],_=>⟨a,rfl⟩
theorem len2 {α:Type}:∀ us:List α,us.length=2->∃ a b,us=[a,b]
 | [a,b],_=>⟨a,b,rfl⟩
theorem UL {α:Type}:∀ us:List α,us.length=3->∃ a b c,us=[a,b,c]
 | [a,b,c],_=>⟨a,b,c,rfl⟩
theorem Lk {α:Type}:∀ us:List α,us.length=4->∃ a b c d,us=[a,b,c,d]
 | [a,b,c,d],_=>⟨a,b,c,d,rfl⟩
theorem Qa {α:Type}:∀ us:List α,us.length=5->∃ a b c d e,us=[a,b,c,d,e]
 | [a,b,c,d,e],_=>⟨a,b,c,d,e,rfl⟩
theorem aA {K:Ú}{f:Addr}{oc:Value}{od:Option Addr}{fd:FuncData}{sl:Array (Option Value)} (l:K.lookup f=some ⟨oc,od,.func fd,sl⟩):W.keepIn K (.ref f)=true:=by
 unfold W.keepIn
 simp only [l]
theorem aF {P:Program}{w:World}{K:Ú}{mg:Str->Option Value}{base:Heap}{k:Nat}{x:Str}{st:Stmt}{f:Addr}{fd:FuncData}{ps:List Str}{sp:Sp} (F:Fun K x x st f fd) (b:Binds K fd ps []) (m:mg x=some (.ref f)) (h:FnOk P w K mg base CX0 k f fd ps sp) :
  ø P w K mg base k x ps sp:=⟨f,fd,h,b,F.kp,m⟩
abbrev zl (K:Ú) (f:Addr) (x:Str) (st:Stmt) (oc:Value) (od:Option Addr) (kV dc pm:Value) (an:Option Addr) (cd ct:Value) (sl:Array (Option Value)):Prop:=K.lookup f=some ⟨oc,od,.func (W.fnOf x x (gw st) (cI st) (ao st) .none kV dc pm an cd ct),sl⟩
abbrev za (K:Ú) (x:Str) (f:Addr):Prop:=W.nsIn K mainGlobals x=some (some (.ref f))
abbrev zc (K:Ú) (x:Str) (cd:Value):Prop:=W.codeIn K cd x=true
abbrev zn (K:Ú) (x:Str):Prop:=W.nsIn K mainGlobals x=some none
theorem all_mk {l:W.OpenLaw}{w:World}{K:Ú}{h:Heap}{mg:Str->Option Value}{c PT fa f0 f1 f2 f3 f4 f5 f6 f7 f8 f9 f10 f11 f12 f13 f14 f15 f16 f17 f18 f19 f20 f21 f22 f23 f24 f25 f26 f27 f28 f29 f30 f31 f32 f33 f34 f35 f36 f37 f38 f39 f40 f41 f42 f43 f44:Addr} (hT:h.get? PT=some (W.tabObj #[])) (X:K.In h) (G:h.Ns mainGlobals mg) (hfa:mg "law"=some (.ref fa))
  {od0 an0 od1 an1 od2 an2 od3 an3 od4 an4 od5 an5 od6 an6 od7 an7 od8 an8 od9 an9 od10 an10 od11 an11 od12 an12 od13 an13 od14 an14 od15 an15 od16 an16 od17 an17 od18 an18 od19 an19 od20 an20 od21 an21 od22 an22 od23 an23 od24 an24 od25 an25 od26 an26 od27 an27 od28 an28 od29 an29 od30 an30 od31 an31 od32 an32 od33 an33 od34 an34 od35 an35 od36 an36 od37 an37 od38 an38 od39 an39 od40 an40 od41 an41 od42 an42 od43 an43 od44 an44:Option Addr}{sl0 sl1 sl2 sl3 sl4 sl5 sl6 sl7 sl8 sl9 sl10 sl11 sl12 sl13 sl14 sl15 sl16 sl17 sl18 sl19 sl20 sl21 sl22 sl23 sl24 sl25 sl26 sl27 sl28 sl29 sl30 sl31 sl32 sl33 sl34 sl35 sl36 sl37 sl38 sl39 sl40 sl41 sl42 sl43 sl44:Array (Option Value)}{oc0 kV0 dc0 pm0 cd0 ct0 oc1 kV1 dc1 pm1 cd1 ct1 oc2 kV2 dc2 pm2 cd2 ct2 oc3 kV3 dc3 pm3 cd3 ct3 oc4 kV4 dc4 pm4 cd4 ct4 oc5 kV5 dc5 pm5 cd5 ct5 oc6 kV6 dc6 pm6 cd6 ct6 oc7 kV7 dc7 pm7 cd7 ct7 oc8 kV8 dc8 pm8 cd8 ct8 oc9 kV9 dc9 pm9 cd9 ct9 oc10 kV10 dc10 pm10 cd10 ct10 oc11 kV11 dc11 pm11 cd11 ct11 oc12 kV12 dc12 pm12 cd12 ct12 oc13 kV13 dc13 pm13 cd13 ct13 oc14 kV14 dc14 pm14 cd14 ct14 oc15 kV15 dc15 pm15 cd15 ct15 oc16 kV16 dc16 pm16 cd16 ct16 oc17 kV17 dc17 pm17 cd17 ct17 oc18 kV18 dc18 pm18 cd18 ct18 oc19 kV19 dc19 pm19 cd19 ct19 oc20 kV20 dc20 pm20 cd20 ct20 oc21 kV21 dc21 pm21 ct21 oc22 kV22 dc22 pm22 cd22 ct22 oc23 kV23 dc23 pm23 cd23 ct23 oc24 kV24 dc24 pm24 cd24 ct24 oc25 kV25 dc25 pm25 cd25 ct25 oc26 kV26 dc26 pm26 cd26 ct26 oc27 kV27 dc27 pm27 cd27 ct27 oc28 kV28 dc28 pm28 cd28 ct28 oc29 kV29 dc29 pm29 cd29 ct29 oc30 kV30 dc30 pm30 cd30 ct30 oc31 kV31 dc31 pm31 cd31 ct31 oc32 kV32 dc32 pm32 cd32 ct32 oc33 kV33 dc33 pm33 cd33 ct33 oc34 kV34 dc34 pm34 cd34 ct34 oc35 kV35 dc35 pm35 cd35 ct35 oc36 kV36 dc36 pm36 cd36 ct36 oc37 kV37 dc37 pm37 cd37 ct37 oc38 kV38 dc38 pm38 cd38 ct38 oc39 kV39 dc39 pm39 cd39 ct39 oc40 kV40 dc40 pm40 cd40 ct40 oc41 kV41 dc41 pm41 cd41 ct41 oc42 kV42 dc42 pm42 cd42 ct42 oc43 kV43 dc43 pm43 cd43 ct43 oc44 kV44 dc44 pm44 cd44 ct44:Value}
  (a0:za K "is_whole" f0) (l0:zl K f0 "is_whole" (top 4) oc0 od0 kV0 dc0 pm0 an0 cd0 ct0 sl0) (c0:zc K "is_whole" cd0)
  (a1:za K "is_below" f1) (l1:zl K f1 "is_below" (top 5) oc1 od1 kV1 dc1 pm1 an1 cd1 ct1 sl1) (c1:zc K "is_below" cd1)
  (a2:za K "is_tie" f2) (l2:zl K f2 "is_tie" (top 6) oc2 od2 kV2 dc2 pm2 an2 cd2 ct2 sl2) (c2:zc K "is_tie" cd2)
  (a3:za K "with_ties" f3) (l3:zl K f3 "with_ties" (top 7) oc3 od3 kV3 dc3 pm3 an3 cd3 ct3 sl3) (c3:zc K "with_ties" cd3)
  (a4:za K "hops" f4) (l4:zl K f4 "hops" (top 9) oc4 od4 kV4 dc4 pm4 an4 cd4 ct4 sl4) (c4:zc K "hops" cd4)
  (a5:za K "is_rising" f5) (l5:zl K f5 "is_rising" (top 11) oc5 od5 kV5 dc5 pm5 an5 cd5 ct5 sl5) (c5:zc K "is_rising" cd5)
  (a6:za K "is_proper_set" f6) (l6:zl K f6 "is_proper_set" (top 12) oc6 od6 kV6 dc6 pm6 an6 cd6 ct6 sl6) (c6:zc K "is_proper_set" cd6)
  (a7:za K "check_set" f7) (l7:zl K f7 "check_set" (top 13) oc7 od7 kV7 dc7 pm7 an7 cd7 ct7 sl7) (c7:zc K "check_set" cd7)
  (a8:za K "sets_below" f8) (l8:zl K f8 "sets_below" (top 14) oc8 od8 kV8 dc8 pm8 an8 cd8 ct8 sl8) (c8:zc K "sets_below" cd8)
  (a9:za K "proper_sets" f9) (l9:zl K f9 "proper_sets" (top 15) oc9 od9 kV9 dc9 pm9 an9 cd9 ct9 sl9) (c9:zc K "proper_sets" cd9)
  (a10:za K "leaves" f10) (l10:zl K f10 "leaves" (top 16) oc10 od10 kV10 dc10 pm10 an10 cd10 ct10 sl10) (c10:zc K "leaves" cd10)
  (a11:za K "ties_that_leave" f11) (l11:zl K f11 "ties_that_leave" (top 17) oc11 od11 kV11 dc11 pm11 an11 cd11 ct11 sl11) (c11:zc K "ties_that_leave" cd11)
  (a12:za K "leaving" f12) (l12:zl K f12 "leaving" (top 18) oc12 od12 kV12 dc12 pm12 an12 cd12 ct12 sl12) (c12:zc K "leaving" cd12)
  (a13:za K "need" f13) (l13:zl K f13 "need" (top 19) oc13 od13 kV13 dc13 pm13 an13 cd13 ct13 sl13) (c13:zc K "need" cd13)
  (a14:za K "is_family" f14) (l14:zl K f14 "is_family" (top 21) oc14 od14 kV14 dc14 pm14 an14 cd14 ct14 sl14) (c14:zc K "is_family" cd14)
  (a15:za K "check_family" f15) (l15:zl K f15 "check_family" (top 22) oc15 od15 kV15 dc15 pm15 an15 cd15 ct15 sl15) (c15:zc K "check_family" cd15)
  (a16:za K "half_made_whole" f16) (l16:zl K f16 "half_made_whole" (top 23) oc16 od16 kV16 dc16 pm16 an16 cd16 ct16 sl16) (c16:zc K "half_made_whole" cd16)
  (a17:za K "bound" f17) (l17:zl K f17 "bound" (top 24) oc17 od17 kV17 dc17 pm17 an17 cd17 ct17 sl17) (c17:zc K "bound" cd17)
  (a18:za K "best_with" f18) (l18:zl K f18 "best_with" (top 25) oc18 od18 kV18 dc18 pm18 an18 cd18 ct18 sl18) (c18:zc K "best_with" cd18)
  (a19:za K "heaviest_apart" f19) (l19:zl K f19 "heaviest_apart" (top 26) oc19 od19 kV19 dc19 pm19 an19 cd19 ct19 sl19) (c19:zc K "heaviest_apart" cd19)
  (a20:za K "heaviest_family" f20) (l20:zl K f20 "heaviest_family" (top 27) oc20 od20 kV20 dc20 pm20 an20 cd20 ct20 sl20) (c20:zc K "heaviest_family" cd20)
  (a21:za K "best_family" f21) (l21:zl K f21 "best_family" (top 28) oc21 od21 kV21 dc21 pm21 an21 (.ref c) ct21 sl21) (c21:zc K "best_family" (.ref c))
  (a22:za K "with_spares" f22) (l22:zl K f22 "with_spares" (top 30) oc22 od22 kV22 dc22 pm22 an22 cd22 ct22 sl22) (c22:zc K "with_spares" cd22)
  (a23:za K "fewest_ends" f23) (l23:zl K f23 "fewest_ends" (top 31) oc23 od23 kV23 dc23 pm23 an23 cd23 ct23 sl23) (c23:zc K "fewest_ends" cd23)
  (a24:za K "can_be_tied" f24) (l24:zl K f24 "can_be_tied" (top 32) oc24 od24 kV24 dc24 pm24 an24 cd24 ct24 sl24) (c24:zc K "can_be_tied" cd24)
  (a25:za K "tied" f25) (l25:zl K f25 "tied" (top 33) oc25 od25 kV25 dc25 pm25 an25 cd25 ct25 sl25) (c25:zc K "tied" cd25)
  (a26:za K "tie_ends" f26) (l26:zl K f26 "tie_ends" (top 34) oc26 od26 kV26 dc26 pm26 an26 cd26 ct26 sl26) (c26:zc K "tie_ends" cd26)
  (a27:za K "puts" f27) (l27:zl K f27 "puts" (top 35) oc27 od27 kV27 dc27 pm27 an27 cd27 ct27 sl27) (c27:zc K "puts" cd27)
  (a28:za K "needy_set" f28) (l28:zl K f28 "needy_set" (top 37) oc28 od28 kV28 dc28 pm28 an28 cd28 ct28 sl28) (c28:zc K "needy_set" cd28)
  (a29:za K "stands" f29) (l29:zl K f29 "stands" (top 38) oc29 od29 kV29 dc29 pm29 an29 cd29 ct29 sl29) (c29:zc K "stands" cd29)
  (a30:za K "are_leads" f30) (l30:zl K f30 "are_leads" (top 40) oc30 od30 kV30 dc30 pm30 an30 cd30 ct30 sl30) (c30:zc K "are_leads" cd30)
  (a31:za K "are_added" f31) (l31:zl K f31 "are_added" (top 41) oc31 od31 kV31 dc31 pm31 an31 cd31 ct31 sl31) (c31:zc K "are_added" cd31)
  (a32:za K "lets_by" f32) (l32:zl K f32 "lets_by" (top 42) oc32 od32 kV32 dc32 pm32 an32 cd32 ct32 sl32) (c32:zc K "lets_by" cd32)
  (a33:za K "_law_pen" f33) (l33:zl K f33 "_law_pen" (top 44) oc33 od33 kV33 dc33 pm33 an33 cd33 ct33 sl33) (c33:zc K "_law_pen" cd33)
  (a34:za K "_law_draw" f34) (l34:zl K f34 "_law_draw" (top 45) oc34 od34 kV34 dc34 pm34 an34 cd34 ct34 sl34) (c34:zc K "_law_draw" cd34)
  (a35:za K "_law_order" f35) (l35:zl K f35 "_law_order" (top 46) oc35 od35 kV35 dc35 pm35 an35 cd35 ct35 sl35) (c35:zc K "_law_order" cd35)
  (a36:za K "_law_ties" f36) (l36:zl K f36 "_law_ties" (top 47) oc36 od36 kV36 dc36 pm36 an36 cd36 ct36 sl36) (c36:zc K "_law_ties" cd36)
  (a37:za K "_law_web" f37) (l37:zl K f37 "_law_web" (top 48) oc37 od37 kV37 dc37 pm37 an37 cd37 ct37 sl37) (c37:zc K "_law_web" cd37)
  (a38:za K "_law_family" f38) (l38:zl K f38 "_law_family" (top 49) oc38 od38 kV38 dc38 pm38 an38 cd38 ct38 sl38) (c38:zc K "_law_family" cd38)
  (a39:za K "_law_tie" f39) (l39:zl K f39 "_law_tie" (top 50) oc39 od39 kV39 dc39 pm39 an39 cd39 ct39 sl39) (c39:zc K "_law_tie" cd39)
  (a40:za K "_law_many" f40) (l40:zl K f40 "_law_many" (top 51) oc40 od40 kV40 dc40 pm40 an40 cd40 ct40 sl40) (c40:zc K "_law_many" cd40)
  (a41:za K "_law_ladder" f41) (l41:zl K f41 "_law_ladder" (top 52) oc41 od41 kV41 dc41 pm41 an41 cd41 ct41 sl41) (c41:zc K "_law_ladder" cd41)
  (a42:za K "_law_near" f42) (l42:zl K f42 "_law_near" (top 53) oc42 od42 kV42 dc42 pm42 an42 cd42 ct42 sl42) (c42:zc K "_law_near" cd42)
  (a43:za K "_law_let_by" f43) (l43:zl K f43 "_law_let_by" (top 54) oc43 od43 kV43 dc43 pm43 an43 cd43 ct43 sl43) (c43:zc K "_law_let_by" cd43)
  (a44:za K "law" f44) (l44:zl K f44 "law" (top 55) oc44 od44 kV44 dc44 pm44 an44 cd44 ct44 sl44) (c44:zc K "law" cd44)
  (z0:zn K "isinstance")
  (z1:zn K "int")
  (z2:zn K "bool")
  (z3:zn K "tuple")
  (z4:zn K "list")
  (z5:zn K "len")
  (z6:zn K "all")
  (z7:zn K "min")
  (z8:zn K "max")
  (z9:zn K "sorted")
  (z10:zn K "range")
  (z11:zn K "abs")
  (z12:zn K "zip")
  (z13:zn K "set")
  (z14:zn K "sum")
  {occ:Value}{odc:Option Addr}{vsc:Array Value}{slc:Array (Option Value)} (lc:K.lookup c=some ⟨occ,odc,.fields vsc,slc⟩) (v11:vsc[11]?=some (.ref PT)) (hP0:K.lookup PT=none) (hcI:W.codeHdIn K c PT=true)
  :
  ∃ (K':Ú) (c PT:Addr) (fd:FuncData) (sp:Sp),K'.In h/\K'.lookup PT=none/\W.CodeHd h c PT/\h.get? PT=some (W.tabObj #[])/\(∀ (s:Shared) (u:Value),BindsTo s fd ⟨[u],[]⟩ [("_law_script",u)]) /\
    (∀ base:Heap,K'.In base->base.Ns mainGlobals mg->base.BuiltinsAt mg PT->FnOk l.prog w K' mg base CX0 15 fa fd ["_law_script"] sp)/\∀ (H:Hp) (a:Addr) (ns:List Int),SqL K' H a (ns.map Ž)->H PT=some (.tbl #[])->sp [.ref a] H (fun v _=>v=.bl true) fun _ _ _=>False:=by
 have e:=hfa.symm.trans (ÿ X G a44)
 cases e
 have F0:=ď (st:=top 4) l0 c0 (aA l0)
 have b0:=F0.binds (ps:=["thing"])
 have m0:=ÿ X G a0
 have F1:=ď (st:=top 5) l1 c1 (aA l1)
 have b1:=F1.binds (ps:=["limit","thing"])
 have m1:=ÿ X G a1
 have F2:=ď (st:=top 6) l2 c2 (aA l2)
 have b2:=F2.binds (ps:=["n","thing"])
 have m2:=ÿ X G a2
 have F3:=ď (st:=top 7) l3 c3 (aA l3)
 have b3:=F3.binds (ps:=["web","added"])
 have m3:=ÿ X G a3
 have F4:=ď (st:=top 9) l4 c4 (aA l4)
 have b4:=F4.binds (ps:=["places"])
 have m4:=ÿ X G a4
 have F5:=ď (st:=top 11) l5 c5 (aA l5)
 have b5:=F5.binds (ps:=["limit","thing"])
 have m5:=ÿ X G a5
 have F6:=ď (st:=top 12) l6 c6 (aA l6)
 have b6:=F6.binds (ps:=["n","thing"])
 have m6:=ÿ X G a6
 have F7:=ď (st:=top 13) l7 c7 (aA l7)
 have b7:=F7.binds (ps:=["web","thing"])
 have m7:=ÿ X G a7
 have F8:=ď (st:=top 14) l8 c8 (aA l8)
 have b8:=F8.binds (ps:=["count"])
 have m8:=ÿ X G a8
 have F9:=ď (st:=top 15) l9 c9 (aA l9)
 have b9:=F9.binds (ps:=["n"])
 have m9:=ÿ X G a9
 have F10:=ď (st:=top 16) l10 c10 (aA l10)
 have b10:=F10.binds (ps:=["tie","some"])
 have m10:=ÿ X G a10
 have F11:=ď (st:=top 17) l11 c11 (aA l11)
 have b11:=F11.binds (ps:=["web","some"])
 have m11:=ÿ X G a11
 have F12:=ď (st:=top 18) l12 c12 (aA l12)
 have b12:=F12.binds (ps:=["web","some"])
 have m12:=ÿ X G a12
 have F13:=ď (st:=top 19) l13 c13 (aA l13)
 have b13:=F13.binds (ps:=["web","falls","some"])
 have m13:=ÿ X G a13
 have F14:=ď (st:=top 21) l14 c14 (aA l14)
 have b14:=F14.binds (ps:=["n","thing"])
 have m14:=ÿ X G a14
 have F15:=ď (st:=top 22) l15 c15 (aA l15)
 have b15:=F15.binds (ps:=["web","thing"])
 have m15:=ÿ X G a15
 have F16:=ď (st:=top 23) l16 c16 (aA l16)
 have b16:=F16.binds (ps:=["total"])
 have m16:=ÿ X G a16
 have F17:=ď (st:=top 24) l17 c17 (aA l17)
 have b17:=F17.binds (ps:=["web","falls","family"])
 have m17:=ÿ X G a17
 have F18:=ď (st:=top 25) l18 c18 (aA l18)
 have b18:=F18.binds (ps:=["weights","best","top","rest"]) fun _ _ _ _ _ _ us hl=>by obtain⟨_,_,_,_,rfl⟩:=Lk us hl; rfl
 have m18:=ÿ X G a18
 have F19:=ď (st:=top 26) l19 c19 (aA l19)
 have b19:=F19.binds (ps:=["weights"])
 have m19:=ÿ X G a19
 have F20:=ď (st:=top 27) l20 c20 (aA l20)
 have b20:=F20.binds (ps:=["n","weigh"])
 have m20:=ÿ X G a20
 have F21:=ď (st:=top 28) l21 c21 (aA l21)
 have b21:=F21.binds (ps:=["web","falls"])
 have m21:=ÿ X G a21
 have F22:=ď (st:=top 30) l22 c22 (aA l22)
 have b22:=F22.binds (ps:=["rows","ends","most"])
 have m22:=ÿ X G a22
 have F23:=ď (st:=top 31) l23 c23 (aA l23)
 have b23:=F23.binds (ps:=["n","rows","most"])
 have m23:=ÿ X G a23
 have F24:=ď (st:=top 32) l24 c24 (aA l24)
 have b24:=F24.binds (ps:=["spares","a","b","taken"]) fun _ _ _ _ _ _ us hl=>by obtain⟨_,_,_,_,rfl⟩:=Lk us hl; rfl
 have m24:=ÿ X G a24
 have F25:=ď (st:=top 33) l25 c25 (aA l25)
 have b25:=F25.binds (ps:=["spares","a","b","taken"]) fun _ _ _ _ _ _ us hl=>by obtain⟨_,_,_,_,rfl⟩:=Lk us hl; rfl
 have m25:=ÿ X G a25
 have F26:=ď (st:=top 34) l26 c26 (aA l26)
 have b26:=F26.binds (ps:=["spares","ends"])
 have m26:=ÿ X G a26
 have F27:=ď (st:=top 35) l27 c27 (aA l27)
 have b27:=F27.binds (ps:=["web","falls"])
 have m27:=ÿ X G a27
 have F28:=ď (st:=top 37) l28 c28 (aA l28)
 have b28:=F28.binds (ps:=["web","falls"])
 have m28:=ÿ X G a28
 have F29:=ď (st:=top 38) l29 c29 (aA l29)
 have b29:=F29.binds (ps:=["web","falls"])
 have m29:=ÿ X G a29
 have F30:=ď (st:=top 40) l30 c30 (aA l30)
 have b30:=F30.binds (ps:=["web","thing"])
 have m30:=ÿ X G a30
 have F31:=ď (st:=top 41) l31 c31 (aA l31)
 have b31:=F31.binds (ps:=["web","thing"])
 have m31:=ÿ X G a31
 have F32:=ď (st:=top 42) l32 c32 (aA l32)
 have b32:=F32.binds (ps:=["web","falls","added","family"]) fun _ _ _ _ _ _ us hl=>by obtain⟨_,_,_,_,rfl⟩:=Lk us hl; rfl
 have m32:=ÿ X G a32
 have F33:=ď (st:=top 44) l33 c33 (aA l33)
 have b33:=F33.binds (ps:=["_law_script"])
 have m33:=ÿ X G a33
 have F34:=ď (st:=top 45) l34 c34 (aA l34)
 have b34:=F34.binds (ps:=["_law_pen_here","_law_many_here"])
 have m34:=ÿ X G a34
 have F35:=ď (st:=top 46) l35 c35 (aA l35)
 have b35:=F35.binds (ps:=["_law_pen_here","_law_n"])
 have m35:=ÿ X G a35
 have F36:=ď (st:=top 47) l36 c36 (aA l36)
 have b36:=F36.binds (ps:=["_law_pen_here","_law_n"])
 have m36:=ÿ X G a36
 have F37:=ď (st:=top 48) l37 c37 (aA l37)
 have b37:=F37.binds (ps:=["_law_pen_here","_law_most"])
 have m37:=ÿ X G a37
 have F38:=ď (st:=top 49) l38 c38 (aA l38)
 have b38:=F38.binds (ps:=["_law_pen_here","_law_n"])
 have m38:=ÿ X G a38
 have F39:=ď (st:=top 50) l39 c39 (aA l39)
 have b39:=F39.binds (ps:=["_law_pen_here","_law_n"])
 have m39:=ÿ X G a39
 have F40:=ď (st:=top 51) l40 c40 (aA l40)
 have b40:=F40.binds (ps:=["_law_n","_law_ties_here","_law_falls"])
 have m40:=ÿ X G a40
 have F41:=ď (st:=top 52) l41 c41 (aA l41)
 have b41:=F41.binds (ps:=["_law_pen_here","_law_n","_law_ties_here","_law_falls","_law_added"]) fun _ _ _ _ _ _ us hl=>by obtain⟨_,_,_,_,_,rfl⟩:=Qa us hl; rfl
 have m41:=ÿ X G a41
 have F42:=ď (st:=top 53) l42 c42 (aA l42)
 have b42:=F42.binds (ps:=["_law_pen_here","_law_n","_law_ties_here","_law_falls","_law_many_here"]) fun _ _ _ _ _ _ us hl=>by obtain⟨_,_,_,_,_,rfl⟩:=Qa us hl; rfl
 have m42:=ÿ X G a42
 have F43:=ď (st:=top 54) l43 c43 (aA l43)
 have b43:=F43.binds (ps:=["_law_pen_here","_law_n","_law_ties_here","_law_falls","_law_told"]) fun _ _ _ _ _ _ us hl=>by obtain⟨_,_,_,_,_,rfl⟩:=Qa us hl; rfl
 have m43:=ÿ X G a43
 have F44:=ď (st:=top 55) l44 c44 (aA l44)
 have B:ļ mg:=⟨ħ X G z0,ħ X G z1,ħ X G z2,ħ X G z3,ħ X G z4,ħ X G z5,ħ X G z6,ħ X G z7,ħ X G z8,ħ X G z9,ħ X G z10,ħ X G z11⟩
 have N12:=ħ X G z12
 have N13:=ħ X G z13
 have N14:=ħ X G z14
 have HC:∀ h:Heap,K.In h->W.CodeHd h c PT:=fun h X2=>W.codeHd_of_K X2 hcI
 refine⟨K,c,PT,W.fnOf "law" "law" (gw (top 55)) (cI (top 55)) (ao (top 55)) .none kV44 dc44 pm44 an44 cd44 ct44,Gp K (aL PT),X,hP0,W.codeHd_of_K X hcI,hT,fun s v=>.of_eq rfl,fun base _ _ hBm=>?_,fun H a ns hS hT=>⟨a,ns,rfl,hS,⟨_,hT,.inl rfl⟩,fun _=>rfl⟩⟩
 have C0:=fun base=>aF F0 b0 m0 (Hu (P:=l.prog) (w:=w) (base:=base) F0 B)
 have C1:=fun base=>aF F1 b1 m1 (Hy (P:=l.prog) (w:=w) (base:=base) F1 (C0 base))
 have C2:=fun base=>aF F2 b2 m2 (DW (P:=l.prog) (w:=w) (base:=base) F2 B (C1 base))
 have C3:=fun base=>aF F3 b3 m3 (vh (P:=l.prog) (w:=w) (base:=base) F3 B)
 have C4:=fun base=>aF F4 b4 m4 (K3 (P:=l.prog) (w:=w) (base:=base) F4 B N12)
 have C5:=fun base=>aF F5 b5 m5 (DN (P:=l.prog) (w:=w) (base:=base) F5 B (C1 base) (C4 base))
 have C6:=fun base=>aF F6 b6 m6 (DP (P:=l.prog) (w:=w) (base:=base) F6 B (C5 base))
 have C7:=fun base=>aF F7 b7 m7 (xT (P:=l.prog) (w:=w) (base:=base) F7 (C6 base))
 have C8:=fun base=>aF F8 b8 m8 (R5 (P:=l.prog) (w:=w) (base:=base) F8 B)
 have C9:=fun base=>aF F9 b9 m9 (qO (P:=l.prog) (w:=w) (base:=base) F9 B (C8 base))
 have C10:=fun base=>aF F10 b10 m10 (DQ (P:=l.prog) (w:=w) (base:=base) F10 )
 have C11:=fun base=>aF F11 b11 m11 (Ph (P:=l.prog) (w:=w) (base:=base) F11 (C7 base) (C10 base))
 have C12:=fun base=>aF F12 b12 m12 (K1 (P:=l.prog) (w:=w) (base:=base) F12 B (C11 base))
 have C13:=fun base=>aF F13 b13 m13 (KZ (P:=l.prog) (w:=w) (base:=base) F13 B (C12 base))
 have C14:=fun base=>aF F14 b14 m14 (Pq (P:=l.prog) (w:=w) (base:=base) F14 B N13 (C6 base))
 have C15:=fun base=>aF F15 b15 m15 (pH (P:=l.prog) (w:=w) (base:=base) F15 B (C14 base))
 have C16:=fun base=>aF F16 b16 m16 (kY (P:=l.prog) (w:=w) (base:=base) F16 B)
 have C17:=fun base=>aF F17 b17 m17 (Hx (P:=l.prog) (w:=w) (base:=base) F17 B N14 (C15 base) (C16 base) (C13 base))
 have C18:=fun base=>aF F18 b18 m18 (vm (P:=l.prog) (w:=w) (base:=base) F18 B)
 have C19:=fun base=>aF F19 b19 m19 (mF (P:=l.prog) (w:=w) (base:=base) F19 B (C18 base))
 have C21:=aF F21 b21 m21 (K5 (P:=l.prog) (w:=w) (base:=base) l21 c21 HC hBm ⟨⟨f20,_,fun base=>(kW (P:=l.prog) (w:=w) (base:=base) F20 B (C8 base) (C19 base)),b20,F20.kp,m20⟩⟩ C13)
 have C22:=fun base=>aF F22 b22 m22 (qN (P:=l.prog) (w:=w) (base:=base) F22 B)
 have C23:=fun base=>aF F23 b23 m23 (qP (P:=l.prog) (w:=w) (base:=base) F23 B (C22 base))
 have C24:=fun base=>aF F24 b24 m24 (qQ (P:=l.prog) (w:=w) (base:=base) F24 B)
 have C25:=fun base=>aF F25 b25 m25 (KR (P:=l.prog) (w:=w) (base:=base) F25 B)
 have C26:=fun base=>aF F26 b26 m26 (xP (P:=l.prog) (w:=w) (base:=base) F26 B (C24 base) (C25 base))
 have C27:=aF F27 b27 m27 (KY (P:=l.prog) (w:=w) (base:=base) F27 B (C9 base) (C12 base) (C23 base) (C26 base) (C22 base) C21)
 have C28:=fun base=>aF F28 b28 m28 (Hw (P:=l.prog) (w:=w) (base:=base) F28 (C8 base) (C13 base))
 have C29:=fun base=>aF F29 b29 m29 (Dz (P:=l.prog) (w:=w) (base:=base) F29 (C28 base))
 have C30:=fun base=>aF F30 b30 m30 (vo (P:=l.prog) (w:=w) (base:=base) F30 B (C2 base))
 have C31:=fun base=>aF F31 b31 m31 (vp (P:=l.prog) (w:=w) (base:=base) F31 B (C30 base))
 have C32:=fun base=>aF F32 b32 m32 (zM (P:=l.prog) (w:=w) (base:=base) F32 B (C14 base) (C31 base) (C29 base) (C3 base) (C17 base))
 have C33:=fun base=>aF F33 b33 m33 (Pj (P:=l.prog) (w:=w) (base:=base) F33 B)
 have C34:=fun base=>aF F34 b34 m34 (K4 (P:=l.prog) (w:=w) (base:=base) F34 B)
 have C35:=fun base=>aF F35 b35 m35 (Hv (P:=l.prog) (w:=w) (base:=base) F35 B (C34 base))
 have C36:=fun base=>aF F36 b36 m36 (KQ (P:=l.prog) (w:=w) (base:=base) F36 B (C34 base))
 have C37:=fun base=>aF F37 b37 m37 (KN (P:=l.prog) (w:=w) (base:=base) F37 B (C34 base) (C35 base) (C36 base))
 have C38:=fun base=>aF F38 b38 m38 (sH (P:=l.prog) (w:=w) (base:=base) F38 B (C34 base) (C35 base))
 have C39:=fun base=>aF F39 b39 m39 (zN (P:=l.prog) (w:=w) (base:=base) F39 B (C35 base))
 have C40:=aF F40 b40 m40 (xR (P:=l.prog) (w:=w) (base:=base) F40 B C27)
 have C41:=aF F41 b41 m41 (sG (P:=l.prog) (w:=w) (base:=base) (PT:=PT) F41 B (C35 base) C40 (C29 base))
 have C42:=aF F42 b42 m42 (xQ (P:=l.prog) (w:=w) (base:=base) (PT:=PT) F42 B C40 (C39 base) (C34 base))
 have C43:=fun base=>aF F43 b43 m43 (sE (P:=l.prog) (w:=w) (base:=base) (PT:=PT) F43 B (C38 base) (C39 base) (C32 base) (C29 base))
 exact Pk F44 B (C33 base) (C37 base) (C34 base) (C35 base) C27 C40 C41 C42 (C43 base)
end Nf
namespace Nf
open PySem PySem.W PyProof.Rows
def tR:List Nat:=[1,2,4,5,6,7,9,11,12,13,14,15,16,17,18,19,21,22,23,24,25,26,27,28,30,31,32,33,34,35,37,38,40,41,42,44,45,46,47,48,49,50,51,52,53,54,55]
def yh (p:Program) (w:World) (os:OsState):=(Ds p 3692 w os).map (fun s=>Gu p (view p tR) (fun s=>xlAt (view p tR) [] s&&recOk [] s) w s.abs)
def goodW (p:Program):=some (true,openGood (view p tR) [])
def frF (fr:Frag) (k:Nat):=some ((fr.map fun p=>some p.2).take k)
def frB (fr:Frag) (k:Nat):=some ((fr.map fun p=>some p.2).drop k)
def rD (p:Program) (w:World) (os:OsState) (as:List Addr) (k:Nat):=(Ds p 3692 w os).map (fun s=>(as.map s.abs.heap.get?).take k)
def yL (p:Program) (w:World) (os:OsState) (as:List Addr) (k:Nat):=(Ds p 3692 w os).map (fun s=>(as.map s.abs.heap.get?).drop k)
theorem zX:yh=yh:=rfl
theorem Af:goodW=goodW:=rfl
theorem yu:rD=rD:=rfl
theorem Ba:yL=yL:=rfl
end Nf
lay_quick Nf.yh Nf.goodW Nf.rD Nf.yL
name_quick lookQ for Nf.yh by Nf.zX
name_quick goodQ for Nf.goodW by Nf.Af
name_quick frontQ for Nf.rD by Nf.yu
name_quick backQ for Nf.yL by Nf.Ba
set_option maxHeartbeats 0 in
theorem Nf.Lf (w:PySem.World) (os:PySem.OsState):Nf.yh ì w os=Nf.goodW ì:=by
 rw [PySem.W.Fast.lookQ_eq,PySem.W.Fast.goodQ_eq]
 kernel_rfl
theorem Nf.well:PySem.Challenge.rw_nofall_k31_whole_fewest_ties.wellSaid=true:=by kernel_rfl
open PySem PySem.W PyProof.Rows
local macro_rules
 | `(tactic| k_qdec)=>`(tactic| fail)
local macro_rules
 | `(tactic| o_head (kmHook $k $a $e $t))=>`(tactic| o_head (kHook (fun P=>List.append (Ĳ (fun a=>(a,PySem.W.tabObj #[])) $t) ($k P)) (List.append $t $a) (fun _=>by kernel_rfl)))
local macro_rules
 | `(tactic| o_head (kHook $k $a $e))=>`(tactic| (
  refine holds_open (q:=view ì Nf.tR) (loose:=[]) (Xt:=fun s=>xlAt (view ì Nf.tR) [] s&&recOk [] s) (XP:=XL (view ì Nf.tR) []) (Yf:=Hook.obs (kHook $k $a $e)) (Ya:=Hook.val (kHook $k $a $e)) (YP:=Hook.says (kHook $k $a $e)) (N:=3692) ?hl (Hook.of (kHook $k $a $e)) (Hook.keeps (kHook $k $a $e)) (fun s e=>xl_of s (Bool.and_eq_true_iff.mp e).1) XL.keeps (by rfl) (by rfl) (by rfl) (fun s e=>recFacts_of (Bool.and_eq_true_iff.mp e).2) (by rfl) (by first | assumption | decide +kernel) (by decide +kernel) ⟨rfl,rfl,rfl,rfl,rfl,by decide +kernel⟩ ?hw ?hc))
set_option maxRecDepth 100000 in
set_option maxHeartbeats 0 in
theorem PySem.Challenge.cw_nofall_k31_whole_fewest_ties_holds : PySem.Challenge.rw_nofall_k31_whole_fewest_ties.Holds := by
 w_on; refine PySem.W.holds_law Nf.well fun said=>?_; k_head
 ·refine Nf.Ln 90 (boot_open (by kernel_rfl) rfl (fun s=>by kernel_rfl)) Nf.Lf (fun w os=>?_) (fun w os=>?_)
  ·show Nf.rD ì w os _ 90=Nf.frF _ 90
   rw [PySem.W.Fast.frontQ_eq]
   kernel_rfl
  ·show Nf.yL ì w os _ 90=Nf.frB _ 90
   rw [PySem.W.Fast.backQ_eq]
   kernel_rfl
 ·w_witness2
 k_fill
 refine L2.FQ (n:=63) (k:=15) (x:="_law_script") (l:=PySem.Challenge.rw_nofall_k31_whole_fewest_ties) rfl (by decide) rfl ⟨rfl,by decide,by decide,rfl⟩ (fun w h Y=>PySem.W.kIn_of Y) ?F
 case F =>
  intro w mg fa h KX2 G hmg
  obtain⟨KX,hPT⟩:=L2.Nx KX2 (by kernel_rfl)
  refine' Nf.all_mk hPT KX G hmg ?a0 ?l0 ?c0 ?a1 ?l1 ?c1 ?a2 ?l2 ?c2 ?a3 ?l3 ?c3 ?a4 ?l4 ?c4 ?a5 ?l5 ?c5 ?a6 ?l6 ?c6 ?a7 ?l7 ?c7 ?a8 ?l8 ?c8 ?a9 ?l9 ?c9 ?a10 ?l10 ?c10 ?a11 ?l11 ?c11 ?a12 ?l12 ?c12 ?a13 ?l13 ?c13 ?a14 ?l14 ?c14 ?a15 ?l15 ?c15 ?a16 ?l16 ?c16 ?a17 ?l17 ?c17 ?a18 ?l18 ?c18 ?a19 ?l19 ?c19 ?a20 ?l20 ?c20 ?a21 ?l21 ?c21 ?a22 ?l22 ?c22 ?a23 ?l23 ?c23 ?a24 ?l24 ?c24 ?a25 ?l25 ?c25 ?a26 ?l26 ?c26 ?a27 ?l27 ?c27 ?a28 ?l28 ?c28 ?a29 ?l29 ?c29 ?a30 ?l30 ?c30 ?a31 ?l31 ?c31 ?a32 ?l32 ?c32 ?a33 ?l33 ?c33 ?a34 ?l34 ?c34 ?a35 ?l35 ?c35 ?a36 ?l36 ?c36 ?a37 ?l37 ?c37 ?a38 ?l38 ?c38 ?a39 ?l39 ?c39 ?a40 ?l40 ?c40 ?a41 ?l41 ?c41 ?a42 ?l42 ?c42 ?a43 ?l43 ?c43 ?a44 ?l44 ?c44 ?z0 ?z1 ?z2 ?z3 ?z4 ?z5 ?z6 ?z7 ?z8 ?z9 ?z10 ?z11 ?z12 ?z13 ?z14 ?lc ?v11 ?hP0 ?hcI
  any_goals (show _=_; k_is)
  case v11=>exact rfl
  case hP0=>kernel_rfl
  case hcI=>kernel_rfl
  all_goals rfl
end
