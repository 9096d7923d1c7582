import PyProof.Rows.All
import Wide.All
import OpenK.AllK
import Wide.FinOn
import Lean
import PyProof.EqAt
import PyProof.EqKinds
import PyProof.TupleCall
import PySem.Challenge.RW_nofall_k51_ties_put_in
set_option genSizeOf false
set_option genSizeOfSpec false
set_option Elab.async false
set_option linter.all false
set_option maxRecDepth 100000
open List renaming length_map → À,mem_cons_of_mem → Ä,mem_cons_self → Å,replicate → Æ,getElem?_eq_getElem → Ç,length_append → È,getElem?_eq_some_iff → Ê,size_toArray → Í,getD_eq_getElem?_getD → Ï,mem_cons → Ð,mem_of_getElem? → Ò,length_singleton → Õ,mem_singleton → Ö,map_append → Ø,range → Ý,getElem?_map → Þ,mem_append → â,map_cons → æ,mem_map → ç,getElem?_append_right → è,append_nil → ê,getElem?_set_self → ë,length_cons → ì,mem_append_right → î,getElem?_append_left → ó,map_map → ô,lookup_cons → ÿ,mem_filter → ă,replicate_succ → ą,take_length → ć,length_drop → Ĉ,sum_cons → ċ,getElem?_set_ne → ď,flatten_cons → ę,all_eq_true → ĝ,map_congr_left → Ğ,length_replicate → Ġ,mem_range → ĥ,getElem_mem → Ĩ,map → į,length_take → İ,length_dropLast → Ĳ,mem_replicate → Ľ,toArray → ŀ,mem_append_left → ł,getElem?_of_mem → Ń,take_add_one → Ŋ,getElem?_replicate → ŋ,mem_filterMap → Ŏ,pairwise_iff_getElem → œ,drop_eq_getElem_cons → Ŕ,length_range → ŗ,append_assoc → Ř,length_set → Ť,take → Ŧ,length_pos_iff → ź,filterMap_cons → Ż
open PySem.PyData renaming int → Â,eqv → ñ,list → Ī,canLayAll0 → ī,depthAll → ő
open PySem renaming wpAny_bind → Ã,wpAny_pure → Ô,sizeLine_eq → ï,mem_of_lookup → û,wpAny_holding → Ē,wpAny_truthy_bool → Ĥ,wpAny_loadPart' → ĩ,wpAny_mono → ń,wpAny_Call_Name_kw → Ņ,codeAny_builtin → ō,wpAny_updateSeq → Ů,wpAny_passesOwn → ů,plainId_quiet → Ű,wpAny_newObj_type → Ŵ
open Nat renaming le_refl → Ë,ne_of_lt → ß,lt_of_lt_of_le → ã,pow_le_pow_right → ð,le_trans → õ,zero_le → ú,lt_succ_of_lt → ā,lt_irrefl → Ă,le_succ → ĳ,lt_or_ge → Ś,lt_succ_self → ş,pow_succ → Ţ,two_pow_pos → ť,mul_le_mul → Ų,ne_of_gt → ŷ
open PySem.Heap renaming lt_size → Î,get?_push_of_some → Ñ,get?_push_size → á,size_update → Ė,get?_push_ne → Ę,get?_update_other → Ķ,size_push → Ŝ,get?_update_self → ũ
open Bool renaming false_ne_true → Ó,and_eq_true → Ù,eq_iff_iff → Č,false_eq_true → Ħ
open PySem.W renaming Frag → Ú,mg_of → ü,mg_none_of → Ě,boot_heap → ś,kla_obj → Ŭ,kitOne → Ŷ,kia_one → ż,boot_o_0 → Ž
open PySem.Obj renaming mapSeq → Ü
open Option.some renaming inj → à
open PySem.Str renaming ofString → å
open Int renaming toNat_natCast → é,le_refl → Ą
open PySem.F renaming plainAttrs_list → í,type_list_append → ě,slot_list_append → Ĝ,type_list_extend → ŕ,slot_list_extend → Ŗ,plain_max_loop → š
open PySem.NameKind renaming free → ö,cell → Ċ
open PySem.Challenge renaming pw_nofall_k51_ties_put_in → ø
open PySem.PassesOwn renaming never → ù
open Or renaming inl → þ
open PySem.Value renaming type → Đ,none → ĕ,ref → Ň,int → ň
open Ne renaming symm → ė
open ForInStep renaming yield → ģ
open Classical renaming byContradiction → ħ
open False renaming elim → Į
open Array renaming length_toList → ķ
open PySem.Builtin.SmallTypes renaming ownedTupleIsFree → ļ,nextOf → ŝ
open PySem.Around renaming under_plainId → Ŀ
open PyProof.Rows renaming callWith_type1 → Ł,step_dedup → ž
open PySem.Builtin.List renaming listExtendWith → Ş,listTooLong → ŭ
open PySem.Builtin.Slice renaming slicePlaces → ţ
open PySem.Builtin.Tuple renaming tupleExact → ū
open Option renaming isSome_iff_exists → Ź
noncomputable section
namespace L2
open PySem PySem.Spec PyProof.Rows
def zK{n:Nat}(h:Nat.ble n 1000=true:=by rfl):n<=1000:=Nat.le_of_ble_eq_true h
abbrev Key:=Sum Int Str
def IV:Key->Value->Bool
 |.inl k,v=>Value.isInt k v
 |.inr x,v=>Value.isStrOf x v
def Vb(w:World):Key->Int
 |.inl k=>hashInt k
 |.inr x=>hashStr w x
def bx:∀{k:Key}{v:Value},IV k v=true->(∃i t,k=Sum.inl i/\v=ň i t)\/(∃x t,k=Sum.inr x/\v=Value.str x t)
 |.inl i,v,h=>by
  obtain⟨t,e⟩:=Value.isInt_shape (k:=i) (v:=v) h
  exact .inl ⟨i,t,rfl,e⟩
 |.inr x,v,h=>by
  obtain⟨t,e⟩:=Value.isStrOf_shape (x:=x) (v:=v) h
  exact .inr ⟨x,t,rfl,e⟩
def Qm(a b:Int):decide ((Sum.inl a:Key)=Sum.inl b)=(a == b):=by
 by_cases e:a=b
 ·subst e;simp
 ·have h:¬(Sum.inl a:Key)=Sum.inl b:=λq=>e (Sum.inl.inj q)
  rw[decide_eq_false h]
  exact(beq_eq_false_iff_ne.mpr e).symm
def Qj(a b:Str):decide ((Sum.inr a:Key)=Sum.inr b)=decide (a=b):=by
 by_cases e:a=b
 ·subst e;simp
 ·have h:¬(Sum.inr a:Key)=Sum.inr b:=λq=>e (Sum.inr.inj q)
  rw[decide_eq_false h,decide_eq_false e]
def Ql(a:Int)(b:Str):decide ((Sum.inl a:Key)=Sum.inr b)=false:=decide_eq_false (λq=>nomatch q)
def Qk(a:Str)(b:Int):decide ((Sum.inr a:Key)=Sum.inl b)=false:=decide_eq_false (λq=>nomatch q)
def nC(prog:Program)(w:World):PySem.KeyKind prog w Key where
 is:=IV
 hash:=Vb w
 inj:=λv a b ha hb=>by
  rcases bx ha with ⟨i,t,rfl,rfl⟩|⟨x,t,rfl,rfl⟩
  ·rcases bx hb with ⟨j,u,rfl,e⟩|⟨y,u,rfl,e⟩
   ·injection e with e1 _;rw[e1]
   ·exact nomatch e
  ·rcases bx hb with ⟨j,u,rfl,e⟩|⟨y,u,rfl,e⟩
   ·exact nomatch e
   ·injection e with e1 _;rw[e1]
 byValue:=λk v h=>by
  rcases bx h with ⟨i,t,rfl,rfl⟩|⟨x,t,rfl,rfl⟩ <;> rfl
 pyHash:=λhv h=>by
  rcases bx hv with ⟨i,t,rfl,rfl⟩|⟨x,t,rfl,rfl⟩
  ·exact wpAny_pyHash_int h
  ·exact wpAny_pyHash_str h
 eqBool:=λhu hv h=>by
  rcases bx hu with ⟨i,t,rfl,rfl⟩|⟨x,t,rfl,rfl⟩
  ·rcases bx hv with ⟨j,u,rfl,rfl⟩|⟨y,u,rfl,rfl⟩
   ·rw[Qm] at h;exact wpAny_eqBool_int h
   ·rw[Ql] at h;exact SeqAt.EqAt.int_str i t y u _ _ _ _ h
  ·rcases bx hv with ⟨j,u,rfl,rfl⟩|⟨y,u,rfl,rfl⟩
   ·rw[Qk] at h;exact SeqAt.EqAt.str_int x t j u _ _ _ _ h
   ·rw[Qj] at h;exact wpAny_eqBool_str h
 «strs»:=λk x t v h=>by
  rcases bx h with ⟨i,u,rfl,e⟩|⟨y,u,rfl,e⟩
  ·exact nomatch e
  ·injection e with e1 _
   subst e1
   cases v <;> rfl
inductive V where
 |non|bl (b:Bool)|int (i:Int)|str (x:Str)|byt (b:Array UInt8)|flt (b:UInt64)|ref (a:Addr)|ty (n:String)
 deriving DecidableEq
def RelV:V->Value->Prop
 |.non,u=>u=ĕ
 |.bl b,u=>u=Value.bool b
 |.int i,u=>∃t,u=ň i t
 |.str x,u=>∃t,u=Value.str x t
 |.byt b,u=>∃t,u=Value.bytes b t
 |.flt b,u=>∃t,u=Value.float b t
 |.ref a,u=>u=Ň a
 |.ty n,u=>u=Đ n
abbrev Vals:List V->List Value->Prop:=Paired RelV
def Vals.length{xs:List V}{us:List Value}(r:Vals xs us):xs.length=us.length:=Paired.length r
def Vals.get:∀{xs:List V}{us:List Value}{i:Nat}{x:V},Vals xs us->xs[i]?=some x->∃u,us[i]?=some u/\RelV x u
 |_,_,_,_,.nil,e=>by simp at e
 |_,_,0,_,.cons r _,e=>by simp at e;subst e;exact⟨_,rfl,r⟩
 |_,_,i+1,x,.cons _ t,e=>by
  obtain⟨u,h1,h2⟩:=Vals.get (i:=i) (x:=x) t (by simpa using e)
  exact⟨u,by simpa using h1,h2⟩
def Vals.set{x:V}{u:Value}(r:RelV x u):∀{xs:List V}{us:List Value} (i:Nat),Vals xs us->Vals (xs.set i x) (us.set i u)
 |_,_,_,.nil=>.nil
 |_,_,0,.cons _ t=>.cons r t
 |_,_,i+1,.cons q t=>.cons q (Vals.set r i t)
def Vals.append:∀{xs ys:List V}{us ws:List Value},Vals xs us->Vals ys ws->Vals (xs++ys) (us++ws)
 |_,_,_,_,.nil,s=>s
 |_,_,_,_,.cons r t,s=>.cons r (Vals.append t s)
def Vals.take:∀{xs:List V}{us:List Value} (n:Nat),Vals xs us->Vals (xs.take n) (us.take n)
 |_,_,0,_=>.nil
 |_,_,_+1,.nil=>.nil
 |_,_,n+1,.cons r t=>.cons r (Vals.take n t)
def Vals.drop:∀{xs:List V}{us:List Value} (n:Nat),Vals xs us->Vals (xs.drop n) (us.drop n)
 |_,_,0,r=>r
 |_,_,_+1,.nil=>.nil
 |_,_,n+1,.cons _ t=>Vals.drop n t
def Q7:Option V->Option Value->Prop
 |some v,some u=>RelV v u
 |none,none=>True
 |_,_=>False
def KV{κ:Type}:List (κ×V)->List (κ×Value)->Prop:=Paired λ(p:κ×V) (q:κ×Value)=>p.1=q.1/\RelV p.2 q.2
def kV:Key->V
 |.inl i=>.int i
 |.inr x=>.str x
inductive HO where
 |lst (xs:List V)
 |tup (xs:List V)
 |dK (kvs:List (Key×V))|dT (kvs:List (List Key×V))
 |set (S:Int->Bool) (n:Nat)
 |ins (C dx:Addr) (fs:List (Str×V))
 |own (x:Addr)
 |xd (fs:List (Str×V))
 |met (f x:Addr)
 |rng (lo hi:Int)
 |frz (o:Obj) (u:HO)
 |tbl (ps:Array Value)
 |ext (φ:Heap->Prop)
abbrev Hp:=Addr->Option HO
def upd(H:Hp)(a:Addr)(o:HO):Hp:=λb=>if b=a then some o else H b
def aq{H:Hp}{a:Addr}{o:HO}:upd H a o a=some o:=by unfold upd;rw[if_pos rfl]
def au{H:Hp}{a b:Addr}{o:HO}(h:b≠a):upd H a o b=H b:=by unfold upd;rw[if_neg h]
def aB{H:Hp}{a b:Addr}{o:HO}(h:H a=some o)(h':H b=none):a≠b:=by
 intro e;subst e;rw[h] at h';cases h'
section
variable (P:Program) (w:World)
def bN(H:Hp)(h:Heap)(a:Addr):HO->Prop
 |.lst xs=>xs.length<=sizeLine/\∃(its:List Value) (n:Nat),Vals xs its/\h.get? a=some { cls:=.type "list",data:=.seq its.toArray n }
 |.tup xs=>xs.length<=sizeLine/\∃its:List Value,Vals xs its/\IsTup h a its.toArray
 |.dK kvs=>kvs.length<=sizeLine/\(a == sysModules)=false/\∃vs,KV kvs vs/\h.DictOf (nC P w) a vs
 |.dT kvs=>kvs.length<=sizeLine/\(a == sysModules)=false/\∃xs:List (List Key×Addr×Value),
   Paired (λ(p:List Key×V) (q:List Key×Addr×Value)=>p.1=q.1/\H q.2.1=some (.tup (p.1.map kV))/\RelV p.2 q.2.2) kvs xs /\
   ∃o es ep,h.get? a=some o/\o.ExactDict/\o.data=.dict es ep/\es.toList=xs.map (entryOfKey (tupleKind (nC P w)))/\(xs.map (·.1)).Nodup
 |.set S n=>h.SetOf (intKind P w) a S n
 |.ins C dx fs=>H dx=some (.own a)/\fs.length<=1000/\dx≠a/\h.get? a=some (W.instObj C dx) /\
   ∃mA,h.Ns1 dx mA/\(∀f,Q7 (fs.lookup f) (mA f))/\PySem.Within mA (fs.map (·.1))
 |.own _=>∃o,h.get? a=some o
 |.xd fs=>∃mA,h.Ns1 a mA/\∀f,Q7 (fs.lookup f) (mA f)
 |.rng lo hi=>∃t u v,h.get? a=some { cls:=.type "range",data:=.fields #[.int lo t,.int hi u,.int 1 v] }
 |.frz o u=>h.get? a=some o/\bN H h a u
 |.tbl ps=>h.get? a=some { cls:=.none,data:=.fields ps }
 |.met f x=>h.get? a=some (W.methodObj (.ref f) (.ref x))
 |.ext φ=>φ h/\(∃o,h.get? a=some o)/\∀h1 h2:Heap,φ h1->(∀o,h1.get? a=some o->h2.get? a=some o)->φ h2
def HOk(H:Hp)(h:Heap):Prop:=∀a o,H a=some o->bN P w H h a o
end
section
variable {P:Program}{w:World}{H H':Hp}{h h':Heap}{a:Addr}{o:HO}
def bN.lt(x:bN P w H h a o):a<h.objs.size:=by
 cases o with
 |lst xs=>obtain⟨_,_,_,_,e⟩:=x;exact Î e
 |tup xs=>obtain⟨_,_,_,p⟩:=x;exact p.lt
 |dK kvs=>obtain⟨_,_,_,_,o,_,_,e,_⟩:=x;exact Î e
 |dT kvs=>obtain⟨_,_,_,_,o,_,_,e,_⟩:=x;exact Î e
 |set S n=>obtain⟨o,_,_,_,e,_⟩:=x;exact Î e
 |ins C dx fs=>obtain⟨_,_,_,e,_⟩:=x;exact Î e
 |own y=>obtain⟨_,e⟩:=x;exact Î e
 |xd fs=>obtain⟨_,⟨_,_,_,e,_⟩,_⟩:=x;exact Î e
 |rng lo hi=>obtain⟨_,_,_,e⟩:=x;exact Î e
 |frz ob u=>obtain⟨e,_⟩:=x;exact Î e
 |tbl ps=>exact Î (show h.get? a=some _ from x)
 |met f y=>exact Î (show h.get? a=some _ from x)
 |ext φ=>obtain⟨_,⟨_,e⟩,_⟩:=x;exact Î e
def Paired.DQ{α β:Type}{F G:α->β->Prop}:∀{l₁:List α}{l₂:List β},Paired F l₁ l₂->(∀a b,F a b->G a b)->Paired G l₁ l₂
 |_,_,.nil,_=>.nil
 |_,_,.cons r t,f=>.cons (f _ _ r) (Paired.DQ t f)
def bN.stay(x:bN P w H h a o)(k:∀b u,(b=a\/H b=some (.own a))->h.get? b=some u->h'.get? b=some u)(ho:∀b,H b=some (.own a)->H' b=some (.own a))(ht:∀b xs,H b=some (.tup xs)->H' b=some (.tup xs)):bN P w H' h' a o:=by
 induction o with
 |lst xs=>obtain⟨z,its,n,r,e⟩:=x;exact⟨z,its,n,r,k _ _ (.inl rfl) e⟩
 |tup xs=>obtain⟨z,its,r,ob,e,c⟩:=x;exact⟨z,its,r,ob,k _ _ (.inl rfl) e,c⟩
 |dK kvs=>obtain⟨z,y,vs,r,ob,es,ep,e,c⟩:=x;exact⟨z,y,vs,r,ob,es,ep,k _ _ (.inl rfl) e,c⟩
 |dT kvs =>
  obtain⟨z,y,xs,r,ob,es,ep,e,c⟩:=x
  exact⟨z,y,xs,Paired.DQ r λp q z=>⟨z.1,ht _ _ z.2.1,z.2.2⟩,ob,es,ep,k _ _ (.inl rfl) e,c⟩
 |set S n=>obtain⟨ob,es,ep,t,e,c⟩:=x;exact⟨ob,es,ep,t,k _ _ (.inl rfl) e,c⟩
 |ins C dx fs =>
  obtain⟨d,z,ne,e,mA,⟨od,es,ep,e2,c⟩,r⟩:=x
  exact⟨ho _ d,z,ne,k _ _ (.inl rfl) e,mA,⟨od,es,ep,k _ _ (.inr d) e2,c⟩,r⟩
 |own y=>obtain⟨ob,e⟩:=x;exact⟨ob,k _ _ (.inl rfl) e⟩
 |xd fs=>obtain⟨mA,⟨od,es,ep,e,c⟩,r⟩:=x;exact⟨mA,⟨od,es,ep,k _ _ (.inl rfl) e,c⟩,r⟩
 |rng lo hi=>obtain⟨t,u,v,e⟩:=x;exact⟨t,u,v,k _ _ (.inl rfl) e⟩
 |frz ob u ih=>obtain⟨e,q⟩:=x;exact⟨k _ _ (.inl rfl) e,ih q⟩
 |tbl ps =>
  have e:h.get? a=some { cls:=.none,data:=.fields ps }:=x
  show h'.get? a=some { cls:=.none,data:=.fields ps }
  exact k a _ (.inl rfl) e
 |met f y =>
  have e:h.get? a=some (W.methodObj (.ref f) (.ref y)):=x
  show h'.get? a=some (W.methodObj (.ref f) (.ref y))
  exact k a _ (.inl rfl) e
 |ext φ=>obtain⟨p,⟨o,e⟩,st⟩:=x;exact⟨st _ _ p λo q=>k _ _ (.inl rfl) q,⟨o,k _ _ (.inl rfl) e⟩,st⟩
def HOk.lt(x:HOk P w H h)(e:H a=some o):a<h.objs.size:=(x a o e).lt
def HOk.fresh(x:HOk P w H h)(e:h.objs.size<=a):H a=none:=by
 cases q:H a with
 |none=>rfl
 |some u=>exact absurd (ã (x.lt q) e) (Ă _)
def HOk.kept(x:HOk P w H h)(k:∀b u,h.get? b=some u->h'.get? b=some u):HOk P w H h':=λa o e =>
 (x a o e).stay (λb u _ q=>k b u q) (λ_ q=>q) λ_ _ q=>q
def HOk.laid(x:HOk P w H h)(k:∀b u,h.get? b=some u->h'.get? b=some u)(hp:h.objs.size<=a)(new:bN P w (upd H a o) h' a o):HOk P w (upd H a o) h':=λb u e=>by
 have hn:=x.fresh hp
 by_cases hb:b=a
 ·subst hb;rw[aq] at e;cases e;exact new
 ·rw[au hb] at e
  exact(x b u e).stay (λc v _ q=>k c v q) (λc q=>by rw[au (aB q hn)];exact q) λc xs q=>by rw[au (aB q hn)];exact q
end
def Rd(H:Hp)(a:Addr)(u:HO):Prop:=H a=some u\/∃o,H a=some (.frz o u)
def Rd.ok{P:Program}{w:World}{H:Hp}{h:Heap}{a:Addr}{u:HO}(r:Rd H a u)(x:HOk P w H h):bN P w H h a u:=by
 rcases r with r|⟨o,r⟩
 ·exact x a u r
 ·obtain⟨_,q⟩:=x a _ r
  exact q
def Mut:Option HO->Prop
 |some (.lst _)=>True
 |some (.dK _)=>True
 |some (.dT _)=>True
 |some (.set _ _)=>True
 |some (.ins _ _ _)=>True
 |some (.ext _)=>True
 |_=>False
section
variable {P:Program}{w:World}{H:Hp}{h h':Heap}{x e:Addr}{o':HO}
def HOk.write(ok:HOk P w H h)(mu:Mut (H x))(he:e=x\/H e=some (.own x))(k:∀b u,b≠e->h.get? b=some u->h'.get? b=some u)(heo:∃u,h'.get? e=some u)(new:bN P w (upd H x o') h' x o'):HOk P w (upd H x o') h':=λb u q=>by
 have nown:∀c y,H c=some (.own y)->c≠x:=λc y r z=>by subst z;rw[r] at mu;exact mu
 have ntup:∀c xs,H c=some (.tup xs)->c≠x:=λc xs r z=>by subst z;rw[r] at mu;exact mu
 by_cases hb:b=x
 ·subst hb;rw[aq] at q;cases q;exact new
 ·rw[au hb] at q
  by_cases hbe:b=e
  ·have q':H b=some (.own x):=by
    rcases he with z|z
    ·exact absurd (hbe.trans z) hb
    ·rw[hbe];exact z
   rw[q] at q';cases q'
   obtain⟨v,hv⟩:=heo
   exact⟨v,by rw[hbe];exact hv⟩
  ·refine(ok b u q).stay (λc v hc r=>k c v ?_ r) (λc r=>by rw[au (nown c b r)];exact r) λc xs r=>by rw[au (ntup c xs r)];exact r
   rcases hc with rfl|hc
   ·exact hbe
   ·rintro rfl
    rcases he with z|z
    ·exact nown c b hc z
    ·rw[hc] at z;cases z;exact hb rfl
end
structure Un(fs ex:List Addr)(H H':Hp)(h h':Heap):Prop where
 keep:∀b o,h.get? b=some o->H b=none->b∉fs->b∉ex->h'.get? b=some o
 slot:∀b o,h.get? b=some o->H b=none->b∈fs->b∉ex->∃sl,h'.get? b=some { o with slots:=sl }
 free:∀b o,h.get? b=some o->H b=none->b∉ex->H' b=none
 there:∀b o,h.get? b=some o->b∉ex->∃o',h'.get? b=some o'
 tups:∀b xs,H b=some (.tup xs)->H' b=some (.tup xs)
 frzs:∀b o u,H b=some (.frz o u)->H' b=some (.frz o u)
 tbls:∀b ps,H b=some (.tbl ps)->∃more,H' b=some (.tbl (ps++more))
section
variable {fs fs' ex ex':List Addr}{H H1 H2:Hp}{h h1 h2 h':Heap}{a x e:Addr}{o:HO}
def Un.any(u:Un fs ex H H1 h h1){b:Addr}{ob:Obj}(q:h.get? b=some ob)(n:H b=none)(hx:b∉ex):∃sl,h1.get? b=some { ob with slots:=sl }:=by
 by_cases hb:b∈fs
 ·exact u.slot b ob q n hb hx
 ·exact⟨ob.slots,u.keep b ob q n hb hx⟩
def Un.kept(k:∀b u,h.get? b=some u->h'.get? b=some u):Un fs ex H H h h' :=
 ⟨λb ob q _ _ _=>k b ob q,λb ob q _ _ _=>⟨ob.slots,k b ob q⟩,λ_ _ _ n _=>n,λb ob q _=>⟨ob,k b ob q⟩,λ_ _ q=>q,λ_ _ _ q=>q,λ_ ps q=>⟨#[],by rw[q];simp⟩⟩
def Un.refl:Un fs ex H H h h:=Un.kept λ_ _ q=>q
def Un.laid(k:∀b u,h.get? b=some u->h'.get? b=some u)(hp:h.objs.size<=a)(hn:H a=none):Un fs ex H (upd H a o) h h' where
 keep:=λb u q _ _ _=>k b u q
 slot:=λb u q _ _ _=>⟨u.slots,k b u q⟩
 free:=λb u q n _=>by rw[au (ß (ã (Î q) hp))];exact n
 there:=λb u q _=>⟨u,k b u q⟩
 tups:=λb xs q=>by rw[au (aB q hn)];exact q
 frzs:=λb u xs q=>by rw[au (aB q hn)];exact q
 tbls:=λb ps q=>⟨#[],by rw[au (aB q hn),q];simp⟩
def Un.write(mu:Mut (H x))(he:e=x\/H e=some (.own x))(k:∀b u,b≠e->h.get? b=some u->h'.get? b=some u)(heo:∃u,h'.get? e=some u):Un fs ex H (upd H x o) h h':=by
 have hx:∀b,H b=none->b≠x:=λb n z=>by subst z;rw[n] at mu;exact mu
 have hb:∀b,H b=none->b≠e:=λb n z=>by
  subst z
  rcases he with r|r
  ·exact hx b n r
  ·rw[n] at r;cases r
 have hm:∀b u,H b=some u->¬Mut (some u)->b≠x:=λb u q nm z=>by subst z;rw[q] at mu;exact nm mu
 refine⟨λb u q n _ _=>k b u (hb b n) q,λb u q n _ _=>⟨u.slots,k b u (hb b n) q⟩,λb u q n _=>by rw[au (hx b n)];exact n,λb u q _=>?_,
  λb xs q=>by rw[au (hm b _ q λz=>z)];exact q,λb u xs q=>by rw[au (hm b _ q λz=>z)];exact q,λb ps q=>⟨#[],by rw[au (hm b _ q λz=>z),q];simp⟩⟩
 by_cases hbe:b=e
 ·subst hbe;exact heo
 ·exact⟨u,k b u hbe q⟩
end
def trk(h:Heap)(H:Hp):List Addr:=(Ý h.objs.size).filter λa=>(H a).isSome
def vQ(h:Heap)(H:Hp):Heap:=W.hideAll h (trk h H)
def Ek(h:Heap)(H:Hp):(vQ h H).objs.size=h.objs.size:=W.hideAll_size _ _
def rO{h:Heap}{H:Hp}{b:Addr}{o:Obj}(e:h.get? b=some o)(n:H b=none):(vQ h H).get? b=some o :=
 W.hideAll_get _ e λhm=>by
  have q:(H b).isSome=true:=(ă.mp hm).2
  rw[n] at q;simp at q
def KY{h:Heap}{H:Hp}{b:Addr}{o:Obj}(e:(vQ h H).get? b=some o):h.get? b=some o/\H b=none:=by
 have e':h.get? b=some o:=W.of_hideAll (trk h H) e
 refine⟨e',?_⟩
 cases q:H b with
 |none=>rfl
 |some x =>
  have hm:b∈trk h H:=ă.mpr ⟨ĥ.mpr (Î e'),by simp[q]⟩
  have z:(vQ h H).get? b=none:=W.hideAll_none (trk h H) hm
  rw[z] at e;cases e
def wL(g h:Heap)(L:Addr):List (Addr×Obj):=(Ý h.objs.size).filterMap λa=>if a=L\/(g.get? a).isSome=true then none else (h.get? a).map λo=>(a,o)
def rC{g h:Heap}{L:Addr}{p:Addr×Obj}(hp:p∈wL g h L):p.1≠L/\g.get? p.1=none/\h.get? p.1=some p.2:=by
 obtain⟨b,_,e⟩:=Ŏ.mp hp
 split at e
 ·cases e
 ·rename_i hn
  cases q:h.get? b with
  |none=>rw[q] at e;simp at e
  |some u =>
   rw[q] at e
   simp only[Option.map_some,Option.some.injEq] at e
   subst e
   refine⟨λz=>hn (.inl z),?_,q⟩
   show g.get? b=none
   cases r:g.get? b with
   |none=>rfl
   |some v=>exact(hn (.inr (by simp[r]))).elim
def rest(g h:Heap)(L d:Addr):List (Addr×Obj):=(wL g h L).filter λp=>decide (p.1≠d)
def Ig{g h:Heap}{L:Addr}:News g L h (wL g h L):=λp hp=>let ⟨a,b,c⟩:=rC hp;⟨c,a,b⟩
structure Mod(K:Ú)(mg:Str->Option Value)(base:Heap):Prop where
 kin:K.In base
 glob:base.Ns mainGlobals mg
 blt:∃mb,base.Ns builtinsNs mb/\∀x:Str,x≠"__name__"->mb x=bootBuiltins x
 nolimit:base.NoLimit
structure Cx where
 prog:Program
 w:World
 K:Ú
 mg:Str->Option Value
 base:Heap
 A:Around
 N:List Str
 s₀:Shared
 H₀:Hp
 env:Env
 outer:List Env
 stack:List Env
 ex:List Addr
 fn:Str->Bool
 calm:Bool
 pn:List (Addr×Obj)
 xe:Value->Shared->Prop
 sf:List (Addr×Obj×HO):=[]
def frs(l:List Env):List Addr:=l.filterMap (·.frame)
abbrev Cx.fs(X:Cx):List Addr:=frs X.outer
def Vis(sc:Scope)(x:Str):Prop:=sc.names.lookup x=some .local\/sc.names.lookup x=some .cell\/sc.names.lookup x=some .free
def Loc(sc:Scope)(x:Str):Prop:=sc.names.lookup x=some .local\/sc.names.lookup x=some .cell
def Look(env:Env)(h:Heap)(m:Str->Option Value)(x:Str)(u:Value):Prop :=
 (env.kindOf x=some .local/\m x=some u)\/((env.kindOf x=some .cell\/env.kindOf x=some .free)/\∃c,env.cells.lookup x=some c/\h.IsCell c (some u))
abbrev zS(X:Cx)(e:Expr)(es:List Expr):Prop:=starEach (e::es) X.env=(false,eval e X.env)::starEach es X.env
abbrev zP(X:Cx)(p:Pos)(es:List Expr):Prop:=(backTo p (starEach es X.env)).any (·.1)=false
abbrev zB(x:Str):Prop:=(x == ("__debug__":Str))=false
abbrev zF(X:Cx)(e:Expr):Prop:=∀x,foldedSetIterable e X.env x=pure x
abbrev zL(X:Cx)(x:Str):Prop:=X.fn x=true\/X.env.scope.names.lookup x=some .local
abbrev zW(X:Cx)(p:Pos)(es:List Expr):Prop:=((backTo p (starEach es X.env)).all (λx=>!x.1)&&(backToKw p (keywordEach [] X.env)).all (λx=>x.1.isSome)&&decide (es.length+([]:List Keyword).length+(if ([]:List Keyword).isEmpty then 0 else 1)<30))=true
def zQ{sc:Scope}{x:Str}(h:(sc.names.lookup x == some .local||sc.names.lookup x == some .cell)=true:=by rfl):Loc sc x:=(Bool.or_eq_true_iff.mp h).imp (λz=>eq_of_beq z) λz=>eq_of_beq z
structure Cx.Ok(X:Cx):Prop where
 mod:Mod X.K X.mg X.base
 kind:X.env.scope.kind=.function
 glob:X.env.globals=mainGlobals
 blt:X.env.builtins=builtinsNs
 above:X.s₀.heap.objs.size<=X.env.locals
 inj:∀x y c,X.env.cells.lookup x=some c->X.env.cells.lookup y=some c->x=y
 has:∀x,(X.env.kindOf x=some .cell\/X.env.kindOf x=some .free)->∃c,X.env.cells.lookup x=some c
 cab:∀x c,X.fn x=true->X.env.cells.lookup x=some c->X.s₀.heap.objs.size<=c
 hd:X.calm=true->X.A.handled=none
 frames:X.A.frames=some X.stack
 stk:X.stack=X.outer\/(X.stack=X.env::X.outer/\X.env.frame=some X.env.locals)
 exf:∀b∈X.ex,b≠X.env.locals/\∀x c,X.env.cells.lookup x=some c->c≠b
 bs:∀b o,X.base.get? b=some o->X.s₀.heap.get? b=some o/\X.H₀ b=none
 bsz:X.base.objs.size<=X.s₀.heap.objs.size
 noex:∀b o,X.base.get? b=some o->b∉X.ex
 exfs:∀b∈X.ex,b∉X.fs
 kW:X.s₀.heap.FunFrames X.base X.outer
 frf:∀b∈X.fs,X.H₀ b=none
 sof:∀q∈X.sf,X.A.handled=some (.ref q.1)/\X.H₀ q.1=some (.frz q.2.1 q.2.2)/\∃ws,q.2.1.data=.fields ws/\ws[2]?=some .none
structure Inv(X:Cx)(pins:List (Addr×Obj))(σ:List (Option V))(H:Hp)(s:Shared):Prop where
 ok:X.Ok
 os:s.os=X.s₀.os
 bare:AllBare s.gens
 base:Un X.fs X.ex X.H₀ H X.s₀.heap s.heap
 loc:∃m,s.heap.Ns X.env.locals m/\∀(i:Nat) (x:Str) (v:V),X.N[i]?=some x->σ[i]?=some (some v)->Vis X.env.scope x->∃u,RelV v u/\Look X.env s.heap m x u
 cell:∀x c,X.env.cells.lookup x=some c->∃v,s.heap.IsCell c v
 free:H X.env.locals=none
 freeC:∀x c,X.env.cells.lookup x=some c->H c=none
 pin:∀p∈X.pn++pins,s.heap.get? p.1=some p.2/\H p.1=none/\p.1≠X.env.locals/\p.1∉X.fs/\∀v,p.2.data≠.cell v
 hok:HOk X.prog X.w H s.heap
 len:σ.length=X.N.length
section
variable {X:Cx}{pins:List (Addr×Obj)}{σ:List (Option V)}{H H':Hp}{s:Shared}{h':Heap}
def Cx.Ok.U4(ok:X.Ok){b:Addr}{o:Obj}(e:X.base.get? b=some o):b∉X.fs:=λhb=>by
 have:=(ok.kW.mem hb).1
 rw[e] at this;cases this
def Inv.bs(I:Inv X pins σ H s):∀b o,X.base.get? b=some o->s.heap.get? b=some o/\H b=none:=λb o e =>
 ⟨I.base.keep b o (I.ok.bs b o e).1 (I.ok.bs b o e).2 (I.ok.U4 e) (I.ok.noex b o e),I.base.free b o (I.ok.bs b o e).1 (I.ok.bs b o e).2 (I.ok.noex b o e)⟩
def Inv.bk(I:Inv X pins σ H s):∀b o,X.base.get? b=some o->s.heap.get? b=some o:=λb o e=>(I.bs b o e).1
def Inv.mod(I:Inv X pins σ H s):Mod X.K X.mg X.base:=I.ok.mod
def Inv.kIn(I:Inv X pins σ H s):X.K.In s.heap:=I.ok.mod.kin.keeps I.bk
def Inv.fr(I:Inv X pins σ H s):∃m,Fr X.base X.env.locals s.heap m :=
 let ⟨m,hn,_⟩:=I.loc
 ⟨m,hn,I.bk,õ I.ok.bsz I.ok.above⟩
def Inv.lt(I:Inv X pins σ H s):X.env.locals<s.heap.objs.size:=let ⟨_,hn,_⟩:=I.loc;hn.lt
def Inv.sz(I:Inv X pins σ H s):X.s₀.heap.objs.size<=s.heap.objs.size:=õ I.ok.above (Nat.le_of_lt I.lt)
def Inv.U3(I:Inv X pins σ H s){a:Addr}(h:s.heap.objs.size<=a):a∉X.fs:=λhb=>by
 obtain⟨_,o,ho,_⟩:=I.ok.kW.mem hb
 exact absurd (ã (Î ho) (õ I.sz h)) (Ă _)
def Inv.cne(I:Inv X pins σ H s):∀x c,X.env.cells.lookup x=some c->c≠X.env.locals:=λx c e z=>by
 obtain⟨v,o,ho,hd⟩:=I.cell x c e
 obtain⟨m,⟨o',es,ep,ho',hd',_⟩,_⟩:=I.loc
 rw[z,ho'] at ho;cases ho;rw[hd'] at hd;cases hd
def Inv.kW(I:Inv X pins σ H s):s.heap.FunFrames X.base X.outer:=by
 have all:∀(l:List Env),(∀b∈frs l,b∈X.fs)->X.s₀.heap.FunFrames X.base l->s.heap.FunFrames X.base l:=by
  intro l
  induction l with
  |nil=>intro _ _;trivial
  |cons env r ih =>
   intro hs hl
   obtain⟨hk,⟨L,o,hf,hn,ho,hd⟩,hr⟩:=hl
   have hL:L∈X.fs:=hs L (by unfold frs;rw[Ż,hf];exact Å)
   obtain⟨sl,e⟩:=I.base.slot L o ho (I.ok.frf L hL) hL λz=>I.ok.exfs L z hL
   exact⟨hk,⟨L,_,hf,hn,e,hd⟩,ih (λb hb=>hs b (by unfold frs;rw[Ż,hf];exact Ä _ hb)) hr⟩
 exact all X.outer (λ_ hb=>hb) I.ok.kW
def Inv.stack(I:Inv X pins σ H s):s.heap.FunFrames X.base X.stack:=by
 rcases I.ok.stk with e|⟨e,hf⟩
 ·rw[e];exact I.kW
 ·rw[e]
  obtain⟨m,hn,_⟩:=I.loc
  refine .cons (by rw[I.ok.kind];decide) hf hn ?_ I.kW
  exact Heap.get?_none_of_le (õ I.ok.bsz I.ok.above)
def Inv.qH(I:Inv X pins σ H s):∀b∈frs X.stack,b∈X.env.locals::X.fs:=λb hb=>by
 rcases I.ok.stk with e|⟨e,hf⟩
 ·rw[e] at hb;exact Ä _ hb
 ·rw[e] at hb
  unfold frs at hb
  rw[Ż,hf] at hb
  exact hb
def Inv.Bj(I:Inv X pins σ H s):∀b∈frs X.stack,H b=none:=λb hb=>by
 rcases Ð.mp (I.qH b hb) with e|hb
 ·rw[e];exact I.free
 ·obtain⟨_,o,ho,_⟩:=I.ok.kW.mem hb
  exact I.base.free b o ho (I.ok.frf b hb) λz=>I.ok.exfs b z hb
def Inv.step{g':Array GenState}{t':Nat}{d':Drawn}{ch:List Addr}(I:Inv X pins σ H s)(hch:∀b∈ch,(b∈X.ex\/X.s₀.heap.objs.size<=b)/\b≠X.env.locals/\(∀x c,X.env.cells.lookup x=some c->c≠b)/\∀p∈X.pn++pins,p.1≠b)(keep:∀b o,b≠X.env.locals->b∉X.fs->b∉ch->s.heap.get? b=some o->H b=none->h'.get? b=some o)(slot:∀b o,b≠X.env.locals->b∈X.fs->b∉ch->s.heap.get? b=some o->H b=none->∃sl,h'.get? b=some { o with slots:=sl })(free:∀b o,b∉ch->s.heap.get? b=some o->H b=none->H' b=none)(there:∀b o,b∉ch->s.heap.get? b=some o->∃o',h'.get? b=some o')(tups:∀b xs,H b=some (.tup xs)->H' b=some (.tup xs))(frzs:∀b o u,H b=some (.frz o u)->H' b=some (.frz o u))(tbls:∀b ps,H b=some (.tbl ps)->∃more,H' b=some (.tbl (ps++more)))(ns:∀m,s.heap.Ns X.env.locals m->h'.Ns X.env.locals m)(hok:HOk X.prog X.w H' h')(hg:AllBare g') :
  Inv X pins σ H' { s with heap:=h',gens:=g',drawn:=d',toks:=t' }:=by
 have neL:∀b o,X.s₀.heap.get? b=some o->b≠X.env.locals:=λb o e=>ß (ã (Î e) I.ok.above)
 have neC:∀b o,X.s₀.heap.get? b=some o->b∉X.ex->b∉ch:=λb o e hx hb=>by
  rcases(hch b hb).1 with z|z
  ·exact hx z
  ·exact absurd (ã (Î e) z) (Ă _)
 have cellK:∀x c,X.env.cells.lookup x=some c->∀v,s.heap.IsCell c v->h'.IsCell c v:=λx c e v ⟨o,ho,hd⟩=>by
  have nch:c∉ch:=λz=>(hch c z).2.2.1 x c e rfl
  by_cases hc:c∈X.fs
  ·obtain⟨sl,q⟩:=slot c o (I.cne x c e) hc nch ho (I.freeC x c e)
   exact⟨_,q,hd⟩
  ·exact⟨o,keep c o (I.cne x c e) hc nch ho (I.freeC x c e),hd⟩
 refine⟨I.ok,I.os,hg,⟨λb o e n hb hx=>?_,λb o e n hb hx=>?_,λb o e n hx=>?_,λb o e hx=>?_,λb xs e=>tups b xs (I.base.tups b xs e),λb o xs e=>frzs b o xs (I.base.frzs b o xs e),λb ps e=>?_⟩,?_,λx c e=>?_,?_,λx c e=>?_,λp hp=>?_,hok,I.len⟩
 ·exact keep b o (neL b o e) hb (neC b o e hx) (I.base.keep b o e n hb hx) (I.base.free b o e n hx)
 ·obtain⟨sl,e1⟩:=I.base.slot b o e n hb hx
  obtain⟨sl',e2⟩:=slot b _ (neL b o e) hb (neC b o e hx) e1 (I.base.free b o e n hx)
  exact⟨sl',e2⟩
 ·obtain⟨o',e1⟩:=I.base.there b o e hx
  exact free b o' (neC b o e hx) e1 (I.base.free b o e n hx)
 ·obtain⟨o',e1⟩:=I.base.there b o e hx
  exact there b o' (neC b o e hx) e1
 ·obtain⟨m1,e1⟩:=I.base.tbls b ps e
  obtain⟨m2,e2⟩:=tbls b _ e1
  exact⟨m1++m2,by rw[e2,Array.append_assoc]⟩
 ·obtain⟨m,hn,hl⟩:=I.loc
  refine⟨m,ns m hn,λi x v e1 e2 e3=>?_⟩
  obtain⟨u,r,l⟩:=hl i x v e1 e2 e3
  refine⟨u,r,?_⟩
  rcases l with l|⟨k,c,e,z⟩
  ·exact .inl l
  ·exact .inr ⟨k,c,e,cellK x c e _ z⟩
 ·obtain⟨v,z⟩:=I.cell x c e
  exact⟨v,cellK x c e v z⟩
 ·obtain⟨m,⟨o,_,_,ho,_⟩,_⟩:=I.loc
  exact free _ o (λz=>(hch _ z).2.1 rfl) ho I.free
 ·obtain⟨v,o,ho,hd⟩:=I.cell x c e
  exact free c o (λz=>(hch c z).2.2.1 x c e rfl) ho (I.freeC x c e)
 ·obtain⟨e,n,ne,nf,d⟩:=I.pin p hp
  have nch:p.1∉ch:=λz=>(hch p.1 z).2.2.2 p hp rfl
  exact⟨keep p.1 p.2 ne nf nch e n,free p.1 p.2 nch e n,ne,nf,d⟩
def Inv.un{t':Nat}(I:Inv X pins σ H s)(u:Un X.fs [] H H' s.heap h')(hok:HOk X.prog X.w H' h'):Inv X pins σ H' { s with heap:=h',toks:=t' }:=by
 obtain⟨m,⟨o,es,ep,ho,r⟩,_⟩:=id I.loc
 obtain⟨sl,hL⟩:=u.any ho I.free (by simp)
 exact I.step (g':=s.gens) (d':=s.drawn) (ch:=[]) (λ_ z=>nomatch z) (λb o _ hb _ e n=>u.keep b o e n hb (by simp)) (λb o _ hb _ e n=>u.slot b o e n hb (by simp)) (λb o _ e n=>u.free b o e n (by simp)) (λb o _ e=>u.there b o e (by simp)) u.tups u.frzs u.tbls (λm' hm=>by
  obtain⟨o',es',ep',ho',r'⟩:=hm
  rw[ho] at ho';cases ho'
  exact⟨_,es',ep',hL,r'⟩) hok I.bare
def Inv.call{g':Array GenState}{t':Nat}{d':Drawn}{ch:List Addr}(I:Inv X pins σ H s)(u:Un (frs X.stack) ch H H' s.heap h')(hok:HOk X.prog X.w H' h')(hg:AllBare g')(hch:∀b∈ch,(b∈X.ex\/X.s₀.heap.objs.size<=b)/\b≠X.env.locals/\(∀x c,X.env.cells.lookup x=some c->c≠b)/\∀p∈X.pn++pins,p.1≠b) :
  Inv X pins σ H' { s with heap:=h',gens:=g',drawn:=d',toks:=t' }:=by
 obtain⟨m,⟨o,es,ep,ho,r⟩,_⟩:=id I.loc
 obtain⟨sl,hL⟩:=u.any ho I.free λz=>(hch _ z).2.1 rfl
 exact I.step (ch:=ch) hch (λb o hL hb hc e n=>u.keep b o e n (λz=>(Ð.mp (I.qH b z)).elim hL hb) hc) (λb o _ _ hc e n=>u.any e n hc) (λb o hc e n=>u.free b o e n hc) (λb o hc e=>u.there b o e hc) u.tups u.frzs u.tbls (λm' hm=>by
  obtain⟨o',es',ep',ho',r'⟩:=hm
  rw[ho] at ho';cases ho'
  exact⟨_,es',ep',hL,r'⟩) hok hg
def Inv.turned{t':Nat}{it:Addr}(I:Inv X pins σ H s)(k:∀b o,b≠it->s.heap.get? b=some o->h'.get? b=some o)(hn:H it=none)(hL:it≠X.env.locals)(h1:it∈X.ex\/X.s₀.heap.objs.size<=it)(h2:∀x c,X.env.cells.lookup x=some c->c≠it)(h3:∀p∈X.pn++pins,p.1≠it):Inv X pins σ H { s with heap:=h',toks:=t' }:=by
 have nit:∀b u,H b=some u->b≠it:=λb u e z=>by rw[z,hn] at e;cases e
 refine I.step (g':=s.gens) (d':=s.drawn) (ch:=[it]) (λb hb=>?_) (λb o _ _ hc e _=>k b o (λz=>hc (by simp[z])) e) (λb o _ _ hc e _=>⟨o.slots,k b o (λz=>hc (by simp[z])) e⟩) (λ_ _ _ _ n=>n)
  (λb o hc e=>⟨o,k b o (λz=>hc (by simp[z])) e⟩) (λ_ _ e=>e) (λ_ _ _ e=>e) (λb ps e=>⟨#[],by rw[e];simp⟩) (λm hm=>?_) (λb u e=>?_) I.bare
 ·have e:b=it:=by simpa using hb
  subst e
  exact⟨h1,hL,h2,h3⟩
 ·obtain⟨o,es,ep,ho,r⟩:=hm
  exact⟨o,es,ep,k _ o (ė hL) ho,r⟩
 ·refine(I.hok b u e).stay (λc v hc q=>k c v ?_ q) (λ_ q=>q) λ_ _ q=>q
  rcases hc with z|z
  ·rw[z];exact nit b u e
  ·exact nit c _ z
def Inv.tok(I:Inv X pins σ H s)(t:Nat):Inv X pins σ H { s with toks:=t }:=I.un (h':=s.heap) (t':=t) Un.refl I.hok
def Inv.kept{t':Nat}(I:Inv X pins σ H s)(k:∀b u,s.heap.get? b=some u->h'.get? b=some u):Inv X pins σ H { s with heap:=h',toks:=t' }:=I.un (Un.kept k) (I.hok.kept k)
def Inv.laid{a:Addr}{o:HO}{t':Nat}(I:Inv X pins σ H s)(k:∀b u,s.heap.get? b=some u->h'.get? b=some u)(hp:s.heap.objs.size<=a)(new:bN X.prog X.w (upd H a o) h' a o) :
  Inv X pins σ (upd H a o) { s with heap:=h',toks:=t' }:=I.un (Un.laid k hp (I.hok.fresh hp)) (I.hok.laid k hp new)
def Inv.write{x e:Addr}{o:HO}{t':Nat}(I:Inv X pins σ H s)(mu:Mut (H x))(he:e=x\/H e=some (.own x))(k:∀b u,b≠e->s.heap.get? b=some u->h'.get? b=some u)(heo:∃u,h'.get? e=some u)(new:bN X.prog X.w (upd H x o) h' x o):Inv X pins σ (upd H x o) { s with heap:=h',toks:=t' }:=I.un (Un.write mu he k heo) (I.hok.write mu he k heo new)
def Inv.ql{pins':List (Addr×Obj)}(I:Inv X pins σ H s)(h:∀p∈pins',s.heap.get? p.1=some p.2/\H p.1=none/\p.1≠X.env.locals/\p.1∉X.fs/\∀v,p.2.data≠.cell v):Inv X pins' σ H s :=
 ⟨I.ok,I.os,I.bare,I.base,I.loc,I.cell,I.free,I.freeC,λp hp=>(â.mp hp).elim (λz=>I.pin p (ł _ z)) (h p),I.hok,I.len⟩
def xY{N:List Str}(hN:N.Nodup){i j:Nat}{x:Str}(a:N[i]?=some x)(b:N[j]?=some x):i=j:=by
 obtain⟨h1,e1⟩:=Ê.mp a
 obtain⟨h2,e2⟩:=Ê.mp b
 exact(List.getElem_inj hN).mp (e1.trans e2.symm)
def tL{M:Model}{A:Around}{E:Value->Shared->Prop}{i:Nat}{x:Str}{v:V}{u:Value}{Q:Unit->Shared->Prop}(I:Inv X pins σ H s)(hU:∀j,X.N[j]?=some x->j=i)(hi:X.N[i]?=some x)(hx:Loc X.env.scope x)(r:RelV v u)(h:∀s',Inv X pins (σ.set i (some v)) H s'->(∃a,Heap.SameBut a s.heap s'.heap/\(a=X.env.locals\/X.env.cells.lookup x=some a))->Q () s')(hf:X.fn x=true\/X.env.scope.names.lookup x=some .local:=by first|exact .inl rfl|exact .inr rfl|assumption):wpAny M A (storeName X.env x u) Q E s:=by
 obtain⟨m,hn,hl⟩:=id I.loc
 have hcls:(X.env.scope.kind == .class || (X.env.scope.kind == .module&&X.env.locals != X.env.globals))=false:=by rw[I.ok.kind];rfl
 have hiσ:i<σ.length:=by rw[I.len];exact(Ê.mp hi).1
 have cne:=I.cne
 have tracked:∀{a:Addr}{h':Heap},(∃o,s.heap.get? a=some o/\H a=none)->Heap.SameBut a s.heap h'->HOk X.prog X.w H h':=λ{a h'} ha hs b ob e=>by
  obtain⟨_,_,hfree⟩:=ha
  refine(I.hok b ob e).stay (λc w' hc q=>(hs.2 c ?_).trans q) (λ_ q=>q) λ_ _ q=>q
  rintro rfl
  rcases hc with rfl|hc
  ·rw[hfree] at e;cases e
  ·rw[hfree] at hc;cases hc
 rcases hx with hk|hk
 ·refine wpAny_storeName_local hk hn (λh' hn' hs=>?_) hcls
  obtain⟨oL,_,_,hoL,_⟩:=id hn
  refine h _ ⟨I.ok,I.os,I.bare,⟨λb o e n hb hx=>?_,λb o e n hb hx=>?_,I.base.free,λb o e hx=>?_,I.base.tups,I.base.frzs,I.base.tbls⟩,⟨_,hn',λj y v' e1 e2 e3=>?_⟩,λy c e=>?_,I.free,I.freeC,λp hp=>?_,tracked ⟨oL,hoL,I.free⟩ hs,by simpa using I.len⟩ ⟨_,hs,.inl rfl⟩
  ·exact(hs.2 b (ß (ã (Î e) I.ok.above))).trans (I.base.keep b o e n hb hx)
  ·obtain⟨sl,e1⟩:=I.base.slot b o e n hb hx
   exact⟨sl,(hs.2 b (ß (ã (Î e) I.ok.above))).trans e1⟩
  ·obtain⟨o',e1⟩:=I.base.there b o e hx
   exact⟨o',(hs.2 b (ß (ã (Î e) I.ok.above))).trans e1⟩
  ·by_cases hj:j=i
   ·subst hj
    rw[hi] at e1;cases e1
    rw[ë hiσ] at e2
    cases e2
    exact⟨u,r,.inl ⟨hk,by simp⟩⟩
   ·rw[ď (ė hj)] at e2
    obtain⟨u',r',q⟩:=hl j y v' e1 e2 e3
    refine⟨u',r',?_⟩
    rcases q with ⟨k,e⟩|⟨k,c,e,z⟩
    ·refine .inl ⟨k,?_⟩
     have:y≠x:=λe=>hj (hU _ (e ▸ e1))
     simp[this,e]
    ·exact .inr ⟨k,c,e,z.sameBut hs (cne y c e)⟩
  ·obtain⟨w',z⟩:=I.cell y c e
   exact⟨w',z.sameBut hs (cne y c e)⟩
  ·obtain⟨e,n,ne,nf,d⟩:=I.pin p hp
   exact⟨(hs.2 p.1 ne).trans e,n,ne,nf,d⟩
 ·have hfn:X.fn x=true:=by
   rcases hf with z|z
   ·exact z
   ·rw[z] at hk;cases hk
  obtain⟨c,hc⟩:=I.ok.has x (.inl hk)
  obtain⟨w',z⟩:=I.cell x c hc
  refine wpAny_storeName_cell I.ok.kind hk hc z (λh' hc' hs=>?_)
  obtain⟨oc,hoc,hocd⟩:=id z
  refine h { s with heap:=h' } ⟨I.ok,I.os,I.bare,⟨λb o e n hb hx=>?_,λb o e n hb hx=>?_,I.base.free,λb o e hx=>?_,I.base.tups,I.base.frzs,I.base.tbls⟩,⟨m,hn.sameBut hs (ė (cne x c hc)),λj y v' e1 e2 e3=>?_⟩,λy c' e=>?_,I.free,I.freeC,λp hp=>?_,tracked ⟨oc,hoc,I.freeC x c hc⟩ hs,by simpa using I.len⟩ ⟨c,hs,.inr hc⟩
  ·exact(hs.2 b (ß (ã (Î e) (I.ok.cab x c hfn hc)))).trans (I.base.keep b o e n hb hx)
  ·obtain⟨sl,e1⟩:=I.base.slot b o e n hb hx
   exact⟨sl,(hs.2 b (ß (ã (Î e) (I.ok.cab x c hfn hc)))).trans e1⟩
  ·obtain⟨o',e1⟩:=I.base.there b o e hx
   exact⟨o',(hs.2 b (ß (ã (Î e) (I.ok.cab x c hfn hc)))).trans e1⟩
  ·by_cases hj:j=i
   ·subst hj
    rw[hi] at e1;cases e1
    rw[ë hiσ] at e2
    cases e2
    exact⟨u,r,.inr ⟨.inl hk,c,hc,hc'⟩⟩
   ·rw[ď (ė hj)] at e2
    obtain⟨u',r',q⟩:=hl j y v' e1 e2 e3
    refine⟨u',r',?_⟩
    rcases q with q|⟨k,c',e,z'⟩
    ·exact .inl q
    ·refine .inr ⟨k,c',e,z'.sameBut hs ?_⟩
     rintro rfl
     exact hj (hU _ (I.ok.inj _ _ _ e hc ▸ e1))
  ·by_cases hcc:c'=c
   ·subst hcc;exact⟨_,hc'⟩
   ·obtain⟨w2,z2⟩:=I.cell y c' e
    exact⟨w2,z2.sameBut hs hcc⟩
  ·obtain⟨e,n,ne,nf,d⟩:=I.pin p hp
   refine⟨(hs.2 p.1 ?_).trans e,n,ne,nf,d⟩
   intro q
   rw[q,hoc] at e
   have q':oc=p.2:=à e
   exact d w' (by rw[←q'];exact hocd)
def wX{M:Model}{A:Around}{E:Value->Shared->Prop}{i:Nat}{x:Str}{v:V}{u:Value}{Q:Unit->Shared->Prop}(I:Inv X pins σ H s)(hN:X.N.Nodup)(hi:X.N[i]?=some x)(hx:Loc X.env.scope x)(r:RelV v u)(h:∀s',Inv X pins (σ.set i (some v)) H s'->Q () s')(hf:X.fn x=true\/X.env.scope.names.lookup x=some .local:=by first|exact .inl rfl|exact .inr rfl|assumption):wpAny M A (storeName X.env x u) Q E s :=
 tL I (λj h=>xY hN h hi) hi hx r (λs' I' _=>h s' I') hf
def Inv.call'{s':Shared}{ch:List Addr}(I:Inv X pins σ H s)(ho:s'.os=s.os)(u:Un (frs X.stack) ch H H' s.heap s'.heap)(hok:HOk X.prog X.w H' s'.heap)(hg:AllBare s'.gens)(hch:∀b∈ch,(b∈X.ex\/X.s₀.heap.objs.size<=b)/\b≠X.env.locals/\(∀x c,X.env.cells.lookup x=some c->c≠b)/\∀p∈X.pn++pins,p.1≠b):Inv X pins σ H' s':=by
 obtain⟨h',g',d',t',o'⟩:=s'
 have e:o'=s.os:=ho
 subst e
 exact I.call (g':=g') (t':=t') (d':=d') u hok hg hch
end
abbrev XK:=Value->Option Addr->Hp->Prop
abbrev St:=List (Option V)
abbrev VK:=V->Hp->Prop
abbrev TE:=St->Hp->VK->Prop
abbrev TT:=St->Hp->(Bool->Hp->Prop)->Prop
abbrev TA:=St->Hp->(List V->Hp->Prop)->Prop
structure Ends where
 nx:St->Hp->Prop
 rt:VK
 bk:St->Hp->Prop:=λ_ _=>False
 ct:St->Hp->Prop:=λ_ _=>False
abbrev TS:=Ends->St->Hp->Prop
def EP(X:Cx)(pins:List (Addr×Obj))(σ:St)(Q:VK)(u:Value)(s':Shared):Prop:=∃v H',Inv X pins σ H' s'/\RelV v u/\Q v H'
def TP(X:Cx)(pins:List (Addr×Obj))(σ:St)(Q:Bool->Hp->Prop)(b:Bool)(s':Shared):Prop:=∃H',Inv X pins σ H' s'/\Q b H'
def AP(X:Cx)(pins:List (Addr×Obj))(σ:St)(Q:List V->Hp->Prop)(us:List Value)(s':Shared):Prop:=∃vs H',Inv X pins σ H' s'/\Vals vs us/\Q vs H'
def SP(X:Cx)(pins:List (Addr×Obj))(D:Ends)(f:Flow)(s':Shared):Prop :=
 match f with
 |.next=>∃σ' H',Inv X pins σ' H' s'/\D.nx σ' H'
 |.brk=>∃σ' H',Inv X pins σ' H' s'/\D.bk σ' H'
 |.cont=>∃σ' H',Inv X pins σ' H' s'/\D.ct σ' H'
 |.ret u=>∃v σ' H',Inv X pins σ' H' s'/\RelV v u/\D.rt v H'
def PE(X:Cx)(e:Expr)(t:TE):Prop :=
 ∀(pins:List (Addr×Obj)) (s:Shared) (σ:St) (H:Hp) (Q:VK),Inv X pins σ H s->t σ H Q->wpAny (model X.prog X.w) X.A (eval e X.env) (EP X pins σ Q) X.xe s
def PT(X:Cx)(e:Expr)(t:TT):Prop :=
 ∀(pins:List (Addr×Obj)) (s:Shared) (σ:St) (H:Hp) (Q:Bool->Hp->Prop),Inv X pins σ H s->t σ H Q->wpAny (model X.prog X.w) X.A (isTrue e X.env (eval e X.env)) (TP X pins σ Q) X.xe s
def PW(X:Cx)(e:Expr)(t:TT):Prop :=
 ∀(whole:Sem Value) (pins:List (Addr×Obj)) (s:Shared) (σ:St) (H:Hp) (Q:Bool->Hp->Prop),Inv X pins σ H s->t σ H Q->wpAny (model X.prog X.w) X.A (isTrue e X.env whole) (TP X pins σ Q) X.xe s
def PW.pt{X:Cx}{e:Expr}{t:TT}(h:PW X e t):PT X e t:=h _
def PA(X:Cx)(es:List Expr)(t:TA):Prop :=
 ∀(pos:Pos) (pins:List (Addr×Obj)) (s:Shared) (σ:St) (H:Hp) (Q:List V->Hp->Prop),Inv X pins σ H s->t σ H Q->wpAny (model X.prog X.w) X.A (spliced (backTo pos (starEach es X.env))) (AP X pins σ Q) X.xe s
def PS(X:Cx)(st:Stmt)(t:TS):Prop :=
 ∀(pins:List (Addr×Obj)) (s:Shared) (σ:St) (H:Hp) (D:Ends),Inv X pins σ H s->t D σ H->wpAny (model X.prog X.w) X.A (exec st X.env) (SP X pins D) X.xe s
def PSs(X:Cx)(st:List Stmt)(t:TS):Prop :=
 ∀(pins:List (Addr×Obj)) (s:Shared) (σ:St) (H:Hp) (D:Ends),Inv X pins σ H s->t D σ H->wpAny (model X.prog X.w) X.A (execs st X.env) (SP X pins D) X.xe s
def thn{α:Type}{t:Sem α}{Q Q':α->Shared->Prop}{M:Model}{A:Around}{E:Value->Shared->Prop}{s:Shared}(h:wpAny M A t Q E s)(hQ:∀a s,Q a s->Q' a s):wpAny M A t Q' E s:=ń h hQ λ_ _ x=>x
section
variable {X:Cx}
def bin{a b:Expr}{ta tb:TE}(ha:PE X a ta)(hb:PE X b tb){pins:List (Addr×Obj)}{s:Shared}{σ:St}{H:Hp}{R:V->V->Hp->Prop}(I:Inv X pins σ H s)(h:ta σ H λx H1=>tb σ H1 λy H2=>R x y H2){α:Type}{Q:α->Shared->Prop}{f:Value->Value->Sem α}(hf:∀v u s2 x y H2,Inv X pins σ H2 s2->RelV x v->RelV y u->R x y H2->wpAny (model X.prog X.w) X.A (f v u) Q X.xe s2) :
  wpAny (model X.prog X.w) X.A (eval a X.env) (λv s₁=>wpAny (model X.prog X.w) X.A (eval b X.env) (λu s₂=>wpAny (model X.prog X.w) X.A (f v u) Q X.xe s₂) X.xe s₁) X.xe s:=by
 refine thn (ha pins s σ H _ I h) λv s1 ⟨x,H1,I1,r1,q1⟩=>?_
 refine thn (hb pins s1 σ H1 _ I1 q1) λu s2 ⟨y,H2,I2,r2,q2⟩=>?_
 exact hf v u s2 x y H2 I2 r1 r2 q2
def dJ(i:Nat):TE:=λσ H Q=>∃v,σ[i]?=some (some v)/\Q v H
def tC(v:V):TE:=λ_ H Q=>Q v H
def OD{i:Nat}{x:Str}{pos:Pos}(hN:X.N[i]?=some x)(hv:Vis X.env.scope x)(hd:(x == ("__debug__":Str))=false:=by decide)(hcd:(x == ("__classdict__":Str))=false:=by decide):PE X (.Name x pos) (dJ i):=by
 intro pins s σ H Q I h
 obtain⟨v,e,h⟩:=h
 obtain⟨m,hn,hl⟩:=I.loc
 obtain⟨u,r,l⟩:=hl i x v hN e hv
 have fin:EP X pins σ Q u s:=⟨v,H,I,r,h⟩
 rcases l with ⟨hk,hm⟩|⟨hk,c,hc,hcell⟩
 ·exact wpAny_Name (wpAny_loadName_local I.ok.kind hk hn hm fin) hd
 ·rcases hk with hk|hk
  ·exact wpAny_Name (wpAny_loadName_cell I.ok.kind hk hc hcell fin) hd
  ·exact wpAny_Name (wpAny_loadName_free I.ok.kind hk hc hcell fin hcd) hd
def GQ{i j pos}:PE X (.Constant (.int i) j pos) (tC (.int i)):=λ_ _ _ H _ I h=>wpAny_Constant_int ⟨.int i,H,I.tok _,⟨_,rfl⟩,h⟩
def G4{b j pos}:PE X (.Constant (.bool b) j pos) (tC (.bl b)):=λ_ _ _ H _ I h=>Constant_bool ⟨.bl b,H,I,rfl,h⟩
def OJ{x j pos}:PE X (.Constant (.str x) j pos) (tC (.str x)):=λ_ _ _ H _ I h=>Calls.Constant_str ⟨.str x,H,I.tok _,⟨_,rfl⟩,h⟩
def Gl(X:Cx)(x:Str):Prop:=X.env.kindOf x=some .globalImplicit
def BR{E:Value->Shared->Prop}{pins:List (Addr×Obj)}{s:Shared}{σ:St}{H:Hp}{x:Str}{u:Value}{pos:Pos}{Q:Value->Shared->Prop}(I:Inv X pins σ H s)(hg:Gl X x)(hm:X.mg x=some u)(h:Q u s)(hd:(x == ("__debug__":Str))=false:=by decide):wpAny (model X.prog X.w) X.A (eval (.Name x pos) X.env) Q E s :=
 Calls.Name_function_global I.ok.kind hg (Calls.loadGlobal_global (by rw[I.ok.glob];exact I.mod.glob.keeps I.bk) hm h) hd
def jN{E:Value->Shared->Prop}{pins:List (Addr×Obj)}{s:Shared}{σ:St}{H:Hp}{x:Str}{u:Value}{pos:Pos}{Q:Value->Shared->Prop}(I:Inv X pins σ H s)(hg:Gl X x)(hm:X.mg x=none)(hv:bootBuiltins x=some u)(h:Q u s)(hn:x≠"__name__":=by decide)(hd:(x == ("__debug__":Str))=false:=by decide):wpAny (model X.prog X.w) X.A (eval (.Name x pos) X.env) Q E s:=by
 obtain⟨mb,h1,h2⟩:=I.mod.blt
 exact Calls.Name_function_global I.ok.kind hg (Calls.loadGlobal_builtin (by rw[I.ok.glob];exact I.mod.glob.keeps I.bk) hm (by rw[I.ok.blt];exact h1.keeps I.bk) ((h2 x hn).trans hv) h) hd
def mW{x:Str}{v:V}{u:Value}{pos:Pos}(hg:Gl X x)(hm:X.mg x=none)(hv:bootBuiltins x=some u)(r:RelV v u)(hn:x≠"__name__":=by decide)(hd:(x == ("__debug__":Str))=false:=by decide):PE X (.Name x pos) (tC v) :=
 λ_ _ _ H _ I h=>jN I hg hm hv ⟨v,H,I,r,h⟩ hn hd
variable {a b:Expr}{ta tb:TE}{pos:Pos}
def PC(X:Cx)(op:CmpOp)(a b:Expr)(t:TE):Prop :=
 ∀(pins:List (Addr×Obj)) (s:Shared) (σ:St) (H:Hp) (Q:VK),Inv X pins σ H s->t σ H Q ->
  wpAny (model X.prog X.w) X.A (eval a X.env) (λv s₁=>wpAny (model X.prog X.w) X.A (eval b X.env) (λu s₂=>wpAny (model X.prog X.w) X.A (compareOp op v u) (EP X pins σ Q) X.xe s₂) X.xe s₁) X.xe s
def tB(t:TE):TT:=λσ H Q=>t σ H λx H1=>∃c,x=.bl c/\Q c H1
def U0{op:CmpOp}{t:TE}(h:PC X op a b t)(h1:behindInMarks op b=false:=by first|exact nobehind _ (by decide) (by decide)|rfl):PT X (.Compare a [op] [b] pos) (tB t):=by
 intro pins s σ H Q I hw
 refine wpAny_isTrue_Compare1 (thn (h pins s σ H _ I hw) λv s1 h1=>thn h1 λu s2 h2=>thn h2 λc s3 ⟨x,H1,I1,r1,q1⟩=>?_) h1
 obtain⟨d,rfl,q⟩:=q1
 cases r1
 exact Ĥ ⟨H1,I1,q⟩
def yZ{e:Expr}{t:TE}(h:PE X e t)(he:∀whole,isTrue e X.env whole=(do let v ←whole;standAt e.pos;holding [v] (truthy v)):=by intro _;rfl):PT X e (tB t):=by
 intro pins s σ H Q I hw
 refine isTrue_plain (thn (h pins s σ H _ I hw) λv s1 ⟨x,H1,I1,r1,q1⟩=>?_) (he _)
 obtain⟨d,rfl,q⟩:=q1
 cases r1
 exact Ĥ ⟨H1,I1,q⟩
variable {tA tB':TT}{rest:List Expr}
def Rq(t u:TT):TT:=λσ H Q=>t σ H λc H1=>if c=true then u σ H1 Q else Q false H1
def tOr(t u:TT):TT:=λσ H Q=>t σ H λc H1=>if c=true then Q true H1 else u σ H1 Q
def Ur(t:TT):TT:=λσ H Q=>t σ H λc H1=>Q (!c) H1
def Bu(ha:PT X a tA):PW X (.BoolOp .And [a] pos) tA:=by
 intro wh pins s σ H Q I h
 refine isTrue_and (thn (ha pins s σ H Q I h) λc s1 e=>?_)
 cases c with
 |true=>exact isTrue_and_nil e
 |false=>exact e
def Gq(ha:PT X a tA):PW X (.BoolOp .Or [a] pos) tA:=by
 intro wh pins s σ H Q I h
 refine isTrue_or (thn (ha pins s σ H Q I h) λc s1 e=>?_)
 cases c with
 |false=>exact isTrue_or_nil e
 |true=>exact e
def Gu(ha:PT X a tA)(hb:PW X (.BoolOp .And (b::rest) pos) tB'):PW X (.BoolOp .And (a::b::rest) pos) (Rq tA tB'):=by
 intro wh pins s σ H Q I h
 refine isTrue_and (thn (ha pins s σ H _ I h) λc s1 ⟨H1,I1,q1⟩=>?_)
 cases c with
 |true=>exact hb wh pins s1 σ H1 Q I1 q1
 |false=>exact⟨H1,I1,q1⟩
def Mq(ha:PT X a tA)(hb:PW X (.BoolOp .Or (b::rest) pos) tB'):PW X (.BoolOp .Or (a::b::rest) pos) (tOr tA tB'):=by
 intro wh pins s σ H Q I h
 refine isTrue_or (thn (ha pins s σ H _ I h) λc s1 ⟨H1,I1,q1⟩=>?_)
 cases c with
 |true=>exact⟨H1,I1,q1⟩
 |false=>exact hb wh pins s1 σ H1 Q I1 q1
def zf(ha:PT X a tA):PT X (.UnaryOp .Not a pos) (Ur tA):=by
 intro pins s σ H Q I h
 exact isTrue_not (ha pins s σ H (λc H1=>Q (!c) H1) I h)
def Ro(ta tb:TE):TE:=λσ H Q=>ta σ H λx H1=>∃c,x=.bl c/\if c=true then tb σ H1 Q else Q (.bl false) H1
def Rj(ta:TE):TE:=λσ H Q=>ta σ H λx H1=>∃c,x=.bl c/\Q (.bl (!c)) H1
def O1{op}{t:TE}(h:PE X a t):PE X (.BoolOp op [a] pos) t:=λpins s σ H Q I hw=>BoolOp_one (h pins s σ H Q I hw)
def O4(ha:PE X a ta)(hb:PE X (.BoolOp .And (b::rest) pos) tb):PE X (.BoolOp .And (a::b::rest) pos) (Ro ta tb):=by
 intro pins s σ H Q I h
 refine BoolOp_and (thn (ha pins s σ H _ I h) λv s1 ⟨x,H1,I1,r1,q1⟩=>?_)
 obtain⟨c,rfl,q1⟩:=q1
 cases r1
 refine Ĥ ?_
 cases c with
 |true=>exact hb pins s1 σ H1 Q I1 q1
 |false=>exact⟨.bl false,H1,I1,rfl,q1⟩
def O2(ha:PE X a ta):PE X (.UnaryOp .Not a pos) (Rj ta):=by
 intro pins s σ H Q I h
 refine UnaryOp_ (thn (ha pins s σ H _ I h) λv s1 ⟨x,H1,I1,r1,q1⟩=>?_)
 obtain⟨c,rfl,q1⟩:=q1
 cases r1
 exact not_of (Ĥ ⟨.bl (!c),H1,I1,rfl,q1⟩)
def tIf(t:TT)(ta tb:TE):TE:=λσ H Q=>t σ H λc H1=>if c=true then ta σ H1 Q else tb σ H1 Q
def GX{c:Expr}(hc:PT X c tA)(ha:PE X a ta)(hb:PE X b tb):PE X (.IfExp c a b pos) (tIf tA ta tb):=by
 intro pins s σ H Q I h
 refine wpAny_IfExp (thn (hc pins s σ H _ I h) λd s1 ⟨H1,I1,q1⟩=>?_)
 cases d with
 |true=>exact ha pins s1 σ H1 Q I1 q1
 |false=>exact hb pins s1 σ H1 Q I1 q1
end
def SqL(K:Ú)(H:Hp)(a:Addr)(xs:List V):Prop :=
 Rd H a (.lst xs) ∨
  ∃(o:Obj) (its:Array Value) (n:Nat),K.lookup a=some o/\o.cls=.type "list"/\o.dict=none/\o.data=.seq its n/\its.size<=sizeLine/\Vals xs its.toList
def SqT(K:Ú)(H:Hp)(a:Addr)(xs:List V):Prop :=
 Rd H a (.tup xs) ∨
  ∃(o:Obj) (its:Array Value) (n:Nat),K.lookup a=some o/\o.cls=.type "tuple"/\o.data=.seq its n/\its.size<=sizeLine/\Vals xs its.toList
def Vh:Value->Option V
 |.none=>some .non
 |.bool b=>some (.bl b)
 |.int i _=>some (.int i)
 |.str x _=>some (.str x)
 |.bytes b _=>some (.byt b)
 |.float b _=>some (.flt b)
 |.ref a=>some (.ref a)
 |.type n=>some (.ty n)
 |_=>none
def RelV.abs{x:V}{u:Value}(r:RelV x u):Vh u=some x:=by
 cases x with
 |non=>cases r;rfl
 |bl _=>cases r;rfl
 |int _=>obtain⟨t,rfl⟩:=r;rfl
 |str _=>obtain⟨t,rfl⟩:=r;rfl
 |byt _=>obtain⟨t,rfl⟩:=r;rfl
 |flt _=>obtain⟨t,rfl⟩:=r;rfl
 |ref _=>cases r;rfl
 |ty _=>cases r;rfl
def RelV.inj{x y:V}{u:Value}(r:RelV x u)(q:RelV y u):x=y:=à (r.abs.symm.trans q.abs)
def Vals.inj:∀{xs ys:List V}{us:List Value},Vals xs us->Vals ys us->xs=ys
 |_,_,_,.nil,.nil=>rfl
 |_,_,_,.cons r t,.cons r' t'=>by rw[r.inj r',Vals.inj t t']
section
variable {X:Cx}{pins:List (Addr×Obj)}{σ:St}{H:Hp}{s:Shared}{a:Addr}{xs ys:List V}
def SqL.of{K:Ú}(h:H a=some (.lst xs)):SqL K H a xs:=.inl (.inl h)
def SqT.of{K:Ú}(h:H a=some (.tup xs)):SqT K H a xs:=.inl (.inl h)
def Inv.list(I:Inv X pins σ H s)(h:SqL X.K H a xs):∃its:List Value,Vals xs its/\PlainL s.heap a its.toArray/\xs.length<=sizeLine:=by
 rcases h with h|⟨o,its,n,hk,hc,hd,hs,hz,r⟩
 ·obtain⟨z,its,n,r,e⟩:=h.ok I.hok
  exact⟨its,r,⟨_,n,e,rfl,rfl,rfl⟩,z⟩
 ·refine⟨its.toList,r,⟨o,n,I.kIn a o hk,hc,hd,by simpa using hs⟩,?_⟩
  have e:=r.length
  simp only[ķ] at e
  omega
def Inv.tuple(I:Inv X pins σ H s)(h:SqT X.K H a xs):∃its:List Value,Vals xs its/\IsTup s.heap a its.toArray/\xs.length<=sizeLine:=by
 rcases h with h|⟨o,its,n,hk,hc,hs,hz,r⟩
 ·obtain⟨z,its,r,p⟩:=h.ok I.hok
  exact⟨its,r,p,z⟩
 ·refine⟨its.toList,r,⟨o,I.kIn a o hk,hc,n,by simpa using hs⟩,?_⟩
  have e:=r.length
  simp only[ķ] at e
  omega
def Inv.Io(I:Inv X pins σ H s)(h:SqL X.K H a xs)(h':SqL X.K H a ys):xs=ys:=by
 obtain⟨its,r,⟨o,n,e,_,_,d⟩,_⟩:=I.list h
 obtain⟨its',r',⟨o',n',e',_,_,d'⟩,_⟩:=I.list h'
 rw[e] at e';cases e'
 rw[d] at d'
 injection d' with d1 _
 have:its=its':=by simpa using congrArg Array.toList d1
 subst this
 exact r.inj r'
def Inv.Dc(I:Inv X pins σ H s)(h:SqT X.K H a xs)(h':SqT X.K H a ys):xs=ys:=by
 obtain⟨its,r,⟨o,e,_,n,d⟩,_⟩:=I.tuple h
 obtain⟨its',r',⟨o',e',_,n',d'⟩,_⟩:=I.tuple h'
 rw[e] at e';cases e'
 rw[d] at d'
 injection d' with d1 _
 have:its=its':=by simpa using congrArg Array.toList d1
 subst this
 exact r.inj r'
end
abbrev Cx.wish(X:Cx)(E:Value->Shared->Prop):Cx:={ X with xe:=E }
abbrev Cx.nox(X:Cx):Cx:=X.wish λ_ _=>False
def Cx.Ok.wish{X:Cx}(ok:X.Ok)(E:Value->Shared->Prop):(X.wish E).Ok :=
 ⟨ok.mod,ok.kind,ok.glob,ok.blt,ok.above,ok.inj,ok.has,ok.cab,ok.hd,ok.frames,ok.stk,ok.exf,ok.bs,ok.bsz,ok.noex,ok.exfs,ok.kW,ok.frf,ok.sof⟩
def Cx.Ok.jt{X:Cx}{E:Value->Shared->Prop}(ok:(X.wish E).Ok):X.Ok :=
 ⟨ok.mod,ok.kind,ok.glob,ok.blt,ok.above,ok.inj,ok.has,ok.cab,ok.hd,ok.frames,ok.stk,ok.exf,ok.bs,ok.bsz,ok.noex,ok.exfs,ok.kW,ok.frf,ok.sof⟩
section
variable {X:Cx}{pins:List (Addr×Obj)}{σ:St}{H:Hp}{s:Shared}{E:Value->Shared->Prop}
def Inv.wish(I:Inv X pins σ H s)(E:Value->Shared->Prop):Inv (X.wish E) pins σ H s:=⟨I.ok.wish E,I.os,I.bare,I.base,I.loc,I.cell,I.free,I.freeC,I.pin,I.hok,I.len⟩
def Inv.jt(I:Inv (X.wish E) pins σ H s):Inv X pins σ H s:=⟨I.ok.jt,I.os,I.bare,I.base,I.loc,I.cell,I.free,I.freeC,I.pin,I.hok,I.len⟩
def SP.jt{D:Ends}{f:Flow}{s':Shared}(h:SP (X.wish E) pins D f s'):SP X pins D f s':=by
 cases f with
 |next=>obtain⟨σ',H',I,q⟩:=h;exact⟨σ',H',I.jt,q⟩
 |brk=>obtain⟨σ',H',I,q⟩:=h;exact⟨σ',H',I.jt,q⟩
 |cont=>obtain⟨σ',H',I,q⟩:=h;exact⟨σ',H',I.jt,q⟩
 |ret u=>obtain⟨v,σ',H',I,r,q⟩:=h;exact⟨v,σ',H',I.jt,r,q⟩
def PSs.nox{st:List Stmt}{t:TS}(h:PSs X.nox st t):PSs X st t:=λpins s σ H D I hw =>
 ń (h pins s σ H D (I.wish _) hw) (λ_ _ q=>q.jt) λ_ _ z=>Į z
end
section
variable {X:Cx}{st:Stmt}{rest:List Stmt}{t u:TS}{e:Expr}{te:TE}{pos:Pos}
def FZ:TS:=λD σ H=>D.nx σ H
def sS(t u:TS):TS:=λD σ H=>t { D with nx:=u D } σ H
def dG:PSs X [] FZ:=λ_ _ σ H _ I h=>wpAny_execs_nil ⟨σ,H,I,h⟩
def gJ(h1:PS X st t)(h2:PSs X rest u):PSs X (st::rest) (sS t u):=by
 intro pins s σ H D I h
 refine wpAny_execs_cons (thn (h1 pins s σ H { D with nx:=u D } I h) λf s1 q=>?_)
 cases f with
 |next =>
  obtain⟨σ',H',I',q⟩:=q
  exact h2 pins s1 σ' H' D I' q
 |ret v=>exact q
 |brk=>exact q
 |cont=>exact q
def u6(h1:PS X st t):PSs X [st] t:=by
 intro pins s σ H D I h
 refine wpAny_execs_cons (thn (h1 pins s σ H D I h) λf s1 q=>?_)
 cases f with
 |next=>exact wpAny_execs_nil q
 |ret v=>exact q
 |brk=>exact q
 |cont=>exact q
def Inv.quiet{pins:List (Addr×Obj)}{σ:St}{H:Hp}{s:Shared}(I:Inv X pins σ H s):interactive X.env=false:=by simp[interactive,I.ok.kind]
def jh(te:TE):TS:=λD σ H=>te σ H λ_ H1=>D.nx σ H1
def bL(he:PE X e te)(hs:swapsWith e none pos.line X.env=pure false:=by rfl):PS X (.Expr e pos) (jh te):=by
 intro pins s σ H D I h
 exact wpAny_Expr_any (thn (he pins s σ H _ I h) λv s1 ⟨x,H1,I1,r1,q1⟩=>⟨σ,H1,I1,q1⟩) I.quiet hs
def Uq(te:TE):TS:=λD σ H=>te σ H D.rt
def gq(he:PE X e te):PS X (.Return (some e) pos) (Uq te):=by
 intro pins s σ H D I h
 exact wpAny_Return_some (thn (he pins s σ H _ I h) λv s1 ⟨x,H1,I1,r1,q1⟩=>⟨x,σ,H1,I1,r1,q1⟩)
def Rm(c:TT)(t u:TS):TS:=λD σ H=>c σ H λb H1=>if b=true then t D σ H1 else u D σ H1
def jA{c:Expr}{a b:List Stmt}{tc:TT}(hc:PT X c tc)(ha:PSs X a t)(hb:PSs X b u):PS X (.If c a b pos) (Rm tc t u):=by
 intro pins s σ H D I h
 refine wpAny_If (thn (hc pins s σ H _ I h) λd s1 ⟨H1,I1,q1⟩=>?_)
 cases d with
 |true=>exact ha pins s1 σ H1 D I1 q1
 |false=>exact hb pins s1 σ H1 D I1 q1
def Oc:TS:=λ_ _ _=>False
def Gw:PS X st Oc:=λ_ _ _ _ _ _ h=>h.elim
end
abbrev TG:=V->St->Hp->(St->Hp->Prop)->Prop
abbrev TGs:=List V->St->Hp->(St->Hp->Prop)->Prop
def PG(X:Cx)(target:Expr)(t:TG):Prop :=
 ∀(pins:List (Addr×Obj)) (s:Shared) (σ:St) (H:Hp) (v:V) (u:Value) (Q:St->Hp->Prop),Inv X pins σ H s->RelV v u->t v σ H Q ->
  wpAny (model X.prog X.w) X.A (assign target X.env u) (λ_ s'=>∃σ' H',Inv X pins σ' H' s'/\Q σ' H') X.xe s
def PGs(X:Cx)(ts:List Expr)(t:TGs):Prop :=
 ∀(pins:List (Addr×Obj)) (s:Shared) (σ:St) (H:Hp) (vs:List V) (us:List Value) (Q:St->Hp->Prop),Inv X pins σ H s->Vals vs us->t vs σ H Q ->
  wpAny (model X.prog X.w) X.A (assignInOrder ((assignEach ts X.env).map (·.2)) us) (λ_ s'=>∃σ' H',Inv X pins σ' H' s'/\Q σ' H') X.xe s
abbrev Q5:=V->V->V->Hp->(Hp->Prop)->Prop
def Ue(X:Cx)(t:Q5):Prop :=
 ∀(pins:List (Addr×Obj)) (s:Shared) (σ:St) (H:Hp) (o i v:V) (ov iv u:Value) (Q:Hp->Prop),Inv X pins σ H s->RelV o ov->RelV i iv->RelV v u->t o i v H Q ->
  wpAny (model X.prog X.w) X.A (setItem ov iv u) (λ_ s'=>∃H',Inv X pins σ H' s'/\Q H') X.xe s
section
variable {X:Cx}{pos:Pos}
def iw(i:Nat):TG:=λv σ H Q=>Q (σ.set i (some v)) H
def Bw{i:Nat}{x:Str}(hN:X.N.Nodup)(hi:X.N[i]?=some x)(hx:Loc X.env.scope x)(hf:X.fn x=true\/X.env.scope.names.lookup x=some .local:=by first|exact .inl rfl|exact .inr rfl|assumption):PG X (.Name x pos) (iw i):=by
 intro pins s σ H v u Q I r h
 exact wpAny_assign_Name (wX I hN hi hx r (λs' I'=>⟨_,H,I',h⟩) hf)
def Vd:TGs:=λvs σ H Q=>vs=[]/\Q σ H
def Tn(t:TG)(u:TGs):TGs:=λvs σ H Q=>∃v r,vs=v::r/\t v σ H λσ' H'=>u r σ' H' Q
def Bv:PGs X [] Vd:=by
 intro pins s σ H vs us Q I r h
 obtain⟨e,h⟩:=h
 subst e
 cases r
 exact assignInOrder_nil ⟨σ,H,I,h⟩
def mU{e:Expr}{es:List Expr}{t:TG}{u:TGs}(h1:PG X e t)(h2:PGs X es u)(hs:(assignEach (e::es) X.env).map (·.2)=assign e X.env::(assignEach es X.env).map (·.2):=by rfl):PGs X (e::es) (Tn t u):=by
 intro pins s σ H vs us Q I r h
 obtain⟨v,vr,e1,h⟩:=h
 subst e1
 cases r with
 |cons r rr =>
  rw[hs]
  refine assignInOrder_cons (thn (h1 pins s σ H _ _ _ I r h) λ_ s1 ⟨σ1,H1,I1,q1⟩=>?_)
  exact h2 pins s1 σ1 H1 _ _ Q I1 rr q1
def Vc(K:Ú)(n:Nat)(t:TGs):TG:=λv σ H Q=>∃a xs,v=.ref a/\SqT K H a xs/\xs.length=n/\t xs σ H Q
def GD{es:List Expr}{k:Nat}{t:TGs}{n:Nat}(hc:X.calm=true)(h:PGs X es t)(hn:(assignEach es X.env).length=n:=by rfl)(hst:(assignEach es X.env).findIdx? (·.1)=none:=by rfl):PG X (.Tuple es k pos) (Vc X.K n t):=by
 intro pins s σ H v u Q I r hw
 obtain⟨a,xs,e1,hq,hl,hw⟩:=hw
 subst e1
 cases r
 obtain⟨its,rv,ht,hz⟩:=I.tuple hq
 refine assign_Tuple_tuple (I.ok.hd hc) ht (by simp[hn,←hl,rv.length]) hst λh' hx=>?_
 have I1:Inv X pins σ H { s with heap:=h' }:=I.kept (t':=s.toks) λb o e=>hx b o (ß (Î e)) e
 exact h pins _ σ H xs _ Q I1 (by simpa using rv) hw
def Te(to ti:TE)(t:Q5):TG:=λv σ H Q=>to σ H λo H1=>ti σ H1 λi H2=>t o i v H2 λH3=>Q σ H3
def u9{o i:Expr}{to ti:TE}{t:Q5}(ho:PE X o to)(hi:PE X i ti)(hs:Ue X t)(ha:∀v,assign (.Subscript o i pos) X.env v=(do
   let ov ←holding [v] (eval o X.env)
   let iv ←holding [v,ov] (eval i X.env)
   standAt pos
   holding [v,ov,iv] (setItem ov iv v)
   release [v,ov,iv] []):=by intro _;rfl):PG X (.Subscript o i pos) (Te to ti t):=by
 intro pins s σ H v u Q I r h
 rw[ha]
 refine Ã (Ē (thn (ho pins s σ H _ I h) λov s1 ⟨x,H1,I1,r1,q1⟩=>?_))
 refine Ã (Ē (thn (hi pins s1 σ H1 _ I1 q1) λiv s2 ⟨y,H2,I2,r2,q2⟩=>?_))
 refine Ã (wpAny_standAt (Ã (Ē (thn (hs pins s2 σ H2 x y v ov iv u _ I2 r1 r2 r q2) λ_ s3 ⟨H3,I3,q3⟩=>?_))))
 exact wpAny_release ⟨σ,H3,I3,q3⟩
def sU(te:TE)(g:TG):TS:=λD σ H=>te σ H λx H1=>g x σ H1 D.nx
def qO{tg e:Expr}{te:TE}{g:TG}(he:PE X e te)(hg:PG X tg g)(hs:swapsWithSole [tg] e pos.line X.env=pure false:=by rfl)(hw:swappedStores [tg] e X.env=pure none:=by rfl)(h1:(assignEach [tg] X.env).map (·.2)=[assign tg X.env]:=by rfl):PS X (.Assign [tg] e pos) (sU te g):=by
 intro pins s σ H D I h
 refine wpAny_Assign_stores (thn (he pins s σ H _ I h) λv s1 ⟨x,H1,I1,r1,q1⟩=>?_) hs hw
 rw[h1]
 exact thn (hg pins s1 σ H1 x v _ I1 r1 q1) λ_ s2 q=>q
def zm{i:Nat}{x:Str}{e:Expr}{te:TE}{pos':Pos}(hN:X.N.Nodup)(hi:X.N[i]?=some x)(hx:Loc X.env.scope x)(he:PE X e te)(hs:swapsWith e (some (.Name x pos')) pos.line X.env=pure false:=by rfl)(hf:X.fn x=true\/X.env.scope.names.lookup x=some .local:=by first|exact .inl rfl|exact .inr rfl|assumption) :
  PS X (.Assign [.Name x pos'] e pos) (sU te (iw i)):=by
 intro pins s σ H D I h
 refine wpAny_Assign_Name (thn (he pins s σ H _ I h) λv s1 ⟨y,H1,I1,r1,q1⟩=>?_) hs
 exact wX I1 hN hi hx r1 (λs2 I2=>⟨_,H1,I2,q1⟩) hf
end
section
variable {X:Cx}{pos:Pos}
def Oa(c:TT)(tb:TS):TS:=λD σ H=>∃W:Nat->St->Hp->Prop,(∃m,W m σ H)/\∀m σ H,W m σ H ->
 c σ H λb H1=>if b=true then ∃N:St->Hp->Prop,(∀σ' H',N σ' H'->∃m',m'<m/\W m' σ' H')/\tb { D with nx:=N,ct:=N,bk:=D.nx } σ H1 else D.nx σ H1
def Gv{c:Expr}{body:List Stmt}{tc:TT}{tb:TS}(hp:PassesOwn (model X.prog X.w) X.A X.env X.xe)(hc:PT X c tc)(hb:PSs X body tb):PS X (.While c body [] pos) (Oa tc tb):=by
 intro pins s σ H D I h
 obtain⟨W,⟨m0,w0⟩,turn⟩:=h
 refine wpAny_While (codeAny_whileLoop (λn s'=>∃σ' H',Inv X pins σ' H' s'/\W n σ' H') ?_ m0 ⟨σ,H,I,w0⟩)
 rintro n s1 ⟨σ1,H1,I1,w1⟩
 refine ů hp (thn (hc pins s1 σ1 H1 _ I1 (turn n σ1 H1 w1)) λb s2 ⟨H2,I2,q2⟩=>?_)
 cases b with
 |true =>
  obtain⟨N,hN,q2⟩:=q2
  rw[if_pos rfl]
  refine ů hp (thn (hb pins s2 σ1 H2 _ I2 q2) λf s3 q3=>?_)
  cases f with
  |next =>
   obtain⟨σ3,H3,I3,n3⟩:=q3
   obtain⟨m',hm,w3⟩:=hN σ3 H3 n3
   exact⟨m',hm,σ3,H3,I3,w3⟩
  |cont =>
   obtain⟨σ3,H3,I3,n3⟩:=q3
   obtain⟨m',hm,w3⟩:=hN σ3 H3 n3
   exact⟨m',hm,σ3,H3,I3,w3⟩
  |brk=>exact q3
  |ret v=>exact q3
 |false =>
  rw[if_neg Ó]
  exact wpAny_execs_nil ⟨σ1,H2,I2,q2⟩
end
structure It where
 go:Nat->Hp->Prop
 yld:Nat->Hp->V->Hp->Prop
 stop:Nat->Hp->Prop
def sJ(X:Cx)(pins:List (Addr×Obj))(H:Hp)(b:Addr):Prop :=
 H b=none/\b≠X.env.locals/\b∉X.fs/\(b∈X.ex\/X.s₀.heap.objs.size<=b)/\(∀x c,X.env.cells.lookup x=some c->c≠b)/\∀p∈X.pn++pins,p.1≠b
def Inv.Qv{X:Cx}{pins:List (Addr×Obj)}{σ:St}{H H':Hp}{s:Shared}{b:Addr}(I:Inv X pins σ H s)(hb:s.heap.objs.size<=b)(hn:H' b=none):sJ X pins H' b:=by
 refine⟨hn,ŷ (ã I.lt hb),I.U3 hb,.inr (õ I.sz hb),λx c e z=>?_,λp hp z=>?_⟩
 ·obtain⟨v,q⟩:=I.cell x c e
  exact absurd (ã q.lt (by rw[z];exact hb)) (Ă _)
 ·exact absurd (ã (Î (I.pin p hp).1) (by rw[z];exact hb)) (Ă _)
structure TurnG(Cm:Cx->Prop)(P:Program)(w:World)(K:Ú)(tg:Expr)(J:It)(fp:List Addr)(it:Addr)(tn:Nat->Heap->Prop):Prop where
 mem:it∈fp
 obj:∀i h,tn i h->∀b∈fp,∃o,h.get? b=some o/\∀v,o.data≠.cell v
 keep:∀i h h',tn i h->(∀b∈fp,∀o,h.get? b=some o->h'.get? b=some o)->tn i h'
 item:∀(X:Cx),X.prog=P->X.w=w->X.K=K->Cm X->∀(i:Nat) (pins:List (Addr×Obj)) (s:Shared) (σ:St) (H:Hp) (E:Value->Shared->Prop),Inv X pins σ H s->(∀b∈fp,sJ X pins H b)->tn i s.heap->J.go i H ->
  wpAny (model P w) X.A (pyNext (.ref it)) (λr s1=>∃u,r=some u /\
   wpAny (model P w) X.A (letOwnedTupleGo tg (.ref it) u) (λ_ s2=>∃x H',Inv X pins σ H' s2/\RelV x u/\J.yld i H x H'/\tn (i+1) s2.heap/\∀b∈fp,H' b=none) E s1) E s
 done:∀(X:Cx),X.prog=P->X.w=w->X.K=K->Cm X->∀(i:Nat) (pins:List (Addr×Obj)) (s:Shared) (σ:St) (H:Hp) (E:Value->Shared->Prop),Inv X pins σ H s->(∀b∈fp,sJ X pins H b)->tn i s.heap->J.stop i H ->
  wpAny (model P w) X.A (pyNext (.ref it)) (λr s1=>r=none/\Inv X pins σ H s1) E s
 self:∀(A:Around) (i:Nat) (s:Shared) (Q:Value->Shared->Prop) (E:Value->Shared->Prop),tn i s.heap->Q (.ref it) s->wpAny (model P w) A (pyIter (.ref it)) Q E s
abbrev Turn(P:Program)(w:World)(K:Ú)(tg:Expr)(J:It)(fp:List Addr)(it:Addr)(tn:Nat->Heap->Prop):Prop:=TurnG (λX=>X.calm=true) P w K tg J fp it tn
abbrev TI:=St->Hp->(It->Hp->Prop)->Prop
def Ug(Cm:Cx->Prop)(X:Cx)(pins:List (Addr×Obj))(σ:St)(tg:Expr)(R:It->Hp->Prop)(itv:Value)(s2:Shared):Prop :=
 ∃(it:Addr) (fp:List Addr) (tn:Nat->Heap->Prop) (J:It) (H':Hp),itv=.ref it/\Inv X pins σ H' s2/\TurnG Cm X.prog X.w X.K tg J fp it tn/\tn 0 s2.heap/\(∀b∈fp,sJ X pins H' b)/\R J H'
def PIG(Cm:Cx->Prop)(X:Cx)(tg iter:Expr)(wi:TI):Prop :=
 ∀(pins:List (Addr×Obj)) (s:Shared) (σ:St) (H:Hp) (R:It->Hp->Prop),Inv X pins σ H s->wi σ H R ->
  wpAny (model X.prog X.w) X.A (eval iter X.env) (λv s1=>wpAny (model X.prog X.w) X.A (pyIter v) (Ug Cm X pins σ tg R) X.xe s1) X.xe s
abbrev PIE(X:Cx):=Ug (λX=>X.calm=true) X
abbrev PI(X:Cx):=PIG (λX=>X.calm=true) X
def Jb{M:Model}{A:Around}{E:Value->Shared->Prop}{s:Shared}{tg:Expr}{it:Addr}{u:Value}{o:Obj}{n:String}{vs:Array Value}{Q:Unit->Shared->Prop}(ho:s.heap.get? it=some o)(hc:o.cls=.type n)(hd:o.data=.fields vs)(hn:["enumerate","zip","dict_itemiterator","dict_reverseitemiterator","odict_iterator","itertools.zip_longest","itertools.pairwise"].contains n=false)(hQ:Q () s):wpAny M A (letOwnedTupleGo tg (.ref it) u) Q E s:=by
 unfold letOwnedTupleGo
 cases tg <;> first
  |exact Ô hQ
  | (cases u <;> first
    |exact Ô hQ
    | (refine Ã (wpAny_load ho ?_)
       rw[hc,hd]
       show wpAny M A (if (["enumerate","zip","dict_itemiterator","dict_reverseitemiterator","odict_iterator","itertools.zip_longest","itertools.pairwise"].contains n&&vs[0]? == some (rawInt _))=true then _ else _) Q E s
       rw[if_neg (by intro h;rw[hn,Bool.false_and] at h;cases h)]
       exact Ô hQ))
def Itl(K:Ú)(a:Addr):It :=
 ⟨λi H=>∃xs x,SqL K H a xs/\xs[i]?=some x,λi H x H'=>H'=H/\∀xs,SqL K H a xs->xs[i]?=some x,λi H=>∃xs,SqL K H a xs/\xs.length<=i⟩
def Itt(K:Ú)(a:Addr):It :=
 ⟨λi H=>∃xs x,SqT K H a xs/\xs[i]?=some x,λi H x H'=>H'=H/\∀xs,SqT K H a xs->xs[i]?=some x,λi H=>∃xs,SqT K H a xs/\xs.length<=i⟩
def Itr(lo:Int)(n:Nat):It:=⟨λi _=>i<n,λi H x H'=>H'=H/\x=.int (lo+i),λi _=>n<=i⟩
def CZ{P:Program}{w:World}{K:Ú}{tg:Expr}(a it:Addr):Turn P w K tg (Itl K a) [it] it (λi h=>h.IsListIter it a i) where
 mem:=by simp
 obj:=λi h st b hb=>by
  have e:b=it:=by simpa using hb
  subst e
  obtain⟨o,e,c,d⟩:=st
  exact⟨o,e,λv z=>by rw[d] at z;cases z⟩
 keep:=λi h h' st k=>st.at λo e=>k it (by simp) o e
 item:=by
  intro X hP hw hK hc i pins s σ H E I hf st hg
  subst hP hw hK
  obtain⟨xs,x,hq,hx⟩:=hg
  obtain⟨its,rv,p,hz⟩:=I.list hq
  obtain⟨u,hu,ru⟩:=rv.get hx
  obtain⟨f0,f1,f2,f3,f4,f5⟩:=hf it (by simp)
  refine wpAny_pyNext_list_item st p.isList (x:=u) (by simpa using hu) λh' st' sb=>?_
  have I1:Inv X pins σ H { s with heap:=h' }:=I.turned (t':=s.toks) (λb o hb e=>(sb.2 b hb).trans e) f0 f1 f3 f4 f5
  obtain⟨o,e,c,d⟩:=id st'
  exact⟨u,rfl,Jb (s:={ s with heap:=h' }) e c d (by decide) ⟨x,H,I1,ru,⟨rfl,λys hy=>by rw[I.Io hy hq];exact hx⟩,st',λb hb=>(hf b hb).1⟩⟩
 done:=by
  intro X hP hw hK hc i pins s σ H E I hf st hg
  subst hP hw hK
  obtain⟨xs,hq,hx⟩:=hg
  obtain⟨its,rv,p,hz⟩:=I.list hq
  obtain⟨f0,f1,f2,f3,f4,f5⟩:=hf it (by simp)
  have hl:=rv.length
  exact wpAny_pyNext_list_end (I.ok.hd hc) st p.isList (by simp;omega) λh' eb=>⟨rfl,I.turned (t':=s.toks) (λb o hb e=>eb b o hb e) f0 f1 f3 f4 f5⟩
 self:=λ_ _ _ _ _ st h=>wpAny_pyIter_listiter st h
def yQ{P:Program}{w:World}{K:Ú}{tg:Expr}(a it:Addr):Turn P w K tg (Itt K a) [it] it (λi h=>h.IsTupleIter it a i) where
 mem:=by simp
 obj:=λi h st b hb=>by
  have e:b=it:=by simpa using hb
  subst e
  obtain⟨o,e,c,d⟩:=st
  exact⟨o,e,λv z=>by rw[d] at z;cases z⟩
 keep:=λi h h' st k=>st.at λo e=>k it (by simp) o e
 item:=by
  intro X hP hw hK hc i pins s σ H E I hf st hg
  subst hP hw hK
  obtain⟨xs,x,hq,hx⟩:=hg
  obtain⟨its,rv,p,hz⟩:=I.tuple hq
  obtain⟨u,hu,ru⟩:=rv.get hx
  obtain⟨f0,f1,f2,f3,f4,f5⟩:=hf it (by simp)
  refine wpAny_pyNext_tuple_item st (show s.heap.IsTuple a its.toArray from p) (x:=u) (by simpa using hu) λh' st' sb=>?_
  have I1:Inv X pins σ H { s with heap:=h' }:=I.turned (t':=s.toks) (λb o hb e=>(sb.2 b hb).trans e) f0 f1 f3 f4 f5
  obtain⟨o,e,c,d⟩:=id st'
  exact⟨u,rfl,Jb (s:={ s with heap:=h' }) e c d (by decide) ⟨x,H,I1,ru,⟨rfl,λys hy=>by rw[I.Dc hy hq];exact hx⟩,st',λb hb=>(hf b hb).1⟩⟩
 done:=by
  intro X hP hw hK hc i pins s σ H E I hf st hg
  subst hP hw hK
  obtain⟨xs,hq,hx⟩:=hg
  obtain⟨its,rv,p,hz⟩:=I.tuple hq
  obtain⟨f0,f1,f2,f3,f4,f5⟩:=hf it (by simp)
  have hl:=rv.length
  exact wpAny_pyNext_tuple_end (I.ok.hd hc) st (show s.heap.IsTuple a its.toArray from p) (by simp;omega) λh' eb=>⟨rfl,I.turned (t':=s.toks) (λb o hb e=>eb b o hb e) f0 f1 f3 f4 f5⟩
 self:=λ_ _ _ _ _ st h=>wpAny_pyIter_tupleiter st h
def yR{P:Program}{w:World}{K:Ú}{tg:Expr}(it:Addr)(lo:Int)(n:Nat):Turn P w K tg (Itr lo n) [it] it (λi h=>IsRangeIter h it (lo+(i:Nat) * 1) ((n:Int) - (i:Nat)) 1) where
 mem:=by simp
 obj:=λi h st b hb=>by
  have e:b=it:=by simpa using hb
  subst e
  exact⟨_,st,λv z=>by
   have z':Data.fields _=Data.cell v:=z
   cases z'⟩
 keep:=λi h h' st k=>k it (by simp) _ st
 item:=by
  intro X hP hw hK hc i pins s σ H E I hf st hg
  subst hP hw hK
  obtain⟨f0,f1,f2,f3,f4,f5⟩:=hf it (by simp)
  have W:=Walks.range (prog:=X.prog) (w:=X.w) (I.ok.hd hc) it lo 1 n
  refine W.item i s _ _ hg st λv h' tk hv st' kk=>?_
  obtain⟨t,rfl⟩:=hv
  have I1:Inv X pins σ H { s with heap:=h',toks:=tk }:=I.turned (λb o hb e=>kk b o (by simpa using hb) e) f0 f1 f3 f4 f5
  refine⟨_,rfl,Jb (s:={ s with heap:=h',toks:=tk }) (n:="range_iterator") st' rfl rfl (by decide) ⟨.int (lo+i),H,I1,⟨t,?_⟩,⟨rfl,rfl⟩,st',λb hb=>(hf b hb).1⟩⟩
  rw[Int.mul_one]
 done:=by
  intro X hP hw hK hc i pins s σ H E I hf st hg
  subst hP hw hK
  obtain⟨f0,f1,f2,f3,f4,f5⟩:=hf it (by simp)
  exact wpAny_pyNext_range_end (I.ok.hd hc) st (by have:n<=i:=hg;omega) λh' eb=>⟨rfl,I.turned (t':=s.toks) (λb o hb e=>eb b o hb e) f0 f1 f3 f4 f5⟩
 self:=λ_ _ _ _ _ st h=>wpAny_pyIter_rangeiter st h
section
variable {X:Cx}{tg:Expr}
def xr{pins:List (Addr×Obj)}{σ:St}{H:Hp}{s:Shared}{R:It->Hp->Prop}{E:Value->Shared->Prop}{lo hi:Int}{t u v:Tok}{tk:Nat}(I:Inv X pins σ H s)(h1:-(2 ^ 62)<=lo)(h2:lo<2 ^ 62)(h3:-(2 ^ 62)<=hi)(h4:hi<2 ^ 62)(q:R (Itr lo (hi - lo).toNat) H):wpAny (model X.prog X.w) X.A (pyIter (.ref s.heap.objs.size)) (PIE X pins σ tg R) E { s with heap:=s.heap.push { cls:=.type "range",data:=.fields #[.int lo t,.int hi u,.int 1 v] },toks:=tk }:=by
 refine wpAny_pyIter_range (IsRange.new ..) (small_one h1 h2 h3 h4) ?_
 have I1:Inv X pins σ H { s with heap:=s.heap.push { cls:=.type "range",data:=.fields #[.int lo t,.int hi u,.int 1 v] },toks:=tk }:=I.kept λb o e=>Ñ _ e
 refine⟨(s.heap.push { cls:=.type "range",data:=.fields #[.int lo t,.int hi u,.int 1 v] }).objs.size,[(s.heap.push { cls:=.type "range",data:=.fields #[.int lo t,.int hi u,.int 1 v] }).objs.size],_,_,H,rfl,
  I1.kept (t':=tk) λb o e=>Ñ _ e,yR _ lo (hi - lo).toNat,?_,λb hb=>?_,q⟩
 ·have e1:lo+((0:Nat):Int) * 1=lo:=by simp
  have e2:(((hi - lo).toNat:Nat):Int) - ((0:Nat):Int)=Builtin.Range.rangeSize lo hi 1:=by rw[rangeSize_one];split <;> omega
  show IsRangeIter _ _ (lo+((0:Nat):Int) * 1) ((((hi - lo).toNat:Nat):Int) - ((0:Nat):Int)) 1
  rw[e1,e2]
  exact á _ rfl
 ·have e:b=(s.heap.push { cls:=.type "range",data:=.fields #[.int lo t,.int hi u,.int 1 v] }).objs.size:=by simpa using hb
  subst e
  exact I1.Qv (Ë _) (I1.hok.fresh (Ë _))
def Tc(ta:TA):TI:=λσ H R=>ta σ H λvs H1=>∃j:Int,vs=[.int j]/\-(2 ^ 62)<=j/\j<2 ^ 62/\R (Itr 0 j.toNat) H1
def S9(ta:TA):TI:=λσ H R=>ta σ H λvs H1=>∃i j:Int,vs=[.int i,.int j]/\(-(2 ^ 62)<=i/\i<2 ^ 62/\-(2 ^ 62)<=j/\j<2 ^ 62)/\R (Itr i (j - i).toNat) H1
def oO{a:Expr}{ta:TA}{p pos:Pos}(hg:Gl X "range")(hm:X.mg "range"=none)(ha:PA X [a] ta)(hs:starEach [a] X.env=[(false,eval a X.env)]:=by rfl):PI X tg (.Call (.Name "range" p) [a] [] pos) (Tc ta):=by
 intro pins s σ H R I h
 refine Call_ (jN I hg hm boot_range (Ł (thn (ha pos pins s σ H _ I h) λus s1 ⟨vs,H1,I1,r1,q1⟩=>?_) hs rfl))
 obtain⟨j,e,q1,q2,q⟩:=q1
 subst e
 cases r1 with
 |cons r rr =>
  cases rr
  obtain⟨t,rfl⟩:=r
  exact call_range_1 (xr I1 (by omega) (by omega) q1 q2 (by simpa using q))
def Dq{a b:Expr}{ta:TA}{p pos:Pos}(hg:Gl X "range")(hm:X.mg "range"=none)(ha:PA X [a,b] ta)(hs:starEach [a,b] X.env=[(false,eval a X.env),(false,eval b X.env)]:=by rfl)(hs2:starEach [b] X.env=[(false,eval b X.env)]:=by rfl) :
  PI X tg (.Call (.Name "range" p) [a,b] [] pos) (S9 ta):=by
 intro pins s σ H R I h
 refine Call_ (jN I hg hm boot_range (Ł (thn (ha pos pins s σ H _ I h) λus s1 ⟨vs,H1,I1,r1,q1⟩=>?_) (by rw[hs,hs2]) (by rw[hs2];rfl)))
 obtain⟨i,j,e,⟨q1,q2,q3,q4⟩,q⟩:=q1
 subst e
 cases r1 with
 |cons r rr =>
  cases rr with
  |cons r' rr =>
   cases rr
   obtain⟨t,rfl⟩:=r
   obtain⟨t',rfl⟩:=r'
   exact call_range_2 (xr I1 q1 q2 q3 q4 q)
def Og(wi:TI)(g:TG)(tb:TS):TS:=λD σ H=>wi σ H λJ H1=>∃W:Nat->Nat->St->Hp->Prop,(∃m,W 0 m σ H1)/\∀i m σ H,W i m σ H ->
 (J.stop i H/\D.nx σ H)\/(J.go i H/\∃N:St->Hp->Prop,(∀σ' H',N σ' H'->∃m',m'<m/\W (i+1) m' σ' H')/\∀x H',J.yld i H x H'->g x σ H' λσ2 H2=>tb { D with nx:=N,ct:=N,bk:=D.nx } σ2 H2)
def jB(fp:List Addr)(h:Heap):List (Addr×Obj):=fp.filterMap λb=>(h.get? b).map λo=>(b,o)
def iZ{fp:List Addr}{h:Heap}{b:Addr}{o:Obj}(hb:b∈fp)(e:h.get? b=some o):(b,o)∈jB fp h:=Ŏ.mpr ⟨b,hb,by rw[e];rfl⟩
def tW{fp:List Addr}{h:Heap}{p:Addr×Obj}(hp:p∈jB fp h):p.1∈fp/\h.get? p.1=some p.2:=by
 obtain⟨b,hb,e⟩:=Ŏ.mp hp
 cases q:h.get? b with
 |none=>rw[q] at e;cases e
 |some o =>
  rw[q] at e
  have e':(b,o)=p:=à e
  subst e'
  exact⟨hb,q⟩
def Inv.pinned{pins:List (Addr×Obj)}{σ:St}{H:Hp}{s:Shared}{fp:List Addr}(I:Inv X pins σ H s)(hf:∀b∈fp,sJ X pins H b)(ho:∀b∈fp,∃o,s.heap.get? b=some o/\∀v,o.data≠.cell v):Inv X (pins++jB fp s.heap) σ H s :=
 I.ql λp hp=>(â.mp hp).elim (λz=>I.pin p (î _ z)) λz=>by
  obtain⟨hb,e⟩:=tW z
  obtain⟨f0,f1,f2,_⟩:=hf p.1 hb
  obtain⟨o,e',d⟩:=ho p.1 hb
  rw[e] at e';cases e'
  exact⟨e,f0,f1,f2,d⟩
def Inv.mj{pins pl:List (Addr×Obj)}{σ:St}{H:Hp}{s:Shared}(I:Inv X (pins++pl) σ H s):Inv X pins σ H s:=I.ql λp hp=>I.pin p (î _ (ł _ hp))
def qN{iter:Expr}{body:List Stmt}{wi:TI}{g:TG}{tb:TS}{pos:Pos}(hp:PassesOwn (model X.prog X.w) X.A X.env X.xe)(hc:X.calm=true)(hi:PI X tg iter wi)(hg:PG X tg g)(hb:PSs X body tb)(hs:∀x,foldedSetIterable iter X.env x=pure x:=by intro _;rfl):PS X (.For tg iter body [] pos) (Og wi g tb):=by
 intro pins s σ H D I h
 refine wpAny_For (thn (hi pins s σ H _ I h) λv s1 h1=>thn h1 λitv s2 h2=>?_) hs
 obtain⟨it,fp,tn,J,H2,e,I2,T,st2,f2,W,⟨m0,w0⟩,turn⟩:=h2
 subst e
 -- what stays true of the iterator's objects through the loop
 have stat:∀{H':Hp},(∀b∈fp,H' b=none)->∀b∈fp,sJ X pins H' b:=λhn b hb=>⟨hn b hb,(f2 b hb).2⟩
 refine codeAny_forLoop_any (λn s'=>∃i σ' H',Inv X pins σ' H' s'/\tn i s'.heap/\(∀b∈fp,H' b=none)/\W i n σ' H') ?_ m0 ⟨0,σ,H2,I2,st2,λb hb=>(f2 b hb).1,w0⟩
 rintro n s3 ⟨i,σ3,H3,I3,st3,fr3,w3⟩
 rcases turn i n σ3 H3 w3 with ⟨stop,qn⟩|⟨go,N,hN,step⟩
 ·refine ů hp (thn (T.done X rfl rfl rfl hc i pins s3 σ3 H3 X.xe I3 (stat fr3) st3 stop) λr s4 ⟨hr,I4⟩=>?_)
  subst hr
  exact wpAny_execs_nil ⟨σ3,H3,I4,qn⟩
 ·refine ů hp (thn (T.item X rfl rfl rfl hc i pins s3 σ3 H3 X.xe I3 (stat fr3) st3 go) λr s4 ⟨u,hr,h4⟩=>?_)
  subst hr
  refine ů hp (thn h4 λ_ s5 ⟨x,H5,I5,r5,y5,st5,fr5⟩=>?_)
  have I5':=I5.pinned (stat fr5) (T.obj _ _ st5)
  refine ů hp (thn (hg _ s5 σ3 H5 x u _ I5' r5 (step x H5 y5)) λ_ s6 ⟨σ6,H6,I6,q6⟩=>?_)
  refine ů hp (thn (hb _ s6 σ6 H6 _ I6 q6) λf s7 q7=>?_)
  have again:∀{σ7:St}{H7:Hp},Inv X (pins++jB fp s5.heap) σ7 H7 s7->N σ7 H7->∃m,m<n/\∃i σ' H',Inv X pins σ' H' s7/\tn i s7.heap/\(∀b∈fp,H' b=none)/\W i m σ' H':=λ{σ7 H7} I7 n7=>by
   obtain⟨m',hm,w7⟩:=hN σ7 H7 n7
   refine⟨m',hm,i+1,σ7,H7,I7.mj,T.keep _ _ _ st5 λb hb o e=>(I7.pin (b,o) (î _ (î _ (iZ hb e)))).1,λb hb=>?_,w7⟩
   obtain⟨o,e,d⟩:=T.obj _ _ st5 b hb
   exact(I7.pin (b,o) (î _ (î _ (iZ hb e)))).2.1
  cases f with
  |next=>obtain⟨σ7,H7,I7,n7⟩:=q7;exact again I7 n7
  |cont=>obtain⟨σ7,H7,I7,n7⟩:=q7;exact again I7 n7
  |brk=>obtain⟨σ7,H7,I7,q7⟩:=q7;exact⟨σ7,H7,I7.mj,q7⟩
  |ret v=>obtain⟨x7,σ7,H7,I7,r7,q7⟩:=q7;exact⟨x7,σ7,H7,I7.mj,r7,q7⟩
end
def o9{lo:Int}{n:Nat}{g:TG}{tb:TS}{D:Ends}{σ:St}{H:Hp}(Pv:Nat->St->Hp->Prop)(h0:Pv 0 σ H)(hs:∀i σ H,i<n->Pv i σ H->g (.int (lo+i)) σ H λσ2 H2=>tb { D with nx:=Pv (i+1),ct:=Pv (i+1),bk:=D.nx } σ2 H2)(hd:∀σ H,Pv n σ H->D.nx σ H) :
  ∃W:Nat->Nat->St->Hp->Prop,(∃m,W 0 m σ H)/\∀i m σ H,W i m σ H ->
   ((Itr lo n).stop i H/\D.nx σ H)\/((Itr lo n).go i H/\∃N:St->Hp->Prop,(∀σ' H',N σ' H'->∃m',m'<m/\W (i+1) m' σ' H')/\∀x H',(Itr lo n).yld i H x H'->g x σ H' λσ2 H2=>tb { D with nx:=N,ct:=N,bk:=D.nx } σ2 H2):=by
 refine⟨λi m σ H=>m=n - i/\i<=n/\Pv i σ H,⟨n,by simp,ú _,h0⟩,?_⟩
 rintro i m σ H ⟨rfl,hi,p⟩
 by_cases hlt:i<n
 ·refine .inr ⟨hlt,Pv (i+1),λσ' H' p'=>⟨n - (i+1),by omega,rfl,hlt,p'⟩,λx H' y=>?_⟩
  obtain⟨e,y⟩:=y
  subst e y
  exact hs i σ _ hlt p
 ·have e:i=n:=by omega
  subst e
  exact .inl ⟨Ë _,hd σ H p⟩
abbrev R2:=V->V->Hp->VK->Prop
def OpR(X:Cx)(f:Value->Value->Sem Value)(r:R2):Prop :=
 ∀(pins:List (Addr×Obj)) (s:Shared) (σ:St) (H:Hp) (x y:V) (v u:Value) (Q:VK),Inv X pins σ H s->RelV x v->RelV y u->r x y H Q ->
  wpAny (model X.prog X.w) X.A (f v u) (EP X pins σ Q) X.xe s
def UnR(X:Cx)(f:Value->Sem Value)(r:V->Hp->VK->Prop):Prop :=
 ∀(pins:List (Addr×Obj)) (s:Shared) (σ:St) (H:Hp) (x:V) (v:Value) (Q:VK),Inv X pins σ H s->RelV x v->r x H Q ->
  wpAny (model X.prog X.w) X.A (f v) (EP X pins σ Q) X.xe s
def bK(X:Cx)(f:Value)(r:List V->Hp->VK->Prop):Prop :=
 ∀(pins:List (Addr×Obj)) (s:Shared) (σ:St) (H:Hp) (xs:List V) (us:List Value) (Q:VK),Inv X pins σ H s->Vals xs us->r xs H Q ->
  wpAny (model X.prog X.w) X.A (call f us) (EP X pins σ Q) X.xe s
def tOp(r:R2)(ta tb:TE):TE:=λσ H Q=>ta σ H λx H1=>tb σ H1 λy H2=>r x y H2 Q
def tUn(r:V->Hp->VK->Prop)(ta:TE):TE:=λσ H Q=>ta σ H λx H1=>r x H1 Q
def rI(C:Int->Int->Prop)(g:Int->Int->V):R2:=λx y H Q=>∃i j,x=.int i/\y=.int j/\C i j/\Q (g i j) H
def rI0(g:Int->Int->V):R2:=λx y H Q=>∃i j,x=.int i/\y=.int j/\Q (g i j) H
def rU(g:Int->V):V->Hp->VK->Prop:=λx H Q=>∃i,x=.int i/\Q (g i) H
section
variable {X:Cx}{a b c:Expr}{ta tb tc:TE}{pos:Pos}
def QZ(ha:PE X a ta)(hb:PE X b tb){pins:List (Addr×Obj)}{s:Shared}{σ:St}{H:Hp}{R:V->V->Hp->Prop}(I:Inv X pins σ H s)(h:ta σ H λx H1=>tb σ H1 λy H2=>R x y H2){Q:Value->Shared->Prop}{f:Value->Value->Sem Value}(hf:∀v u s2 x y H2,Inv X pins σ H2 s2->RelV x v->RelV y u->R x y H2->wpAny (model X.prog X.w) X.A (f v u) Q X.xe s2) :
  wpAny (model X.prog X.w) X.A (eval a X.env) (λv s₁=>wpAny (model X.prog X.w) X.A (eval b X.env) (λu s₂=>wpAny (model X.prog X.w) X.A (f v u) Q X.xe s₂) X.xe s₁) X.xe s:=by
 refine thn (ha pins s σ H _ I h) λv s1 ⟨x,H1,I1,r1,q1⟩=>?_
 refine thn (hb pins s1 σ H1 _ I1 q1) λu s2 ⟨y,H2,I2,r2,q2⟩=>?_
 exact hf v u s2 x y H2 I2 r1 r2 q2
def bW{op:Operator}{r:R2}(ho:OpR X (binaryOp op) r)(ha:PE X a ta)(hb:PE X b tb):PE X (.BinOp a op b pos) (tOp r ta tb):=by
 intro pins s σ H Q I h
 exact wpAny_BinOp (QZ ha hb I h λv u s2 x y H2 I2 rx ry q=>ho pins s2 σ H2 x y v u Q I2 rx ry q)
def Mt{op:UnaryOp}{r:V->Hp->VK->Prop}(ho:UnR X (unaryOp op) r)(ha:PE X a ta):PE X (.UnaryOp op a pos) (tUn r ta):=by
 intro pins s σ H Q I h
 exact UnaryOp_ (thn (ha pins s σ H _ I h) λv s1 ⟨x,H1,I1,r1,q1⟩=>ho pins s1 σ H1 x v Q I1 r1 q1)
def opI{f:Value->Value->Sem Value}{C:Int->Int->Prop}{g:Int->Int->Int}(rule:∀(i j:Int) (t u:Tok) (s:Shared) (Q:Value->Shared->Prop) (E:Value->Shared->Prop),C i j->Q (.int (g i j) s.toks) { s with toks:=s.toks+1 }->wpAny (model X.prog X.w) X.A (f (.int i t) (.int j u)) Q E s) :
  OpR X f (rI C λi j=>.int (g i j)):=by
 intro pins s σ H x y v u Q I rx ry h
 obtain⟨i,j,rfl,rfl,hc,q⟩:=h
 obtain⟨t,rfl⟩:=rx
 obtain⟨t',rfl⟩:=ry
 exact rule i j t t' s _ _ hc ⟨.int (g i j),H,I.tok _,⟨_,rfl⟩,q⟩
def Pg{f:Value->Value->Sem Value}{g:Int->Int->Int}(rule:∀(i j:Int) (t u:Tok) (s:Shared) (Q:Value->Shared->Prop) (E:Value->Shared->Prop),Q (.int (g i j) s.toks) { s with toks:=s.toks+1 }->wpAny (model X.prog X.w) X.A (f (.int i t) (.int j u)) Q E s) :
  OpR X f (rI0 λi j=>.int (g i j)):=by
 intro pins s σ H x y v u Q I rx ry h
 obtain⟨i,j,rfl,rfl,q⟩:=h
 obtain⟨t,rfl⟩:=rx
 obtain⟨t',rfl⟩:=ry
 exact rule i j t t' s _ _ ⟨.int (g i j),H,I.tok _,⟨_,rfl⟩,q⟩
def Kz{f:Value->Value->Sem Value}{g:Int->Int->Bool}(rule:∀(i j:Int) (t u:Tok) (s:Shared) (Q:Value->Shared->Prop) (E:Value->Shared->Prop),Q (.bool (g i j)) s->wpAny (model X.prog X.w) X.A (f (.int i t) (.int j u)) Q E s) :
  OpR X f (rI0 λi j=>.bl (g i j)):=by
 intro pins s σ H x y v u Q I rx ry h
 obtain⟨i,j,rfl,rfl,q⟩:=h
 obtain⟨t,rfl⟩:=rx
 obtain⟨t',rfl⟩:=ry
 exact rule i j t t' s _ _ ⟨.bl (g i j),H,I,rfl,q⟩
def Uj(i j:Int):Prop:=0<j/\j<1073741824
def Vm(i j:Int):Prop:=0<=j/\j<=1000000/\i.natAbs<2 ^ 64
def JM(i j:Int):Prop:=(-(2 ^ 64)<i/\i<2 ^ 64)\/(-(2 ^ 64)<j/\j<2 ^ 64)
def JM.ok{i j:Int}(h:JM i j):IntMulOk i j:=by
 rcases h with ⟨h1,h2⟩|⟨h1,h2⟩
 ·exact .of_left (intBits_le_64 h1 h2)
 ·exact .of_right (intBits_le_64 h1 h2)
def iY:OpR X (binaryOp .Add) (rI0 λi j=>.int (i+j)):=Pg λ_ _ _ _ _ _ _ q=>add_int q
def Pa:OpR X (binaryOp .Sub) (rI0 λi j=>.int (i - j)):=Pg λ_ _ _ _ _ _ _ q=>sub_int q
def lV:OpR X (binaryOp .Mult) (rI JM λi j=>.int (i * j)):=opI λ_ _ _ _ _ _ _ hc q=>mul_int q hc.ok
def vB:OpR X (binaryOp .FloorDiv) (rI Uj λi j=>.int (i / j)):=opI λi j _ _ _ _ _ hc q=>by
 have h1:(0:Int)<j:=hc.1
 have h2:j<1073741824:=hc.2
 exact floordiv_int (by omega) (by rw[Int.fdiv_eq_ediv_of_nonneg i (by omega)];exact q) (.inl (PyProof.noPylong_small (by omega)))
def iW:OpR X (binaryOp .Mod) (rI (λ_ j=>0<j) λi j=>.int (i % j)):=opI λi j _ _ _ _ _ hc q=>by
 have h1:(0:Int)<j:=hc
 exact mod_int' (by omega) (by rw[Int.fmod_eq_emod_of_nonneg i (by omega)];exact q)
def Ho:OpR X (binaryOp .Pow) (rI Vm λi j=>.int (i ^ j.toNat)):=opI λ_ _ _ _ _ _ _ hc q=>pow_int_small hc.1 hc.2.1 hc.2.2 q
def Pb:OpR X (binaryOp .BitAnd) (rI0 λi j=>.int (Builtin.bitAnd i j)):=Pg λ_ _ _ _ _ _ _ q=>and_int q
def unI{f:Value->Sem Value}{g:Int->Int}(rule:∀(i:Int) (t:Tok) (s:Shared) (Q:Value->Shared->Prop) (E:Value->Shared->Prop),Q (.int (g i) s.toks) { s with toks:=s.toks+1 }->wpAny (model X.prog X.w) X.A (f (.int i t)) Q E s) :
  UnR X f (rU λi=>.int (g i)):=by
 intro pins s σ H x v Q I rx h
 obtain⟨i,rfl,q⟩:=h
 obtain⟨t,rfl⟩:=rx
 exact rule i t s _ _ ⟨.int (g i),H,I.tok _,⟨_,rfl⟩,q⟩
def Fz:UnR X (unaryOp .USub) (rU λi=>.int (-i)):=unI λ_ _ _ _ _ q=>neg_int q
end
def Rv:V->V->Bool
 |.non,.non=>true|.non,.int _=>true|.int _,.non=>true|.non,.bl _=>true|.bl _,.non=>true|.non,.str _=>true|.str _,.non=>true
 |.int _,.int _=>true|.bl _,.bl _=>true|.str _,.str _=>true|.byt _,.byt _=>true
 |.int _,.str _=>true|.str _,.int _=>true|.bl _,.str _=>true|.str _,.bl _=>true
 |_,_=>false
def rEq:R2:=λx y H Q=>Rv x y=true/\Q (.bl (decide (x=y))) H
def rNe:R2:=λx y H Q=>Rv x y=true/\Q (.bl (!decide (x=y))) H
def Cw{i j:Int}:decide (V.int i=V.int j)=(i == j):=by
 rw[Č]
 simp
def Jv{i j:Bool}:decide (V.bl i=V.bl j)=(i == j):=by
 rw[Č]
 simp
def Cv{i j:Str}:decide (V.str i=V.str j)=(i == j):=by
 rw[Č]
 simp
def Cy{i j:Array UInt8}:decide (V.byt i=V.byt j)=(i.toList == j.toList):=by
 rw[Č]
 cases i
 cases j
 simp
section
variable {X:Cx}{a b c:Expr}{ta tb tc:TE}{pos:Pos}
def aR{pins:List (Addr×Obj)}{σ:St}{H:Hp}{s:Shared}{Q:VK}{k k':Bool}(I:Inv X pins σ H s)(q:Q (.bl k) H)(e:k=k'):EP X pins σ Q (.bool k') s:=by
 subst e
 exact⟨.bl k,H,I,rfl,q⟩
def tR:OpR X (compareOp .Eq) rEq:=by
 intro pins s σ H x y v u Q I rx ry h
 obtain⟨hs,q⟩:=h
 cases x with
 |non =>
  cases rx
  cases y with
  |non=>cases ry;exact PySem.EqNone.eq_none_none (aR I q (by simp))
  |bl j=>cases ry;exact PySem.EqNone.eq_none_bool (aR I q (by simp))
  |int j=>obtain⟨t',rfl⟩:=ry;exact PySem.EqNone.eq_none_int (aR I q (by simp))
  |str j=>obtain⟨t',rfl⟩:=ry;exact PySem.EqNone.eq_none_str (aR I q (by simp))
  |_=>exact absurd (show false=true from hs) Ó
 |bl i =>
  cases rx
  cases y with
  |non=>cases ry;exact PySem.EqNone.eq_bool_none (aR I q (by simp))
  |bl j=>cases ry;exact eq_bool (aR I q Jv)
  |str j=>obtain⟨t',rfl⟩:=ry;exact PySem.EqMixed.eq_bool_str (aR I q (by simp))
  |_=>exact absurd (show false=true from hs) Ó
 |int i =>
  obtain⟨t,rfl⟩:=rx
  cases y with
  |non=>cases ry;exact PySem.EqNone.eq_int_none (aR I q (by simp))
  |int j=>obtain⟨t',rfl⟩:=ry;exact eq_int (aR I q Cw)
  |str j=>obtain⟨t',rfl⟩:=ry;exact PySem.EqMixed.eq_int_str (aR I q (by simp))
  |_=>exact absurd (show false=true from hs) Ó
 |str i =>
  obtain⟨t,rfl⟩:=rx
  cases y with
  |non=>cases ry;exact PySem.EqNone.eq_str_none (aR I q (by simp))
  |bl j=>cases ry;exact PySem.EqMixed.eq_str_bool (aR I q (by simp))
  |int j=>obtain⟨t',rfl⟩:=ry;exact PySem.EqMixed.eq_str_int (aR I q (by simp))
  |str j=>obtain⟨t',rfl⟩:=ry;exact eq_str (aR I q Cv)
  |_=>exact absurd (show false=true from hs) Ó
 |byt i =>
  obtain⟨t,rfl⟩:=rx
  cases y with
  |byt j=>obtain⟨t',rfl⟩:=ry;exact W.eq_bytes (aR I q Cy)
  |_=>exact absurd (show false=true from hs) Ó
 |_=>cases y <;> exact absurd (show false=true from hs) Ó
def BK:OpR X (compareOp .NotEq) rNe:=by
 intro pins s σ H x y v u Q I rx ry h
 obtain⟨hs,q⟩:=h
 cases x with
 |non =>
  cases rx
  cases y with
  |non=>cases ry;exact PySem.EqNone.ne_none_none (aR I q (by simp))
  |bl j=>cases ry;exact PySem.EqNone.ne_none_bool (aR I q (by simp))
  |int j=>obtain⟨t',rfl⟩:=ry;exact PySem.EqNone.ne_none_int (aR I q (by simp))
  |str j=>obtain⟨t',rfl⟩:=ry;exact PySem.EqNone.ne_none_str (aR I q (by simp))
  |_=>exact absurd (show false=true from hs) Ó
 |bl i =>
  cases rx
  cases y with
  |non=>cases ry;exact PySem.EqNone.ne_bool_none (aR I q (by simp))
  |bl j=>cases ry;exact ne_bool (aR I q (congrArg not Jv))
  |str j=>obtain⟨t',rfl⟩:=ry;exact PySem.EqMixed.ne_bool_str (aR I q (by simp))
  |_=>exact absurd (show false=true from hs) Ó
 |int i =>
  obtain⟨t,rfl⟩:=rx
  cases y with
  |non=>cases ry;exact PySem.EqNone.ne_int_none (aR I q (by simp))
  |int j=>obtain⟨t',rfl⟩:=ry;exact ne_int (aR I q (congrArg not Cw))
  |str j=>obtain⟨t',rfl⟩:=ry;exact PySem.EqMixed.ne_int_str (aR I q (by simp))
  |_=>exact absurd (show false=true from hs) Ó
 |str i =>
  obtain⟨t,rfl⟩:=rx
  cases y with
  |non=>cases ry;exact PySem.EqNone.ne_str_none (aR I q (by simp))
  |bl j=>cases ry;exact PySem.EqMixed.ne_str_bool (aR I q (by simp))
  |int j=>obtain⟨t',rfl⟩:=ry;exact PySem.EqMixed.ne_str_int (aR I q (by simp))
  |str j=>obtain⟨t',rfl⟩:=ry;exact ne_str (aR I q (congrArg not Cv))
  |_=>exact absurd (show false=true from hs) Ó
 |byt i =>
  obtain⟨t,rfl⟩:=rx
  cases y with
  |byt j=>obtain⟨t',rfl⟩:=ry;exact W.ne_bytes (aR I q (congrArg not Cy))
  |_=>exact absurd (show false=true from hs) Ó
 |_=>cases y <;> exact absurd (show false=true from hs) Ó
def lg:OpR X (compareOp .Lt) (rI0 λi j=>.bl (decide (i<j))):=Kz λ_ _ _ _ _ _ _ q=>lt_int q
def Sd:OpR X (compareOp .LtE) (rI0 λi j=>.bl (decide (i<=j))):=Kz λ_ _ _ _ _ _ _ q=>le_int q
def Hs:OpR X (compareOp .Gt) (rI0 λi j=>.bl (decide (j<i))):=Kz λ_ _ _ _ _ _ _ q=>gt_int q
def Ht:OpR X (compareOp .GtE) (rI0 λi j=>.bl (decide (j<=i))):=Kz λ_ _ _ _ _ _ _ q=>ge_int q
def bT(b:Expr){op:CmpOp}(h:op≠.In:=by decide)(h2:op≠.NotIn:=by decide):behindInMarks op b=false:=by
 have e1:(op == CmpOp.In)=false:=by cases op <;> first|rfl|exact absurd rfl h
 have e2:(op == CmpOp.NotIn)=false:=by cases op <;> first|rfl|exact absurd rfl h2
 cases b <;> simp[behindInMarks,e1,e2]
def Kq{op:CmpOp}{r:R2}(ho:OpR X (compareOp op) r)(ha:PE X a ta)(hb:PE X b tb)(hm:behindInMarks op b=false):PE X (.Compare a [op] [b] pos) (tOp r ta tb):=by
 intro pins s σ H Q I h
 exact wpAny_Compare1 (QZ ha hb I h λv u s2 x y H2 I2 rx ry q=>ho pins s2 σ H2 x y v u Q I2 rx ry q) hm
def FT(t:TE):TT:=λσ H Q=>t σ H λx H'=>∃k,x=.bl k/\Q k H'
def iQ{op:CmpOp}{r:R2}(ho:OpR X (compareOp op) r)(ha:PE X a ta)(hb:PE X b tb)(hm:behindInMarks op b=false):PT X (.Compare a [op] [b] pos) (FT (tOp r ta tb)):=by
 intro pins s σ H Q I h
 refine wpAny_isTrue_Compare1 (thn (ha pins s σ H _ I h) λv s1 ⟨x,H1,I1,r1,q1⟩=>thn (hb pins s1 σ H1 _ I1 q1) λu s2 ⟨y,H2,I2,r2,q2⟩ =>
  thn (ho pins s2 σ H2 x y v u _ I2 r1 r2 q2) λc s3 ⟨z,H3,I3,r3,k,e,q3⟩=>?_) hm
 subst e
 cases r3
 exact Ĥ ⟨H3,I3,q3⟩
def qG(r r':R2)(ta tb tc:TE):TE:=λσ H Q=>ta σ H λx H1=>tb σ H1 λy H2=>r x y H2 λz H3=>∃k,z=.bl k /\
 (if k=true then tc σ H3 λw' H4=>r' y w' H4 Q else Q (.bl false) H3)
def GZ{op op':CmpOp}{r r':R2}(ho:OpR X (compareOp op) r)(ho':OpR X (compareOp op') r')(ha:PE X a ta)(hb:PE X b tb)(hc:PE X c tc)(hm:lastMarks [op,op'] [b,c]=false:=by with_unfolding_all rfl):PE X (.Compare a [op,op'] [b,c] pos) (qG r r' ta tb tc):=by
 intro pins s σ H Q I h
 refine Compare_chain (thn (ha pins s σ H _ I h) λv s1 ⟨x,H1,I1,r1,q1⟩=>chain_link (thn (hb pins s1 σ H1 _ I1 q1) λu s2 ⟨y,H2,I2,r2,q2⟩ =>
  thn (ho pins s2 σ H2 x y v u _ I2 r1 r2 q2) λd s3 ⟨z,H3,I3,r3,k,e,q3⟩=>?_)) hm
 subst e
 cases r3
 refine Ĥ ?_
 cases k with
 |false=>exact ite_ff ⟨.bl false,H3,I3,rfl,q3⟩
 |true=>exact ite_tt (chain_last (thn (hc pins s3 σ H3 _ I3 q3) λw' s4 ⟨z',H4,I4,r4,q4⟩=>ho' pins s4 σ H4 y z' u w' Q I4 r2 r4 q4))
def qM{op op':CmpOp}{r r':R2}(ho:OpR X (compareOp op) r)(ho':OpR X (compareOp op') r')(ha:PE X a ta)(hb:PE X b tb)(hc:PE X c tc)(hm:lastMarks [op,op'] [b,c]=false:=by with_unfolding_all rfl):PT X (.Compare a [op,op'] [b,c] pos) (FT (qG r r' ta tb tc)):=by
 intro pins s σ H Q I h
 refine isTrue_chain (thn (ha pins s σ H _ I h) λv s1 ⟨x,H1,I1,r1,q1⟩=>test_link (thn (hb pins s1 σ H1 _ I1 q1) λu s2 ⟨y,H2,I2,r2,q2⟩ =>
  thn (ho pins s2 σ H2 x y v u _ I2 r1 r2 q2) λd s3 ⟨z,H3,I3,r3,k,e,q3⟩=>?_)) hm
 subst e
 cases r3
 refine Ĥ ?_
 cases k with
 |false =>
  obtain⟨k',e',q'⟩:=q3
  cases e'
  exact ite_ff ⟨H3,I3,q'⟩
 |true =>
  refine ite_tt (test_last (thn (hc pins s3 σ H3 _ I3 q3) λw' s4 ⟨z',H4,I4,r4,q4⟩=>thn (ho' pins s4 σ H4 y z' u w' _ I4 r2 r4 q4) λd' s5 ⟨z2,H5,I5,r5,k2,e2,q5⟩=>?_))
  subst e2
  cases r5
  exact Ĥ ⟨H5,I5,q5⟩
def vK:(sizeLine:Nat)<2 ^ 63:=by rw[ï];decide
def vals1{x:V}{us:List Value}(r:Vals [x] us):∃u,us=[u]/\RelV x u:=by
 cases r with
 |cons r1 r2=>cases r2;exact⟨_,rfl,r1⟩
def vals2{x y:V}{us:List Value}(r:Vals [x,y] us):∃u w',us=[u,w']/\RelV x u/\RelV y w':=by
 cases r with
 |cons r1 r2 =>
  cases r2 with
  |cons r3 r4=>cases r4;exact⟨_,_,rfl,r1,r3⟩
def yI:bK X (.builtin "abs") (λxs H Q=>∃i,xs=[.int i]/\Q (.int (if i<0 then -i else i)) H):=by
 intro pins s σ H xs us Q I r h
 obtain⟨i,rfl,q⟩:=h
 obtain⟨u,rfl,t,rfl⟩:=vals1 r
 exact call_abs_int λu tk=>⟨.int (if i<0 then -i else i),H,I.tok _,⟨_,rfl⟩,q⟩
def Ez(hc:X.calm=true):bK X (.builtin "max") (λxs H Q=>∃i j,xs=[.int i,.int j]/\Q (.int (if j > i then j else i)) H):=by
 intro pins s σ H xs us Q I r h
 obtain⟨i,j,rfl,q⟩:=h
 obtain⟨u,w',rfl,⟨t,rfl⟩,⟨t',rfl⟩⟩:=vals2 r
 refine max_two_ints (I.ok.hd hc) λh' tk k=>⟨_,H,I.kept k,?_,q⟩
 by_cases hj:j > i
 ·rw[if_pos hj,if_pos hj];exact⟨_,rfl⟩
 ·rw[if_neg hj,if_neg hj];exact⟨_,rfl⟩
def Ey(hc:X.calm=true):bK X (.builtin "min") (λxs H Q=>∃i j,xs=[.int i,.int j]/\Q (.int (if j<i then j else i)) H):=by
 intro pins s σ H xs us Q I r h
 obtain⟨i,j,rfl,q⟩:=h
 obtain⟨u,w',rfl,⟨t,rfl⟩,⟨t',rfl⟩⟩:=vals2 r
 refine min_two_ints (I.ok.hd hc) λh' tk k=>⟨_,H,I.kept k,?_,q⟩
 by_cases hj:j<i
 ·rw[if_pos hj,if_pos hj];exact⟨_,rfl⟩
 ·rw[if_neg hj,if_neg hj];exact⟨_,rfl⟩
end
structure ObjM(h:Heap)(x dx C:Addr)(mA:Str->Option Value):Prop where
 obj:h.get? x=some (W.instObj C dx)
 ns:h.Ns1 dx mA
 ne:dx≠x
def DW{h:Heap}{dx:Addr}{mA:Str->Option Value}(n:h.Ns1 dx mA):∃od,h.get? dx=some od/\∀name,W.lookIn name od=some (mA name):=by
 obtain⟨o,es,ep,ho,hd,hk,_,hm⟩:=n
 refine⟨o,ho,λname=>?_⟩
 have e:=hm name
 unfold nsFind findBy at e
 rw[←Array.find?_toList] at e
 unfold W.lookIn
 rw[hd]
 dsimp only
 split
 ·rename_i y q
  rw[q] at e
  exact congrArg some e
 ·rename_i q
  rw[q] at e
  have a:es.toList.any (·.refKey)=false:=by
   rw[List.any_eq_false]
   intro y hy
   obtain⟨z,t,hkey⟩:=hk y (Array.mem_toList_iff.mp hy)
   simp[DictEntry.refKey,hkey]
  have a':¬es.toList.any (·.refKey)=true:=by rw[a];exact Ó
  rw[if_neg a']
  exact congrArg some e
def ObjM.look{h:Heap}{x dx C:Addr}{mA:Str->Option Value}(I:ObjM h x dx C mA):∃od,W.InstAt h x (W.instObj C dx) C (some od)/\∀name,W.lookIn name od=some (mA name) :=
 let ⟨od,ho,hl⟩:=DW I.ns
 ⟨od,⟨I.obj,rfl,rfl,ho⟩,hl⟩
section
variable {prog:Program}{w:World}{A:Around}{E:Value->Shared->Prop}{s:Shared}{K:Ú}{x dx C f:Addr}{mA:Str->Option Value}{name:Str}{v:Value}
end
section
variable {P:Program}{w:World}{H H':Hp}{h h':Heap}{a C dx:Addr}{fs fs':List (Str×V)}
def Lj(hok:HOk P w H h)(e:H a=some (.ins C dx fs)):∃mA,ObjM h a dx C mA/\(∀f,Q7 (fs.lookup f) (mA f))/\PySem.Within mA (fs.map (·.1))/\fs.length<=1000/\H dx=some (.own a):=by
 obtain⟨d,z,ne,ob,mA,n,r,q⟩:=(show bN P w H h a (.ins C dx fs) from hok a _ e)
 exact⟨mA,⟨ob,n,ne⟩,r,q,z,d⟩
end
structure Cls(K:Ú)(C:Addr):Prop where
 pg:W.plainGet K C Str.empty=true
 hd:W.hasDictIn K C=true
 po:W.plainOver K C=true
 sa:W.findIn K (.ref C) "__setattr__"=some (some (.builtin "object.__setattr__"))
def Cls.get{K:Ú}{C:Addr}(c:Cls K C)(f:Str):W.plainGet K C f=true:=c.pg
structure Con(K:Ú)(C:Addr)(f:Str)(v:V)(u:Value):Prop where
 at_:W.findIn K (.ref C) f=some (some u)
 rel:RelV v u
 get:W.specialIn K u "__get__"=some none
 cp:W.copiedNames.contains f=false
structure Meth(K:Ú)(C:Addr)(m:Str)(f:Addr):Prop where
 at_:W.findIn K (.ref C) m=some (some (.ref f))
 fn:W.isFn K (.ref f)=true
 kp:W.keepIn K (.ref f)=true
section
variable {X:Cx}{pins:List (Addr×Obj)}{σ:St}{H:Hp}{s:Shared}{a C dx:Addr}{fs:List (Str×V)}{f:Str}{v:V}{A:Around}{E:Value->Shared->Prop}
end
section
variable {X:Cx}{o e value:Expr}{f:Str}{pos pos' tpos:Pos}{ta tv:TE}
end
section
variable {X:Cx}{pins:List (Addr×Obj)}{σ:St}{H:Hp}{s:Shared}{A:Around}{E:Value->Shared->Prop}{Q:Value->Shared->Prop}{c:Value}{b:Bool}
inductive TyOf(K:Ú)(H:Hp):V->Value->Prop where
 |non:TyOf K H .non (.type "NoneType")
 |bl (x:Bool):TyOf K H (.bl x) (.type "bool")
 |int (i:Int):TyOf K H (.int i) (.type "int")
 |str (x:Str):TyOf K H (.str x) (.type "str")
 |flt (x:UInt64):TyOf K H (.flt x) (.type "float")
 |lst {a:Addr}{xs:List V} (e:H a=some (.lst xs)):TyOf K H (.ref a) (.type "list")
 |frz {a:Addr}{o:Obj}{xs:List V} (e:H a=some (.frz o (.lst xs))):TyOf K H (.ref a) (.type "list")
 |tup {a:Addr}{xs:List V} (e:H a=some (.tup xs)):TyOf K H (.ref a) (.type "tuple")
 |dK {a:Addr}{kvs:List (Key×V)} (e:H a=some (.dK kvs)):TyOf K H (.ref a) (.type "dict")
 |dT {a:Addr}{kvs:List (List Key×V)} (e:H a=some (.dT kvs)):TyOf K H (.ref a) (.type "dict")
 |ins {a C dx:Addr}{fs:List (Str×V)} (e:H a=some (.ins C dx fs)) (cl:Cls K C) (ha:W.findIn K (.ref C) "__class__"=some (some (.builtin "object.__class__")))
   (hn:W.specialIn K (.builtin "object.__class__") "__get__"=some (some (.builtin "getset_descriptor.__get__"))) (htk:W.takesIn K (.builtin "object.__class__")=some true)
   (hm:W.mroIn K C (.type "object")=some true):TyOf K H (.ref a) (.ref C)
def Ef{x:V}{u t:Value}(I:Inv X pins σ H s)(rx:RelV x u)(ty:TyOf X.K H x t)(e:Ŷ X.K t c=some b)(h:∀tk,Q (.bool b) { s with toks:=tk }) :
  wpAny (model X.prog X.w) A (call (.builtin "isinstance") [u,c]) Q E s:=by
 cases ty with
 |non=>cases (show u=ĕ from rx);exact ż W.kitx_none I.kIn True.intro e (λz=>nomatch z) h
 |bl y=>cases (show u=Value.bool y from rx);exact ż W.kitx_bool I.kIn True.intro e (λz=>nomatch z) h
 |int i=>obtain⟨t,q⟩:=(show ∃t,u=ň i t from rx);cases q;exact ż W.kitx_int I.kIn True.intro e (λz=>nomatch z) h
 |str y=>obtain⟨t,q⟩:=(show ∃t,u=Value.str y t from rx);cases q;exact ż W.kitx_str I.kIn True.intro e (λz=>nomatch z) h
 |flt y=>obtain⟨t,q⟩:=(show ∃t,u=Value.float y t from rx);cases q;exact ż W.kitx_float I.kIn True.intro e (λz=>nomatch z) h
 |@lst a xs ea =>
  cases (show u=Ň a from rx)
  obtain⟨_,_,n,_,h1⟩:=(show bN X.prog X.w H s.heap a (.lst xs) from I.hok a _ ea)
  exact ż W.kitx_list I.kIn ⟨_,h1,rfl⟩ e (λz=>nomatch z) h
 |@frz a ob xs ea =>
  cases (show u=Ň a from rx)
  obtain⟨_,_,_,n,_,h1⟩:=(show bN X.prog X.w H s.heap a (.frz ob (.lst xs)) from I.hok a _ ea)
  exact ż W.kitx_list I.kIn ⟨_,h1,rfl⟩ e (λz=>nomatch z) h
 |@tup a xs ea =>
  cases (show u=Ň a from rx)
  obtain⟨_,_,_,p⟩:=(show bN X.prog X.w H s.heap a (.tup xs) from I.hok a _ ea)
  obtain⟨o,h1,h2,_⟩:=p
  exact ż W.kitx_tuple I.kIn ⟨o,h1,h2⟩ e (λz=>nomatch z) h
 |@dK a kvs ea =>
  cases (show u=Ň a from rx)
  obtain⟨_,_,vs,_,p⟩:=(show bN X.prog X.w H s.heap a (.dK kvs) from I.hok a _ ea)
  obtain⟨o,es,ep,h1,h2,_⟩:=p
  exact ż W.kitx_dict I.kIn ⟨o,h1,h2.1⟩ e (λz=>nomatch z) h
 |@dT a kvs ea =>
  cases (show u=Ň a from rx)
  obtain⟨_,_,xs,_,o,es,ep,h1,h2,_⟩:=(show bN X.prog X.w H s.heap a (.dT kvs) from I.hok a _ ea)
  exact ż W.kitx_dict I.kIn ⟨o,h1,h2.1⟩ e (λz=>nomatch z) h
 |@ins a C dx fs ea cl ha hn htk hm =>
  cases (show u=Ň a from rx)
  obtain⟨mA,O,_⟩:=Lj I.hok ea
  obtain⟨od,J,_⟩:=O.look
  exact ż (W.kitx_own (cl.get _) cl.hd ha hn htk hm) I.kIn J e (λz=>nomatch z) h
end
structure Room(k:Nat)(A:Around):Prop where
 hd:A.handled=none
 dp:A.depth+3 * k+5<recursionLimit
 un:A.units+16 * k+200<cLine
 gd:A.guards=some []
def Room.mono{j k:Nat}{A:Around}(r:Room k A)(h:j<=k):Room j A:=⟨r.hd,by have:=r.dp;omega,by have:=r.un;omega,r.gd⟩
def Room.deeper{k:Nat}{A:Around}(r:Room (k+1) A)(env:Env):Room k (A.deeper env) :=
 ⟨r.hd,by have:=r.dp;show A.depth+1+3 * k+5<_;omega,by have:=r.un;show A.units+3+16 * k+200<_;omega,r.gd⟩
def Room.in1{k:Nat}{A:Around}(r:Room (k+1) A):Room k A.in1 :=
 ⟨r.hd,by have:=r.dp;show A.depth+3 * k+5<_;omega,by have:=r.un;show A.units+1+16 * k+200<_;omega,r.gd⟩
def Room.depth{k:Nat}{A:Around}(r:Room k A):A.depth<recursionLimit:=by have:=r.dp;omega
def Room.units{k:Nat}{A:Around}(r:Room k A):A.units+64<cLine:=by have:=r.un;omega
def Ob:TA:=λ_ H Q=>Q [] H
def qF(ta:TE)(tr:TA):TA:=λσ H Q=>ta σ H λx H1=>tr σ H1 λxs H2=>Q (x::xs) H2
section
variable {X:Cx}{e:Expr}{es:List Expr}{te:TE}{t:TA}{pos:Pos}
def oV:PA X [] Ob:=λ_ _ _ _ H Q I h=>Calls.spliced_nil ⟨[],H,I,.nil,h⟩
def cX(ha:PE X e te)(hr:PA X es t)(hs:starEach (e::es) X.env=(false,eval e X.env)::starEach es X.env:=by rfl):PA X (e::es) (qF te t):=by
 intro pos pins s σ H Q I h
 rw[hs]
 show wpAny _ _ (spliced ((false,eval e X.env)::backTo pos (starEach es X.env))) _ _ s
 refine Calls.spliced_cons (thn (ha pins s σ H _ I h) λu s1 ⟨x,H1,I1,r1,q1⟩=>?_)
 exact thn (hr pos pins s1 σ H1 _ I1 q1) λus s2 ⟨xs,H2,I2,r2,q2⟩=>⟨x::xs,H2,I2,.cons r1 r2,q2⟩
def Uo(t:TA):TE:=λσ H Q=>t σ H λxs H1=>xs.length<=sizeLine/\∀p,H1 p=none->Q (.ref p) (upd H1 p (.tup xs))
def Rk(t:TA):TE:=λσ H Q=>t σ H λxs H1=>xs.length<=sizeLine/\∀p,H1 p=none->Q (.ref p) (upd H1 p (.lst xs))
def GK{x1}(h:PA X es t):PE X (.Tuple es x1 pos) (Uo t):=by
 intro pins s σ H Q I hq
 refine wpAny_Tuple_spliced (thn (h pos pins s σ H _ I hq) λus s1 ⟨xs,H1,I1,r,z,q⟩=>⟨by rw[←r.length];exact z,?_⟩)
 have hf:H1 s1.heap.objs.size=none:=I1.hok.fresh (Ë _)
 refine⟨.ref s1.heap.objs.size,upd H1 s1.heap.objs.size (.tup xs),I1.laid (t':=s1.toks) (λb u e=>Ñ _ e) (Ë _) ?_,rfl,q _ hf⟩
 exact⟨z,us,r,⟨_,á _ rfl,rfl,_,rfl⟩⟩
def jC(h:PA X es t):PE X (.List es pos) (Rk t):=by
 intro pins s σ H Q I hq
 refine wpAny_List_spliced (thn (h pos pins s σ H _ I hq) λus s1 ⟨xs,H1,I1,r,z,q⟩=>⟨by rw[←r.length];exact z,?_⟩)
 have hf:H1 s1.heap.objs.size=none:=I1.hok.fresh (Ë _)
 refine⟨.ref s1.heap.objs.size,upd H1 s1.heap.objs.size (.lst xs),I1.laid (t':=s1.toks) (λb u e=>Ñ _ e) (Ë _) ?_,rfl,q _ hf⟩
 exact⟨z,us,0,r,á _ rfl⟩
end
abbrev Sp:=List V->Hp->VK->XK->Prop
abbrev CXT:=List Env->Hp->Shared->XK->Value->Shared->Prop
structure Env0(P:Program)(w:World)(K:Ú)(mg:Str->Option Value)(base:Heap)(A:Around)(outer:List Env)(s:Shared)(H:Hp):Prop where
 frames:A.frames=some outer
 mod:Mod K mg base
 bs:∀b o,base.get? b=some o->s.heap.get? b=some o/\H b=none
 bsz:base.objs.size<=s.heap.objs.size
 kW:s.heap.FunFrames base outer
 frf:∀b∈frs outer,H b=none
 hok:HOk P w H s.heap
 bare:AllBare s.gens
def CE(outer:List Env)(P:Program)(w:World)(H:Hp)(s:Shared)(Q:VK)(u:Value)(s':Shared):Prop :=
 ∃v H',s'.os=s.os/\AllBare s'.gens/\Un (frs outer) [] H H' s.heap s'.heap/\HOk P w H' s'.heap/\RelV v u/\Q v H'
def CR(CX:CXT)(outer:List Env)(P:Program)(w:World)(H:Hp)(s:Shared)(Q:VK)(E:XK)(r:Result)(s':Shared):Prop :=
 match r with
 |.ok (.ret u)=>CE outer P w H s Q u s'
 |.ok _=>False
 |.error e=>CX outer H s E e s'
structure FnOk(P:Program)(w:World)(K:Ú)(mg:Str->Option Value)(base:Heap)(CX:CXT)(k:Nat)(f:Addr)(fd:FuncData)(ps:List Str)(sp:Sp):Prop where
 len:∀vs H Q E,sp vs H Q E->vs.length=ps.length
 run:∀(A:Around) (outer:List Env) (s:Shared) (H:Hp) (args:Args) (us:List Value) (vs:List V) (Q:VK) (E:XK),Room k A->Env0 P w K mg base A outer s H->BindsTo s fd args (ps.zip us)->Vals vs us->sp vs H Q E ->
  codeAny (model P w) A (.call (.ref f) args) (CR CX outer P w H s Q E) s
def FnOk.imp{P:Program}{w:World}{K:Ú}{mg:Str->Option Value}{base:Heap}{CX:CXT}{k:Nat}{f:Addr}{fd:FuncData}{ps:List Str}{sp sp':Sp}(F:FnOk P w K mg base CX k f fd ps sp)(h:∀vs H Q E,sp' vs H Q E->sp vs H Q E):FnOk P w K mg base CX k f fd ps sp' :=
 ⟨λvs H Q E q=>F.len vs H Q E (h _ _ _ _ q),λA outer s H args us vs Q E hr he hb hv hs=>F.run A outer s H args us vs Q E hr he hb hv (h _ _ _ _ hs)⟩
def Env0.in1{P:Program}{w:World}{K:Ú}{mg:Str->Option Value}{base:Heap}{A:Around}{outer:List Env}{s:Shared}{H:Hp}(e:Env0 P w K mg base A outer s H) :
  Env0 P w K mg base A.in1 outer s H:=⟨e.frames,e.mod,e.bs,e.bsz,e.kW,e.frf,e.hok,e.bare⟩
section
variable {X:Cx}{pins:List (Addr×Obj)}{σ:St}{H:Hp}{s s':Shared}
def Inv.env0(I:Inv X pins σ H s):Env0 X.prog X.w X.K X.mg X.base X.A X.stack s H :=
 ⟨I.ok.frames,I.ok.mod,I.bs,õ I.ok.bsz I.sz,I.stack,I.Bj,I.hok,I.bare⟩
def Inv.after{Q:VK}{u:Value}(I:Inv X pins σ H s)(h:CE X.stack X.prog X.w H s Q u s'):EP X pins σ Q u s':=by
 obtain⟨v,H',os,bare,un,hok,r,q⟩:=h
 obtain⟨hh,g,d,t,os'⟩:=s'
 obtain rfl:os'=s.os:=os
 exact⟨v,H',I.call (h':=hh) (g':=g) (d':=d) (t':=t) (ch:=[]) un hok bare (λb z=>absurd z (by simp)),r,q⟩
end
def tG(sp:Sp)(dvs:List V)(E:XK)(t:TA):TE:=λσ H Q=>t σ H λvs H1=>sp (vs++dvs) H1 Q E
def Binds(K:Ú)(fd:FuncData)(ps:List Str)(ds:List Value):Prop :=
 ∀(s:Shared) (us:List Value),K.In s.heap->(us++ds).length=ps.length->BindsTo s fd ⟨us,[]⟩ (ps.zip (us++ds))
def Binds.all{K:Ú}{fd:FuncData}{ps:List Str}(h:∀us:List Value,us.length=ps.length->bindArgs fd ⟨us,[]⟩=pure (ps.zip us)):Binds K fd ps []:=λs us _ hl=>by
 rw[ê] at hl ⊢
 exact .of_eq (h us hl)
def Passes(CX:CXT)(X:Cx)(E:XK):Prop:=∀(pins:List (Addr×Obj)) (σ:St) (H:Hp) (s:Shared) (e:Value) (s':Shared),Inv X pins σ H s->CX X.stack H s E e s'->X.xe e s'
section
variable {X:Cx}{CX:CXT}{k:Nat}{f C:Addr}{fd:FuncData}{ps:List Str}{sp:Sp}{dvs:List V}{ds:List Value}{E:XK}{x m:Str}{p pos apos:Pos}{e o:Expr}{es:List Expr}{ta:TE}{t:TA}
def Gj{pins:List (Addr×Obj)}{σ:St}{H:Hp}{s:Shared}{Q:VK}{us:List Value}{vs:List V}(F:FnOk X.prog X.w X.K X.mg X.base CX k f fd ps sp)(hr:Room k X.A)(hb:Binds X.K fd ps ds)(hd:Vals dvs ds)(hx:Passes CX X E)(I:Inv X pins σ H s)(r:Vals vs us)(h:sp (vs++dvs) H Q E):wpAny (model X.prog X.w) X.A (call (.ref f) us) (EP X pins σ Q) X.xe s:=by
 have r2:Vals (vs++dvs) (us++ds):=r.append hd
 have hl:(us++ds).length=ps.length:=by rw[←r2.length];exact F.len _ _ _ _ h
 refine wpAny_call (codeAny_mono (F.run X.A X.stack s H ⟨us,[]⟩ (us++ds) (vs++dvs) Q E hr I.env0 (hb s us I.kIn hl) r2 h) λr s' hq=>?_)
 cases r with
 |error e=>exact hx pins σ H s e s' I hq
 |ok fl =>
  cases fl with
  |ret u=>exact I.after hq
  |next=>exact Į hq
  |brk=>exact Į hq
  |cont=>exact Į hq
def Kr(F:FnOk X.prog X.w X.K X.mg X.base CX k f fd ps sp)(hr:Room k X.A)(hg:Gl X x)(hm:X.mg x=some (.ref f))(hk:W.keepIn X.K (.ref f)=true)(hb:Binds X.K fd ps ds)(hd:Vals dvs ds)(hx:Passes CX X E)(ha:PA X (e::es) t)(hdb:(x == ("__debug__":Str))=false:=by decide)(he:starEach (e::es) X.env=(false,eval e X.env)::starEach es X.env:=by rfl)(hpl:(backTo pos (starEach es X.env)).any (·.1)=false:=by rfl) :
  PE X (.Call (.Name x p) (e::es) [] pos) (tG sp dvs E t):=by
 intro pins s σ H Q I h
 refine Ņ (BR I hg hm ?_ hdb)
 refine W.callWith_K (h₀:=X.base) I.ok.mod.kin hk (thn (ha pos pins s σ H _ I h) λus s1 ⟨vs,H1,I1,r,q⟩=>⟨I1.kIn,?_⟩) he hpl
 exact Gj F hr hb hd hx I1 r q
structure Mk(K:Ú)(C f:Addr):Prop where
 makes:W.makesIn K C=true
 init:W.findIn K (.ref C) "__init__"=some (some (.ref f))
 fn:W.isFn K (.ref f)=true
 kp:W.keepIn K (.ref C)=true
end
section
variable {X:Cx}{CX:CXT}{k:Nat}{f C:Addr}{fd:FuncData}{ps ks:List Str}{sp:Sp}{E:XK}{x m:Str}{p pos apos kpos:Pos}{e o:Expr}{es:List Expr}{kws:List Keyword}{te ta:TE}{t tk:TA}{nm:Option Str}
structure KBinds(K:Ú)(fd:FuncData)(ps ks:List Str)(g:List Value->List Value->List Value)(gV:List V->List V->List V):Prop where
 to:∀(s:Shared) (us ws:List Value),K.In s.heap->(g us ws).length=ps.length->BindsTo s fd ⟨us,ks.zip ws⟩ (ps.zip (g us ws))
 rel:∀{vs:List V}{us:List Value}{zs:List V}{ws:List Value},Vals vs us->Vals zs ws->Vals (gV vs zs) (g us ws)
variable {g:List Value->List Value->List Value}{gV:List V->List V->List V}
end
structure FnScope(N P:List Str)(sc:Scope):Prop where
 kind:sc.kind=.function
 co:sc.isCoroutine=false
 gen:sc.isGenerator=false
 nd:N.Nodup
 pre:N.take P.length=P
 par:∀x∈P,sc.names.lookup x=some .local\/sc.names.lookup x=some .cell
 nofree:∀y∈sc.names,y.2≠.free
def zC{N P:List Str}{sc:Scope}(a:sc.kind=.function:=by rfl)(b:sc.isCoroutine=false:=by rfl)(c:sc.isGenerator=false:=by rfl)(d:N.Nodup:=by decide +kernel)(e:N.take P.length=P:=by rfl)(f:∀x∈P,sc.names.lookup x=some .local\/sc.names.lookup x=some .cell:=by decide +kernel)(g:∀y∈sc.names,y.2≠.free:=by decide +kernel):FnScope N P sc:=⟨a,b,c,d,e,f,g⟩
def uF{kindOf:Str->Option NameKind}{x:Str}:∀{binds:List (Str×Value)}{m:Str->Option Value},(∀v,(x,v)∉binds)->bindL kindOf binds m x=m x
 |[],_,_=>rfl
 |(n,v)::r,m,h=>by
  unfold bindL
  rw[uF λw hw=>h w (Ä _ hw)]
  split
  ·have:x≠n:=by rintro rfl;exact h v Å
   simp[this]
  ·rfl
def uH{kindOf:Str->Option NameKind}{x:Str}:∀{binds:List (Str×Value)}{m:Str->Option Value},(∀v,(x,v)∉binds)->bindC kindOf binds m x=m x
 |[],_,_=>rfl
 |(n,v)::r,m,h=>by
  unfold bindC
  rw[uH λw hw=>h w (Ä _ hw)]
  split
  ·rfl
  ·have:x≠n:=by rintro rfl;exact h v Å
   simp[this]
def uG{kindOf:Str->Option NameKind}{x:Str}{v:Value}:∀{P:List Str}{vs:List Value}{i:Nat}{m:Str->Option Value},P.Nodup->P[i]?=some x->vs[i]?=some v->kindOf x=some .local ->
  bindL kindOf (P.zip vs) m x=some v
 |[],_,_,_,_,h,_,_=>by simp at h
 |_::_,[],_,_,_,_,h,_=>by simp at h
 |p::P,w::vs,0,m,nd,h1,h2,hk=>by
  simp at h1 h2;subst h1;subst h2
  show bindL kindOf ((p,w)::P.zip vs) m p=_
  unfold bindL
  rw[uF λv hv=>(List.nodup_cons.mp nd).1 (List.of_mem_zip hv).1,if_pos hk]
  simp
 |p::P,w::vs,i+1,m,nd,h1,h2,hk=>by
  show bindL kindOf ((p,w)::P.zip vs) m x=_
  unfold bindL
  exact uG (i:=i) (List.nodup_cons.mp nd).2 (by simpa using h1) (by simpa using h2) hk
def uI{kindOf:Str->Option NameKind}{x:Str}{v:Value}:∀{P:List Str}{vs:List Value}{i:Nat}{m:Str->Option Value},P.Nodup->P[i]?=some x->vs[i]?=some v->kindOf x≠some .local ->
  bindC kindOf (P.zip vs) m x=some v
 |[],_,_,_,_,h,_,_=>by simp at h
 |_::_,[],_,_,_,_,h,_=>by simp at h
 |p::P,w::vs,0,m,nd,h1,h2,hk=>by
  simp at h1 h2;subst h1;subst h2
  show bindC kindOf ((p,w)::P.zip vs) m p=_
  unfold bindC
  rw[uH λv hv=>(List.nodup_cons.mp nd).1 (List.of_mem_zip hv).1,if_neg hk]
  simp
 |p::P,w::vs,i+1,m,nd,h1,h2,hk=>by
  show bindC kindOf ((p,w)::P.zip vs) m x=_
  unfold bindC
  exact uI (i:=i) (List.nodup_cons.mp nd).2 (by simpa using h1) (by simpa using h2) hk
def start(N:List Str)(vs:List V):St:=vs.map some++Æ (N.length - vs.length) none
def yC(CX:CXT)(P:Program)(w:World)(K:Ú)(mg:Str->Option Value)(base:Heap)(N:List Str)(qual:Str)(scope:Scope)(f:Addr)(cd:Value)(A:Around)(outer:List Env)(s:Shared)(H:Hp)(E:XK):Cx where
 prog:=P
 w:=w
 K:=K
 mg:=mg
 base:=base
 A:=A.deeper (envOfC qual scope s.heap.objs.size f cd)
 N:=N
 s₀:=s
 H₀:=H
 env:=envOfC qual scope s.heap.objs.size f cd
 outer:=outer
 stack:=envOfC qual scope s.heap.objs.size f cd::outer
 ex:=[]
 calm:=true
 fn:=λ_=>true
 pn:=[]
 xe:=λe s'=>wpAny (model P w) (A.deeper (envOfC qual scope s.heap.objs.size f cd)) (leaving (envOfC qual scope s.heap.objs.size f cd) e) (λ_ s''=>CX outer H s E e s'') (λe' s''=>CX outer H s E e' s'') s'
def yG{sc:Scope}{n:Nat}{x:Str}(h:sc.names.lookup x=some .cell):∃c,(cellsFrom n sc.names []).lookup x=some c:=by
 have q:=W.cellsFrom_some sc.names n [] (.inl h)
 exact Ź.mp q
def Eh{CX:CXT}{P:Program}{w:World}{K:Ú}{mg:Str->Option Value}{base:Heap}{N ps:List Str}{qual:Str}{scope:Scope}{f:Addr}{cd:Value}{A:Around}{outer:List Env}{s s1:Shared}{H:Hp}{E:XK}{us:List Value}{vs:List V}(S:FnScope N ps scope)(hd:A.handled=none)(e0:Env0 P w K mg base A outer s H)(hl:vs.length=ps.length)(r:Vals vs us)(x:InCallC s s.heap.objs.size (bindL (envOfC qual scope s.heap.objs.size f cd).kindOf (ps.zip us) λ_=>none) (cellsFrom (s.heap.objs.size+1) scope.names []) (bindC (envOfC qual scope s.heap.objs.size f cd).kindOf (ps.zip us) λ_=>none) s1) :
  Inv (yC CX P w K mg base N qual scope f cd A outer s H E) [] (start N vs) H s1:=by
 have hpl:ps.length<=N.length:=by have:=congrArg List.length S.pre;rw[İ] at this;omega
 obtain⟨h1,tk,rfl,hk⟩:=x.done
 have noA:∀b:Addr,b∉(yC CX P w K mg base N qual scope f cd A outer s H E).ex:=λb z=>absurd (show b∈([]:List Addr) from z) (by simp)
 refine⟨⟨e0.mod,S.kind,rfl,rfl,Ë _,λy z c h1 h2=>?_,λy hy=>?_,λy c _ h=>?_,λ_=>hd,Around.frames_deeper e0.frames,.inr ⟨rfl,rfl⟩,λb z=>absurd z (noA b),e0.bs,e0.bsz,λb _ _=>noA b,λb z=>absurd z (noA b),e0.kW,e0.frf,λq z=>nomatch (show q∈([]:List (Addr×Obj×HO)) from z)⟩,
  rfl,e0.bare,Un.kept hk,⟨_,x.toInCall.ns,λi y v h1 h2 h3=>?_⟩,λy c h=>⟨_,x.cell y c h⟩,e0.hok.fresh (Ë _),λy c h=>?_,λp hp=>absurd (show p∈([]:List (Addr×Obj)) from hp) (by simp),e0.hok.kept hk,?_⟩
 ·exact name_of_addr x.apart (û h1) (û h2)
 ·have hy:scope.names.lookup y=some .cell\/scope.names.lookup y=some .free:=hy
  rcases hy with hy|hy
  ·exact yG hy
  ·exact absurd rfl (S.nofree _ (û hy))
 ·exact Nat.le_of_lt (x.above y c (û h))
 ·have hi:i<vs.length:=by
   unfold start at h2
   by_cases hi:i<vs.length
   ·exact hi
   ·rw[è (by simpa using hi)] at h2
    rw[ŋ] at h2
    split at h2 <;> cases h2
  have ha:vs[i]?=some v:=by
   unfold start at h2
   rw[ó (by simpa using hi),Þ] at h2
   cases e:vs[i]? with
   |none=>rw[e] at h2;cases h2
   |some a=>rw[e] at h2;cases h2;rfl
  obtain⟨u,hu,rv⟩:=r.get ha
  have hp:ps[i]?=some y:=by
   rw[←S.pre,List.getElem?_take_of_lt (by omega)];exact h1
  have ndP:ps.Nodup:=by rw[←S.pre];exact S.nd.sublist (List.take_sublist _ _)
  refine⟨u,rv,?_⟩
  rcases S.par y (Ò hp) with k|k
  ·exact .inl ⟨k,uG ndP hp hu k⟩
  ·obtain⟨c,e⟩:=yG (n:=s.heap.objs.size+1) k
   refine .inr ⟨.inl k,c,e,?_⟩
   have q:=x.cell y c e
   rw[uI ndP hp hu (by show scope.names.lookup y≠_;rw[k];decide)] at q
   exact q
 ·exact e0.hok.fresh (Nat.le_of_lt (x.above y c (û h)))
 ·unfold start
  show _=N.length
  rw[È,À,Ġ]
  omega
def Jg{CX:CXT}{P:Program}{w:World}{K:Ú}{mg:Str->Option Value}{base:Heap}{k:Nat}{f:Addr}{name qual:Str}{params:Arguments}{body:List Stmt}{scope:Scope}{dV kV doc pm cdv ct oc:Value}{an od:Option Addr}{osl:Array (Option Value)}{N ps:List Str}{sp:Sp}(lk:K.lookup f=some ⟨oc,od,.func (W.fnOf name qual params body scope dV kV doc pm an cdv ct),osl⟩)(hcd:W.codeIn K cdv qual=true)(S:FnScope N ps scope)(len:∀vs H Q E,sp vs H Q E->vs.length=ps.length)(hbody:∀(A:Around) (outer:List Env) (s:Shared) (H:Hp) (vs:List V) (Q:VK) (E:XK),Room k (A.deeper (envOfC qual scope s.heap.objs.size f cdv))->sp vs H Q E ->
   ∃t,PSs (yC CX P w K mg base N qual scope f cdv A outer s H E) body t/\t { nx:=λ_ H'=>Q .non H',rt:=Q } (start N vs) H) :
  FnOk P w K mg base CX (k+1) f (W.fnOf name qual params body scope dV kV doc pm an cdv ct) ps sp:=by
 refine⟨len,λA outer s H args us vs Q E hr e0 hb r hsp=>?_⟩
 have hl:=len _ _ _ _ hsp
 have KX:K.In s.heap:=e0.mod.kin.keeps λb o e=>(e0.bs b o e).1
 have lim:s.heap.NoLimit:=e0.mod.nolimit.keeps λb o e=>(e0.bs b o e).1
 have hkind:∀y∈ps.zip us,scope.names.lookup y.1=some .local\/(scope.names.lookup y.1=some .cell/\((cellsFrom (s.heap.objs.size+1) scope.names []).lookup y.1).isSome=true):=λ⟨n,v⟩ hy=>by
  rcases S.par n (List.of_mem_zip hy).1 with q|q
  ·exact .inl q
  ·exact .inr ⟨q,W.cellsFrom_some _ _ _ (.inl q)⟩
 refine codeAny_call_function hr.depth (KX _ _ lk) rfl S.co S.gen rfl (W.codeRec_of KX hcd) (hb _ _ _ _ ?_)
 refine wpAny_newFunctionEnv_cells S.kind hkind λenv he s1 x=>?_
 subst he
 refine⟨lim.keeps x.toInCall.keep,codeAny_func ?_⟩
 obtain⟨t,ht,hq⟩:=hbody A outer s H vs Q E (hr.deeper _) hsp
 have I:Inv (yC CX P w K mg base N qual scope f cdv A outer s H E) [] (start N vs) H s1:=Eh S hr.hd e0 hl r x
 refine ń (ht [] s1 (start N vs) H _ I hq) (λfl s' hs=>?_) λe s' hs=>hs
 have fin:∀{σ':St}{H':Hp}{v:V}{u:Value},Inv (yC CX P w K mg base N qual scope f cdv A outer s H E) [] σ' H' s'->RelV v u->Q v H'->CE outer P w H s Q u s' :=
  λ{σ' H' v u} J rv q=>⟨v,H',J.os,J.bare,J.base,J.hok,rv,q⟩
 cases fl with
 |ret u =>
  obtain⟨v,σ',H',J,rv,q⟩:=hs
  exact fin J rv q
 |next =>
  obtain⟨σ',H',J,q⟩:=hs
  exact fin (v:=V.non) (u:=ĕ) J rfl q
 |brk =>
  obtain⟨_,_,_,q⟩:=hs
  exact Į q
 |cont =>
  obtain⟨_,_,_,q⟩:=hs
  exact Į q
section
variable {X:Cx}{x:Str}{p pos:Pos}{e:Expr}{es:List Expr}{t:TA}{id T:String}{r:List V->Hp->VK->Prop}
def tCB(r:List V->Hp->VK->Prop)(t:TA):TE:=λσ H Q=>t σ H λvs H1=>r vs H1 Q
def dM(hc:bK X (.builtin id) r)(hg:Gl X x)(hm:X.mg x=none)(hv:bootBuiltins x=some (.builtin id))(ha:PA X (e::es) t)(hn:x≠"__name__":=by decide)(hdb:(x == ("__debug__":Str))=false:=by decide)(he:starEach (e::es) X.env=(false,eval e X.env)::starEach es X.env:=by rfl)(hpl:(backTo pos (starEach es X.env)).any (·.1)=false:=by rfl):PE X (.Call (.Name x p) (e::es) [] pos) (tCB r t):=by
 intro pins s σ H Q I h
 refine Ņ (jN I hg hm hv ?_ hn hdb)
 exact PyProof.Rows.callWith_builtin1 (thn (ha pos pins s σ H _ I h) λus s1 ⟨vs,H1,I1,r1,q1⟩=>hc pins s1 σ H1 vs us Q I1 r1 q1) he hpl
def tQ(hc:bK X (.type T) r)(hg:Gl X x)(hm:X.mg x=none)(hv:bootBuiltins x=some (.type T))(ha:PA X (e::es) t)(hn:x≠"__name__":=by decide)(hdb:(x == ("__debug__":Str))=false:=by decide)(he:starEach (e::es) X.env=(false,eval e X.env)::starEach es X.env:=by rfl)(hpl:(backTo pos (starEach es X.env)).any (·.1)=false:=by rfl):PE X (.Call (.Name x p) (e::es) [] pos) (tCB r t):=by
 intro pins s σ H Q I h
 refine Ņ (jN I hg hm hv ?_ hn hdb)
 exact Ł (thn (ha pos pins s σ H _ I h) λus s1 ⟨vs,H1,I1,r1,q1⟩=>hc pins s1 σ H1 vs us Q I1 r1 q1) he hpl
end
end L2
namespace HT
open PySem PyProof.Rows
section
open PySem.SeqAt
open PySem.AutoSeq1 (wpAny_loadPart')
open PySem.MeetsSeq PySem.MeetsSeq2 PySem.MeetsSeq3
end
section
variable {prog:Program}{w:World}{A:Around}{E:Value->Shared->Prop}{s:Shared}
def LK{t b:Addr}{vs ws:List Value}{Q:Value->Shared->Prop}(ht:IsTup s.heap t vs.toArray)(hb:IsTup s.heap b ws.toArray)(hv:vs≠[])(h1:ws=[]->Q (.ref t) s)(h2:ws≠[]->Q (.ref s.heap.objs.size) { s with heap:=s.heap.push { cls:=.type "tuple",data:=.seq (vs++ws).toArray } })(hsz:vs.length+ws.length<=sizeLine):wpAny (model prog w) A (binaryOp .Add (.ref t) (.ref b)) Q E s:=by
 obtain⟨⟨cls,dd,data,sl⟩,ho,hc,n,hd⟩:=id ht
 obtain⟨⟨cls2,dd2,data2,sl2⟩,ho2,hc2,n2,hd2⟩:=id hb
 simp only at hc hd hc2 hd2
 subst hc hd hc2 hd2
 have e:vs.toArray++ws.toArray=(vs++ws).toArray:=by simp
 by_cases hw:ws=[]
 ·exact concat_meets ⟨_,ho,rfl⟩ ⟨_,ho2,rfl⟩ noFill_tuple_add seq_tuple_add PySem.F.slot_tuple_add PySem.F.entry_tuple_add (PySem.F.args_tuple_add_2 _ _)
   (tuple_addW1 t b vs.toArray ws.toArray n n2 dd dd2 sl sl2 (by simpa using hv) (by simp[hw])) ⟨ho,ho2,h1 hw⟩
 ·refine concat_meets ⟨_,ho,rfl⟩ ⟨_,ho2,rfl⟩ noFill_tuple_add seq_tuple_add PySem.F.slot_tuple_add PySem.F.entry_tuple_add (PySem.F.args_tuple_add_2 _ _)
   (tuple_addW2 t b vs.toArray ws.toArray n n2 dd dd2 sl sl2 (by simpa using hv) (by simpa using hw) (by rw[Í,Í];exact hsz)) ⟨ho,ho2,?_⟩
  rw[e]
  exact h2 hw
def sIx(n d:Nat):Option Int->Nat
 |none=>d
 |some v=>if v<0 then (v+(n:Int)).toNat else min v.toNat n
def uW(n d k:Nat):sIx n d (some (k:Int))=min k n:=by
 show(if (k:Int)<0 then ((k:Int)+(n:Int)).toNat else min (k:Int).toNat n)=min k n
 rw[if_neg (by omega),é]
def Ot(n d:Nat)(hd:d<=n)(o:Option Int):sIx n d o<=n:=by
 cases o with
 |none=>exact hd
 |some v =>
  show(if v<0 then (v+(n:Int)).toNat else min v.toNat n)<=n
  by_cases hv:v<0
  ·rw[if_pos hv];omega
  ·rw[if_neg hv];exact Nat.min_le_right _ _
def CJ(v:Int)(n d:Nat):(if v<0 then max (v+(n:Int)) 0 else min v (n:Int))=((sIx n d (some v):Nat):Int):=by
 show(if v<0 then max (v+(n:Int)) 0 else min v (n:Int))=(((if v<0 then (v+(n:Int)).toNat else min v.toNat n):Nat):Int)
 by_cases hv:v<0
 ·simp only[if_pos hv];omega
 ·simp only[if_neg hv];omega
def Bb(lo hi:Option Int)(n:Nat):Builtin.Slice.sliceAdjust lo hi 1 (n:Int)=(((sIx n 0 lo:Nat):Int),((sIx n n hi:Nat):Int)):=by
 have h1:¬((1:Int)<0):=by omega
 unfold Builtin.Slice.sliceAdjust
 simp only[h1,if_false]
 refine Prod.ext ?_ ?_
 ·cases lo with
  |none=>rfl
  |some v=>exact CJ v n 0
 ·cases hi with
  |none=>rfl
  |some v=>exact CJ v n n
def zq(i j:Nat):ţ (i:Int) (j:Int) 1=j - i:=by
 unfold ţ
 have h1:(1:Int) > 0:=by omega
 simp only[h1,if_true,Int.ediv_one]
 split <;> omega
def qI{v:Value}{o:Option Int}{Q:Option Int->Shared->Prop}(p:IsPart v o)(h:Q o s):wpAny (model prog w) A (Builtin.Slice.slicePartIndex v) Q E s:=by
 cases p with
 |none=>exact slicePart_none h
 |int i t=>exact slicePart_int h
def oK{sl:Addr}{vl vu:Value}{lo hi:Option Int}{n:Nat}{Q:Int×Int×Nat->Shared->Prop}(hs:s.heap.IsSliceOf sl vl vu .none)(pl:IsPart vl lo)(pu:IsPart vu hi)(h:Q (((sIx n 0 lo:Nat):Int),1,sIx n n hi - sIx n 0 lo) s):wpAny (model prog w) A (Builtin.Slice.sliceApplied (.ref sl) (pure (n:Int))) Q E s:=by
 obtain⟨os,hos,hcs,hds⟩:=id hs
 unfold Builtin.Slice.sliceApplied Builtin.Slice.sliceFields
 refine Ã (Ã (wpAny_field hos hds (x:=vl) rfl (Ã (wpAny_field hos hds (x:=vu) rfl (Ã (wpAny_field hos hds (x:=.none) rfl (Ô ?_)))))))
 refine Ã (slicePart_none ?_)
 show wpAny _ _ (if ((1:Int) == 0)=true then _ else _) _ _ s
 rw[if_neg (by decide)]
 refine Ã (qI pl (Ã (qI pu (Ã (Ô ?_)))))
 show wpAny _ _ (match Builtin.Slice.sliceAdjust lo hi 1 (n:Int) with|(lo,hi)=>pure (lo,(1:Int),ţ lo hi 1)) _ _ s
 rw[Bb lo hi n]
 show wpAny _ _ (pure (((sIx n 0 lo:Nat):Int),(1:Int),ţ ((sIx n 0 lo:Nat):Int) ((sIx n n hi:Nat):Int) 1)) _ _ s
 rw[zq]
 exact Ô h
def Gy(xs:Array Value)(i k:Nat):((Ý k).filterMap λ(m:Nat)=>xs[((i:Int)+(m:Int) * 1).toNat]?).toArray=((xs.toList.drop i).take k).toArray:=by
 have e:(λ(m:Nat)=>xs[((i:Int)+(m:Int) * 1).toNat]?)=λm=>xs[i+m]?:=by
  funext m
  have:((i:Int)+(m:Int) * 1).toNat=i+m:=by omega
  rw[this]
 rw[e]
 have:=pick_run xs i k
 rw[List.filterMap_map] at this
 have e2:((λx=>xs[x]?) ∘ λx=>i+x)=λm=>xs[i+m]?:=rfl
 rw[e2] at this
 rw[this]
def nQ{t sl:Addr}{items:Array Value}{vl vu:Value}{lo hi:Option Int}{Q:Value->Shared->Prop}(ht:IsTup s.heap t items)(hs:s.heap.IsSliceOf sl vl vu .none)(pl:IsPart vl lo)(pu:IsPart vu hi)(hw:¬(sIx items.size 0 lo=0/\sIx items.size items.size hi=items.size))(h:Q (.ref s.heap.objs.size) { s with heap:=s.heap.push { cls:=.type "tuple",data:=.seq ((items.toList.drop (sIx items.size 0 lo)).take (sIx items.size items.size hi - sIx items.size 0 lo)).toArray } })(hsz:items.size<=sizeLine):wpAny (model prog w) A (getItem (.ref t) (.ref sl)) Q E s:=by
 have htake:sizeOk (.seq ((items.toList.drop (sIx items.size 0 lo)).take (sIx items.size items.size hi - sIx items.size 0 lo)).toArray):=by
  show((items.toList.drop (sIx items.size 0 lo)).take (sIx items.size items.size hi - sIx items.size 0 lo)).toArray.size<=sizeLine
  rw[Í,İ,Ĉ,ķ]
  omega
 have hj:sIx items.size items.size hi<=items.size:=Ot _ _ (Ë _) hi
 obtain⟨os,hos,hcs,hds⟩:=id hs
 have hTs:s.TypeIs (.ref sl) "slice":=⟨os,hos,hcs⟩
 unfold getItem
 try with_reducible refine Ē ?_
 first|refine Ã (Ô ?_)|skip
 refine Ã (wpAny_sequenceKey ht.typeIs (by decide) ?_)
 refine Ã (wpAny_callSpecial?_slot (name:=å "__getitem__") ht.typeIs PyProof.Rows.slot_tuple_getitem
  (wpAny_call_entry PyProof.Rows.slot_tuple_getitem ht.typeIs entry_tuple_getitem ?_ (args_tuple_getitem _ _)))
 show wpAny _ _ (Builtin.Tuple.tupleItemsOf (.ref t) >>= _) _ _ s
 refine Ã (tupleItemsOf_ ht ?_)
 refine Ã (wpAny_typeOf hTs ?_)
 rw[if_pos (by decide)]
 refine Ã (oK hs pl pu ?_)
 have hno:¬((((sIx items.size 0 lo:Nat):Int) == 0&&(1:Int) == 1&&(sIx items.size items.size hi - sIx items.size 0 lo) == items.size)=true):=by
  intro q
  rw[Ù,Ù] at q
  have q1:((sIx items.size 0 lo:Nat):Int)=0:=eq_of_beq q.1.1
  have q2:sIx items.size items.size hi - sIx items.size 0 lo=items.size:=eq_of_beq q.2
  exact hw ⟨by omega,by omega⟩
 show wpAny _ _ (if (((sIx items.size 0 lo:Nat):Int) == 0&&(1:Int) == 1&&(sIx items.size items.size hi - sIx items.size 0 lo) == items.size)=true then _ else _) _ _ s
 rw[if_neg hno,Gy]
 first
  |exact Ã (m:=ū _) (Ŵ (Ô ⟨_,rfl,Ô h⟩) htake)
  |exact Ã (m:=ū _) (Ŵ (Ã (Ô (Ô ⟨_,rfl,Ô h⟩))) htake)
  |exact Ã (Ã (m:=ū _) (Ŵ (Ô (Ô ⟨_,rfl,Ô h⟩)) htake))
  |exact Ã (Ã (m:=ū _) (Ŵ (Ô ⟨_,rfl,Ô h⟩) htake))
end
end HT
namespace L2
open PySem PySem.Spec PyProof.Rows
abbrev TO:=St->Hp->(Option Int->Hp->Prop)->Prop
def PO(X:Cx)(e:Option Expr)(t:TO):Prop :=
 ∀(pins:List (Addr×Obj)) (s:Shared) (σ:St) (H:Hp) (Q:Option Int->Hp->Prop),Inv X pins σ H s->t σ H Q ->
  wpAny (model X.prog X.w) X.A (evalPart e X.env) (λu s'=>∃o H',Inv X pins σ H' s'/\IsPart u o/\Q o H') X.xe s
def JX:TO:=λ_ H Q=>Q none H
def Ri(t:TE):TO:=λσ H Q=>t σ H λx H1=>∃i,x=.int i/\Q (some i) H1
def intsAre_of{ns:List Int}:∀{us:List Value},Vals (ns.map V.int) us->IntsAre us ns:=by
 induction ns with
 |nil=>intro us r;rw[List.map_nil] at r;cases r;exact .nil
 |cons n ns ih =>
  intro us r
  rw[æ] at r
  cases r with
  |cons r1 r2 =>
   obtain⟨t,e⟩:=r1
   subst e
   exact .cons n t (ih r2)
section
variable {X:Cx}{e:Expr}{te:TE}{lo hi:Option Expr}{tl th:TO}{pos p2:Pos}
def Ko:PO X none JX:=by
 intro pins s σ H Q I h
 rw[evalPart_none]
 exact Ô ⟨none,H,I,.none,h⟩
def Km(h:PE X e te):PO X (some e) (Ri te):=by
 intro pins s σ H Q I hw
 rw[evalPart_some]
 refine thn (h pins s σ H _ I hw) λu s1 ⟨x,H1,I1,r1,q1⟩=>?_
 obtain⟨i,rfl,q⟩:=q1
 obtain⟨t,rfl⟩:=r1
 exact⟨some i,H1,I1,.int i t,q⟩
def SlR(X:Cx)(r:V->Option Int->Option Int->Hp->VK->Prop):Prop :=
 ∀(pins:List (Addr×Obj)) (s:Shared) (σ:St) (H:Hp) (x:V) (v vl vu:Value) (lo hi:Option Int) (sl:Addr) (Q:VK),Inv X pins σ H s->RelV x v->s.heap.IsSliceOf sl vl vu .none->IsPart vl lo->IsPart vu hi->r x lo hi H Q ->
  ∃T id,typeLookup (.type T) "__getitem__"=pure (some (.builtin id))/\s.TypeIs v T/\wpAny (model X.prog X.w) X.A (getItem v (.ref sl)) (EP X pins σ Q) X.xe s
def SlR.or{r r':V->Option Int->Option Int->Hp->VK->Prop}(h:SlR X r)(h':SlR X r'):SlR X (λx lo hi H Q=>r x lo hi H Q\/r' x lo hi H Q):=by
 intro pins s σ H x v vl vu lo hi sl Q I rx hs pl pu q
 rcases q with q|q
 ·exact h pins s σ H x v vl vu lo hi sl Q I rx hs pl pu q
 ·exact h' pins s σ H x v vl vu lo hi sl Q I rx hs pl pu q
def tSl(r:V->Option Int->Option Int->Hp->VK->Prop)(te:TE)(tl th:TO):TE:=λσ H Q=>te σ H λx H1=>tl σ H1 λl H2=>th σ H2 λu H3=>r x l u H3 Q
def xJ{r:V->Option Int->Option Int->Hp->VK->Prop}(hr:SlR X r)(he:PE X e te)(hl:PO X lo tl)(hu:PO X hi th):PE X (.Subscript e (.Slice lo hi none p2) pos) (tSl r te tl th):=by
 intro pins s σ H Q I h
 refine Subscript_ (thn (he pins s σ H _ I h) λv s1 ⟨x,H1,I1,r1,q1⟩=>?_)
 refine wpAny_Slice (thn (hl pins s1 σ H1 _ I1 q1) λvl s2 ⟨l,H2,I2,pl,q2⟩=>thn (hu pins s2 σ H2 _ I2 q2) λvu s3 ⟨u,H3,I3,pu,q3⟩=>?_)
 rw[evalPart_none]
 refine Ô ?_
 have I4:Inv X pins σ H3 { s3 with heap:=s3.heap.push { cls:=.type "slice",data:=.fields #[vl,vu,.none] } }:=I3.kept (t':=s3.toks) λb ob q=>Ñ _ q
 obtain⟨T,id,hT,ht,hg⟩:=hr pins { s3 with heap:=s3.heap.push { cls:=.type "slice",data:=.fields #[vl,vu,.none] } } σ H3 x v vl vu l u s3.heap.objs.size Q I4 r1 (Heap.IsSliceOf.new ..) pl pu q3
 show wpAny (model X.prog X.w) X.A (subscriptTail e (.Slice lo hi none p2) v (.ref s3.heap.objs.size)) (EP X pins σ Q) X.xe { s3 with heap:=s3.heap.push { cls:=.type "slice",data:=.fields #[vl,vu,.none] } }
 exact tail_any (ops:=[.ref s3.heap.objs.size,v]) ht hT hg (by with_unfolding_all rfl)
def sy(xs:List V)(lo hi:Option Int):List V:=(xs.drop (HT.sIx xs.length 0 lo)).take (HT.sIx xs.length xs.length hi - HT.sIx xs.length 0 lo)
def pR(xs:List V)(lo hi:Option Int):(sy xs lo hi).length<=xs.length:=by
 unfold sy
 rw[İ,Ĉ]
 omega
def UG(K:Ú):V->Option Int->Option Int->Hp->VK->Prop:=λx lo hi H Q=>∃a xs,x=.ref a/\SqT K H a xs /\
 ¬(HT.sIx xs.length 0 lo=0/\HT.sIx xs.length xs.length hi=xs.length)/\∀p,H p=none->Q (.ref p) (upd H p (.tup (sy xs lo hi)))
def Oq:SlR X (UG X.K):=by
 intro pins s σ H x v vl vu lo hi sl Q I rx hs pl pu h
 obtain⟨a,xs,rfl,hx,hw,q⟩:=h
 cases rx
 obtain⟨its,r,ht,hz⟩:=I.tuple hx
 have hlen:its.toArray.size=xs.length:=by rw[Í];exact r.length.symm
 refine⟨"tuple",_,PyProof.Rows.slot_tuple_getitem.lookup,ht.typeIs,?_⟩
 refine HT.nQ ht hs pl pu (by rw[hlen];exact hw) ?_ (by rw[hlen];exact hz)
 rw[hlen]
 refine⟨.ref s.heap.objs.size,_,I.laid (t':=s.toks) (o:=.tup (sy xs lo hi)) (λb ob q=>Ñ _ q) (Ë _) ?_,rfl,q _ (I.hok.fresh (Ë _))⟩
 exact⟨õ (pR xs lo hi) hz,_,(r.drop (HT.sIx xs.length 0 lo)).take (HT.sIx xs.length xs.length hi - HT.sIx xs.length 0 lo),IsTup.new _ _⟩
def RZ(K:Ú):R2:=λx y H Q=>∃a b xs ys,x=.ref a/\y=.ref b/\SqT K H a xs/\SqT K H b ys/\xs≠[]/\xs.length+ys.length<=sizeLine /\
 (ys=[]->Q (.ref a) H)/\(ys≠[]->∀p,H p=none->Q (.ref p) (upd H p (.tup (xs++ys))))
def Vals.vH{xs:List V}{us:List Value}(r:Vals xs us):us=[]↔xs=[]:=by
 cases r with
 |nil=>simp
 |cons _ _=>simp
def Kw:OpR X (binaryOp .Add) (RZ X.K):=by
 intro pins s σ H x y v u Q I rx ry h
 obtain⟨a,b,xs,ys,rfl,rfl,ha,hb,hx,hz,q1,q2⟩:=h
 cases rx
 cases ry
 obtain⟨its,r1,p1,_⟩:=I.tuple ha
 obtain⟨its2,r2,p2,_⟩:=I.tuple hb
 refine HT.LK p1 p2 (λz=>hx (r1.vH.mp z)) (λz=>⟨.ref a,H,I,rfl,q1 (r2.vH.mp z)⟩) (λz=>?_) (by rw[←r1.length,←r2.length];exact hz)
 refine⟨.ref s.heap.objs.size,_,I.laid (t':=s.toks) (o:=.tup (xs++ys)) (λb ob q=>Ñ _ q) (Ë _) ?_,rfl,q2 (λw=>z (r2.vH.mpr w)) _ (I.hok.fresh (Ë _))⟩
 exact⟨by rw[È];exact hz,_,r1.append r2,IsTup.new _ _⟩
end
def ixN(n:Nat)(i:Int):Option Nat:=if 0<=i then (if i<n then some i.toNat else none) else if -(n:Int)<=i then some (i+n).toNat else none
def atI{α:Type}(xs:List α)(i:Int):Option α:=(ixN xs.length i).bind λj=>xs[j]?
def BZ{n:Nat}{i:Int}{j:Nat}(h:ixN n i=some j):seqIndex? i n=some j/\j<n/\-(n:Int)<=i/\i<n:=by
 unfold ixN at h
 by_cases h0:0<=i
 ·rw[if_pos h0] at h
  by_cases h1:i<n
  ·rw[if_pos h1] at h
   have e:i.toNat=j:=à h
   exact⟨by rw[seqIndex_of h0 h1,e],by omega,by omega,h1⟩
  ·rw[if_neg h1] at h;cases h
 ·rw[if_neg h0] at h
  by_cases h1:-(n:Int)<=i
  ·rw[if_pos h1] at h
   have e:(i+n).toNat=j:=à h
   exact⟨by rw[seqIndex_neg (by omega) h1,e],by omega,h1,by omega⟩
  ·rw[if_neg h1] at h;cases h
def CV{α:Type}{xs:List α}{i:Int}{v:α}(h:atI xs i=some v):∃j,seqIndex? i xs.length=some j/\xs[j]?=some v/\j<xs.length/\-(xs.length:Int)<=i/\i<xs.length:=by
 unfold atI at h
 cases e:ixN xs.length i with
 |none=>rw[e] at h;cases h
 |some j =>
  rw[e] at h
  obtain⟨h1,h2,h3,h4⟩:=BZ e
  exact⟨j,h1,h,h2,h3,h4⟩
def eX{α:Type}{xs:List α}{j:Nat}{v:α}(h:xs[j]?=some v):atI xs (j:Int)=some v:=by
 have hj:j<xs.length:=(Ê.mp h).1
 have e:ixN xs.length (j:Int)=some j:=by
  unfold ixN
  rw[if_pos (by omega),if_pos (by omega)];simp
 unfold atI;rw[e];exact h
def n6{α:Type}(xs:List α)(v:α):atI (xs++[v]) (-1)=some v:=by
 have hl:(xs++[v]).length=xs.length+1:=by simp
 have e:ixN (xs++[v]).length (-1)=some xs.length:=by
  unfold ixN
  rw[hl,if_neg (by decide),if_pos (by omega)]
  congr 1
  omega
 unfold atI
 rw[e]
 show(xs++[v])[xs.length]?=some v
 simp
def ou(b:Expr):Prop:=∀o i,subscripted b false o i=operate [o,i] (getItem o i)
def IxR(X:Cx)(r:R2):Prop :=
 ∀(value slice:Expr) (pins:List (Addr×Obj)) (s:Shared) (σ:St) (H:Hp) (x y:V) (v u:Value) (Q:VK),Inv X pins σ H s->RelV x v->RelV y u->r x y H Q ->
  subscripted slice false v u=operate [v,u] (getItem v u)->wpAny (model X.prog X.w) X.A (subscriptTail value slice v u) (EP X pins σ Q) X.xe s
def MtR(X:Cx)(id:String)(r:V->List V->Hp->VK->Prop):Prop :=
 ∀(pins:List (Addr×Obj)) (s:Shared) (σ:St) (H:Hp) (x:V) (xs:List V) (v:Value) (us:List Value) (Q:VK),Inv X pins σ H s->RelV x v->Vals xs us->r x xs H Q ->
  wpAny (model X.prog X.w) X.A (call (.builtin id) (v::us)) (EP X pins σ Q) X.xe s
section
variable {X:Cx}{a b:Expr}{ta tb:TE}{pos:Pos}
def IxR.or{r r':R2}(h:IxR X r)(h':IxR X r'):IxR X (λx y H Q=>r x y H Q\/r' x y H Q):=by
 intro value slice pins s σ H x y v u Q I rx ry q hs
 rcases q with q|q
 ·exact h value slice pins s σ H x y v u Q I rx ry q hs
 ·exact h' value slice pins s σ H x y v u Q I rx ry q hs
def dY{r:R2}(hr:IxR X r)(ha:PE X a ta)(hb:PE X b tb)(hs:ou b):PE X (.Subscript a b pos) (tOp r ta tb):=by
 intro pins s σ H Q I h
 exact Subscript_ (QZ ha hb I h λv u s2 x y H2 I2 rx ry q=>hr a b pins s2 σ H2 x y v u Q I2 rx ry q (hs _ _))
def UW(K:Ú):R2:=λx y H Q=>∃p xs i v,x=.ref p/\y=.int i/\SqL K H p xs/\atI xs i=some v/\Q v H
def UL(K:Ú):R2:=λx y H Q=>∃p xs i v,x=.ref p/\y=.int i/\SqT K H p xs/\atI xs i=some v/\Q v H
def cF:IxR X (UW X.K):=by
 intro value slice pins s σ H x y v u Q I rx ry h hs
 obtain⟨p,xs,i,z,rfl,rfl,hq,he,q⟩:=h
 cases rx
 obtain⟨t,rfl⟩:=ry
 obtain⟨its,r,pl,hz⟩:=I.list hq
 obtain⟨j,h1,h2,h3,h4,h5⟩:=CV he
 obtain⟨w,ew,rw'⟩:=r.get h2
 have hl:=r.length
 have hn:=vK
 have fin:EP X pins σ Q w s:=⟨z,H,I,rw',q⟩
 by_cases h0:0<=i
 ·have hj:i.toNat=j:=by
   rw[seqIndex_of h0 h5] at h1
   exact à h1
  exact item_listR pl.isList h0 (by omega) (by rw[hj];simpa using ew) fin hs
 ·have hj:(i+(its.toArray.size:Int)).toNat=j:=by
   rw[seqIndex_neg (by omega) h4] at h1
   rw[Í,←hl]
   exact à h1
  exact subscriptTail_builtinR (x:=w) pl.isList.typeIs slot_list_getitem.lookup
   (wpAny_getItem_list_neg (Q:=λr s'=>r=w/\EP X pins σ Q r s') pl.isList (by omega) (by rw[Í] <;> omega) (by omega) (by rw[hj];simpa using ew) ⟨rfl,fin⟩) hs
def vO:IxR X (UL X.K):=by
 intro value slice pins s σ H x y v u Q I rx ry h hs
 obtain⟨p,xs,i,z,rfl,rfl,hq,he,q⟩:=h
 cases rx
 obtain⟨t,rfl⟩:=ry
 obtain⟨its,r,pl,hz⟩:=I.tuple hq
 obtain⟨j,h1,h2,h3,h4,h5⟩:=CV he
 obtain⟨w,ew,rw'⟩:=r.get h2
 have hl:=r.length
 have hn:=vK
 have fin:EP X pins σ Q w s:=⟨z,H,I,rw',q⟩
 exact subscriptTail_builtinR (x:=w) pl.typeIs slot_tuple_getitem.lookup
  (getItem_tuple (j:=j) (Q:=λr s'=>r=w/\EP X pins σ Q r s') pl (by omega) (by omega) (by rw[Í,←hl];exact h1) (by simpa using ew) ⟨rfl,fin⟩) hs
def zU(its:List Value)(n j:Nat)(u:Value):Ü (·.setIfInBounds j u) { cls:=.type "list",data:=.seq its.toArray n }={ cls:=.type "list",data:=.seq (its.set j u).toArray n }:=by
 simp[Ü]
def Inv.lst{pins:List (Addr×Obj)}{σ:St}{H:Hp}{s:Shared}{p:Addr}{xs:List V}(I:Inv X pins σ H s)(h:H p=some (.lst xs)) :
  ∃(its:List Value) (n:Nat),Vals xs its/\s.heap.get? p=some { cls:=.type "list",data:=.seq its.toArray n }/\xs.length<=sizeLine:=by
 obtain⟨z,its,n,r,e⟩:=I.hok p _ h
 exact⟨its,n,r,e,z⟩
def Inv.Qa{pins:List (Addr×Obj)}{σ:St}{H:Hp}{s:Shared}{p:Addr}{xs ys:List V}{its its':List Value}{n n':Nat}{f:Obj->Obj}(I:Inv X pins σ H s)(h:H p=some (.lst xs))(ho:s.heap.get? p=some { cls:=.type "list",data:=.seq its.toArray n })(hf:f { cls:=.type "list",data:=.seq its.toArray n }={ cls:=.type "list",data:=.seq its'.toArray n' })(r:Vals ys its')(hz:ys.length<=sizeLine)(t:Nat) :
  Inv X pins σ (upd H p (.lst ys)) { s with heap:=s.heap.update p f,toks:=t }:=by
 have e:(s.heap.update p f).get? p=some { cls:=.type "list",data:=.seq its'.toArray n' }:=by
  rw[ũ f ho (by rw[hf] <;> rfl),hf]
 refine I.write (x:=p) (e:=p) (by rw[h];trivial) (.inl rfl) (λb u hb q=>(Ķ _ _ (ė hb)).trans q) ⟨_,e⟩ ?_
 exact⟨hz,its',n',r,e⟩
def Ml:V->V->V->Hp->(Hp->Prop)->Prop:=λo i v H Q=>∃p xs k j,o=.ref p/\i=.int k/\H p=some (.lst xs)/\ixN xs.length k=some j/\Q (upd H p (.lst (xs.set j v)))
def set_list:Ue X Ml:=by
 intro pins s σ H o i v ov iv u Q I ro ri rv h
 obtain⟨p,xs,k,j,rfl,rfl,hp,hj,q⟩:=h
 cases ro
 obtain⟨t,rfl⟩:=ri
 obtain⟨its,n,r,ho,hz⟩:=I.lst hp
 obtain⟨h1,h2,h3,h4⟩:=BZ hj
 have hl:=r.length
 have hn:=vK
 have I':Inv X pins σ (upd H p (.lst (xs.set j v))) { s with heap:=s.heap.update p (Ü (·.setIfInBounds j u)) } :=
  I.Qa hp ho (zU its n j u) (r.set rv j) (by rw[Ť];exact hz) s.toks
 by_cases h0:0<=k
 ·have hk:k.toNat=j:=by
   rw[seqIndex_of h0 h4] at h1
   exact à h1
  exact W.ki_setAt ho h0 (by omega) (by rw[Í,←hl];exact h4) (by rw[hk];exact⟨_,I',q⟩)
 ·have hk:(k+(its.toArray.size:Int)).toNat=j:=by
   rw[seqIndex_neg (by omega) h3] at h1
   rw[Í,←hl]
   exact à h1
  exact W.ki_setBack ho (by omega) (by rw[Í,←hl];exact h3) (by omega) (by rw[hk];exact⟨_,I',q⟩)
def uU(lo hi:Option Int)(n:Nat):(sliceBounds lo hi none n).1=((HT.sIx n 0 lo:Nat):Int)/\(sliceBounds lo hi none n).2.1=((HT.sIx n n hi:Nat):Int)/\(sliceBounds lo hi none n).2.2=1:=by
 refine⟨?_,?_,rfl⟩
 ·cases lo with
  |none=>simp[sliceBounds,HT.sIx]
  |some i =>
   simp only[sliceBounds,HT.sIx,Option.getD_none,show(1:Int) > 0 by decide,if_true]
   by_cases h:i<0
   ·simp only[h,if_true] <;> omega
   ·simp only[h,if_false] <;> omega
 ·cases hi with
  |none=>simp[sliceBounds,HT.sIx]
  |some i =>
   simp only[sliceBounds,HT.sIx,Option.getD_none,show(1:Int) > 0 by decide,if_true]
   by_cases h:i<0
   ·simp only[h,if_true] <;> omega
   ·simp only[h,if_false] <;> omega
def sV(its:List Value)(lo hi:Option Int):slicePick its.toArray lo hi none=((its.drop (HT.sIx its.length 0 lo)).take (HT.sIx its.length its.length hi - HT.sIx its.length 0 lo)).toArray:=by
 obtain⟨h1,h2,h3⟩:=uU lo hi its.toArray.size
 unfold slicePick
 rw[h1,h2,h3]
 simp only[sliceRange_one,pick_run,Í] <;> rfl
def UJ(K:Ú):V->Option Int->Option Int->Hp->VK->Prop:=λx lo hi H Q=>∃a xs,x=.ref a/\SqL K H a xs/\∀p,H p=none->Q (.ref p) (upd H p (.lst (sy xs lo hi)))
def Bl:SlR X (UJ X.K):=by
 intro pins s σ H x v vl vu lo hi sl Q I rx hs pl pu h
 obtain⟨a,xs,rfl,hx,q⟩:=h
 cases rx
 obtain⟨its,r,ht,hz⟩:=I.list hx
 have hlen:=r.length
 refine⟨"list",_,slot_list_getitem.lookup,ht.isList.typeIs,?_⟩
 refine wpAny_getItem_list_slice ht.isList hs pl pu .none (by simp) ?_ (by rw[Í] <;> omega)
 rw[sV,←hlen]
 refine⟨.ref s.heap.objs.size,_,I.laid (t':=s.toks) (o:=.lst (sy xs lo hi)) (λb ob q=>Ñ _ q) (Ë _) ?_,rfl,q _ (I.hok.fresh (Ë _))⟩
 exact⟨õ (pR xs lo hi) hz,_,0,(r.drop (HT.sIx xs.length 0 lo)).take (HT.sIx xs.length xs.length hi - HT.sIx xs.length 0 lo),á _ rfl⟩
def eU:bK X (.builtin "len") (λxs H Q=>∃p ys,xs=[.ref p]/\(SqL X.K H p ys\/SqT X.K H p ys)/\Q (.int ys.length) H):=by
 intro pins s σ H xs us Q I r h
 obtain⟨p,ys,rfl,hq,q⟩:=h
 obtain⟨u,rfl,rx⟩:=vals1 r
 cases rx
 have hn:=vK
 rcases hq with hq|hq
 ·obtain⟨its,r',pl,hz⟩:=I.list hq
  have hlen:=r'.length
  exact Calls.call_len_list pl.isList (by simp only[Í] <;> omega) ⟨.int ys.length,H,I.tok _,⟨s.toks+1,by rw[Í,hlen]⟩,q⟩
 ·obtain⟨its,r',pl,hz⟩:=I.tuple hq
  have hlen:=r'.length
  exact len_tuple pl (by simp only[Í] <;> omega) ⟨.int ys.length,H,I.tok _,⟨s.toks+1,by rw[Í,hlen]⟩,q⟩
def wH:bK X (.type "list") (λxs H Q=>∃p ys,xs=[.ref p]/\(SqL X.K H p ys\/SqT X.K H p ys)/\∀l,H l=none->Q (.ref l) (upd H l (.lst ys))):=by
 intro pins s σ H xs us Q I r h
 obtain⟨p,ys,rfl,hq,q⟩:=h
 obtain⟨u,rfl,rx⟩:=vals1 r
 cases rx
 have fin:∀(its:List Value),Vals ys its->ys.length<=sizeLine->∀(h':Heap) (c':Nat),(∀b o',s.heap.get? b=some o'->h'.get? b=some o') ->
   h'.get? s.heap.objs.size=some { cls:=.type "list",dict:=none,data:=.seq its.toArray c',slots:=#[] }->EP X pins σ Q (.ref s.heap.objs.size) { s with heap:=h' }:=λits r' hz h' c' kp e =>
  ⟨.ref s.heap.objs.size,_,I.laid (t':=s.toks) kp (Ë _) (show bN X.prog X.w _ h' _ (.lst ys) from⟨hz,its,c',r',e⟩),rfl,q _ (I.hok.fresh (Ë _))⟩
 rcases hq with hq|hq
 ·obtain⟨its,r',pl,hz⟩:=I.list hq
  have hlen:=r'.length
  obtain⟨o,ho,hc,n,hd⟩:=pl.isList
  exact call_list_seq p (.inl rfl) ho hc hd (λh' c' kp e=>fin its r' hz h' c' kp e) (by simp only[Í] <;> omega)
 ·obtain⟨its,r',pl,hz⟩:=I.tuple hq
  have hlen:=r'.length
  obtain⟨o,ho,hc,n,hd⟩:=pl
  exact call_list_seq p (.inr rfl) ho hc hd (λh' c' kp e=>fin its r' hz h' c' kp e) (by simp only[Í] <;> omega)
def tu:bK X (.type "tuple") (λxs H Q=>∃p ys,xs=[.ref p]/\((SqL X.K H p ys/\∀l,H l=none->Q (.ref l) (upd H l (.tup ys)))\/(SqT X.K H p ys/\Q (.ref p) H))):=by
 intro pins s σ H xs us Q I r h
 obtain⟨p,ys,rfl,h⟩:=h
 obtain⟨u,rfl,rx⟩:=vals1 r
 cases rx
 rcases h with ⟨hq,q⟩|⟨hq,q⟩
 ·obtain⟨its,r',pl,hz⟩:=I.list hq
  have hlen:=r'.length
  refine call_tuple_list pl.isList (λh' kp=>?_) (by simp only[Í] <;> omega)
  have I1:Inv X pins σ H { s with heap:=h' }:=I.kept (t':=s.toks) kp
  have I2:Inv X pins σ (upd H h'.objs.size (.tup ys)) { s with heap:=h'.push { cls:=.type "tuple",data:=.seq its.toArray } } :=
   I1.laid (t':=s.toks) (λb o e=>Ñ _ e) (Ë _) (show bN X.prog X.w _ _ _ (.tup ys) from⟨hz,its,r',IsTup.new _ _⟩)
  exact⟨.ref h'.objs.size,_,I2,rfl,q _ (I1.hok.fresh (Ë _))⟩
 ·obtain⟨its,r',pl,hz⟩:=I.tuple hq
  exact call_tuple_same pl ⟨.ref p,H,I,rfl,q⟩
def tyV(K:Ú)(T:String)(x:V)(H:Hp):Prop:=match x with
 |.str _=>T="str"
 |.int _=>T="int"
 |.ref p=>(T="list"/\∃xs,SqL K H p xs)\/(T="tuple"/\∃o,K.lookup p=some o/\o.cls=.type "tuple"/\o.dict=none) ∨
   (T="dict"/\((∃kvs,H p=some (.dK kvs))\/∃kvs,H p=some (.dT kvs)))\/(T="set"/\∃S n,H p=some (.set S n))
 |_=>False
def N8{pins:List (Addr×Obj)}{σ:St}{H:Hp}{s:Shared}{T:String}{x:V}{v:Value}(I:Inv X pins σ H s)(r:RelV x v)(ty:tyV X.K T x H) :
  s.TypeIs v T/\∀a,v=.ref a->∃ob,s.heap.get? a=some ob/\ob.dict=none:=by
 cases x with
 |str z =>
  obtain⟨t,rfl⟩:=r
  cases (show T="str" from ty)
  exact⟨typeIs_str s z t,λ_ e=>nomatch e⟩
 |int i =>
  obtain⟨t,rfl⟩:=r
  cases (show T="int" from ty)
  exact⟨typeIs_int s i t,λ_ e=>nomatch e⟩
 |ref p =>
  cases r
  rcases ty with ⟨rfl,xs,hq⟩|⟨rfl,o,hk,hc,hd⟩|⟨rfl,hk⟩|⟨rfl,S,n,hk⟩
  ·obtain⟨its,_,pl,_⟩:=I.list hq
   refine⟨pl.isList.typeIs,λa e=>?_⟩
   cases e
   obtain⟨o,n,e,c,hd,_⟩:=pl
   exact⟨o,e,hd⟩
  ·refine⟨⟨o,I.kIn p o hk,hc⟩,λa e=>?_⟩
   cases e
   exact⟨o,I.kIn _ o hk,hd⟩
  ·have z:∃o,s.heap.get? p=some o/\o.ExactDict:=by
    rcases hk with ⟨kvs,hk⟩|⟨kvs,hk⟩
    ·obtain⟨_,_,_,_,o,_,_,e,ex,_⟩:=I.hok p _ hk
     exact⟨o,e,ex⟩
    ·obtain⟨_,_,_,_,o,_,_,e,ex,_⟩:=I.hok p _ hk
     exact⟨o,e,ex⟩
   obtain⟨o,e,ex⟩:=z
   refine⟨⟨o,e,ex.1⟩,λa e2=>?_⟩
   cases e2
   exact⟨o,e,ex.2.1⟩
  ·obtain⟨o,_,_,_,e,ex,_⟩:=I.hok p _ hk
   refine⟨⟨o,e,ex.1⟩,λa e2=>?_⟩
   cases e2
   exact⟨o,e,ex.2.1⟩
 |_=>exact Į ty
def tBM(K:Ú)(T:String)(r:V->List V->Hp->VK->Prop)(to:TE)(t:TA):TE:=λσ H Q=>to σ H λx H1=>tyV K T x H1/\t σ H1 λxs H2=>r x xs H2 Q
variable {o e:Expr}{es:List Expr}{to:TE}{t:TA}{name:Str}{apos cpos:Pos}{T id:String}{r:V->List V->Hp->VK->Prop}
def fH(pa:PlainAttrs T)(slot:Slot T name id)(hty:typeOf (.builtin id)=pure (.type "method_descriptor"))(hm:MtR X id r)(ho:PE X o to)(ha:PA X (e::es) t)(hbase:attributeBase o name X.env (eval o X.env)=eval o X.env:=by rfl)(hfew:((backTo cpos (starEach (e::es) X.env)).all (λx=>!x.1)&&(backToKw cpos (keywordEach [] X.env)).all (λx=>x.1.isSome)
  &&decide ((e::es).length+([]:List Keyword).length+(if ([]:List Keyword).isEmpty then 0 else 1)<30))=true:=by rfl)(hline:(apos.endLine == cpos.line)=true:=by rfl)(hs:starEach (e::es) X.env=(false,eval e X.env)::starEach es X.env:=by rfl)(hplain:(backTo cpos (starEach es X.env)).any (·.1)=false:=by rfl) :
  PE X (.Call (.Attribute o name apos) (e::es) [] cpos) (tBM X.K T r to t):=by
 intro pins s σ H Q I h
 refine wpAny_Call_method_late hbase hfew hline rfl (thn (ho pins s σ H _ I h) λv s1 ⟨x,H1,I1,r1,ty,q1⟩=>?_)
 obtain⟨h1,h2⟩:=N8 I1 r1 ty
 refine⟨T,id,pa,slot,hty,h1,h2,?_⟩
 have hA:=ha cpos pins s1 σ H1 _ I1 q1
 rw[hs] at hA ⊢
 refine Calls.callWith_builtin (by show(false || (backTo cpos (starEach es X.env)).any (·.1))=false;rw[hplain] <;> rfl) (Calls.evalArgs_plain ?_)
 exact thn hA λus s2 ⟨vs,H2,I2,r2,q2⟩=>hm pins s2 σ H2 x vs v us Q I2 r1 r2 q2
/- xs.append(e),list.index on a module's tuple .. are MtR facts of 06m -/
end
def MtM(X:Cx)(id:String)(r:V->List V->Hp->VK->Prop):Prop :=
 ∀(pins:List (Addr×Obj)) (s:Shared) (σ:St) (H:Hp) (x:V) (xs:List V) (v:Value) (us:List Value) (Q:VK),Inv X pins σ H s->RelV x v->Vals xs us->r x xs H Q ->
  wpAny (model X.prog X.w) X.A (call (.builtin id) (v::us)) (EP X pins σ Q) X.xe s
def Vals.one:∀{x:V}{us:List Value},Vals [x] us->∃u,us=[u]/\RelV x u
 |_,_,.cons r .nil=>⟨_,rfl,r⟩
def Vals.two:∀{x y:V}{us:List Value},Vals [x,y] us->∃u v,us=[u,v]/\RelV x u/\RelV y v
 |_,_,_,.cons r (.cons q .nil)=>⟨_,_,rfl,r,q⟩
def Vals.eraseIdx:∀{xs:List V}{us:List Value} (i:Nat),Vals xs us->Vals (xs.eraseIdx i) (us.eraseIdx i)
 |_,_,_,.nil=>.nil
 |_,_,0,.cons _ t=>t
 |_,_,i+1,.cons r t=>.cons r (Vals.eraseIdx i t)
def Vals.rep{xs:List V}{us:List Value}(h:Vals xs us):∀k:Nat,Vals (Æ k xs).flatten (Æ k us).flatten
 |0=>.nil
 |k+1=>by
  rw[ą,ą,ę,ę]
  exact Vals.append h (Vals.rep h k)
def uh{α:Type}:∀(l:List α) (i:Nat),(l.eraseIdx i).length<=l.length
 |[],_=>Ë _
 |_::_,0=>ĳ _
 |_::r,i+1=>Nat.succ_le_succ (uh r i)
def foldl_rep(its:List Value):∀(k:Nat) (acc:List Value),
  List.foldl (λx1 x2=>x1++x2) acc.toArray (Æ k its.toArray)=(acc++(Æ k its).flatten).toArray
 |0,acc=>by simp
 |k+1,acc=>by
  have e:acc.toArray++its.toArray=(acc++its).toArray:=by simp
  have e2:(acc++its)++(Æ k its).flatten=acc++(Æ (k+1) its).flatten:=by
   rw[ą,ę,Ř]
  rw[←e2,←foldl_rep its k (acc++its),←e,ą,List.foldl_cons]
section
variable {X:Cx}{pins:List (Addr×Obj)}{σ:St}{H:Hp}{s:Shared}{l b:Addr}{xs ys zs:List V}
def Inv.K6{its its':List Value}{n:Nat}{f:Array Value->Array Value}{t':Nat}(I:Inv X pins σ H s)(hH:H l=some (.lst xs))(e:s.heap.get? l=some { cls:=.type "list",data:=.seq its.toArray n })(hf:f its.toArray=its'.toArray)(hv:Vals ys its')(hz:ys.length<=sizeLine) :
  Inv X pins σ (upd H l (.lst ys)) { s with heap:=s.heap.update l (Ü f),toks:=t' }:=by
 have q:=PySem.IsL.update e f
 rw[hf] at q
 refine I.write (x:=l) (e:=l) (by rw[hH];exact trivial) (.inl rfl) (λb' u hb hu=>(Ķ s.heap (Ü f) (ė hb)).trans hu) ⟨_,q⟩ ?_
 exact⟨hz,its',_,hv,q⟩
def Inv.S6{its:List Value}{t':Nat}(I:Inv X pins σ H s)(hv:Vals ys its)(hz:ys.length<=sizeLine) :
  Inv X pins σ (upd H s.heap.objs.size (.lst ys)) { s with heap:=s.heap.push { cls:=.type "list",data:=.seq its.toArray },toks:=t' } :=
 I.laid (λ_ _ q=>Ñ _ q) (Ë _) ⟨hz,its,0,hv,á _ rfl⟩
def Inv.fresh(I:Inv X pins σ H s):H s.heap.objs.size=none:=I.hok.fresh (Ë _)
def Inv.yd(I:Inv X pins σ H s)(hH:H l=some (.lst xs)):xs.length<=sizeLine/\∃(its:List Value) (n:Nat),Vals xs its/\xs.length=its.length/\s.heap.get? l=some { cls:=.type "list",data:=.seq its.toArray n }:=by
 obtain⟨z,its,n,r,e⟩:=I.hok l _ hH
 exact⟨z,its,n,r,r.length,e⟩
def xX{n:Nat}(h:n<=sizeLine):ŭ n=false:=by
 unfold ŭ
 exact decide_eq_false (by omega)
end
section
variable {X:Cx}
def d7:V->List V->Hp->VK->Prop:=λx vs H Q=>∃l xs y,x=.ref l/\vs=[y]/\H l=some (.lst xs)/\xs.length<sizeLine/\Q .non (upd H l (.lst (xs++[y])))
def cT:MtM X "list.append" d7:=by
 intro pins s σ H x vs v us Q I rx rv h
 obtain⟨l,xs,y,rfl,rfl,hH,hz,q⟩:=h
 cases rx
 obtain⟨u,rfl,ru⟩:=rv.one
 obtain⟨z,its,n,r,hl,e⟩:=I.yd hH
 refine call_meets F.slot_list_append ⟨_,e,rfl⟩ F.entry_list_append (F.args_list_append_2 _ _) (PySem.list_append l its.toArray n u (by rw[Í];omega)) ⟨e,?_⟩
 refine⟨.non,_,I.K6 (its':=its++[u]) hH e (by simp) (r.append (.cons ru .nil)) ?_,rfl,q⟩
 rw[È,Õ]
 omega
def Bt:V->List V->Hp->VK->Prop:=λx vs H Q=>∃l b xs zs,x=.ref l/\vs=[.ref b]/\H l=some (.lst xs)/\H b=some (.lst zs)/\xs.length+zs.length<=sizeLine/\Q .non (upd H l (.lst (xs++zs)))
def gZ:MtM X "list.extend" Bt:=by
 intro pins s σ H x vs v us Q I rx rv h
 obtain⟨l,b,xs,zs,rfl,rfl,hH,hB,hz,q⟩:=h
 cases rx
 obtain⟨u,rfl,ru⟩:=rv.one
 cases ru
 obtain⟨z,its,n,r,hl,e⟩:=I.yd hH
 obtain⟨z2,its2,n2,r2,hl2,e2⟩:=I.yd hB
 have hsz:its.toArray.size+its2.toArray.size<=sizeLine:=by rw[Í,Í];omega
 have hlong:¬(!its.toArray.isEmpty&&ŭ (its.toArray.size+its2.toArray.size))=true:=by
  rw[xX hsz,Bool.and_false]
  exact Ó
 refine call_meets F.slot_list_extend ⟨_,e,rfl⟩ F.entry_list_extend (F.args_list_extend_2 _ _)
  (AutoSeq1.list_extend_list_list_0 l its.toArray n b its2.toArray n2 hlong (by rw[Í];omega) (by omega)) ⟨e,e2,?_⟩
 refine⟨.non,_,I.K6 (its':=its++its2) hH e (by simp) (r.append r2) ?_,rfl,q⟩
 rw[È]
 omega
def R0:R2:=λx y H Q=>∃l b xs zs,x=.ref l/\y=.ref b/\H l=some (.lst xs)/\H b=some (.lst zs)/\xs.length+zs.length<=sizeLine/\∀p,H p=none->Q (.ref p) (upd H p (.lst (xs++zs)))
def Hv:OpR X (binaryOp .Add) R0:=by
 intro pins s σ H x y v u Q I rx ry h
 obtain⟨l,b,xs,zs,rfl,rfl,hH,hB,hz,q⟩:=h
 cases rx
 cases ry
 obtain⟨z,its,n,r,hl,e⟩:=I.yd hH
 obtain⟨z2,its2,n2,r2,hl2,e2⟩:=I.yd hB
 refine PySem.P.add_list e e2 ?_ (by rw[Í,Í];omega)
 have ea:its.toArray++its2.toArray=(its++its2).toArray:=by simp
 rw[ea]
 exact⟨.ref _,_,I.S6 (t':=s.toks) (r.append r2) (by rw[È];omega),rfl,q _ I.fresh⟩
def RW:R2:=λx y H Q=>∃l k xs,x=.ref l/\y=.int k/\H l=some (.lst xs)/\-(2 ^ 63)<=k/\k<2 ^ 63/\xs.length * k.toNat<=sizeLine /\
 ∀p,H p=none->Q (.ref p) (upd H p (.lst (Æ k.toNat xs).flatten))
def len_rep{α:Type}(xs:List α)(k:Nat):(Æ k xs).flatten.length=k * xs.length:=by
 induction k with
 |zero=>simp
 |succ k ih=>rw[ą,ę,È,ih,Nat.succ_mul,Nat.add_comm]
def Hl:OpR X (binaryOp .Mult) RW:=by
 intro pins s σ H x y v u Q I rx ry h
 obtain⟨l,k,xs,rfl,rfl,hH,h1,h2,hz,q⟩:=h
 cases rx
 obtain⟨t,rfl⟩:=ry
 obtain⟨z,its,n,r,hl,e⟩:=I.yd hH
 have hlen:its.toArray.size * k.toNat<=sizeLine:=by rw[Í,←hl];exact hz
 have hcap:¬its.toArray.size * k.toNat > (2 ^ 63 - 1) / 8:=by
  have:(sizeLine:Nat)<=(2 ^ 63 - 1) / 8:=by decide
  omega
 have hfit:¬(!Builtin.List.listFitsIndex k)=true:=by
  rw[fitsIndex_both h1 h2]
  exact Ó
 have hlong:¬ŭ (its.toArray.size * k.toNat)=true:=by
  rw[xX hlen]
  exact Ó
 have hnew:List.foldl (λx1 x2=>x1++x2) #[] (Æ (if its.toArray.isEmpty=true then 0 else k.toNat) its.toArray)=(Æ k.toNat its).flatten.toArray:=by
  have f0:∀m:Nat,List.foldl (λx1 x2=>x1++x2) #[] (Æ m its.toArray)=(Æ m its).flatten.toArray:=λm=>by
   have:=foldl_rep its m []
   rw[List.nil_append] at this
   exact this
  rw[f0]
  cases its with
  |nil=>simp
  |cons a r'=>rw[if_neg (by simp)]
 refine wpAny_binaryOp_repeat_ref (T:="list") (U:="int") (by decide) ⟨_,e,rfl⟩ (λs'=>typeIs_int s' k t) noFill_list_mul F.fills_int_mul F.slot_int_rmul repeat_list F.slot_int_index.lookup
  (call_meets F.slot_int_rmul (typeIs_int s k t) F.entry_int_rmul (F.args_int_rmul_2 _ _) (int___rmul___int_list k t l its.toArray n)
   ⟨e,rfl,⟨_,e,rfl⟩,call_meets F.slot_list_mul ⟨_,e,rfl⟩ F.entry_list_mul (F.args_list_mul_2 _ _) (AutoListH.list___mul___list_int_3 l its.toArray n k t hfit hcap hlong) ⟨e,?_⟩⟩)
 rw[hnew]
 exact⟨.ref _,_,I.S6 (t':=s.toks) (r.rep k.toNat) (by rw[len_rep,Nat.mul_comm];exact hz),rfl,q _ I.fresh⟩
end
section
variable {prog:Program}{w:World}{A:Around}{E:Value->Shared->Prop}{s:Shared}
end
section
variable {X:Cx}
end
end L2
namespace Att
open PySem PySem.W PySem.Calls PyProof.Rows
def qg{P:Params}{h:Heap}:∀(ns:List Int) (vs:List Value),WellAll P h vs (ns.map WData.int)->IntsAre vs ns:=by
 intro ns
 induction ns with
 |nil =>
  intro vs w
  rw[List.map_nil] at w
  cases w
  exact .nil
 |cons n ns ih =>
  intro vs w
  rw[æ] at w
  cases w with
  |cons a b =>
   cases a
   exact .cons _ _ (ih _ b)
def Di{l:OpenLaw}{n:Nat}(hn:l.most=some n){P:Params}{h:Heap}{args:List WData}{vals:List Value}(hpre:l.row.toRowW.claim.pre args=true)(hwl:WellAll P h vals args) :
  ∃a vs ns,vals=[Ň a]/\args=[WData.list (ns.map WData.int)]/\h.get? a=some { cls:=.type "list",data:=.seq vs.toArray }/\IntsAre vs ns/\ns.length<=n:=by
 have hsh:WShape.hasAll [] args [.list .int]=true:=(pre_splitW hpre).1
 have hc:l.pre.holds [] { args:=args }=true:=(pre_splitW hpre).2
 obtain⟨d,r,rfl,h1,h2⟩:=hasAllW_cons hsh
 obtain rfl:=hasAllW_nil h2
 obtain⟨xs,rfl,h3⟩:=hasW_list h1
 obtain⟨ns,rfl⟩:=items_int h3
 have hlen:ns.length<=n:=by
  unfold OpenLaw.pre at hc
  have h4:(WTm.not (.lt (.lit (.int (n:Int))) (.len (.arg 0)))).holds [] { args:=[.list (ns.map .int)] }=true:=by
   have h4:=(holds_andW hc).1
   rw[hn] at h4
   exact h4
  have h5:=condW_of h4 (w_not (w_lt w_lit (w_len_list (w_arg rfl))))
  rw[À] at h5
  refine Nat.le_of_not_lt λq=>?_
  have q':(n:Int)<((ns.length:Nat):Int):=by omega
  first
   |(rw[decide_eq_true q'] at h5;exact absurd h5 (by decide))
   |(simp at h5;omega)
 cases hwl with
 |cons w1 w2 =>
  cases w2
  cases w1 with
  |list ho hall=>exact⟨_,_,ns,rfl,rfl,ho,qg ns _ hall,hlen⟩
def Dp(l:OpenLaw)(args:List WData):l.row.toRowW.claim.post args (.bool true) args=true :=
 postW_of (r:=l.row.toRowW) (X:=(true == true))
  (show WShape.has [] (.bool true) .bool=true by first|rfl|decide|simp[WShape.has,WShape.arms,WShape.armsAll])
  (show(WTm.eq .res (.lit (.bool true))).value [] { args:=args,res:=some (.bool true),after:=args }=some (.bool (true == true)) from w_eq_bool (w_res rfl) w_lit) rfl
def yN{l:OpenLaw}{n:Nat}{q:Program}{loose:List Str}{XP:(Str->Option Value)->Heap->Prop}{YP:World->Heap->Prop}{d:DefRec}(hn:l.most=some n)(hdf:d.params.defaults=[])(call:∀(w:World) (s₀ s₁:Shared) (mg mb:Str->Option Value) (fa:Addr) (o:Obj) (pm cd doc:Value) (a:Addr) (vs:List Value) (ns:List Int),
   Ground q loose [] XP w s₀ mg mb s₁.heap->YP w s₁.heap ->
   s₁.heap.get? fa=some o->o.data=.func (docDef d.name d.params d.body d.scope pm cd doc)->s₁.heap.CodeRec cd d.name->mg d.name=some (.ref fa) ->
   s₁.heap.get? a=some { cls:=.type "list",data:=.seq vs.toArray }->IntsAre vs ns->ns.length<=n->s₁.gens=#[] ->
   codeAny (model l.prog w) callerA (.call (.ref fa) ⟨[.ref a],[]⟩) (λr s'=>r=.ok (.ret (.bool true))/\OldK s₁.heap s'.heap/\s'.os=s₁.os/\AllBare s'.gens) s₁) :
  WalkO q loose XP YP l.row.toRowW d [] (λf vs=>PySem.call f vs):=by
 intro w s₀ s₁ mg mb G Y fa o pm cd doc dV kV ho hd hcd hD hmg hg args vals as hpre hlay hrd hwl hlo
 obtain rfl:dV=.none:=Dflts.none hD hdf
 obtain rfl:kV=.none:=Dflts.noKw hD
 obtain⟨a,vs,ns,rfl,rfl,hobj,hints,hlen⟩:=Di hn hpre hwl
 refine enter_call (codeAny_mono (call w s₀ s₁ mg mb fa o pm cd doc a vs ns G Y ho (fd_plain hd) hcd hmg hobj hints hlen hg) λr s' hq=>?_)
 obtain⟨rfl,h2,h3,h4⟩:=hq
 exact⟨.inl ⟨.bool true,.bool true,[],rfl,λ_=>rfl,.bool true,Dp l _,λ_=>⟨List.Pairwise.nil,λ_ hm=>(nomatch hm)⟩⟩,h2,h3,h4⟩
section
variable {prog:Program}{w:World}{A:Around}{E:Value->Shared->Prop}{s:Shared}{K:Frag}
def ledger(h:Heap)(L d:Addr):List (Addr×Obj):=(Ý h.objs.size).filterMap λa=>if a=L\/a=d then none else (h.get? a).map λo=>(a,o)
end
end Att
namespace L2
open PySem PySem.Spec PyProof.Rows
def oE:∀{vs:List Value}{ns:List Int},IntsAre vs ns->Vals (ns.map V.int) vs
 |_,_,.nil=>.nil
 |_,_,.cons n t h=>.cons ⟨t,rfl⟩ (oE h)
def dI(s:Stmt):Arguments:=match s with
 |.FunctionDef _ a _ _ _ _ _ _ _ _=>a
 |_=>{ posonlyargs:=[],args:=[],vararg:=none,kwonlyargs:=[],kw_defaults:=[],kwarg:=none,defaults:=[] }
def bU(s:Stmt):List Stmt:=match s with
 |.FunctionDef _ _ b _ _ _ _ _ _ _=>b
 |_=>[]
def ao(s:Stmt):Scope:=match s with
 |.FunctionDef _ _ _ _ _ _ sc _ _ _=>sc
 |_=>{ kind:=.function,names:=[],isGenerator:=false,isCoroutine:=false }
abbrev CX0:CXT:=λ_ _ _ _ _ _=>False
abbrev E0:XK:=λ_ _ _=>False
def Mv{X:Cx}:Passes CX0 X E0:=λ_ _ _ _ _ _ _ h=>h.elim
structure Fun(K:Ú)(x qual:Str)(st:Stmt)(f:Addr)(fd:FuncData):Prop where
 ex:∃(oc:Value) (od:Option Addr) (kV doc pm:Value) (an:Option Addr) (cdv ct:Value) (osl:Array (Option Value)),
  fd=W.fnOf x qual (dI st) (bU st) (ao st) .none kV doc pm an cdv ct/\K.lookup f=some ⟨oc,od,.func fd,osl⟩/\W.codeIn K cdv qual=true
 kp:W.keepIn K (.ref f)=true
section
variable {P:Program}{w:World}{K:Ú}{mg:Str->Option Value}{base:Heap}
def Fun.ok{x qual:Str}{st:Stmt}{f:Addr}{fd:FuncData}{N ps:List Str}{k:Nat}{sp:Sp}(F:Fun K x qual st f fd)(S:FnScope N ps (ao st))(len:∀vs H Q E,sp vs H Q E->vs.length=ps.length)(hbody:∀(cdv:Value) (A:Around) (outer:List Env) (s:Shared) (H:Hp) (vs:List V) (Q:VK) (E:XK),Room k (A.deeper (envOfC qual (ao st) s.heap.objs.size f cdv))->sp vs H Q E ->
   ∃t,PSs (yC CX0 P w K mg base N qual (ao st) f cdv A outer s H E).nox (bU st) t/\t { nx:=λ_ H'=>Q .non H',rt:=Q } (start N vs) H):FnOk P w K mg base CX0 (k+1) f fd ps sp:=by
 obtain⟨oc,od,kV,doc,pm,an,cdv,ct,osl,rfl,lk,hcd⟩:=F.ex
 refine Jg lk hcd S len λA outer s H vs Q E hr hsp=>?_
 obtain⟨t,h,q⟩:=hbody cdv A outer s H vs Q E hr hsp
 exact⟨t,h.nox,q⟩
def Fun.binds{x qual:Str}{st:Stmt}{f:Addr}{fd:FuncData}{ps:List Str}(F:Fun K x qual st f fd)(h:∀(kV doc pm:Value) (an:Option Addr) (cdv ct:Value) (us:List Value),us.length=ps.length->bindArgs (W.fnOf x qual (dI st) (bU st) (ao st) .none kV doc pm an cdv ct) ⟨us,[]⟩=pure (ps.zip us):=by intro _ _ _ _ _ _ us hl;first|(obtain⟨_,rfl⟩:=Nf.len1 us hl;rfl)|(obtain⟨_,_,rfl⟩:=Nf.len2 us hl;rfl)|(obtain⟨_,_,_,rfl⟩:=Nf.Va us hl;rfl)):Binds K fd ps []:=by
 obtain⟨oc,od,kV,doc,pm,an,cdv,ct,osl,rfl,lk,hcd⟩:=F.ex
 exact .all (h kV doc pm an cdv ct)
def Qu{x qual:Str}{st:Stmt}{f:Addr}{oc:Value}{od an:Option Addr}{osl:Array (Option Value)}{kV doc pm cdv ct:Value}(l:K.lookup f=some ⟨oc,od,.func (W.fnOf x qual (dI st) (bU st) (ao st) .none kV doc pm an cdv ct),osl⟩)(c:W.codeIn K cdv qual=true)(k:W.keepIn K (.ref f)=true):Fun K x qual st f (W.fnOf x qual (dI st) (bU st) (ao st) .none kV doc pm an cdv ct):=⟨⟨oc,od,kV,doc,pm,an,cdv,ct,osl,rfl,l,c⟩,k⟩
end
section
variable {X:Cx}
def pv(i:Nat){x:Str}{pos:Pos}(hN:X.N[i]?=some x:=by rfl)(hv:Vis X.env.scope x:=by first|exact þ rfl|exact Or.inr (þ rfl)|exact Or.inr (Or.inr rfl))(hd:(x == ("__debug__":Str))=false:=by decide)(hcd:(x == ("__classdict__":Str))=false:=by decide):PE X (.Name x pos) (dJ i):=OD hN hv hd hcd
end
def aM{A B:Prop}(h:B):if false=true then A else B:=by
 rw[if_neg Ó]
 exact h
def aN{A B:Prop}(h:A):if true=true then A else B:=by
 rw[if_pos rfl]
 exact h
def g8{c A B:Prop}[Decidable c](h1:c->A)(h2:¬c->B):if c then A else B:=by
 by_cases h:c
 ·rw[if_pos h]
  exact h1 h
 ·rw[if_neg h]
  exact h2 h
def Same(H H':Hp):Prop:=∀b o,H b=some o->H' b=some o
def Same.refl(H:Hp):Same H H:=λ_ _ h=>h
def Same.trans{H H1 H2:Hp}(a:Same H H1)(b:Same H1 H2):Same H H2:=λc o h=>b c o (a c o h)
structure CB where
 cl:List (Str×Addr)
 C:Addr
 s:Shared
 H:Hp
 ex:List Addr
abbrev Cx.bf(X:Cx)(own M:List Str)(scope:Scope)(c:CB):Cx where
 prog:=X.prog
 w:=X.w
 K:=X.K
 mg:=X.mg
 base:=X.base
 A:=X.A
 N:=own++M
 s₀:=c.s
 H₀:=c.H
 env:=compEnvC scope c.cl c.C X.env
 outer:=X.stack
 stack:=X.stack
 ex:=c.ex
 fn:=λx=>scope.names.lookup x == some .cell
 calm:=X.calm
 pn:=[]
 sf:=X.sf
 xe:=λ_ _=>False
abbrev Cx.comp(X:Cx)(own:List Str)(scope:Scope)(c:CB):Cx:=X.bf own X.N scope c
def cW(cells:List (Str×Addr)):List (Str×NameKind)->List (Str×Addr)->List (Str×Addr)
 |[],acc=>acc
 |(n,k)::r,acc=>if k == .free then cW cells r ((n,(cells.lookup n).getD 0)::acc) else cW cells r acc
def je{env:Env}:∀(names:List (Str×NameKind)) (acc:List (Str×Addr)),(∀x∈names,x.2=.free->∃c,env.cells.lookup x.1=some c) ->
  (forIn names acc λ(p:Str×NameKind) (r:List (Str×Addr))=>match p with
   |(name,kind)=>if (kind == ö)=true then do let a ←cellOf env name;pure (ģ ((name,a)::r)) else pure (ģ r):Sem (List (Str×Addr)))=pure (cW env.cells names acc)
 |[],acc,_=>by simp[cW]
 |(n,k)::r,acc,h=>by
  rw[List.forIn_cons]
  by_cases hk:(k == ö)=true
  ·obtain⟨c,hc⟩:=h (n,k) Å (by simpa using hk)
   have e:cellOf env n=pure c:=by unfold cellOf;rw[hc]
   have ih:=je (env:=env) r ((n,c)::acc) λx hx=>h x (Ä _ hx)
   show((if (k == ö)=true then do let a ←cellOf env n;pure (ģ ((n,a)::acc)) else pure (ģ acc)) >>= _:Sem _)=_
   rw[if_pos hk,e]
   unfold cW
   rw[if_pos hk,hc]
   exact ih
  ·have ih:=je (env:=env) r acc λx hx=>h x (Ä _ hx)
   show((if (k == ö)=true then do let a ←cellOf env n;pure (ģ ((n,a)::acc)) else pure (ģ acc)) >>= _:Sem _)=_
   rw[if_neg hk]
   unfold cW
   rw[if_neg hk]
   exact ih
def Ax{scope:Scope}{env:Env}(h:∀x∈scope.names,x.2=.free->∃c,env.cells.lookup x.1=some c):closureFor scope env=pure (cW env.cells scope.names []):=by
 have e:=je (env:=env) scope.names [] h
 unfold closureFor
 show(forIn scope.names [] _ >>= λcs=>pure cs:Sem _)=_
 have e2:(forIn scope.names ([]:List (Str×Addr)) λ(p:Str×NameKind) (r:List (Str×Addr))=>match p with
   |(name,kind)=>if (kind == ö)=true then do let a ←cellOf env name;pure (ģ ((name,a)::r)) else pure (ģ r):Sem (List (Str×Addr)))=pure (cW env.cells scope.names []):=e
 rw[e2]
 rfl
def nY{cells:List (Str×Addr)}{x:Str}{c:Addr}:∀{names:List (Str×NameKind)}{acc:List (Str×Addr)},(cW cells names acc).lookup x=some c->acc.lookup x=some c\/((x,ö)∈names/\c=(cells.lookup x).getD 0)
 |[],acc,h=>.inl h
 |(n,k)::r,acc,h=>by
  unfold cW at h
  by_cases hk:(k == ö)=true
  ·rw[if_pos hk] at h
   have hk':k=.free:=by simpa using hk
   rcases nY h with q|⟨q1,q2⟩
   ·rw[ÿ] at q
    cases hx:x == n with
    |true =>
     rw[hx] at q
     have e:x=n:=by simpa using hx
     subst e hk'
     exact .inr ⟨Å,(à q).symm⟩
    |false=>rw[hx] at q;exact .inl q
   ·exact .inr ⟨Ä _ q1,q2⟩
  ·rw[if_neg hk] at h
   rcases nY h with q|⟨q1,q2⟩
   ·exact .inl q
   ·exact .inr ⟨Ä _ q1,q2⟩
def sG{cells:List (Str×Addr)}{x:Str}:∀{names:List (Str×NameKind)}{acc:List (Str×Addr)},(acc.lookup x).isSome=true->((cW cells names acc).lookup x).isSome=true
 |[],_,h=>h
 |(n,k)::r,acc,h=>by
  unfold cW
  split
  ·refine sG ?_
   rw[ÿ]
   cases hx:x == n <;> simp[h]
  ·exact sG h
def jW{cells:List (Str×Addr)}{x:Str}:∀{names:List (Str×NameKind)}{acc:List (Str×Addr)},(x,ö)∈names->((cW cells names acc).lookup x).isSome=true
 |(n,k)::r,acc,h=>by
  unfold cW
  rcases Ð.mp h with e|h
  ·cases e
   rw[if_pos (by rfl)]
   exact sG (by simp[ÿ])
  ·split
   ·exact jW h
   ·exact jW h
def gD(env:Env)(scope:Scope)(N:List Str):Bool :=
 (scope.kind == .function)&&scope.names.all λy=>match y.2 with
  |.local=>!(N.contains y.1)&&(scope.names.lookup y.1 == some .local)
  |.cell=>!(N.contains y.1)&&(scope.names.lookup y.1 == some .cell)
  |.free=>(scope.names.lookup y.1 == some .free)&&(env.kindOf y.1 == some .cell || env.kindOf y.1 == some .free)
  |_=>true
def cR{env:Env}:∀{names:List (Str×NameKind)}{x:Str}{q:NameKind},(names.map λ(n,k)=>if (k == ö&&env.scope.kind == .function&&env.kindOf n == some .cell) then (n,Ċ) else (n,k)).lookup x=some q ->
  ∃k,(x,k)∈names/\names.lookup x=some k/\(q=k\/(q=.cell/\k=.free))
 |[],_,_,h=>by simp at h
 |(n,k)::r,x,q,h=>by
  have ih:=@cR env r x q
  have h':List.lookup x ((if (k == ö&&env.scope.kind == .function&&env.kindOf n == some .cell)=true then (n,Ċ) else (n,k))::(r.map λ(n,k)=>if (k == ö&&env.scope.kind == .function&&env.kindOf n == some .cell) then (n,Ċ) else (n,k)))=some q:=h
  by_cases hc:(k == ö&&env.scope.kind == .function&&env.kindOf n == some .cell)=true
  ·rw[if_pos hc,ÿ] at h'
   cases hx:x == n with
   |true =>
    rw[hx] at h'
    have e:x=n:=by simpa using hx
    subst e
    have hk:k=.free:=by simp at hc;exact hc.1.1
    exact⟨k,Å,by simp[ÿ],.inr ⟨(à h').symm,hk⟩⟩
   |false =>
    rw[hx] at h'
    obtain⟨k',h1,h2,h3⟩:=ih h'
    exact⟨k',Ä _ h1,by rw[ÿ,hx];exact h2,h3⟩
  ·rw[if_neg hc,ÿ] at h'
   cases hx:x == n with
   |true =>
    rw[hx] at h'
    have e:x=n:=by simpa using hx
    subst e
    exact⟨k,Å,by simp[ÿ],.inl (à h').symm⟩
   |false =>
    rw[hx] at h'
    obtain⟨k',h1,h2,h3⟩:=ih h'
    exact⟨k',Ä _ h1,by rw[ÿ,hx];exact h2,h3⟩
def HOk.track{P:Program}{w:World}{H:Hp}{h:Heap}{a:Addr}{o:HO}(x:HOk P w H h)(hn:H a=none)(new:bN P w (upd H a o) h a o):HOk P w (upd H a o) h:=λb u e=>by
 by_cases hb:b=a
 ·subst hb;rw[aq] at e;cases e;exact new
 ·rw[au hb] at e
  exact(x b u e).stay (λc v _ q=>q) (λc q=>by rw[au (aB q hn)];exact q) λc xs q=>by rw[au (aB q hn)];exact q
def Ep{prog:Program}{w:World}{A:Around}{s:Shared}{elt target iter:Expr}{ifs:List Expr}{scope:Scope}{pos:Pos}{it acc:Value}{env:Env}{R:Result->Shared->Prop}(I:Nat->Shared->Prop)(turn:∀n s,I n s->wpAny (model prog w) A (pyNext it) (λr s₁=>match r with
   |none=>R (.ok .next) s₁
   |some v=>wpAny (model prog w) A (letOwnedTupleGo target it v) (λ_ s₀=>wpAny (model prog w) A (assign target env v) (λ_ s₂ =>
     wpAny (model prog w) A (forIn ifs true λc r=>if r=true then do let ok ←isTrue c env (eval c env);pure (ģ ok) else pure (ģ r)) (λok s₃ =>
      if ok=true then wpAny (model prog w) A (eval elt env) (λx s₄ =>
       wpAny (model prog w) A (call (.builtin "list.append") [acc,x]) (λ_ s₅=>∃m,m<n/\I m s₅) (λ_ _=>False) s₄) (λ_ _=>False) s₃
      else ∃m,m<n/\I m s₃) (λ_ _=>False) s₂) (λ_ _=>False) s₀) (λ_ _=>False) s₁) (λ_ _=>False) s)(n:Nat)(h:I n s):codeAny (model prog w) A (.compLoop (.ListComp elt [⟨target,iter,ifs,0⟩] scope pos) 0 it acc env) R s:=by
 refine codeAny_loop rfl I (λn s hI=>?_) n h
 show wpAny _ A ((compTurn (.ListComp elt [⟨target,iter,ifs,0⟩] scope pos) 0 it acc env).onRaise (λx=>do noteFrame x env;theTreesLotGoes x)) _ _ s
 refine wpAny_noted ?_
 rw[compTurn_list]
 refine Ã (wpAny_standAt (Ã (ń (turn n s hI) (λr s₁ h₁=>?_) λ_ _ h'=>h'.elim)))
 cases r with
 |none=>exact Ô h₁
 |some v =>
  refine Ã (ń h₁ (λ_ s₀ h₀'=>?_) λ_ _ h'=>h'.elim)
  refine Ã (ń h₀' (λ_ s₂ h₂=>Ã (ń h₂ (λok s₃ h₃=>?_) λ_ _ h'=>h'.elim)) λ_ _ h'=>h'.elim)
  cases ok with
  |false=>exact Ô ⟨rfl,h₃⟩
  |true =>
   exact Ã (Ã (ń h₃ (λx s₄ h₄=>Ã (ń h₄ (λ_ s₅ h₅=>Ô (Ô ⟨rfl,h₅⟩)) λ_ _ h'=>h'.elim)) λ_ _ h'=>h'.elim))
def PTs(X:Cx)(ifs:List Expr)(t:TT):Prop :=
 ∀(pins:List (Addr×Obj)) (s:Shared) (σ:St) (H:Hp) (Q:Bool->Hp->Prop),Inv X pins σ H s->t σ H Q ->
  wpAny (model X.prog X.w) X.A (forIn ifs true λc r=>if r=true then do let ok ←isTrue c X.env (eval c X.env);pure (ģ ok) else pure (ģ r)) (TP X pins σ Q) X.xe s
def Kf{X:Cx}:PTs X [] (λ_ H Q=>Q true H):=λ_ _ _ H _ I h=>wpAny_tests_nil ⟨H,I,h⟩
def Ke{X:Cx}{c:Expr}{t:TT}(hc:PT X c t):PTs X [c] t:=λpins s σ H Q I h=>wpAny_tests_one (hc pins s σ H Q I h)
def Uh(J:It)(n:Nat)(g:CB->TG)(tt:CB->TT)(te:CB->TE)(σ:St)(Q:VK)(H:Hp):Prop:=∃W:Nat->Nat->List V->Hp->Prop,(∃m,W 0 m [] H)/\∀(c:CB) i m ys H,W i m ys H ->
 (J.stop i H/\∀p,H p=none->Q (.ref p) (upd H p (.lst ys))) ∨
 (J.go i H/\ys.length<sizeLine/\∃N:List V->Hp->Prop,(∀ys' H',N ys' H'->∃m',m'<m/\W (i+1) m' ys' H')/\∀x H',J.yld i H x H'->g c x (Æ n none++σ) H' λσ2 H2=>tt c σ2 H2 λb H3 =>
  if b=true then te c σ2 H3 λv H4=>N (ys++[v]) H4 else N ys H3)
def tLC(n:Nat)(wi:TI)(g:CB->TG)(tt:CB->TT)(te:CB->TE):TE:=λσ H Q=>wi σ H λJ H1=>Uh J n g tt te σ Q H1
section
variable {X:Cx}{own:List Str}{scope:Scope}{tg iter elt:Expr}{ifs:List Expr}{pos:Pos}{wi:TI}{g:CB->TG}{tt:CB->TT}{te:CB->TE}
def aZ(env:Env)(scope:Scope)(N M:List Str):Bool :=
 gD env scope M&&((N.length == M.length)&&(N.zip M).all λy=>y.1 == y.2 || ((y.2 == ("":Str))&&scope.names.all λz=>!(z.1 == ("":Str))))
def yF{env:Env}{N:List Str}(h:gD env scope N=true):aZ env scope N N=true:=by
 unfold aZ
 rw[h,Bool.true_and,beq_self_eq_true,Bool.true_and,ĝ]
 rintro⟨a,b⟩ hy
 obtain⟨i,hi,e⟩:=List.mem_iff_getElem.mp hy
 rw[List.getElem_zip] at e
 cases e
 simp
variable {M:List Str}
def eO(h:aZ X.env scope X.N M=true):scope.kind=.function:=by
 unfold aZ gD at h
 simp only[Ù,beq_iff_eq] at h
 exact h.1.1
def bQ(h:aZ X.env scope X.N M=true):∀y∈scope.names,(y.2=.local->y.1∉M/\scope.names.lookup y.1=some .local)/\(y.2=.cell->y.1∉M/\scope.names.lookup y.1=some .cell)/\(y.2=.free->scope.names.lookup y.1=some .free/\(X.env.kindOf y.1=some .cell\/X.env.kindOf y.1=some .free)):=by
 unfold aZ at h
 rw[Ù] at h
 have h:=h.1
 unfold gD at h
 rw[Ù,ĝ] at h
 intro y hy
 have q:=h.2 y hy
 obtain⟨n,k⟩:=y
 cases k with
 |«local»=>simp at q ⊢;exact q
 |cell=>simp at q ⊢;exact q
 |free=>simp at q ⊢;exact q
 |globalExplicit=>simp
 |globalImplicit=>simp
def bA:∀(names:List (Str×NameKind)) (n:Nat) (acc:List (Str×Addr)),cellsFrom n names acc=cellsFrom n names []++acc
 |[],_,_=>rfl
 |(nm,k)::r,n,acc=>by
  show(if (k == Ċ)=true then cellsFrom (n+1) r ((nm,n)::acc) else cellsFrom n r acc)=(if (k == Ċ)=true then cellsFrom (n+1) r [(nm,n)] else cellsFrom n r [])++acc
  split
  ·rw[bA r (n+1) ((nm,n)::acc),bA r (n+1) [(nm,n)],Ř]
   rfl
  ·exact bA r n acc
def fj:∀(names:List (Str×NameKind)) (n:Nat) (x:Str) (c:Addr),(x,c)∈cellsFrom n names []->(x,Ċ)∈names/\n<=c
 |[],_,_,_,h=>nomatch h
 |(nm,k)::r,n,x,c,h=>by
  have h:(x,c)∈(if (k == Ċ)=true then cellsFrom (n+1) r [(nm,n)] else cellsFrom n r []):=h
  split at h
  ·rename_i hk
   rw[bA] at h
   rcases â.mp h with z|z
   ·obtain⟨h1,h2⟩:=fj r (n+1) x c z
    exact⟨Ä _ h1,by omega⟩
   ·have z:(x,c)=(nm,n):=by simpa using z
    cases z
    have hk:k=.cell:=by simpa using hk
    subst hk
    exact⟨Å,Ë _⟩
  ·obtain⟨h1,h2⟩:=fj r n x c h
   exact⟨Ä _ h1,h2⟩
def pC:∀(names:List (Str×NameKind)) (n:Nat) (x y:Str) (c:Addr),(x,c)∈cellsFrom n names []->(y,c)∈cellsFrom n names []->x=y
 |[],_,_,_,_,h,_=>nomatch h
 |(nm,k)::r,n,x,y,c,h,h'=>by
  have h:(x,c)∈(if (k == Ċ)=true then cellsFrom (n+1) r [(nm,n)] else cellsFrom n r []):=h
  have h':(y,c)∈(if (k == Ċ)=true then cellsFrom (n+1) r [(nm,n)] else cellsFrom n r []):=h'
  by_cases hk:(k == Ċ)=true
  ·rw[if_pos hk,bA] at h h'
   rcases â.mp h with z|z <;> rcases â.mp h' with z'|z'
   ·exact pC r (n+1) x y c z z'
   ·have:=(fj r (n+1) x c z).2
    have z':(y,c)=(nm,n):=by simpa using z'
    cases z'
    exact absurd this (Nat.not_succ_le_self _)
   ·have:=(fj r (n+1) y c z').2
    have z:(x,c)=(nm,n):=by simpa using z
    cases z
    exact absurd this (Nat.not_succ_le_self _)
   ·have z:(x,c)=(nm,n):=by simpa using z
    have z':(y,c)=(nm,n):=by simpa using z'
    cases z
    cases z'
    rfl
  ·rw[if_neg hk] at h h'
   exact pC r n x y c h h'
def jZ:∀(names:List (Str×NameKind)) (h:Heap) (b:Addr) (o:Obj),h.get? b=some o->(pushCells h names).get? b=some o
 |[],_,_,_,e=>e
 |(nm,k)::r,h,b,o,e=>by
  show(if (k == Ċ)=true then pushCells (h.push { cls:=Đ "cell",data:=Data.cell none }) r else pushCells h r).get? b=some o
  split
  ·exact jZ r _ b o (Ñ _ e)
  ·exact jZ r h b o e
def oN:∀(names:List (Str×NameKind)) (h:Heap) (x:Str) (c:Addr),(x,c)∈cellsFrom h.objs.size names []->(pushCells h names).IsCell c none
 |[],_,_,_,e=>nomatch e
 |(nm,k)::r,h,x,c,e=>by
  have e:(x,c)∈(if (k == Ċ)=true then cellsFrom (h.objs.size+1) r [(nm,h.objs.size)] else cellsFrom h.objs.size r []):=e
  show(if (k == Ċ)=true then pushCells (h.push { cls:=Đ "cell",data:=Data.cell none }) r else pushCells h r).IsCell c none
  by_cases hk:(k == Ċ)=true
  ·rw[if_pos hk,bA] at e
   rw[if_pos hk]
   rcases â.mp e with z|z
   ·exact oN r _ x c (by rw[Ŝ];exact z)
   ·have z:(x,c)=(nm,h.objs.size):=by simpa using z
    cases z
    exact⟨_,jZ r _ _ _ (á _ rfl),rfl⟩
  ·rw[if_neg hk] at e ⊢
   exact oN r h x c e
def zR{M:Model}{A:Around}{E:Value->Shared->Prop}{s:Shared}{scope:Scope}{globals:Addr}{closure:List (Str×Addr)}{qual:Str}{func:Option Addr}{code:Value}{around:Option Env}{builtins:Addr}{Q:Env->Shared->Prop}(h:Q (newEnv scope s.heap.objs.size globals (cellsFrom (s.heap.objs.size+1) scope.names closure) qual func code around builtins) { s with heap:=pushCells (s.heap.push { cls:=Đ (if around.isSome=true then "dict" else "frame"),data:=Data.dict #[] }) scope.names }) :
  wpAny M A (newFunctionEnv scope globals closure [] qual func code around builtins) Q E s:=by
 unfold newFunctionEnv
 refine Ã (wpAny_alloc ?_)
 refine Ã (wpAny_layCells _ (λ_ _ _=>rfl) _ _ _ _ ?_)
 rw[Ŝ]
 exact Ã (Ô (Ô h))
def QW{n:Nat}{names:List (Str×NameKind)}{cl:List (Str×Addr)}{x:Str}{c:Addr}(h:(cellsFrom n names cl).lookup x=some c):(x,c)∈cellsFrom n names []\/cl.lookup x=some c:=by
 rw[bA,List.lookup_append] at h
 cases e:(cellsFrom n names []).lookup x with
 |none=>rw[e] at h;exact .inr h
 |some d =>
  rw[e] at h
  cases h
  exact .inl (û e)
def Jz{n:Nat}{names:List (Str×NameKind)}{cl:List (Str×Addr)}{x:Str}(h:∀c,(x,c)∈cellsFrom n names []->False):(cellsFrom n names cl).lookup x=cl.lookup x:=by
 rw[bA,List.lookup_append]
 cases e:(cellsFrom n names []).lookup x with
 |none=>rfl
 |some d=>exact(h d (û e)).elim
def yu(h:aZ X.env scope X.N M=true){n:Nat}{x:Str}(hx:(x,ö)∈scope.names):∀c,(x,c)∈cellsFrom n scope.names []->False:=λc z=>by
 have h1:=((bQ h _ hx).2.2 rfl).1
 have h2:=((bQ h _ (fj _ _ _ _ z).1).2.1 rfl).2
 rw[h1] at h2
 cases h2
def jU(h:aZ X.env scope X.N M=true):X.N.length=M.length:=by
 unfold aZ at h
 rw[Ù,Ù] at h
 exact eq_of_beq h.2.1
def uE{i:Nat}{x:Str}{k:NameKind}(h:aZ X.env scope X.N M=true)(hx:M[i]?=some x)(_:x∈M)(hn:(x,k)∈scope.names):X.N[i]?=some x:=by
 have hl:=jU h
 unfold aZ at h
 rw[Ù,Ù,ĝ] at h
 have hi:i<M.length:=(Ê.mp hx).1
 have hx':M[i]=x:=(Ê.mp hx).2
 have hi':i<X.N.length:=by omega
 have q:=h.2.2 (X.N[i],M[i]) (by
  refine List.mem_iff_getElem.mpr ⟨i,by rw[List.length_zip];omega,?_⟩
  rw[List.getElem_zip])
 rw[Bool.or_eq_true] at q
 rcases q with q|q
 ·have q:X.N[i]=M[i]:=eq_of_beq q
  rw[Ç hi',q,hx']
 ·rw[Ù,ĝ] at q
  have e:M[i]=("":Str):=eq_of_beq q.1
  have z:=q.2 (x,k) hn
  rw[←hx',e] at z
  simp at z
def Aw{pins:List (Addr×Obj)}{σ:St}{H:Hp}{s:Shared}{fp:List Addr}{h₁:Heap}{tk:Nat}(hk:aZ X.env scope X.N M=true)(I:Inv X pins σ H s)(hf:∀b∈fp,sJ X pins H b)(hfo:∀b∈fp,∃o,s.heap.get? b=some o)(hns:h₁.Ns (s.heap.objs.size+1) λ_=>none)(old:∀b o,s.heap.get? b=some o->h₁.get? b=some o)(hD:h₁.get? s.heap.objs.size=some { cls:=.type "list",data:=.seq #[] 0 })(hnc:∀x c,(x,c)∈cellsFrom (s.heap.objs.size+2) scope.names []->h₁.IsCell c none) :
  Inv (X.bf own M scope ⟨cellsFrom (s.heap.objs.size+2) scope.names (cW X.env.cells scope.names []),s.heap.objs.size+1,s,H,fp⟩) [(s.heap.objs.size,{ cls:=.type "list",data:=.seq #[] 0 })] (Æ own.length none++σ) H { s with heap:=h₁,toks:=tk }:=by
 have hkk:=eO hk
 have hka:=bQ hk
 have hhas:∀x,(x,ö)∈scope.names->∃c,X.env.cells.lookup x=some c:=λx hx=>I.ok.has x ((hka _ hx).2.2 rfl).2
 have hcl:∀x c,(cW X.env.cells scope.names []).lookup x=some c->X.env.cells.lookup x=some c/\(x,ö)∈scope.names:=λx c e=>by
  rcases nY e with q|⟨q1,q2⟩
  ·simp at q
  ·obtain⟨c',e'⟩:=hhas x q1
   rw[e'] at q2
   exact⟨by rw[e',q2];rfl,q1⟩
 have hcc:∀x c,(cellsFrom (s.heap.objs.size+2) scope.names (cW X.env.cells scope.names [])).lookup x=some c->(X.env.cells.lookup x=some c/\(x,ö)∈scope.names/\c<s.heap.objs.size)\/((x,c)∈cellsFrom (s.heap.objs.size+2) scope.names []/\(x,Ċ)∈scope.names/\s.heap.objs.size+2<=c):=λx c e=>by
  rcases QW e with z|z
  ·exact .inr ⟨z,fj _ _ _ _ z⟩
  ·obtain⟨h1,h2⟩:=hcl x c z
   obtain⟨v,o,ho,_⟩:=I.cell x c h1
   exact .inl ⟨h1,h2,Î ho⟩
 have hvis:∀x,(relabel scope X.env).names.lookup x=some .cell\/(relabel scope X.env).names.lookup x=some .free->(x,ö)∈scope.names\/(x,Ċ)∈scope.names:=λx hx=>by
  have key:∀q,(relabel scope X.env).names.lookup x=some q->q=.cell\/q=.free->(x,ö)∈scope.names\/(x,Ċ)∈scope.names:=λq hq hq'=>by
   obtain⟨k,h1,h2,h3⟩:=cR (env:=X.env) (names:=scope.names) hq
   rcases h3 with h3|⟨_,h3⟩
   ·subst h3
    rcases hq' with z|z
    ·rw[z] at h1;exact .inr h1
    ·rw[z] at h1;exact .inl h1
   ·rw[h3] at h1;exact .inl h1
  rcases hx with hx|hx
  ·exact key _ hx (.inl rfl)
  ·exact key _ hx (.inr rfl)
 have hlt:∀b o,s.heap.get? b=some o->b<s.heap.objs.size:=λb o e=>Î e
 refine⟨⟨I.ok.mod,hkk,I.ok.glob,I.ok.blt,ĳ _,λx y c h1 h2=>?inj,λx hx=>?_,λx c z e=>?cab,I.ok.hd,I.ok.frames,.inl rfl,λb hb=>⟨?_,λx c e=>?exf⟩,I.bs,
   õ I.ok.bsz I.sz,λb o e hb=>?_,λb hb hs=>?_,I.stack,I.Bj,λq hq=>⟨(I.ok.sof q hq).1,I.base.frzs _ _ _ (I.ok.sof q hq).2.1,(I.ok.sof q hq).2.2⟩⟩,rfl,I.bare,Un.kept old,⟨_,hns,λi x v h1 h2 h3=>?_⟩,λx c e=>?_,?_,λx c e=>?frc,λp hp=>?_,I.hok.kept old,?_⟩
 case inj =>
  rcases hcc x c h1 with ⟨a1,_,a3⟩|⟨a1,_,a3⟩ <;> rcases hcc y c h2 with ⟨b1,_,b3⟩|⟨b1,_,b3⟩
  ·exact I.ok.inj x y c a1 b1
  ·exact absurd (ã a3 (õ (Nat.le_add_right _ 2) b3)) (Ă _)
  ·exact absurd (ã b3 (õ (Nat.le_add_right _ 2) a3)) (Ă _)
  ·exact pC _ _ _ _ _ a1 b1
 case cab =>
  show s.heap.objs.size<=c
  rcases hcc x c e with ⟨_,a2,_⟩|⟨_,_,a3⟩
  ·have h1:=((hka _ a2).2.2 rfl).1
   have z:(scope.names.lookup x == some Ċ)=true:=z
   rw[h1] at z
   exact absurd z (by decide)
  ·omega
 case exf =>
  rcases hcc x c e with ⟨a1,_,_⟩|⟨_,_,a3⟩
  ·exact(hf b hb).2.2.2.2.1 x c a1
  ·obtain⟨o,e⟩:=hfo b hb
   have:=hlt b o e
   intro z
   subst z
   exact absurd (ã this (õ (Nat.le_add_right _ 2) a3)) (Ă _)
 case frc =>
  rcases hcc x c e with ⟨a1,_,_⟩|⟨_,_,a3⟩
  ·exact I.freeC x c a1
  ·exact I.hok.fresh (by omega)
 ·have hx':(relabel scope X.env).names.lookup x=some .cell\/(relabel scope X.env).names.lookup x=some .free:=hx
  refine Ź.mp (W.cellsFrom_some _ _ _ ?_)
  rcases hvis x hx' with z|z
  ·exact .inr (jW z)
  ·exact .inl ((hka _ z).2.1 rfl).2
 ·obtain⟨o,e⟩:=hfo b hb
  exact ß (ā (hlt b o e))
 ·have hb':b∈fp:=hb
  rcases(hf b hb').2.2.2.1 with z|z
  ·exact I.ok.noex b o e z
  ·exact absurd (ã (Î (I.ok.bs b o e).1) z) (Ă _)
 ·have hb':b∈fp:=hb
  rcases Ð.mp (I.qH b hs) with z|z
  ·exact(hf b hb').2.1 z
  ·exact(hf b hb').2.2.1 z
 ·have hi:own.length<=i:=by
   by_cases hi:i<own.length
   ·rw[ó (by simpa using hi),ŋ] at h2
    split at h2 <;> cases h2
   ·omega
  have h1':M[i - own.length]?=some x:=by
   have q:(own++M)[i]?=some x:=h1
   rwa [è hi] at q
  have h2':σ[i - own.length]?=some (some v):=by
   rw[è (by simpa using hi)] at h2
   simpa using h2
  have h3':Vis (relabel scope X.env) x:=h3
  have hfr:(x,ö)∈scope.names:=by
   rcases h3' with z|z
   ·obtain⟨k,q1,q2,q3⟩:=cR (env:=X.env) (names:=scope.names) z
    rcases q3 with q3|⟨q3,_⟩
    ·subst q3
     exact absurd (Ò h1') ((hka _ q1).1 rfl).1
    ·cases q3
   ·rcases hvis x z with y|y
    ·exact y
    ·exact absurd (Ò h1') ((hka _ y).2.1 rfl).1
  have hkx:=((hka _ hfr).2.2 rfl).2
  obtain⟨m,hm,hl⟩:=I.loc
  obtain⟨u,ru,lu⟩:=hl _ x v (uE hk h1' (Ò h1') hfr) h2' (by rcases hkx with z|z;exact .inr (.inl z);exact .inr (.inr z))
  refine⟨u,ru,.inr ⟨?_,?_⟩⟩
  ·rcases h3' with z|z|z
   ·obtain⟨k,q1,q2,q3⟩:=cR (env:=X.env) (names:=scope.names) z
    rcases q3 with q3|⟨q3,_⟩
    ·subst q3
     exact absurd (Ò h1') ((hka _ q1).1 rfl).1
    ·cases q3
   ·exact .inl z
   ·exact .inr z
  ·rcases lu with ⟨z,_⟩|⟨_,c,e,ic⟩
   ·rcases hkx with q|q
    ·rw[q] at z;cases z
    ·rw[q] at z;cases z
   ·obtain⟨c',e'⟩:=Ź.mp (jW (cells:=X.env.cells) (acc:=[]) hfr)
    have e2:=(hcl x c' e').1
    rw[e] at e2
    cases e2
    obtain⟨o,ho,hd⟩:=ic
    exact⟨c,(Jz (yu hk hfr)).trans e',o,old _ _ ho,hd⟩
 ·rcases hcc x c e with ⟨z,_,_⟩|⟨z,_,_⟩
  ·obtain⟨v,o,ho,hd⟩:=I.cell x c z
   exact⟨v,o,old _ _ ho,hd⟩
  ·exact⟨none,hnc x c z⟩
 ·exact I.hok.fresh (ĳ _)
 ·have hp':p=(s.heap.objs.size,{ cls:=.type "list",data:=.seq #[] 0 }):=by simpa using hp
  subst hp'
  refine⟨hD,I.hok.fresh (Ë _),ß (ş _),λz=>?_,λv z=>nomatch z⟩
  obtain⟨_,o,ho,_⟩:=I.stack.mem z
  exact absurd (Î ho) (Ă _)
 ·show(Æ own.length none++σ).length=(own++M).length
  rw[È,È,Ġ,I.len,jU hk]
def Av{pins pn:List (Addr×Obj)}{σ σ':St}{H H':Hp}{s s':Shared}{fp:List Addr}{cl:List (Str×Addr)}{ys:List V}{us:List Value}{n:Nat}(I:Inv X pins σ H s)(hf:∀b∈fp,sJ X pins H b)(J:Inv (X.bf own M scope ⟨cl,s.heap.objs.size+1,s,H,fp⟩) pn σ' H' s')(hp:(s.heap.objs.size,({ cls:=.type "list",data:=.seq us.toArray n }:Obj))∈pn)(hv:Vals ys us)(hz:ys.length<=sizeLine) :
  Inv X pins σ (upd H' s.heap.objs.size (.lst ys)) s'/\H' s.heap.objs.size=none:=by
 obtain⟨hD,hDn,_⟩:=J.pin _ (î _ hp)
 refine⟨I.call' J.os ⟨λb o e n hb hx=>J.base.keep b o e n hb hx,λb o e n hb hx=>J.base.slot b o e n hb hx,λb o e n hx=>?_,λb o e hx=>J.base.there b o e hx,λb xs e=>?_,λb o u e=>?_,λb ps e=>?_⟩ ?_ J.bare ?_,hDn⟩
 ·rw[au (ß (Î e))]
  exact J.base.free b o e n hx
 ·have q:=J.base.tups b xs e
  rw[au (aB q hDn)]
  exact q
 ·have q:=J.base.frzs b o u e
  rw[au (aB q hDn)]
  exact q
 ·obtain⟨more,q⟩:=J.base.tbls b ps e
  exact⟨more,by rw[au (aB q hDn)];exact q⟩
 ·exact J.hok.track hDn ⟨hz,us,n,hv,hD⟩
 ·intro b hb
  exact⟨(hf b hb).2.2.2.1,(hf b hb).2.1,(hf b hb).2.2.2.2.1,(hf b hb).2.2.2.2.2⟩
def sE{pins pn:List (Addr×Obj)}{σ σ':St}{H H':Hp}{s s':Shared}{fp:List Addr}{cl:List (Str×Addr)}(hk:aZ X.env scope X.N M=true)(I:Inv X pins σ H s)(hf:∀b∈fp,sJ X pins H b)(hcl:∀x,(x,ö)∈scope.names->∃c,cl.lookup x=some c/\X.env.cells.lookup x=some c)(J:Inv (X.bf own M scope ⟨cl,s.heap.objs.size+1,s,H,fp⟩) pn σ' H' s'):Inv (X.bf own M scope ⟨cl,s.heap.objs.size+1,s,H,fp⟩) pn (Æ own.length none++σ) H' s':=by
 have hka:=bQ hk
 refine⟨J.ok,J.os,J.bare,J.base,?_,J.cell,J.free,J.freeC,J.pin,J.hok,?_⟩
 ·obtain⟨mC,hmC,_⟩:=J.loc
  refine⟨mC,hmC,λi x v h1 h2 h3=>?_⟩
  have hi:own.length<=i:=by
   by_cases hi:i<own.length
   ·rw[ó (by simpa using hi),ŋ] at h2
    split at h2 <;> cases h2
   ·omega
  have h1':M[i - own.length]?=some x:=by
   have q:(own++M)[i]?=some x:=h1
   rwa [è hi] at q
  have h2':σ[i - own.length]?=some (some v):=by
   rw[è (by simpa using hi)] at h2
   simpa using h2
  have h3':Vis (relabel scope X.env) x:=h3
  have nloc:¬(relabel scope X.env).names.lookup x=some .local:=λz=>by
   obtain⟨k,q1,q2,q3⟩:=cR (env:=X.env) (names:=scope.names) z
   rcases q3 with q3|⟨q3,_⟩
   ·subst q3
    exact absurd (Ò h1') ((hka _ q1).1 rfl).1
   ·cases q3
  have hkk:(relabel scope X.env).names.lookup x=some .cell\/(relabel scope X.env).names.lookup x=some .free:=by
   rcases h3' with z|z
   ·exact absurd z nloc
   ·exact z
  have hfr:(x,ö)∈scope.names:=by
   have key:∀q,(relabel scope X.env).names.lookup x=some q->q=.cell\/q=.free->(x,ö)∈scope.names:=λq hq hq'=>by
    obtain⟨k,h1,h2,h3⟩:=cR (env:=X.env) (names:=scope.names) hq
    rcases h3 with h3|⟨_,h3⟩
    ·subst h3
     rcases hq' with z|z
     ·rw[z] at h1;exact absurd (Ò h1') ((hka _ h1).2.1 rfl).1
     ·rw[z] at h1;exact h1
    ·rw[h3] at h1;exact h1
   rcases hkk with hx|hx
   ·exact key _ hx (.inl rfl)
   ·exact key _ hx (.inr rfl)
  have hkx:=((hka _ hfr).2.2 rfl).2
  obtain⟨m,hm,hl⟩:=I.loc
  obtain⟨u,ru,lu⟩:=hl _ x v (uE hk h1' (Ò h1') hfr) h2' (by rcases hkx with z|z;exact .inr (.inl z);exact .inr (.inr z))
  refine⟨u,ru,.inr ⟨hkk,?_⟩⟩
  rcases lu with ⟨z,_⟩|⟨_,c,e,ic⟩
  ·rcases hkx with q|q
   ·rw[q] at z;cases z
   ·rw[q] at z;cases z
  ·obtain⟨c',e',e2⟩:=hcl x hfr
   rw[e] at e2
   cases e2
   obtain⟨o,ho,hd⟩:=ic
   obtain⟨sl,q⟩:=J.base.any ho (I.freeC x c e) λz=>(hf c z).2.2.2.2.1 x c e rfl
   exact⟨c,e',_,q,hd⟩
 ·show(Æ own.length none++σ).length=(own++M).length
  rw[È,È,Ġ,I.len,jU hk]
def uy{pins:List (Addr×Obj)}{σ:St}{H:Hp}{s:Shared}{it:Addr}{fp:List Addr}{tn:Nat->Heap->Prop}{J:It}{W:Nat->Nat->List V->Hp->Prop}{E:Value->Shared->Prop}{RR:Value->Addr->Result->Shared->Prop}{Cm:Cx->Prop}(hc:∀c,Cm (X.bf own M scope c))(hk:aZ X.env scope X.N M=true)(hg:∀c,PG (X.bf own M scope c) tg (g c))(ht:∀c,PTs (X.bf own M scope c) ifs (tt c))(he:∀c,PE (X.bf own M scope c) elt (te c))(I:Inv X pins σ H s)(T:TurnG Cm X.prog X.w X.K tg J fp it tn)(st:tn 0 s.heap)(hf:∀b∈fp,sJ X pins H b){m0:Nat}(w0:W 0 m0 [] H){D:List V->Hp->Prop}(turn:∀(c:CB) i m ys H,W i m ys H->(J.stop i H/\D ys H) ∨
   (J.go i H/\ys.length<sizeLine/\∃N:List V->Hp->Prop,(∀ys' H',N ys' H'->∃m',m'<m/\W (i+1) m' ys' H')/\∀x H',J.yld i H x H'->g c x (Æ own.length none++σ) H' λσ2 H2=>tt c σ2 H2 λb H3 =>
    if b=true then te c σ2 H3 λv H4=>N (ys++[v]) H4 else N ys H3))(fin:∀s' m' ys H',(s'.heap.Ns (s.heap.objs.size+1) m')->H' (s.heap.objs.size+1)=none->H' s.heap.objs.size=none->Inv X pins σ (upd H' s.heap.objs.size (.lst ys)) s'->D ys H'->RR (.ref s.heap.objs.size) (s.heap.objs.size+1) (.ok .next) s') :
  wpAny (model X.prog X.w) X.A (newList []) (λacc s₃=>wpAny (model X.prog X.w) X.A (newFunctionEnv scope X.env.globals (cW X.env.cells scope.names []) [] X.env.qual none .none (some X.env)) (λcenv s₄ =>
   codeAny (model X.prog X.w) X.A (.compStart (.ListComp elt [⟨tg,iter,ifs,0⟩] scope pos) 0 (.ref it) acc { cenv with scope:=relabel scope X.env }) (RR acc cenv.locals) s₄) E s₃) E s:=by
 have hkk:=eO hk
 have hka:=bQ hk
 refine Ŵ (zR ?_)
 dsimp only
 have hC:(s.heap.push { cls:=.type "list",dict:=none,data:=.seq ([]:List Value).toArray }).objs.size=s.heap.objs.size+1:=Ŝ ..
 rw[hC]
 generalize hH2:s.heap.push { cls:=.type "list",dict:=none,data:=.seq ([]:List Value).toArray }=H2 at hC ⊢
 generalize hH3:H2.push { cls:=Đ (if (some X.env:Option Env).isSome=true then "dict" else "frame"),data:=Data.dict #[] }=H3
 generalize hh1:pushCells H3 scope.names=h₁
 have hC3:H3.objs.size=s.heap.objs.size+2:=by rw[←hH3,Ŝ,hC]
 have old3:∀b o,H3.get? b=some o->h₁.get? b=some o:=λb o e=>hh1 ▸ jZ _ _ _ _ e
 have old2:∀b o,H2.get? b=some o->h₁.get? b=some o:=λb o e=>old3 b o (hH3 ▸ Ñ _ e)
 have old:∀b o,s.heap.get? b=some o->h₁.get? b=some o:=λb o e=>old2 b o (hH2 ▸ Ñ _ e)
 have hacc:h₁.get? s.heap.objs.size=some { cls:=.type "list",data:=.seq #[] 0 }:=old2 _ _ (hH2 ▸ á _ rfl)
 have hns:h₁.Ns (s.heap.objs.size+1) λ_=>none:=by
  have z:=Heap.Ns.new H2 (Đ (if (some X.env:Option Env).isSome=true then "dict" else "frame"))
  rw[hC,hH3] at z
  exact z.keeps old3
 have hnc:∀x c,(x,c)∈cellsFrom (s.heap.objs.size+2) scope.names []->h₁.IsCell c none:=λx c e=>by
  rw[←hC3] at e
  exact hh1 ▸ oN _ _ _ _ e
 have hfo:∀b∈fp,∃o,s.heap.get? b=some o:=λb hb=>let ⟨o,e,_⟩:=T.obj 0 _ st b hb;⟨o,e⟩
 have st₁:tn 0 h₁:=T.keep 0 _ _ st λb _ o e=>old b o e
 have I₁:=Aw (own:=own) (tk:=s.toks) hk I hf hfo hns old hacc hnc
 have loop:∀s₃:Shared,s₃={ s with heap:=h₁,toks:=s.toks } ->
   codeAny (model X.prog X.w) X.A (.compLoop (.ListComp elt [⟨tg,iter,ifs,0⟩] scope pos) 0 (.ref it) (.ref s.heap.objs.size) (compEnvC scope (cellsFrom (s.heap.objs.size+2) scope.names (cW X.env.cells scope.names [])) (s.heap.objs.size+1) X.env))
    (RR (.ref s.heap.objs.size) (s.heap.objs.size+1)) s₃:=by
  rintro s₃ rfl
  have neD:∀b∈fp,b≠s.heap.objs.size:=λb hb=>by
   obtain⟨o,e⟩:=hfo b hb
   exact ß (Î e)
  have stat:∀{H':Hp}{o:Obj},(∀b∈fp,H' b=none)->∀b∈fp,sJ (X.bf own M scope ⟨cellsFrom (s.heap.objs.size+2) scope.names (cW X.env.cells scope.names []),s.heap.objs.size+1,s,H,fp⟩) [(s.heap.objs.size,o)] H' b:=λ{H' o} hn b hb =>
   ⟨hn b hb,(I₁.ok.exf b hb).1,I₁.ok.exfs b hb,.inl hb,(I₁.ok.exf b hb).2,λp hp=>by
    have hp':p=(s.heap.objs.size,o):=by simpa using hp
    subst hp'
    exact ė (neD b hb)⟩
  refine Ep (λk s'=>∃i ys us n H',Inv (X.bf own M scope ⟨cellsFrom (s.heap.objs.size+2) scope.names (cW X.env.cells scope.names []),s.heap.objs.size+1,s,H,fp⟩) [(s.heap.objs.size,{ cls:=.type "list",data:=.seq (us:List Value).toArray n })] (Æ own.length none++σ) H' s' /\
    Vals ys us/\ys.length<=sizeLine/\tn i s'.heap/\(∀b∈fp,H' b=none)/\W i k ys H') ?_ m0 ⟨0,[],[],0,H,I₁,.nil,ú _,st₁,λb hb=>(hf b hb).1,w0⟩
  rintro k s3 ⟨i,ys,us,n,H3,I3,hv,hz,st3,fr3,w3⟩
  rcases turn ⟨cellsFrom (s.heap.objs.size+2) scope.names (cW X.env.cells scope.names []),s.heap.objs.size+1,s,H,fp⟩ i k ys H3 w3 with ⟨stop,d⟩|⟨go,hlt,N,hN,step⟩
  ·refine thn (T.done (X.bf own M scope ⟨cellsFrom (s.heap.objs.size+2) scope.names (cW X.env.cells scope.names []),s.heap.objs.size+1,s,H,fp⟩) rfl rfl rfl (hc _) i _ s3 _ H3 _ I3 (stat fr3) st3 stop) λr s4 ⟨hr,I4⟩=>?_
   subst hr
   obtain⟨m',hm',_⟩:=I4.loc
   obtain⟨J4,hDn⟩:=Av I hf I4 (Ö.mpr rfl) hv hz
   exact fin s4 m' ys H3 hm' I4.free hDn J4 d
  ·refine thn (T.item (X.bf own M scope ⟨cellsFrom (s.heap.objs.size+2) scope.names (cW X.env.cells scope.names []),s.heap.objs.size+1,s,H,fp⟩) rfl rfl rfl (hc _) i _ s3 _ H3 _ I3 (stat fr3) st3 go) λr s4 ⟨u,hr,h4⟩=>?_
   subst hr
   refine thn h4 λ_ s5 ⟨x,H5,I5,r5,y5,st5,fr5⟩=>?_
   have I5':=I5.pinned (stat fr5) (T.obj _ _ st5)
   refine thn (hg _ _ s5 _ H5 x u _ I5' r5 (step x H5 y5)) λ_ s6 ⟨σ6,H6,I6,q6⟩=>?_
   refine thn (ht _ _ s6 σ6 H6 _ I6 q6) λb s7 ⟨H7,I7,q7⟩=>?_
   -- the turn's end: the iterator's records stand,the names are forgotten
   have clH:∀x,(x,ö)∈scope.names->∃c,(cellsFrom (s.heap.objs.size+2) scope.names (cW X.env.cells scope.names [])).lookup x=some c/\X.env.cells.lookup x=some c:=λx hx=>by
    obtain⟨c,e⟩:=I.ok.has x ((hka _ hx).2.2 rfl).2
    obtain⟨c',e'⟩:=Ź.mp (jW (cells:=X.env.cells) (acc:=[]) hx)
    rcases nY e' with q|⟨_,q⟩
    ·simp at q
    ·rw[e] at q
     exact⟨c',(Jz (yu hk hx)).trans e',by rw[e,q];rfl⟩
   have keepT:∀{H':Hp}{σ':St}{s':Shared}{pn:List (Addr×Obj)},(∀p∈jB fp s5.heap,p∈pn)->Inv (X.bf own M scope ⟨cellsFrom (s.heap.objs.size+2) scope.names (cW X.env.cells scope.names []),s.heap.objs.size+1,s,H,fp⟩) pn σ' H' s'->tn (i+1) s'.heap/\∀b∈fp,H' b=none:=λ{H' σ' s' pn} hs I' =>
    ⟨T.keep _ _ _ st5 λb hb o e=>(I'.pin (b,o) (î _ (hs _ (iZ hb e)))).1,λb hb=>by
     obtain⟨o,e,_⟩:=T.obj _ _ st5 b hb
     exact(I'.pin (b,o) (î _ (hs _ (iZ hb e)))).2.1⟩
   cases b with
   |false =>
    rw[if_neg Ó]
    rw[if_neg Ó] at q7
    obtain⟨m',hm',w7⟩:=hN _ _ q7
    obtain⟨t7,f7⟩:=keepT (λp hp=>î _ hp) I7
    exact⟨m',hm',i+1,ys,us,n,H7,sE hk I hf clH I7.mj,hv,hz,t7,f7,w7⟩
   |true =>
    rw[if_pos rfl]
    rw[if_pos rfl] at q7
    refine thn (he _ _ s7 σ6 H7 _ I7 q7) λu8 s8 ⟨v8,H8,I8,r8,q8⟩=>?_
    obtain⟨m',hm',w8⟩:=hN _ _ q8
    obtain⟨t8,f8⟩:=keepT (λp hp=>î _ hp) I8
    obtain⟨hD8,nD8,lD8,fD8,_⟩:=I8.pin (s.heap.objs.size,{ cls:=.type "list",data:=.seq us.toArray n }) (î _ (ł _ (Ö.mpr rfl)))
    refine append_at (hsz:=by rw[Í,←hv.length];exact Nat.le_of_lt hlt) hD8 λh9 hs9 hD9=>?_
    have J8:Inv (X.bf own M scope ⟨cellsFrom (s.heap.objs.size+2) scope.names (cW X.env.cells scope.names []),s.heap.objs.size+1,s,H,fp⟩) (jB fp s5.heap) σ6 H8 s8:=I8.ql λp hp=>I8.pin p (î _ (î _ hp))
    have J9:Inv (X.bf own M scope ⟨cellsFrom (s.heap.objs.size+2) scope.names (cW X.env.cells scope.names []),s.heap.objs.size+1,s,H,fp⟩) (jB fp s5.heap) σ6 H8 { s8 with heap:=h9 }:=J8.turned (t':=s8.toks) (it:=s.heap.objs.size) (λb o hb e=>(hs9.2 b hb).trans e) nD8 lD8 (.inr (Ë _))
     (λx c e z=>by
      obtain⟨v,o,ho,hd⟩:=J8.cell x c e
      rw[z,hD8] at ho
      cases ho
      cases hd)
     (λp hp=>by
      have hp':p∈jB fp s5.heap:=by simpa using hp
      exact neD _ (tW hp').1)
    obtain⟨t9,f9⟩:=keepT (λp hp=>hp) J9
    have e9:h9.get? s.heap.objs.size=some { cls:=.type "list",data:=.seq (us++[u8]).toArray (n+1) }:=by
     rw[hD9,List.push_toArray]
    have J9':Inv (X.bf own M scope ⟨cellsFrom (s.heap.objs.size+2) scope.names (cW X.env.cells scope.names []),s.heap.objs.size+1,s,H,fp⟩) [(s.heap.objs.size,{ cls:=.type "list",data:=.seq (us++[u8]).toArray (n+1) })] σ6 H8 { s8 with heap:=h9 }:=J9.ql λp hp=>by
     have hp':p=(s.heap.objs.size,{ cls:=.type "list",data:=.seq (us++[u8]).toArray (n+1) }):=by simpa using hp
     subst hp'
     exact⟨e9,nD8,lD8,fD8,λv z=>nomatch z⟩
    exact⟨m',hm',i+1,ys++[v8],us++[u8],n+1,H8,sE hk I hf clH J9',hv.append (.cons r8 .nil),by rw[È,Õ];exact hlt,t9,f9,w8⟩
 exact codeAny_compStart_list (loop _ rfl) (T.self _ 0 _ _ _ st₁ (loop _ rfl))
def uD{pins:List (Addr×Obj)}{σ:St}{H:Hp}{s:Shared}(hk:aZ X.env scope X.N M=true)(I:Inv X pins σ H s):closureFor scope X.env=pure (cW X.env.cells scope.names []) :=
 Ax λx hx hf=>I.ok.has x.1 ((bQ hk x hx).2.2 hf).2
def uz{pins:List (Addr×Obj)}{σ:St}{H:Hp}{s s':Shared}{C:Addr}{h':Heap}{m:Str->Option Value}(I:Inv X pins σ H s')(hs:X.s₀.heap.objs.size<=C)(hC:C≠X.env.locals)(hcl:∀x c,X.env.cells.lookup x=some c->c≠C)(hp:∀p∈X.pn++pins,p.1≠C)(hn:H C=none)(hb:Heap.SameBut C s'.heap h'):Inv X pins σ H { s' with heap:=h' }:=I.turned (t':=s'.toks) (λb o hb' e=>(hb.2 b hb').trans e) hn hC (.inr hs) hcl hp
def GP(own M:List Str)(hc:X.calm=true)(hi:PI X tg iter wi)(hg:∀c,PG (X.bf own M scope c) tg (g c))(ht:∀c,PTs (X.bf own M scope c) ifs (tt c))(he:∀c,PE (X.bf own M scope c) elt (te c))(hk:aZ X.env scope X.N M=true:=by rfl)(hs:∀x,foldedSetIterable iter X.env x=pure x:=by intro _;rfl) :
  PE X (.ListComp elt [⟨tg,iter,ifs,0⟩] scope pos) (tLC own.length wi g tt te):=by
 intro pins s σ H Q I h
 rw[eval_ListComp]
 have hka:=bQ hk
 refine wpAny_comprehension_free (use:=none) rfl hs (uD hk I) (eO hk) (λx hx hl=>((hka x hx).1 hl).2) (thn (hi pins s σ H _ I h) λv s1 h1=>thn h1 λitv s2 h2=>?_)
 obtain⟨it,fp,tn,J,H2,e,I2,T,st2,f2,W,⟨m0,w0⟩,turn⟩:=h2
 subst e
 refine uy (RR:=λacc C=>compPost (model X.prog X.w) X.A X.xe none (EP X pins σ Q) acc C) (D:=λys H=>∀p,H p=none->Q (.ref p) (upd H p (.lst ys))) (λ_=>hc) hk hg ht he I2 T st2 f2 w0 turn ?_
 intro s' m' ys H' hns hCn hDn J' d
 have lt2:∀{b:Addr}{o:Obj},s2.heap.get? b=some o->b≠s2.heap.objs.size+1:=λe=>ß (ā (Î e))
 refine⟨m',hns,λh' hb=>⟨.ref s2.heap.objs.size,_,uz (m:=m') (s:=s2) J' (õ I2.sz (ĳ _)) (ė (ß (ā I2.lt))) (λx c e=>?_) (λp hp=>?_) ?_ hb,rfl,d _ hDn⟩⟩
 ·obtain⟨v,o,ho,_⟩:=I2.cell x c e
  exact lt2 ho
 ·exact lt2 (I2.pin p hp).1
 ·rw[au (ŷ (ş _))]
  exact hCn
def Kl{Cm:Cx->Prop}(own M:List Str){i:Nat}{y:Str}{py spos:Pos}(hc:∀c,Cm (X.bf own M scope c))(hN:X.N.Nodup)(hiN:X.N[i]?=some y)(hx:Loc X.env.scope y)(hi:PIG Cm X tg iter wi)(hg:∀c,PG (X.bf own M scope c) tg (g c))(ht:∀c,PTs (X.bf own M scope c) ifs (tt c))(he:∀c,PE (X.bf own M scope c) elt (te c))(hsw:swapsWith (.ListComp elt [⟨tg,iter,ifs,0⟩] scope pos) (some (.Name y py)) spos.line X.env=pure true:=by rfl)(hk:aZ X.env scope X.N M=true:=by rfl)(hs:∀x,foldedSetIterable iter X.env x=pure x:=by intro _;rfl)(hf:X.fn y=true\/X.env.scope.names.lookup y=some .local:=by first|exact .inl rfl|exact .inr rfl|assumption) :
  PS X (.Assign [.Name y py] (.ListComp elt [⟨tg,iter,ifs,0⟩] scope pos) spos) (sU (tLC own.length wi g tt te) (iw i)):=by
 intro pins s σ H D I h
 rw[exec_Assign_Name_used _ _ _ _ hsw]
 have hka:=bQ hk
 refine Ã (wpAny_standAt (Ã ?_))
 show wpAny _ X.A (do let _ ←comprehension (.ListComp elt [⟨tg,iter,ifs,0⟩] scope pos) scope X.env _ (newList []) false (eval iter X.env) (some (assign (.Name y py) X.env))) _ _ s
 refine Ã (ń (wpAny_comprehension_free (use:=some (assign (.Name y py) X.env)) (Q:=λ_ s'=>SP X pins D .next s') rfl hs (uD hk I) (eO hk) (λx hx hl=>((hka x hx).1 hl).2)
  (thn (hi pins s σ H _ I h) λv s1 h1=>thn h1 λitv s2 h2=>?_)) (λ_ s' hq=>Ô (Ô hq)) λ_ _ e=>e)
 obtain⟨it,fp,tn,J,H2,e,I2,T,st2,f2,W,⟨m0,w0⟩,turn⟩:=h2
 subst e
 refine uy (RR:=λacc C=>compPost (model X.prog X.w) X.A X.xe (some (assign (.Name y py) X.env)) (λ_ s'=>SP X pins D .next s') acc C) (D:=λys H=>∀p,H p=none->iw i (.ref p) σ (upd H p (.lst ys)) D.nx) hc hk hg ht he I2 T st2 f2 w0 turn ?_
 intro s' m' ys H' hns hCn hDn J' d
 have lt2:∀{b:Addr}{o:Obj},s2.heap.get? b=some o->b≠s2.heap.objs.size+1:=λe=>ß (ā (Î e))
 show wpAny _ X.A (assign (.Name y py) X.env (.ref s2.heap.objs.size)) _ _ _
 refine wpAny_assign_Name (tL (v:=.ref s2.heap.objs.size) J' (λj h=>xY hN h hiN) hiN hx rfl (λs'' J'' ⟨a,hsb,ha⟩=>?_) hf)
 have hLne:X.env.locals≠s2.heap.objs.size+1:=ß (ā I2.lt)
 have hCa:s2.heap.objs.size+1≠a:=by
  rcases ha with ha|ha
  ·rw[ha];exact ė hLne
  ·obtain⟨v,o,ho,_⟩:=I2.cell _ _ ha
   exact ė (lt2 ho)
 refine⟨m',hns.sameBut hsb hCa,λh' hb=>⟨_,_,uz (m:=m') (s:=s2) J'' (õ I2.sz (ĳ _)) (ė hLne) (λx c e=>?_) (λp hp=>?_) ?_ hb,d _ hDn⟩⟩
 ·obtain⟨v,o,ho,_⟩:=I2.cell x c e
  exact lt2 ho
 ·exact lt2 (I2.pin p hp).1
 ·rw[au (ŷ (ş _))]
  exact hCn
def Ow(own M:List Str){i:Nat}{y:Str}{py spos:Pos}(hc:X.calm=true)(hN:X.N.Nodup)(hiN:X.N[i]?=some y)(hx:Loc X.env.scope y)(hi:PI X tg iter wi)(hg:∀c,PG (X.bf own M scope c) tg (g c))(ht:∀c,PTs (X.bf own M scope c) ifs (tt c))(he:∀c,PE (X.bf own M scope c) elt (te c))(hsw:swapsWith (.ListComp elt [⟨tg,iter,ifs,0⟩] scope pos) (some (.Name y py)) spos.line X.env=pure true:=by rfl)(hk:aZ X.env scope X.N M=true:=by rfl)(hs:∀x,foldedSetIterable iter X.env x=pure x:=by intro _;rfl)(hf:X.fn y=true\/X.env.scope.names.lookup y=some .local:=by first|exact .inl rfl|exact .inr rfl|assumption) :
  PS X (.Assign [.Name y py] (.ListComp elt [⟨tg,iter,ifs,0⟩] scope pos) spos) (sU (tLC own.length wi g tt te) (iw i)):=Kl own M (λ_=>hc) hN hiN hx hi hg ht he hsw hk hs hf
def R6(own:List Str)(hc:X.calm=true)(hi:PI X tg iter wi)(hg:∀c,PG (X.comp own scope c) tg (g c))(ht:∀c,PTs (X.comp own scope c) ifs (tt c))(he:∀c,PE (X.comp own scope c) elt (te c))(hk:gD X.env scope X.N=true:=by rfl)(hs:∀x,foldedSetIterable iter X.env x=pure x:=by intro _;rfl) :
  PE X (.ListComp elt [⟨tg,iter,ifs,0⟩] scope pos) (tLC own.length wi g tt te):=GP own X.N hc hi hg ht he (yF hk) hs
def Mr(own:List Str){i:Nat}{y:Str}{py spos:Pos}(hc:X.calm=true)(hN:X.N.Nodup)(hiN:X.N[i]?=some y)(hx:Loc X.env.scope y)(hi:PI X tg iter wi)(hg:∀c,PG (X.comp own scope c) tg (g c))(ht:∀c,PTs (X.comp own scope c) ifs (tt c))(he:∀c,PE (X.comp own scope c) elt (te c))(hsw:swapsWith (.ListComp elt [⟨tg,iter,ifs,0⟩] scope pos) (some (.Name y py)) spos.line X.env=pure true:=by rfl)(hk:gD X.env scope X.N=true:=by rfl)(hs:∀x,foldedSetIterable iter X.env x=pure x:=by intro _;rfl)(hf:X.fn y=true\/X.env.scope.names.lookup y=some .local:=by first|exact .inl rfl|exact .inr rfl|assumption) :
  PS X (.Assign [.Name y py] (.ListComp elt [⟨tg,iter,ifs,0⟩] scope pos) spos) (sU (tLC own.length wi g tt te) (iw i)):=Ow own X.N hc hN hiN hx hi hg ht he hsw (yF hk) hs hf
end
section
variable {X:Cx}{tg:Expr}{K:Ú}{g:CB->TG}{tt:CB->TT}{te:CB->TE}{σ:St}{H:Hp}{Q:VK}{n:Nat}
def Qp(K:Ú)(tl:TE):TI:=λσ H R=>tl σ H λx H1=>∃a,x=.ref a/\(((∃xs,SqL K H1 a xs)/\R (Itl K a) H1)\/((∃xs,SqT K H1 a xs)/\R (Itt K a) H1))
def Gz{l:Expr}{tl:TE}(hl:PE X l tl):PI X tg l (Qp X.K tl):=by
 intro pins s σ H R I h
 refine thn (hl pins s σ H _ I h) λv s1 ⟨x,H1,I1,r1,q1⟩=>?_
 obtain⟨a,e,q1⟩:=q1
 subst e
 cases r1
 rcases q1 with ⟨⟨xs,hq⟩,q⟩|⟨⟨xs,hq⟩,q⟩
 ·obtain⟨its,rv,p,hz⟩:=I1.list hq
  refine wpAny_pyIter_list p.isList ?_
  refine⟨s1.heap.objs.size,[s1.heap.objs.size],_,_,H1,rfl,I1.kept (t':=s1.toks) λb o e=>Ñ _ e,CZ a _,⟨_,á _ rfl,rfl,rfl⟩,λb hb=>?_,q⟩
  have e:b=s1.heap.objs.size:=by simpa using hb
  subst e
  exact I1.Qv (Ë _) (I1.hok.fresh (Ë _))
 ·obtain⟨its,rv,p,hz⟩:=I1.tuple hq
  refine wpAny_pyIter_tuple (show s1.heap.IsTuple a its.toArray from p) ?_
  refine⟨s1.heap.objs.size,[s1.heap.objs.size],_,_,H1,rfl,I1.kept (t':=s1.toks) λb o e=>Ñ _ e,yQ a _,⟨_,á _ rfl,rfl,rfl⟩,λb hb=>?_,q⟩
  have e:b=s1.heap.objs.size:=by simpa using hb
  subst e
  exact I1.Qv (Ë _) (I1.hok.fresh (Ë _))
end
end L2
namespace NfSort
open PySem PySem.W PyProof.Rows
def kwp{α:Type}(n:Nat)(key:Nat->Int):KasT α->(α->Prop)->Prop
 |.ret a,Q=>Q a
 |.ask i j k,Q=>i<n/\j<n/\kwp n key (k (decide (key i<key j))) Q
def bI{α:Type}{n:Nat}{key:Nat->Int}{Q Q':α->Prop}(h:∀a,Q a->Q' a):∀{t:KasT α},kwp n key t Q->kwp n key t Q'
 |.ret a,q=>h a q
 |.ask _ _ k,q=>⟨q.1,q.2.1,bI h q.2.2⟩
def fO{α β:Type}{n:Nat}{key:Nat->Int}{f:α->KasT β}{Q:β->Prop}:∀{t:KasT α},kwp n key t (λa=>kwp n key (f a) Q)->kwp n key (t.bind f) Q
 |.ret a,q=>q
 |.ask _ _ k,q=>⟨q.1,q.2.1,fO q.2.2⟩
def qw{α:Type}{n:Nat}{key:Nat->Int}{cmp:Nat->Nat->(Bool->Shared->Prop)->Shared->Prop}{s:Shared}{G:α->Shared->Prop}(hc:∀i j C,i<n->j<n->C (decide (key i<key j)) s->cmp i j C s) :
  ∀{t:KasT α},kwp n key t (λa=>G a s)->t.kasWp cmp G s
 |.ret _,q=>q
 |.ask i j k,q=>hc i j _ q.1 q.2.1 (qw hc q.2.2)
section
variable {n:Nat}{key:Nat->Int}{p:Array Nat}
def Pm(n:Nat)(p:Array Nat):Prop:=p.Perm (Ý n).toArray
def kk(key:Nat->Int)(p:Array Nat)(i:Nat):Int:=key (p.getD i 0)
def Pm.size(h:Pm n p):p.size=n:=by
 have:=Array.Perm.size_eq h
 simpa using this
def getD_eq(p:Array Nat)(i:Nat):p.getD i 0=(p[i]?).getD 0:=by
 by_cases h:i<p.size <;> simp[Array.getD,h]
def Pm.lt(h:Pm n p){i:Nat}(hi:i<n):p.getD i 0<n:=by
 have hs:=h.size
 have hi':i<p.size:=by omega
 have hm:p[i]∈p.toList:=by
  have:=Array.getElem_mem hi'
  simpa using this
 have hp:p.toList.Perm (Ý n):=by
  have:=Array.perm_iff_toList_perm.mp h
  simpa using this
 have e:p.getD i 0=p[i]:=by simp[Array.getD,hi']
 rw[e]
 exact ĥ.mp (hp.mem_iff.mp hm)
def Pm.rev(h:Pm n p)(i j:Nat):Pm n (kas_rev p i j):=Array.Perm.trans (mirror_perm _ _ _ _) h
def Pm.bub(h:Pm n p)(i j:Nat):Pm n (bubble p i j):=Array.Perm.trans (bubble_perm _ _ _) h
def vN(h:Pm n p){i j:Nat}(hj:j<=n)(t:Nat):kk key (kas_rev p i j) t=if i<=t/\t<j then kk key p (i+j - 1 - t) else kk key p t:=by
 unfold kk kas_rev
 rw[getD_eq,getElem?_mirror_all (by rw[h.size];exact hj)]
 split
 ·rw[getD_eq]
 ·rw[getD_eq]
def Qi(h:Pm n p){k l:Nat}(hk:k<n)(hl:l<=k)(t:Nat):kk key (bubble p k (k - l)) t=if t=l then kk key p k else if l<t/\t<=k then kk key p (t - 1) else kk key p t:=by
 unfold kk
 rw[getD_eq,getElem?_bubble (by rw[h.size];exact hk) _ (by omega)]
 have e:k - (k - l)=l:=by omega
 rw[e]
 split
 ·rw[getD_eq]
 ·split
  ·rw[getD_eq]
  ·rw[getD_eq]
def Up(key:Nat->Int)(p:Array Nat)(m:Nat):Prop:=∀i j,i<=j->j<m->kk key p i<=kk key p j
def Dn(key:Nat->Int)(p:Array Nat)(m:Nat):Prop:=∀i j,i<=j->j<m->kk key p j<=kk key p i
def Rn(key:Nat->Int)(p:Array Nat)(m q:Nat):Prop:=q+1<=m/\∀t,m<=t+q+1->t<m->kk key p t=kk key p (m - 1)
def Up.more{a:Nat}(h:Up key p a)(h1:1<=a)(hx:kk key p (a - 1)<=kk key p a):Up key p (a+1):=λi j hij hj=>by
 by_cases hja:j<a
 ·exact h i j hij hja
 ·obtain rfl:j=a:=by omega
  by_cases hi:i=j
  ·subst hi;exact Ą _
  ·exact Int.le_trans (h i (j - 1) (by omega) (by omega)) hx
def Dn.more{a:Nat}(h:Dn key p a)(h1:1<=a)(hx:kk key p a<=kk key p (a - 1)):Dn key p (a+1):=λi j hij hj=>by
 by_cases hja:j<a
 ·exact h i j hij hja
 ·obtain rfl:j=a:=by omega
  by_cases hi:i=j
  ·subst hi;exact Ą _
  ·exact Int.le_trans hx (h i (j - 1) (by omega) (by omega))
def Ba(hp:Pm n p):∀(f a:Nat),1<=a->a+f<=n->Up key p a->kwp n key (kas_asc p f a) (λm=>a<=m/\m<=a+f/\Up key p m/\(m<a+f->kk key p m<kk key p (m - 1)))
 |0,a,h1,hf,hu=>⟨Ë _,Ë _,hu,λh=>absurd h (by omega)⟩
 |f+1,a,h1,hf,hu=>by
  refine⟨hp.lt (by omega),hp.lt (by omega),?_⟩
  by_cases hc:key (p.getD a 0)<key (p.getD (a - 1) 0)
  ·(rw[decide_eq_true hc];dsimp only;rw[if_pos rfl])
   exact⟨Ë _,by omega,hu,λ_=>hc⟩
  ·(rw[decide_eq_false hc];dsimp only;rw[if_neg Ó])
   refine bI (λm ⟨a1,a2,a3,a4⟩=>⟨by omega,by omega,a3,λh=>a4 (by omega)⟩) (Ba hp f (a+1) (by omega) (by omega) (hu.more h1 (Int.not_lt.mp hc)))
def Bq(hp:Pm n p){a q:Nat}(ha:a<=n)(hr:Rn key p a q)(t:Nat):kk key (kas_rev p (a - (q+1)) a) t=kk key p t:=by
 rw[vN hp ha]
 split
 ·rename_i h
  rw[hr.2 t (by omega) h.2]
  exact hr.2 _ (by have:=hr.1;omega) (by omega)
 ·rfl
def Dn.eq{p':Array Nat}{m:Nat}(h:Dn key p m)(e:∀t,kk key p' t=kk key p t):Dn key p' m:=λi j a b=>by rw[e,e];exact h i j a b
def Cu:∀(f:Nat) (p:Array Nat) (a q:Nat),Pm n p->1<=a->a+f<=n->Dn key p a->Rn key p a q ->
  kwp n key (kas_desc f p a q) (λr=>Pm n r.1/\a<=r.2.1/\r.2.1<=a+f/\Dn key r.1 r.2.1/\Rn key r.1 r.2.1 r.2.2)
 |0,p,a,q,hp,h1,hf,hd,hr=>⟨hp,Ë _,Ë _,hd,hr⟩
 |f+1,p,a,q,hp,h1,hf,hd,hr=>by
  refine⟨hp.lt (by omega),hp.lt (by omega),?_⟩
  have fin:∀{p':Array Nat}{q':Nat},Pm n p'->Dn key p' (a+1)->Rn key p' (a+1) q'->kwp n key (kas_desc f p' (a+1) q') (λr=>Pm n r.1/\a<=r.2.1/\r.2.1<=a+(f+1)/\Dn key r.1 r.2.1/\Rn key r.1 r.2.1 r.2.2):=λx y z =>
   bI (λr ⟨a1,a2,a3,a4,a5⟩=>⟨a1,by omega,by omega,a4,a5⟩) (Cu f _ (a+1) _ x (by omega) (by omega) y z)
  have rn0:∀p':Array Nat,Rn key p' (a+1) 0:=λp'=>⟨by omega,λt h1 h2=>by
   have e:t=a+1 - 1:=by omega
   rw[e]⟩
  by_cases hc:key (p.getD a 0)<key (p.getD (a - 1) 0)
  ·(rw[decide_eq_true hc];dsimp only;rw[if_pos rfl])
   have hc':kk key p a<kk key p (a - 1):=hc
   by_cases hq:q > 0
   ·rw[if_pos hq]
    have e:=Bq (key:=key) hp (by omega) hr
    exact fin (hp.rev _ _) ((hd.more h1 (Int.le_of_lt hc')).eq e) (rn0 _)
   ·rw[if_neg hq]
    exact fin hp (hd.more h1 (Int.le_of_lt hc')) (rn0 _)
  ·(rw[decide_eq_false hc];dsimp only;rw[if_neg Ó])
   refine⟨hp.lt (by omega),hp.lt (by omega),?_⟩
   by_cases hc2:key (p.getD (a - 1) 0)<key (p.getD a 0)
   ·(rw[decide_eq_true hc2];dsimp only;rw[if_pos rfl])
    exact⟨hp,Ë _,(by show a<=a+(f+1);omega),hd,hr⟩
   ·(rw[decide_eq_false hc2];dsimp only;rw[if_neg Ó])
    have e:kk key p a=kk key p (a - 1):=Int.le_antisymm (Int.not_lt.mp hc2) (Int.not_lt.mp hc)
    refine fin hp (hd.more h1 (Int.le_of_eq e)) ⟨by have:=hr.1;omega,λt t1 t2=>?_⟩
    show _=kk key p a
    by_cases ht:t=a
    ·rw[ht]
    ·rw[e]
     exact hr.2 t (by omega) (by omega)
def wU{a:Nat}(hp:Pm n p)(h1:1<=a)(ha:a<=n)(hd:Dn key p a):kwp n key (kas_tail3 a n p) (λr=>Pm n r.2/\1<=r.1/\r.1<=n/\Up key r.2 r.1):=by
 unfold kas_tail3
 have hu:Up key (kas_rev p 0 a) a:=λi j hij hj=>by
  rw[vN hp ha,vN hp ha,if_pos ⟨by omega,by omega⟩,if_pos ⟨by omega,hj⟩]
  exact hd _ _ (by omega) (by omega)
 refine fO (bI (λm ⟨a1,a2,a3,_⟩=>?_) (Ba (hp.rev 0 a) (n - a) a h1 (by omega) hu))
 exact⟨hp.rev 0 a,by omega,by omega,a3⟩
def pQ{a:Nat}(hp:Pm n p)(ha:a+1<=n)(hd:Dn key p (a+1)):kwp n key (kas_descPart a n p) (λr=>Pm n r.2/\1<=r.1/\r.1<=n/\Up key r.2 r.1):=by
 unfold kas_descPart
 refine fO (bI (λr ⟨a1,a2,a3,a4,a5⟩=>?_) (Cu (n - (a+1)) p (a+1) 0 hp (by omega) (by omega) hd ⟨by omega,λt h1 h2=>by
  have e:t=a+1 - 1:=by omega
  rw[e]⟩))
 split
 ·exact wU (a1.rev _ _) (by omega) (by omega) (a4.eq (Bq a1 (by omega) a5))
 ·exact wU a1 (by omega) (by omega) a4
def Jy(hp:Pm n p)(h1:1<=n):kwp n key (kas_count n p) (λr=>Pm n r.2/\1<=r.1/\r.1<=n/\Up key r.2 r.1):=by
 unfold kas_count
 have u1:Up key p 1:=λi j hij hj=>by
  have e:i=j:=by omega
  rw[e];exact Ą _
 refine fO (bI (λm ⟨a1,a2,a3,a4⟩=>?_) (Ba hp (n - 1) 1 (Ë _) (by omega) u1))
 by_cases hm:m=n
 ·rw[if_pos (by simpa using hm)]
  exact⟨hp,by omega,by omega,a3⟩
 ·rw[if_neg (by simpa using hm)]
  have hlt:=a4 (by omega)
  by_cases hm1:m > 1
  ·rw[if_pos hm1]
   refine⟨hp.lt (by omega),hp.lt (by omega),?_⟩
   by_cases hc:key (p.getD 0 0)<key (p.getD (m - 1) 0)
   ·(rw[decide_eq_true hc];dsimp only;rw[if_pos rfl])
    exact⟨hp,by omega,by omega,a3⟩
   ·(rw[decide_eq_false hc];dsimp only;rw[if_neg Ó])
    have hall:∀t,t<m->kk key p t=kk key p 0:=λt ht=>by
     have e1:=a3 0 t (by omega) ht
     have e2:=a3 t (m - 1) (by omega) (by omega)
     have e3:kk key p (m - 1)<=kk key p 0:=Int.not_lt.mp hc
     omega
    have e:∀t,kk key (kas_rev p 0 m) t=kk key p t:=λt=>by
     rw[vN hp (by omega)]
     split
     ·rename_i h
      rw[hall t h.2,hall _ (by omega)]
     ·rfl
    refine pQ (hp.rev 0 m) (by omega) (Dn.eq (p:=p) (Dn.more (λi j hij hj=>?_) (by omega) (Int.le_of_lt hlt)) e)
    rw[hall i (by omega),hall j hj]
    exact Ą _
  ·rw[if_neg hm1]
   obtain rfl:m=1:=by omega
   refine pQ hp (by omega) (Dn.more (λi j hij hj=>?_) (by omega) (Int.le_of_lt hlt))
   have e:i=j:=by omega
   rw[e];exact Ą _
def qQ{k:Nat}(hp:Pm n p)(hk:k<n)(hu:Up key p k):∀(f l r:Nat),l<=r->r<=k->r<=l+f->(∀t,t<l->kk key p t<=kk key p k)->(∀t,r<=t->t<k->kk key p k<kk key p t) ->
  kwp n key (kas_place p k f l r) (λl'=>l'<=k/\(∀t,t<l'->kk key p t<=kk key p k)/\(∀t,l'<=t->t<k->kk key p k<kk key p t))
 |0,l,r,h1,h2,h3,h4,h5=>⟨by omega,h4,λt a b=>h5 t (by omega) b⟩
 |f+1,l,r,h1,h2,h3,h4,h5=>by
  unfold kas_place
  by_cases hlr:l ≥ r
  ·rw[if_pos hlr]
   exact⟨by omega,h4,λt a b=>h5 t (by omega) b⟩
  ·rw[if_neg hlr]
   have hm:(l+r) / 2<r:=by omega
   refine⟨hp.lt hk,hp.lt (by omega),?_⟩
   by_cases hc:key (p.getD k 0)<key (p.getD ((l+r) / 2) 0)
   ·(rw[decide_eq_true hc];dsimp only;rw[if_pos rfl])
    have hc':kk key p k<kk key p ((l+r) / 2):=hc
    exact qQ hp hk hu f l _ (by omega) (by omega) (by omega) h4 λt a b=>Int.lt_of_lt_of_le hc' (hu _ t a b)
   ·(rw[decide_eq_false hc];dsimp only;rw[if_neg Ó])
    have hc':kk key p ((l+r) / 2)<=kk key p k:=Int.not_lt.mp hc
    exact qQ hp hk hu f _ r (by omega) (by omega) (by omega) (λt a=>Int.le_trans (hu t _ (by omega) (by omega)) hc') h5
def JF:∀(f:Nat) (p:Array Nat) (k:Nat),Pm n p->k+f<=n->Up key p k->kwp n key (kas_bin f p k) (λp'=>Pm n p'/\Up key p' (k+f))
 |0,p,k,hp,hk,hu=>⟨hp,hu⟩
 |f+1,p,k,hp,hk,hu=>by
  unfold kas_bin
  refine fO (bI (λl ⟨a1,a2,a3⟩=>?_) (qQ hp (by omega) hu k 0 k (ú _) (Ë _) (by omega) (λt h=>absurd h (by omega)) (λt h1 h2=>absurd h1 (by omega))))
  have e:=Qi (key:=key) hp (k:=k) (by omega) a1
  have hu':Up key (bubble p k (k - l)) (k+1):=λi j hij hj=>by
   rw[e,e]
   by_cases hi:i=l
   ·rw[if_pos hi]
    by_cases hj':j=l
    ·rw[if_pos hj'];exact Ą _
    ·rw[if_neg hj',if_pos ⟨by omega,by omega⟩]
     exact Int.le_of_lt (a3 _ (by omega) (by omega))
   ·rw[if_neg hi]
    by_cases hi2:l<i/\i<=k
    ·rw[if_pos hi2,if_neg (by omega),if_pos ⟨by omega,by omega⟩]
     exact hu _ _ (by omega) (by omega)
    ·rw[if_neg hi2]
     by_cases hj':j=l
     ·rw[if_pos hj']
      exact a2 i (by omega)
     ·rw[if_neg hj']
      by_cases hj2:l<j/\j<=k
      ·rw[if_pos hj2]
       exact hu _ _ (by omega) (by omega)
      ·rw[if_neg hj2]
       exact hu _ _ hij (by omega)
  refine bI (λp' ⟨b1,b2⟩=>⟨b1,?_⟩) (JF f _ (k+1) (hp.bub _ _) (by omega) hu')
  have e2:k+(f+1)=k+1+f:=by omega
  rw[e2];exact b2
def Bk(h1:1<=n):kwp n key (kas_sort n) (λp=>Pm n p/\Up key p n):=by
 unfold kas_sort
 refine fO (bI (λr ⟨a1,a2,a3,a4⟩=>?_) (Jy (p:=(Ý n).toArray) (Array.Perm.refl _) h1))
 have e:max r.1 1=r.1:=by omega
 rw[e]
 split
 ·refine bI (λp' ⟨b1,b2⟩=>⟨b1,?_⟩) (JF (n - r.1) r.2 r.1 a1 (by omega) a4)
  have e2:r.1+(n - r.1)=n:=by omega
  rw[e2] at b2;exact b2
 ·have e2:r.1=n:=by omega
  rw[e2] at a4
  exact⟨a1,a4⟩
end
end NfSort
namespace L2
open PySem PySem.Spec PyProof.Rows
section
variable {prog:Program}{w:World}{A:Around}{E:Value->Shared->Prop}{s:Shared}
end
section
variable {X:Cx}{pos:Pos}
def Ln(K:Ú)(n:Nat)(t:TGs):TG:=λv σ H Q=>∃a xs,v=.ref a/\SqL K H a xs/\xs.length=n/\t xs σ H Q
end
section
variable {X:Cx}
def wI:bK X (.builtin "isinstance") (λxs H Q=>∃x c t b,xs=[x,.ty c]/\TyOf X.K H x t/\Ŷ X.K t (.type c)=some b/\Q (.bl b) H):=by
 intro pins s σ H xs us Q I r h
 obtain⟨x,c,t,b,rfl,ty,e,q⟩:=h
 obtain⟨u,u2,rfl,rx,rc⟩:=vals2 r
 cases rc
 exact Ef I rx ty e λtk=>⟨.bl b,H,I.tok _,rfl,q⟩
def Bd:∀{bs:List Bool}{us:List Value},Vals (bs.map V.bl) us->us=bs.map Value.bool
 |[],_,h=>by cases h;rfl
 |b::bs,_,h=>by
  cases h with
  |cons r t =>
   cases r
   rw[Bd t]
   rfl
def all_range(bs:List Bool):(Ý bs.length).all (λi=>bs.getD i true)=bs.all id:=by
 rw[Č]
 simp only[ĝ,ĥ]
 constructor
 ·intro h x hx
  obtain⟨i,hi,e⟩:=List.mem_iff_getElem.mp hx
  have q:=h i hi
  simp[hi] at q
  rw[←e];exact q
 ·intro h i hi
  have q:=h bs[i] (Ĩ hi)
  simpa[hi] using q
def EY(hc:X.calm=true):bK X (.builtin "all") (λxs H Q=>∃(p:Addr) (bs:List Bool),xs=[.ref p]/\SqL X.K H p (bs.map V.bl)/\Q (.bl (bs.all id)) H):=by
 intro pins s σ H xs us Q I r h
 obtain⟨p,bs,rfl,hp,q⟩:=h
 obtain⟨u,rfl,rx⟩:=vals1 r
 cases rx
 obtain⟨its,rv,pl,hz⟩:=I.list hp
 have e:=Bd rv
 subst e
 have hlt:p≠s.heap.objs.size:=by obtain⟨o,ho,_⟩:=pl.isList;exact ß (Î ho)
 refine call_all_walk (wpAny_pyIter_list pl.isList ?_)
 refine⟨_,_,_,_,_,_,λi=>bs.getD i true,rfl,Walks.list (A:=X.A.in1) (I.ok.hd hc) _ p hlt _,⟨⟨_,á _ rfl,rfl,rfl⟩,pl.isList.push _⟩,?_,λh' tk hk=>?_⟩
 ·intro i v s Q E hP hQ
  have hP':(bs.map Value.bool)[i]?=some v:=by simpa using hP
  rw[Þ] at hP'
  cases hb:bs[i]? with
  |none=>rw[hb] at hP';cases hP'
  |some b =>
   rw[hb] at hP'
   cases hP'
   refine Ĥ ?_
   have e:bs.getD i true=b:=by rw[Ï,hb];rfl
   have hQ':Q (bs.getD i true) s:=hQ
   rw[e] at hQ'
   exact hQ'
 ·have e:(Ý (bs.map Value.bool).toArray.size).all (λi=>bs.getD i true)=bs.all id:=by
   rw[Í,À]
   exact all_range bs
  rw[e]
  refine⟨.bl (bs.all id),H,I.kept λb o eb=>hk b o ?_ (Ñ _ eb),rfl,q⟩
  intro hm
  have:b=s.heap.objs.size:=by simpa using hm
  exact absurd (Î eb) (by rw[this];exact Ă _)
def Eu(hc:X.calm=true):bK X (.builtin "min") (λxs H Q=>∃p a b,xs=[.ref p]/\SqT X.K H p [.int a,.int b]/\Q (.int (if b<a then b else a)) H):=by
 intro pins s σ H xs us Q I r h
 obtain⟨p,a,b,rfl,hp,q⟩:=h
 obtain⟨u,rfl,rx⟩:=vals1 r
 cases rx
 obtain⟨its,rv,pl,hz⟩:=I.tuple hp
 obtain⟨v1,v2,rfl,⟨t1,rfl⟩,⟨t2,rfl⟩⟩:=vals2 rv
 have pl':s.heap.IsTuple p (intItems #[(a,t1),(b,t2)]):=by
  have z:s.heap.IsTuple p #[ň a t1,ň b t2]:=pl
  simpa[intItems] using z
 have hlt:p<s.heap.objs.size:=by obtain⟨o,ho,_⟩:=pl;exact Î ho
 refine call_min_walk (wpAny_pyIter_tuple pl' ?_)
 refine⟨_,[s.heap.objs.size,p],[s.heap.objs.size],_,_,_,_,rfl,Walks.tuple (A:=X.A.in1) (I.ok.hd hc) _ p (ß hlt) (intItems #[(a,t1),(b,t2)]),⟨⟨_,á _ rfl,rfl,rfl⟩,pl'.push _⟩,λc hc=>?_,by simp[intItems],
  CmpOf.ints_lt (numAt #[(a,t1),(b,t2)]) (λ_ _=>intItems_at),λv h' tk hP hk=>?_⟩
 ·show c<(s.heap.push _).objs.size
  rw[Ŝ]
  rcases Ð.mp hc with rfl|hc
  ·exact ş _
  ·have:c=p:=by simpa using hc
   rw[this];exact ā hlt
 ·have hv:v=if b<a then ň b t2 else ň a t1:=by
   have hP':(intItems #[(a,t1),(b,t2)])[argBest (λi j=>decide (numAt #[(a,t1),(b,t2)] i<numAt #[(a,t1),(b,t2)] j)) 1]?=some v:=by
    have hsz2:(intItems #[(a,t1),(b,t2)]).size - 1=1:=by simp[intItems]
    rw[←hsz2];exact hP
   by_cases hba:b<a
   ·have e:argBest (λi j=>decide (numAt #[(a,t1),(b,t2)] i<numAt #[(a,t1),(b,t2)] j)) 1=1:=by simp[argBest,numAt,hba]
    rw[e] at hP'
    simpa[intItems,hba] using hP'.symm
   ·have e:argBest (λi j=>decide (numAt #[(a,t1),(b,t2)] i<numAt #[(a,t1),(b,t2)] j)) 1=0:=by simp[argBest,numAt,hba]
    rw[e] at hP'
    simpa[intItems,hba] using hP'.symm
  subst hv
  refine⟨.int (if b<a then b else a),H,I.kept λb o eb=>hk b o ?_ (Ñ _ eb),?_,q⟩
  ·intro hm
   have:b=s.heap.objs.size:=by simpa using hm
   exact absurd (Î eb) (by rw[this];exact Ă _)
  ·by_cases hba:b<a
   ·rw[if_pos hba,if_pos hba];exact⟨_,rfl⟩
   ·rw[if_neg hba,if_neg hba];exact⟨_,rfl⟩
def Qn{prog:Program}{w:World}{A:Around}{E:Value->Shared->Prop}{s:Shared}{l:Addr}{n:Nat}{x:Int}{t:Tok}{u:Value}{Q:Value->Shared->Prop}{its:List Value}(ho:s.heap.get? l=some { cls:=.type "list",data:=.seq its.toArray n })(hfit:¬(!Builtin.List.listFitsIndex x)=true)(hsz:its.toArray.size<=sizeLine)(h:Q .none { s with heap:=s.heap.update l (Ü λxs=>(xs.extract 0 (if x<0 then (x+(xs.size:Int)).toNat else min x.toNat xs.size)).push u++xs.extract (if x<0 then (x+(xs.size:Int)).toNat else min x.toNat xs.size)),toks:=s.toks }) :
  wpAny (model prog w) A (call (.builtin "list.insert") [.ref l,.int x t,u]) Q E s:=by
 generalize its.toArray=ia at ho hsz
 exact call_meets PySem.F.slot_list_insert ⟨_,ho,rfl⟩ PySem.F.entry_list_insert (PySem.F.args_list_insert_3 _ _ _) (PySem.AutoSeq1.list_insert_list_int_val_1 l ia n x t u hfit hsz) ⟨ho,h⟩
def Bs:V->List V->Hp->VK->Prop:=λx vs H Q=>∃l xs k y,x=.ref l/\vs=[.int (k:Nat),y]/\H l=some (.lst xs)/\k<=xs.length/\xs.length<sizeLine/\Q .non (upd H l (.lst (xs.take k++y::xs.drop k)))
def DN:MtM X "list.insert" Bs:=by
 intro pins s σ H x vs v us Q I rx rv h
 obtain⟨l,xs,k,y,rfl,rfl,hH,hk,hz,q⟩:=h
 cases rx
 obtain⟨u1,u,rfl,⟨t,rfl⟩,ru⟩:=rv.two
 obtain⟨z,its,n,r,hl,e⟩:=I.yd hH
 have h24:(sizeLine:Nat)=16777216:=ï
 have hfit:¬(!Builtin.List.listFitsIndex (k:Int))=true:=by
  have q1:decide (-(2 ^ 63:Int)<=(k:Int))=true:=decide_eq_true (by omega)
  have q2:decide ((k:Int)<2 ^ 63)=true:=decide_eq_true (by omega)
  unfold Builtin.List.listFitsIndex
  rw[q1,q2]
  exact Ó
 have hsz:its.toArray.size<=sizeLine:=by
  have e1:its.toArray.size=xs.length:=(Í ..).trans hl.symm
  rw[e1]
  exact z
 have hx0:¬((k:Int)<0):=by omega
 have hxk:(k:Int).toNat=k:=é k
 generalize hx:(k:Int)=x at hfit hx0 hxk
 refine Qn (its:=its) e hfit hsz ?_
 refine⟨.non,_,I.K6 (its':=its.take k++u::its.drop k) hH e ?_ ?_ ?_,rfl,q⟩
 ·have hm:min k its.length=k:=by omega
  have e2:=W.kl_ins_eq its k u
  simp only[hx0,if_false,hxk,Í,hm]
  exact e2
 ·exact(r.take k).append (.cons ru (r.drop k))
 ·rw[È,ì,İ,Ĉ]
  omega
end
abbrev Tie:=Int×Int
def Pr(H:Hp)(v:V)(t:Tie):Prop:=∃p,v=.ref p/\H p=some (.tup [.int t.1,.int t.2])
abbrev Prs(H:Hp):List V->List Tie->Prop:=Paired (Pr H)
def aL(t:Tie):Int:=64 * t.1+t.2
def lZ(t:Tie):Prop:=0<=t.2/\t.2<64
def code_inj{a b:Tie}(ha:lZ a)(hb:lZ b)(h:aL a=aL b):a=b:=by
 obtain⟨a1,a2⟩:=a
 obtain⟨b1,b2⟩:=b
 unfold lZ aL at *
 simp only at *
 have e:a1=b1:=by omega
 have e2:a2=b2:=by omega
 rw[e,e2]
def jY(h:Heap)(u:Value)(t:Tie):Prop:=∃a o t1 t2 n,u=.ref a/\h.get? a=some o/\o.cls=.type "tuple"/\o.data=.seq #[.int t.1 t1,.int t.2 t2] n
def jY.keep{h h':Heap}{u:Value}{t:Tie}(x:jY h u t)(k:∀a o,h.get? a=some o->o.cls=.type "tuple"->h'.get? a=some o):jY h' u t:=by
 obtain⟨a,o,t1,t2,n,e,ho,hc,hd⟩:=x
 exact⟨a,o,t1,t2,n,e,k a o ho hc,hc,hd⟩
def Oz{α β:Type}{F:α->β->Prop}{l₁:List α}{l₂:List β}(h:Paired F l₁ l₂):∀{i:Nat}{b:β},l₂[i]?=some b->∃a,l₁[i]?=some a/\F a b:=by
 induction h with
 |nil=>intro i x e;simp at e
 |cons r t ih =>
  intro i x e
  cases i with
  |zero=>simp at e;subst e;exact⟨_,rfl,r⟩
  |succ i =>
   obtain⟨c,e1,f⟩:=ih (by simpa using e)
   exact⟨c,by simpa using e1,f⟩
def xG{α β:Type}{F:α->β->Prop}{l₁:List α}{l₂:List β}(h:Paired F l₁ l₂)(da:α)(db:β):∀(p:List Nat),(∀i∈p,i<l₂.length)->Paired F (p.map λi=>l₁.getD i da) (p.map λi=>l₂.getD i db)
 |[],_=>.nil
 |i::p,hp=>by
  have hi:i<l₂.length:=hp i Å
  obtain⟨a,e,f⟩:=Oz h (i:=i) (b:=l₂[i]) (by simp[hi])
  refine .cons ?_ (xG h da db p λj hj=>hp j (Ä _ hj))
  have e1:l₁.getD i da=a:=by rw[Ï,e];rfl
  have e2:l₂.getD i db=l₂[i]:=by simp[hi]
  show F (l₁.getD i da) (l₂.getD i db)
  rw[e1,e2]
  exact f
def Om{α:Type}:∀us:List α,į (λx=>x.snd) (us.zip us)=us
 |[]=>rfl
 |u::us=>by rw[List.zip_cons_cons,æ,Om us]
def cY{α:Type}(l:List α)(d:α):(Ý l.length).map (λi=>l.getD i d)=l:=by
 apply List.ext_getElem
 ·simp
 ·intro i h1 h2
  simp at h1 ⊢
  simp[h1]
section
variable {X:Cx}{pins:List (Addr×Obj)}{σ:St}{H:Hp}{s:Shared}
def Inv.pairs(I:Inv X pins σ H s):∀{vs:List V}{ts:List Tie}{us:List Value},Prs H vs ts->Vals vs us->Paired (jY s.heap) us ts
 |_,_,_,.nil,r=>by cases r;exact .nil
 |_,_,_,.cons p q,r=>by
  cases r with
  |cons r rr =>
   refine .cons ?_ (I.pairs q rr)
   obtain⟨a,rfl,e⟩:=p
   cases r
   obtain⟨_,its,rv,⟨o,ho,hc,n,hd⟩⟩:=I.hok a _ e
   obtain⟨v1,v2,rfl,⟨t1,rfl⟩,⟨t2,rfl⟩⟩:=vals2 rv
   exact⟨a,o,t1,t2,n,rfl,ho,hc,hd⟩
end
section
variable {prog:Program}{w:World}{A:Around}{E:Value->Shared->Prop}{s:Shared}
def Ik{x y:Value}{a b:Tie}{Q:Bool->Shared->Prop}(hx:jY s.heap x a)(hy:jY s.heap y b)(na:lZ a)(nb:lZ b)(h:Q (decide (aL a<aL b)) s):wpAny (model prog w) A (keyLt' (tuples' true) x y) Q E s:=by
 obtain⟨p,o,t1,t2,n,rfl,ho,hc,hd⟩:=hx
 obtain⟨p',o',t1',t2',n',rfl,ho',hc',hd'⟩:=hy
 obtain⟨a1,a2⟩:=a
 obtain⟨b1,b2⟩:=b
 unfold lZ at na nb
 simp only at na nb
 refine W.kat_lt ho hd ho' hd' ?_
 refine W.kat_cons (wpAny_eqBool_int ?_)
 by_cases e1:a1=b1
 ·subst e1
  rw[beq_self_eq_true]
  refine W.kat_yes (W.kat_cons (wpAny_eqBool_int ?_))
  by_cases e2:a2=b2
  ·subst e2
   rw[beq_self_eq_true]
   refine W.kat_yes (W.kat_nil ?_)
   have e:decide (aL (a1,a2)<aL (a1,a2))=false:=decide_eq_false (Int.lt_irrefl _)
   rw[e] at h
   exact h
  ·rw[beq_eq_false_iff_ne.mpr e2]
   refine W.kat_no (W.kat_one _ _ (lt_int ?_))
   have e:decide (aL (a1,a2)<aL (a1,b2))=decide (a2<b2):=by
    apply decide_eq_decide.mpr
    unfold aL
    omega
   rw[e] at h
   exact h
 ·rw[beq_eq_false_iff_ne.mpr e1]
  refine W.kat_no (oneLt_int ?_)
  have e:decide (aL (a1,a2)<aL (b1,b2))=decide (a1<b1):=by
   apply decide_eq_decide.mpr
   unfold aL
   simp only
   constructor
   ·intro h;omega
   ·intro h;omega
  rw[e] at h
  exact h
def IW:∀{us:List Value}{ts:List Tie},Paired (jY s.heap) us ts->∃fs,W.KatTups s.heap us fs/\fs.length=us.length/\∀v∈fs,∃i t,v=ň i t
 |_,_,.nil=>⟨[],.nil,rfl,λ_ h=>nomatch h⟩
 |_,_,.cons p q=>by
  obtain⟨a,o,t1,t2,n,rfl,ho,hc,hd⟩:=p
  obtain⟨fs,k,hl,hv⟩:=IW q
  refine⟨_::fs,.cons ho hc hd (f:=ň _ t1) rfl k,by simp[hl],λv hv'=>?_⟩
  rcases Ð.mp hv' with rfl|h
  ·exact⟨_,_,rfl⟩
  ·exact hv v h
def Q9{n:Nat}{key:Nat->Int}{p:Array Nat}(hp:NfSort.Pm n p)(h1:1<=n)(hs:NfSort.Up key p n):NfSort.kwp n key (W.kas_count n p) (λr=>r.1=n/\r.2=p):=by
 unfold W.kas_count
 have go:∀(f a:Nat),1<=a->a+f=n->NfSort.kwp n key (W.kas_asc p f a) (λm=>m=n):=by
  intro f
  induction f with
  |zero=>intro a _ h;exact h
  |succ f ih =>
   intro a ha h
   refine⟨hp.lt (by omega),hp.lt (by omega),?_⟩
   have hc:¬key (p.getD a 0)<key (p.getD (a - 1) 0):=Int.not_lt.mpr (hs (a - 1) a (by omega) (by omega))
   rw[decide_eq_false hc]
   exact ih (a+1) (by omega) (by omega)
 refine NfSort.fO (NfSort.bI (λm e=>?_) (go (n - 1) 1 (Ë _) (by omega)))
 rw[if_pos (by simpa using e)]
 exact⟨e,rfl⟩
open PySem.W in
def J2{prog:Program}{w:World}{A:Around}{E:Value->Shared->Prop}{κ:SortKind}{it:Array Keyed}{n:Nat}{Q:Unit->SortSt->Shared->Prop}{G:Array Nat->Shared->Prop}{s:Shared}(h2:2<=n)(hmr:minRun' n n 0<=n)(hG:∀p' st' s',p'.size=n->arrOf st'=p'.map (kas_item it)->failedOf st'=none->G p' s'->Q () st' s')(h:(kas_count n (ŀ (Ý n))).kasWp (kas_cmp prog w A κ it) (λr s'=>r.1=n/\G r.2 s') s) :
  kasC (model prog w) A E sortRuns' Q (kas_st κ it (ŀ (Ý n))) s:=by
 obtain⟨r,rfl⟩:∃r,n=r+2:=⟨n - 2,by omega⟩
 have hrs:(ŀ (Ý (r+2))).size=r+2:=by simp
 rw[sortRuns'_eq]
 refine kasC_bind (kasC_get ?_)
 dsimp only
 have hsz:(arrOf (kas_st κ it (ŀ (Ý (r+2))))).size=r+2:=by
  show((ŀ (Ý (r+2))).map (kas_item it)).size=_
  rw[Array.size_map,hrs]
 simp only[hsz]
 refine kasC_bind (kasC_range ?_)
 show kasC _ _ _ (forIn (0::1::List.range' 2 r) _ _) _ _ _
 refine kasC_cons ?_
 dsimp only
 rw[if_neg (by omega)]
 simp only[Nat.sub_zero,Nat.zero_add]
 refine kasC_bind (kas_count_ (by omega) (by rw[hrs];exact Ë _) (λm p' s' hm1 hm2 hp hg=>?_) h)
 have hps:p'.size=r+2:=hp.trans hrs
 obtain⟨e,hg⟩:=hg
 have e':m=r+2:=e
 subst e'
 dsimp only
 rw[if_neg (by omega)]
 refine kasC_bind (kasC_get ?_)
 rw[show(pendingOf (kas_st κ it p')).back?=none from rfl]
 dsimp only
 refine kasC_bind (kasC_modify (kasC_pure ?_))
 show kasC _ _ _ (forIn (1::List.range' 2 r) _ _) _ _ _
 refine kasC_cons ?_
 dsimp only
 rw[if_pos (Ë _)]
 refine kasC_pure ?_
 dsimp only
 refine kasC_bind (kasC_range ?_)
 show kasC _ _ _ (forIn (0::1::List.range' 2 r) _ _) _ _ _
 refine kasC_cons ?_
 refine kasC_bind (kasC_get ?_)
 rw[if_pos (show(pendingOf (setPending (kas_st κ it p') ((pendingOf (kas_st κ it p')).push (0,r+2,0)))).size<=1 from Ë 1)]
 refine kasC_pure ?_
 dsimp only
 exact kasC_pure (hG p' _ _ hps rfl rfl hg)
def Srt(ts:List Tie):Prop:=ts.length<64\/ts.length=300/\∀i j,i<=j->j<ts.length->aL (ts.getD i (0,0))<=aL (ts.getD j (0,0))
def Srt.lt{ts:List Tie}:Srt ts->ts.length<512
 |.inl h=>by omega
 |.inr h=>by omega
def Dh{a:Addr}{us:List Value}{ts:List Tie}{n:Nat}{P:PySem.Fin->Shared->Prop}(ho:s.heap.get? a=some (seqObj "list" us.toArray n))(hp:Paired (jY s.heap) us ts)(hn:∀t∈ts,lZ t)(h64:Srt ts)(h:∀p:List Nat,p.Perm (Ý us.length)->(∀i j,i<=j->j<us.length->aL (ts.getD (p.getD i 0) (0,0))<=aL (ts.getD (p.getD j 0) (0,0))) ->
   P (.done (.ret .none)) { s with heap:=sortedHeap s.heap a us (p.map λi=>us.getD i ĕ).toArray }) :
  wpAny (model prog w) A (Builtin.«list.sort» ⟨[.ref a],[]⟩) P E s:=by
 have hlen:=hp.length
 have hbig:=h64.lt
 have h24:=ï
 rw[list_sort_plain]
 have ha:a<s.heap.objs.size:=Î ho
 refine Ã (listItems_at ho rfl ?_)
 refine Ã (listUpdate_at ho rfl ?_ (by rw[Í,ï];omega) (ú _))
 obtain⟨e1,ho1⟩:∃e1,(s.heap.update a (Ü λ_=>(#[]:Array Value))).get? a=some (seqObj "list" #[] e1):=⟨_,get?_update_seq ho (λ_=>#[])⟩
 refine Ã (seqEpoch_at ho1 rfl ?_)
 refine Ã (wpAny_newTuple ?_ (by show us.length<=_;rw[ï];omega))
 refine Ã (wpAny_newList ?_ (ú _))
 refine Ē ?_
 have ho6:(((s.heap.update a (Ü λ_=>(#[]:Array Value))).push (seqObj "tuple" us.toArray 0)).push (seqObj "list" #[] 0)).get? a=some (seqObj "list" #[] e1):=by
  rw[Ę _ _ _ (by rw[size_push',Ė];exact ß (ā ha)),Ę _ _ _ (by rw[Ė];exact ß ha)]
  exact ho1
 have kept:∀b o,s.heap.get? b=some o->o.cls=.type "tuple"->(((s.heap.update a (Ü λ_=>(#[]:Array Value))).push (seqObj "tuple" us.toArray 0)).push (seqObj "list" #[] 0)).get? b=some o:=λb o q hc=>by
  have hlt:b<s.heap.objs.size:=Î q
  have hne:b≠a:=λz=>by
   rw[z,ho] at q
   cases q
   have z2:(Đ "list")=Đ "tuple":=hc
   injection z2 with z3
   exact absurd z3 (by decide)
  rw[Ę _ _ _ (by rw[size_push',Ė];exact ß (ā hlt)),Ę _ _ _ (by rw[Ė];exact ß hlt),Heap.get?_update_ne _ _ _ _ hne]
  exact q
 show wpAny (model prog w) A _ P E { s with heap:=((s.heap.update a (Ü λ_=>(#[]:Array Value))).push (seqObj "tuple" us.toArray 0)).push (seqObj "list" #[] 0) }
 dsimp only
 have hsz:us.toArray.size=us.length:=by simp
 have hp6:Paired (jY (((s.heap.update a (Ü λ_=>(#[]:Array Value))).push (seqObj "tuple" us.toArray 0)).push (seqObj "list" #[] 0))) us ts:=Paired.DQ hp λu t x=>x.keep kept
 by_cases h2:us.toArray.size<2
 ·rw[if_pos h2,if_pos h2]
  refine Ã (Ô ?_)
  rw[StateT.run_pure]
  refine Ã (Ô ?_)
  dsimp only
  have eout:(arrOf (SortSt.mk' general' (us.toArray.zip us.toArray) #[] 7 none)).map (·.2)=((Ý us.length).map λi=>us.getD i ĕ).toArray:=by
   rw[cY]
   show(us.toArray.zip us.toArray).map (·.2)=us.toArray
   apply Array.toList_inj.mp
   simp
   exact Om us
  rw[eout]
  refine Ã (seqEpoch_at ho6 rfl ?_)
  refine Ã (listUpdate_at ho6 rfl ?_ (ú _) (by rw[Í,À,ŗ,ï];omega))
  simp only[bne_self_eq_false,Ħ,if_false]
  refine Ô (h _ (List.Perm.refl _) λi j hij hj=>?_)
  have:i=j:=by omega
  subst this
  exact Ą _
 ·rw[if_neg h2,if_neg h2]
  have h2':2<=us.length:=by omega
  obtain⟨fs,hk,hfl,hfi⟩:=IW (s:={ s with heap:=((s.heap.update a (Ü λ_=>(#[]:Array Value))).push (seqObj "tuple" us.toArray 0)).push (seqObj "list" #[] 0) }) hp6
  refine Ã (W.kat_kind (T:=.type "int") hk (by omega) (λv hv=>by obtain⟨i,t,rfl⟩:=hfi v hv;exact W.Looks.of_pure rfl) rfl ?_)
  have hcmp:∀i j C,i<us.length->j<us.length->C (decide (aL (ts.getD i (0,0))<aL (ts.getD j (0,0)))) { s with heap:=((s.heap.update a (Ü λ_=>(#[]:Array Value))).push (seqObj "tuple" us.toArray 0)).push (seqObj "list" #[] 0) } ->
    W.kas_cmp prog w A (tuples' true) (us.toArray.zip us.toArray) i j C { s with heap:=((s.heap.update a (Ü λ_=>(#[]:Array Value))).push (seqObj "tuple" us.toArray 0)).push (seqObj "list" #[] 0) }:=λi j C hi hj hC=>by
   unfold W.kas_cmp
   rw[W.kat_item rfl,W.kat_item rfl]
   have key:∀k,k<us.length->jY (((s.heap.update a (Ü λ_=>(#[]:Array Value))).push (seqObj "tuple" us.toArray 0)).push (seqObj "list" #[] 0)) (us.getD k ĕ) (ts.getD k (0,0))/\lZ (ts.getD k (0,0)):=λk hk=>by
    have hk':k<ts.length:=by omega
    have ek:ts.getD k (0,0)=ts[k]:=by simp[hk']
    obtain⟨u,eu,pu⟩:=Oz hp6 (i:=k) (b:=ts[k]) (by simp[hk'])
    have eu':us.getD k ĕ=u:=by rw[Ï,eu];rfl
    rw[ek,eu']
    exact⟨pu,hn _ (Ĩ hk')⟩
   exact Ik (key i hi).1 (key j hj).1 (key i hi).2 (key j hj).2 hC
  have G:W.kasC (model prog w) A E sortRuns' (λ_ st' s'=>∃p:Array Nat,s'={ s with heap:=((s.heap.update a (Ü λ_=>(#[]:Array Value))).push (seqObj "tuple" us.toArray 0)).push (seqObj "list" #[] 0) }/\arrOf st'=p.map (W.kas_item (us.toArray.zip us.toArray))/\failedOf st'=none/\NfSort.Pm us.length p/\NfSort.Up (λi=>aL (ts.getD i (0,0))) p us.length) (W.kas_st (tuples' true) (us.toArray.zip us.toArray) (ŀ (Ý us.length))) { s with heap:=((s.heap.update a (Ü λ_=>(#[]:Array Value))).push (seqObj "tuple" us.toArray 0)).push (seqObj "list" #[] 0) }:=by
   rcases h64 with h64|⟨h64,hs⟩
   ·exact W.kas_runs (G:=λp s'=>s'={ s with heap:=((s.heap.update a (Ü λ_=>(#[]:Array Value))).push (seqObj "tuple" us.toArray 0)).push (seqObj "list" #[] 0) }/\NfSort.Pm us.length p/\NfSort.Up (λi=>aL (ts.getD i (0,0))) p us.length) h2' (by omega) (λp' st' s' a1 a2 a3 a4=>⟨p',a4.1,a2,a3,a4.2⟩)
     (NfSort.qw hcmp (NfSort.bI (λp hp=>⟨rfl,hp⟩) (NfSort.Bk (by omega))))
   ·have hu:NfSort.Up (λi=>aL (ts.getD i (0,0))) (ŀ (Ý us.length)) us.length:=λi j hij hj=>by
     unfold NfSort.kk
     have eg:∀k,k<us.length->(ŀ (Ý us.length)).getD k 0=k:=λk hk=>by simp[Array.getD,hk]
     rw[eg i (by omega),eg j hj]
     exact hs i j hij (by omega)
    exact J2 (G:=λp s'=>s'={ s with heap:=((s.heap.update a (Ü λ_=>(#[]:Array Value))).push (seqObj "tuple" us.toArray 0)).push (seqObj "list" #[] 0) }/\NfSort.Pm us.length p/\NfSort.Up (λi=>aL (ts.getD i (0,0))) p us.length) h2' (by rw[hlen,h64];decide +kernel) (λp' st' s' a1 a2 a3 a4=>⟨p',a4.1,a2,a3,a4.2⟩)
     (NfSort.qw (G:=λr s'=>r.1=us.length/\s'={ s with heap:=((s.heap.update a (Ü λ_=>(#[]:Array Value))).push (seqObj "tuple" us.toArray 0)).push (seqObj "list" #[] 0) }/\NfSort.Pm us.length r.2/\NfSort.Up (λi=>aL (ts.getD i (0,0))) r.2 us.length) hcmp (NfSort.bI (λr ⟨e1,e2⟩=>⟨e1,rfl,by rw[e2];exact⟨Array.Perm.refl _,hu⟩⟩) (Q9 (Array.Perm.refl _) (by omega) hu)))
  have est:SortSt.mk' (tuples' true) (us.toArray.zip us.toArray) #[] 7 none=W.kas_st (tuples' true) (us.toArray.zip us.toArray) (ŀ (Ý us.length)):=by
   have e:=W.kas_range (us.toArray.zip us.toArray)
   rw[show(us.toArray.zip us.toArray).size=us.length by simp] at e
   show SortSt.mk' (tuples' true) (us.toArray.zip us.toArray) #[] 7 none=SortSt.mk' (tuples' true) ((ŀ (Ý us.length)).map (W.kas_item (us.toArray.zip us.toArray))) #[] 7 none
   rw[e]
  have eT:tuples' (Đ "int" != Đ "tuple")=tuples' true:=rfl
  rw[eT,est]
  refine Ã (ń G ?_ λ_ _ e=>e)
  rintro⟨⟨⟩,st'⟩ s' ⟨p,rfl,har,hf,hpm,hup⟩
  dsimp only
  have hout:=W.kat_snds (ks:=us) (vs:=us) rfl har
  rw[hout]
  have hsz2:p.size=us.length:=hpm.size
  refine Ã (seqEpoch_at ho6 rfl ?_)
  refine Ã (listUpdate_at ho6 rfl ?_ (ú _) (by rw[Í,À,ķ,hsz2,ï];omega))
  rw[hf]
  simp only[bne_self_eq_false,Ħ,if_false]
  refine Ô (h p.toList ?_ λi j hij hj=>?_)
  ·have:=Array.perm_iff_toList_perm.mp hpm
   simpa using this
  ·have q:=hup i j hij hj
   unfold NfSort.kk at q
   have eg:∀k,p.toList.getD k 0=p.getD k 0:=λk=>by
    rw[NfSort.getD_eq,Ï]
    simp
   rw[eg,eg]
   exact q
def jV{l:Addr}{vs:List Value}{Q:List Value->Shared->Prop}(hl:IsTup s.heap l vs.toArray)(h:Q vs { s with heap:=(s.heap.push (seqObj "list" #[] 0)).update s.heap.objs.size (Ü (·++vs.toArray)) })(hsz:vs.length<=sizeLine) :
  wpAny (model prog w) A (collect (.ref l)) Q E s:=by
 obtain⟨o,ho,hc,n,hd⟩:=id hl
 unfold collect
 refine Ã (wpAny_runValue (ō entry_proto_collect' ?_))
 show wpAny _ _ (do again (.builtin "list.__iadd__" ⟨[←newList [],.ref l],[]⟩)) _ _ s
 refine Ã (wpAny_newList (Ô ⟨Code.quiet_builtin _ (by decide +kernel),ō entry_list_iadd' ?_⟩))
 show wpAny _ _ (Ş (.ref s.heap.objs.size) (.ref l) (.ref s.heap.objs.size)) _ _ { s with heap:=s.heap.push (seqObj "list" #[] 0) }
 unfold Ş
 have ho':(s.heap.push (seqObj "list" #[] 0)).get? l=some o:=Ñ _ ho
 refine Ã (wpAny_typeOf (T:="tuple") ⟨o,ho',hc⟩ ?_)
 have ht:(Đ "tuple" == Đ "tuple")=true:=by rfl
 rw[if_pos (by rw[ht];simp)]
 refine Ã (listItems_at ho' hd ?_)
 refine Ã (listItems_at (xs:=#[]) (n:=0) (á _ rfl) rfl ?_)
 rw[if_neg (by simp)]
 refine Ã (listUpdate_at (xs:=#[]) (n:=0) (á _ rfl) rfl ?_ (ú _) (by show(#[]++vs.toArray).size<=sizeLine+1;simp only[Array.size_append,Í,List.length_nil];omega))
 refine Ô ?_
 show wpAny (model prog w) A (do
   let o ←load s.heap.objs.size
   match o.data with
   |.seq xs _=>pure xs.toList
   |_=>unsupported "internal:collect") Q E { s with heap:=(s.heap.push (seqObj "list" #[] 0)).update s.heap.objs.size (Ü (·++vs.toArray)) }
 refine Ã (wpAny_load (get?_update_seq (á _ rfl) _) ?_)
 show wpAny _ _ (pure ((#[]:Array Value)++vs.toArray).toList) Q E _
 rw[show((#[]:Array Value)++vs.toArray).toList=vs by simp]
 exact Ô h
def uR{l:Addr}{us:List Value}{ts:List Tie}{Q:Value->Shared->Prop}(hl:s.heap.IsList l us.toArray\/IsTup s.heap l us.toArray)(hp:Paired (jY s.heap) us ts)(hn:∀t∈ts,lZ t)(h64:Srt ts)(h:∀p:List Nat,p.Perm (Ý us.length)->(∀i j,i<=j->j<us.length->aL (ts.getD (p.getD i 0) (0,0))<=aL (ts.getD (p.getD j 0) (0,0))) ->
   Q (.ref (s.heap.objs.size+1)) { s with heap:=sortedAll s.heap us (p.map λi=>us.getD i ĕ).toArray }) :
  wpAny (model prog w) A (call (.builtin "sorted") [.ref l]) Q E s:=by
 have h24:=ï
 have hlen:=hp.length
 have hbig:=h64.lt
 refine Calls.call_function_entry kind_sorted plain_sorted entry_sorted (args_sorted1 _) ?_
 unfold Builtin.«sorted»
 refine Ã (m:=checkCount "sorted" 1 1 _) (Ô ?_)
 have hsz:((s.heap.push (seqObj "list" #[] 0)).update s.heap.objs.size (Ü (·++us.toArray))).objs.size=s.heap.objs.size+1:=by
  rw[Ė,size_push']
 have hoL:(((s.heap.push (seqObj "list" #[] 0)).update s.heap.objs.size (Ü (·++us.toArray))).push (seqObj "list" us.toArray 0)).get? (s.heap.objs.size+1)=some (seqObj "list" us.toArray 0):=by
  rw[←hsz];exact á _ rfl
 have keep:∀b o,s.heap.get? b=some o->(((s.heap.push (seqObj "list" #[] 0)).update s.heap.objs.size (Ü (·++us.toArray))).push (seqObj "list" us.toArray 0)).get? b=some o:=λb o q=>by
  have hlt:b<s.heap.objs.size:=Î q
  rw[Ę _ _ _ (by rw[hsz];exact ß (ā hlt)),Heap.get?_update_ne _ _ _ _ (ß hlt),Ę _ _ _ (ß hlt)]
  exact q
 have go:∀{Q':List Value->Shared->Prop},Q' us { s with heap:=(s.heap.push (seqObj "list" #[] 0)).update s.heap.objs.size (Ü (·++us.toArray)) }->wpAny (model prog w) A.in1 (collect (.ref l)) Q' (λe s'=>E e s') s:=λ{Q'} hq=>by
  rcases hl with hl|hl
  ·exact collect_list hl hq (by omega)
  ·exact jV hl hq (by omega)
 refine Ã (go ?_)
 refine Ã (wpAny_newList ?_ (by omega))
 show wpAny _ _ _ _ _ { s with heap:=((s.heap.push (seqObj "list" #[] 0)).update s.heap.objs.size (Ü (·++us.toArray))).push (seqObj "list" us.toArray 0) }
 rw[hsz]
 refine Ã (Ē (wpAny_call_entry slot_list_sort ⟨_,hoL,rfl⟩ entry_list_sort (Dh hoL (Paired.DQ hp λu t x=>x.keep λa o e _=>keep a o e) hn h64 λp a1 a2=>⟨_,rfl,?_⟩) (args_list_sort _)))
 exact Ô ⟨_,rfl,h p a1 a2⟩
end
section
variable {X:Cx}
def wY{ts:List Tie}{p:List Nat}(hp:p.Perm (Ý ts.length))(h:∀i j,i<=j->j<ts.length->aL (ts.getD (p.getD i 0) (0,0))<=aL (ts.getD (p.getD j 0) (0,0))) :
  (p.map λi=>ts.getD i (0,0)).Perm ts/\(p.map λi=>ts.getD i (0,0)).Pairwise (λa b=>aL a<=aL b):=by
 refine⟨?_,?_⟩
 ·have q:=hp.map λi=>ts.getD i (0,0)
  rw[cY] at q
  exact q
 ·have hl:p.length=ts.length:=by simpa using hp.length_eq
  rw[œ]
  intro i j hi hj hij
  rw[À] at hi hj
  have q:=h i j (by omega) (by omega)
  have ei:p.getD i 0=p[i]:=by simp[hi]
  have ej:p.getD j 0=p[j]:=by simp[hj]
  rw[ei,ej] at q
  simpa using q
def wD:bK X (.builtin "sorted") (λxs H Q=>∃(p:Addr) (vs:List V) (ts:List Tie),xs=[.ref p]/\(SqL X.K H p vs\/SqT X.K H p vs)/\Prs H vs ts/\(∀t∈ts,lZ t)/\Srt ts /\
  ∀l ws us,H l=none->Prs H ws us->us.Perm ts->us.Pairwise (λa b=>aL a<=aL b)->Q (.ref l) (upd H l (.lst ws))):=by
 intro pins s σ H xs us Q I r h
 obtain⟨p,vs,ts,rfl,hp,hpr,hn,h64,q⟩:=h
 obtain⟨u,rfl,rx⟩:=vals1 r
 cases rx
 have h24:=ï
 have fin:∀its:List Value,Vals vs its->(s.heap.IsList p its.toArray\/IsTup s.heap p its.toArray)->wpAny (model X.prog X.w) X.A (call (.builtin "sorted") [.ref p]) (EP X pins σ Q) X.xe s:=λits rv hl=>by
  have hpv:=I.pairs hpr rv
  have hlen:=hpr.length
  have hlen2:=rv.length
  have hbig:=h64.lt
  refine uR hl hpv hn h64 λpp hpp hord=>?_
  have eits:its.length=ts.length:=by omega
  rw[eits] at hpp hord
  obtain⟨hperm,hpw⟩:=wY hpp hord
  have hlt:∀i∈pp,i<ts.length:=λi hi=>ĥ.mp (hpp.mem_iff.mp hi)
  have hw:=xG hpr V.non (0,0) pp hlt
  have hvv:Vals (pp.map λi=>vs.getD i V.non) (pp.map λi=>its.getD i ĕ):=xG rv V.non ĕ pp λi hi=>by have:=hlt i hi;omega
  obtain⟨e,he⟩:=sortedAll_at s.heap its (pp.map λi=>its.getD i ĕ).toArray
  refine⟨.ref (s.heap.objs.size+1),upd H (s.heap.objs.size+1) (.lst (pp.map λi=>vs.getD i V.non)),I.laid (t':=s.toks) (λb o eb=>sortedAll_old eb) (ĳ _) ?_,rfl,q _ _ _ (I.hok.fresh (ĳ _)) hw hperm hpw⟩
  refine⟨?_,_,e,hvv,he⟩
  have hl3:pp.length=ts.length:=by simpa using hpp.length_eq
  rw[À]
  omega
 rcases hp with hp|hp
 ·obtain⟨its,rv,pl,hz⟩:=I.list hp
  exact fin its rv (.inl pl.isList)
 ·obtain⟨its,rv,pl,hz⟩:=I.tuple hp
  exact fin its rv (.inr pl)
def pD(t:Tie):PyData:=.tuple [.int t.1,.int t.2]
def Ac:∀ts:List Tie,ī (ts.map pD)=true
 |[]=>rfl
 |t::ts=>by
  show(PyData.canLay0 (pD t)&&ī (ts.map pD))=true
  rw[Ac ts]
  rfl
def yx:∀ts:List Tie,ő (ts.map pD)<=1
 |[]=>ú _
 |t::ts=>by
  show max (PyData.depth (pD t)) (ő (ts.map pD))<=1
  have h1:=yx ts
  have h2:PyData.depth (pD t)=1:=rfl
  omega
def Jr:∀ts us:List Tie,PyData.eqvAll (ts.map pD) (us.map pD)=decide (ts=us)
 |[],[]=>rfl
 |[],_::_=>rfl
 |_::_,[]=>rfl
 |t::ts,u::us=>by
  show(ñ (pD t) (pD u)&&PyData.eqvAll (ts.map pD) (us.map pD))=_
  rw[Jr ts us]
  have e:ñ (pD t) (pD u)=decide (t=u):=by
   show((t.1 == u.1)&&((t.2 == u.2)&&true))=_
   rw[Bool.and_true,Č]
   simp[Prod.ext_iff]
  rw[e,Č]
  simp
inductive DatV(K:Ú)(H:Hp):V->PyData->Prop
 |lst {a:Addr}{vs:List V}{ts:List Tie}:SqL K H a vs->Prs H vs ts->DatV K H (.ref a) (.list (ts.map pD))
 |tup {a:Addr}{vs:List V}{ts:List Tie}:SqT K H a vs->Prs H vs ts->DatV K H (.ref a) (.tuple (ts.map pD))
 |web {a b:Addr}{n:Int}{vs:List V}{ts:List Tie}:SqT K H a [.int n,.ref b]->SqT K H b vs->Prs H vs ts->DatV K H (.ref a) (.tuple [.int n,.tuple (ts.map pD)])
def Ly(ts us:List Tie):ñ (.list (ts.map pD)) (.list (us.map pD))=decide (ts=us):=Jr ts us
end
end L2
namespace L2
open PySem PySem.Spec PyProof.Rows HT
section
variable {prog:Program}{w:World}{A:Around}{E:Value->Shared->Prop}{s:Shared}
end
section
variable {X:Cx}{e:Expr}{te:TE}{p1 p2 p3 pos:Pos}
end
end L2
namespace PySem
open Sem (wp)
open AutoSeq1 (wpAny_loadPart')
section
variable {prog:Program}{w:World}{A:Around}{E:Value->Shared->Prop}{s:Shared}
end
end PySem
namespace L2
open PySem PySem.Spec PyProof.Rows
section
variable {κ:Type} [DecidableEq κ]
end
section
variable {P:Program}{w:World}{H:Hp}{h:Heap}{a:Addr}
def RP{u:HO}(ok:HOk P w H h)(e:Rd H a u):bN P w H h a u:=e.ok ok
def TV{kvs:List (Key×V)}(ok:HOk P w H h)(e:Rd H a (.dK kvs)):kvs.length<=sizeLine/\(a == sysModules)=false/\∃vs,KV kvs vs/\h.DictOf (nC P w) a vs :=
 show bN P w H h a (.dK kvs) from RP ok e
def TX{kvs:List (Key×V)}(ok:HOk P w H h)(e:H a=some (.dK kvs)):kvs.length<=sizeLine/\(a == sysModules)=false/\∃vs,KV kvs vs/\h.DictOf (nC P w) a vs:=TV ok (.inl e)
end
section
variable {X:Cx}{pins:List (Addr×Obj)}{σ:St}{H:Hp}{s:Shared}{a:Addr}{y v:V}{u r:Value}{o:Option V}{A:Around}{E:Value->Shared->Prop}
end
section
variable {X:Cx}{pins:List (Addr×Obj)}{σ:St}{H:Hp}{s:Shared}{a:Addr}{kvs:List (Key×V)}{k:Key}{u:Value}{A:Around}{E:Value->Shared->Prop}
end
section
variable {X:Cx}{o i e value:Expr}{pos pos' tpos:Pos}{td ty tv:TE}
end
section
variable {X:Cx}{pos:Pos}
end
structure M1(X:Cx)(o:Expr)(m:Str)(apos:Pos)(e:Expr)(cpos:Pos):Prop where
 base:attributeBase o m X.env (eval o X.env)=eval o X.env
 few:((backTo cpos (starEach [e] X.env)).all (λx=>!x.1)&&(backToKw cpos (keywordEach [] X.env)).all (λx=>x.1.isSome)
 &&decide (([e]:List Expr).length+([]:List Keyword).length+(if ([]:List Keyword).isEmpty then 0 else 1)<30))=true
 line:(apos.endLine == cpos.line)=true
 trees:backTo cpos (starEach [e] X.env)=[(false,eval e X.env)]
structure M2(X:Cx)(o:Expr)(m:Str)(apos:Pos)(e f:Expr)(cpos:Pos):Prop where
 base:attributeBase o m X.env (eval o X.env)=eval o X.env
 few:((backTo cpos (starEach [e,f] X.env)).all (λx=>!x.1)&&(backToKw cpos (keywordEach [] X.env)).all (λx=>x.1.isSome)
 &&decide (([e,f]:List Expr).length+([]:List Keyword).length+(if ([]:List Keyword).isEmpty then 0 else 1)<30))=true
 line:(apos.endLine == cpos.line)=true
 trees:backTo cpos (starEach [e,f] X.env)=[(false,eval e X.env),(false,eval f X.env)]
section
variable {X:Cx}{pins:List (Addr×Obj)}{σ:St}{H:Hp}{s:Shared}{a:Addr}{y d:V}{u r:Value}{o:Option V}{A:Around}{E:Value->Shared->Prop}
end
section
variable {X:Cx}{o e f:Expr}{apos cpos:Pos}{td ty tx:TE}
end
section
variable {X:Cx}{pins:List (Addr×Obj)}{σ:St}{H:Hp}{s:Shared}{a:Addr}{kvs:List (Key×V)}{A:Around}{E:Value->Shared->Prop}
end
section
variable {X:Cx}{pins:List (Addr×Obj)}{σ:St}{H:Hp}{s:Shared}{a:Addr}{y:V}{u:Value}{A:Around}{E:Value->Shared->Prop}
end
section
variable {prog:Program}{w:World}{A:Around}{E:Value->Shared->Prop}{s:Shared}
end
section
variable {X:Cx}
def wG:bK X (.builtin "sorted") (λxs H Q=>∃(p:Addr) (ns:List Int),xs=[.ref p]/\SqL X.K H p (ns.map V.int)/\ns.length<64 /\
  ∀(l:Addr) (out:List Int),H l=none->out.Perm ns->out.Pairwise (·<=·)->Q (.ref l) (upd H l (.lst (out.map V.int)))):=by
 intro pins s σ H xs us Q I r h
 obtain⟨p,ns,rfl,hp,h64,q⟩:=h
 obtain⟨u,rfl,rx⟩:=vals1 r
 cases rx
 obtain⟨its,rv,pl,hz⟩:=I.list hp
 have hI:IntsAre its ns:=intsAre_of rv
 have hl:=rv.length
 rw[À] at hl
 refine sorted_ints (vs:=its) (ns:=ns) pl.isList hI (by omega) λout ns' a1 a2 a3=>?_
 obtain⟨e,he⟩:=sortedAll_at s.heap its out
 have hv:=oE a1
 have hlo:=hv.length
 rw[À] at hlo
 have hpl:=a2.length_eq
 have h24:=ï
 refine⟨.ref (s.heap.objs.size+1),upd H (s.heap.objs.size+1) (.lst (ns'.map V.int)),I.laid (t':=s.toks) (λb o eb=>sortedAll_old eb) (ĳ _) ⟨?_,out.toList,e,hv,by simpa using he⟩,rfl,q _ _ (I.hok.fresh (ĳ _)) a2 a3⟩
 rw[À]
 omega
end
section
variable {X:Cx}
def iD(l:List Int):PyData:=.list (l.map Â)
inductive DatL(K:Ú)(H:Hp):V->PyData->Prop
 |flt {a:Addr}{l:List Int}:SqL K H a (l.map V.int)->DatL K H (.ref a) (iD l)
 |lists {a:Addr}{as:List Addr}{ls:List (List Int)}:SqL K H a (as.map V.ref)->Paired (λ(a:Addr) (l:List Int)=>SqL K H a (l.map V.int)) as ls->DatL K H (.ref a) (.list (ls.map iD))
end
end L2
namespace PySem
open PyProof.Rows
def Vi(h:Heap)(e:Addr):Prop:=∃oe vs,h.get? e=some oe/\oe.data=.fields vs/\vs[2]?=some .none
section
variable {M:Model}{A:Around}{E:Value->Shared->Prop}{s:Shared}{base:Heap}{env:Env}{outer:List Env}{L e:Addr}{Q:Unit->Shared->Prop}
end
end PySem
namespace L2
open PySem PySem.Spec PyProof.Rows
def Vj(base:Heap)(l:List Env)(e:Addr)(cls a0:Value)(h:Heap):Prop:=base.StaysIn h/\base.get? e=none/\h.FunFrames base l/\h.TracedW base e cls a0/\Vi h e
def CX1(P:Program)(w:World):CXT:=λouter H s E e s'=>∃(a:Addr) (cls a0:Value) (H1:Hp) (hb:Heap),e=.ref a/\s'.os=s.os/\AllBare s'.gens/\Un (frs outer) [] H H1 s.heap s'.heap/\HOk P w H1 hb/\Vj hb outer a cls a0 s'.heap /\
 (∀b o,s.heap.get? b=some o->H b=none->b∉frs outer->hb.get? b=some o)/\(∀b o,s.heap.get? b=some o->b∉frs outer->∃o',hb.get? b=some o')/\E cls none H1
structure Lets(X:Cx)(E:XK):Prop where
 xe:∀e s',wpAny (model X.prog X.w) X.A (leaving X.env e) (λ_ s''=>CX1 X.prog X.w X.outer X.H₀ X.s₀ E e s'') (λe' s''=>CX1 X.prog X.w X.outer X.H₀ X.s₀ E e' s'') s'->X.xe e s'
 stk:X.stack=X.env::X.outer
 fr:X.env.frame=some X.env.locals
 ex:X.ex=[]
section
variable {X:Cx}{pins:List (Addr×Obj)}{σ:St}{H H1:Hp}{s:Shared}{E:XK}
end
structure ExcCls(K:Ú)(C:Addr)(newId:String)(bmB:List Value):Prop where
 ex:∃(nm q:Str) (N:Addr) (bs bm:List Value) (hdct:Bool) (sn:List Str) (sub:List Value) (ab:Bool) (col:Option Bool) (dd:Option Addr) (k0 k1 k2 k3 k5:Option Value),
  K.lookup C=some (excClassObj nm q C N bs bm hdct sn sub ab col dd k0 k1 k2 k3 k5 newId)/\W.tailIn K bmB bm=true/\W.nsOkIn K N=true/\W.nsIn K N "__init__"=some none/\bm.contains (.type "BaseException")=true
section
variable {X:Cx}{E:XK}{x:Str}{C:Addr}{newId Bn initId:String}{bmB:List Value}{e:Expr}{es:List Expr}{t:TA}{np cpos pos:Pos}
end
section
variable {X:Cx}{pins:List (Addr×Obj)}{σ:St}{H:Hp}{s:Shared}{ev:Value}
def Ui(a:Addr)(cls:Value):Heap->Prop:=λh=>∃oe vs,h.get? a=some oe/\oe.cls=cls/\oe.data=.fields vs
def Vf(a:Addr)(cls:Value):HO:=.ext (Ui a cls)
def Inv.track{a:Addr}{o:HO}(I:Inv X pins σ H s)(hn:H a=none)(h0:∀ob,X.s₀.heap.get? a≠some ob)(hL:a≠X.env.locals)(hC:∀x c,X.env.cells.lookup x=some c->c≠a)(hp:∀p∈X.pn++pins,p.1≠a)(new:bN X.prog X.w (upd H a o) s.heap a o):Inv X pins σ (upd H a o) s:=by
 refine⟨I.ok,I.os,I.bare,⟨I.base.keep,I.base.slot,λb ob e n hx=>?_,I.base.there,λb xs e=>?_,λb ob u e=>?_,λb ps e=>?_⟩,I.loc,I.cell,?_,λx c e=>?_,λp q=>?_,I.hok.track hn new,I.len⟩
 ·rw[au (show b≠a from λz=>h0 ob (by rw[←z];exact e))]
  exact I.base.free b ob e n hx
 ·have q:=I.base.tups b xs e
  rw[au (aB q hn)]
  exact q
 ·have q:=I.base.frzs b ob u e
  rw[au (aB q hn)]
  exact q
 ·obtain⟨m,q⟩:=I.base.tbls b ps e
  exact⟨m,by rw[au (aB q hn)];exact q⟩
 ·rw[au (ė hL)]
  exact I.free
 ·rw[au (hC x c e)]
  exact I.freeC x c e
 ·obtain⟨q1,q2,q3⟩:=I.pin p q
  exact⟨q1,by rw[au (hp p q)];exact q2,q3⟩
end
section
variable {X:Cx}{k:Nat}{f CF:Addr}{fd:FuncData}{ps:List Str}{sp:Sp}{E:XK}{x hx n:Str}{p np cpos epos hpos pos:Pos}{e:Expr}{es:List Expr}{t:TA}{b₀:Stmt}{suite:List Stmt}{ts:TS}{j:Nat}
end
end L2
namespace L2
open PySem PySem.W PySem.Spec PyProof.Rows
structure ExcK(K:Ú)(C:Addr):Prop where
 ex:∃(nm q:Str) (N AF:Addr) (bs bmB:List Value) (hdct:Bool) (sn:List Str) (sub:List Value) (ab:Bool) (col:Option Bool) (dd ddF:Option Addr) (k0 k1 k2 k3 k5:Option Value) (newId B:String) (c0:Value) (cd:ClassData) (slF:Array (Option Value)),
  K.lookup C=some (excClassObj nm q C N bs (.ref AF::bmB) hdct sn sub ab col dd k0 k1 k2 k3 k5 newId)/\K.lookup AF=some ⟨c0,ddF,.cls cd,slF⟩/\nsOkIn K cd.ns=true/\(∀n∈quietNames,nsIn K cd.ns n=some none)/\ExcAttrBase B bmB
 ga:findIn K (.ref C) "__getattribute__"=some (some (.builtin "BaseException.__getattribute__"))
 hook:findIn K (.ref C) "__getattr__"=some none
 cls:findIn K (.ref C) "__class__"=some (some (.builtin "object.__class__"))
 mro:mroIn K C (.type "object")=some true
section
variable {prog:Program}{w:World}{K:Ú}{a C:Addr}{A:Around}{E:Value->Shared->Prop}{s:Shared}
end
section
variable {X:Cx}
def Mp:R2:=λx y H Q=>∃a b xs ys,x=.ref a/\y=.ref b/\H a=some (.tup xs)/\H b=some (.tup ys)/\xs.length+ys.length<=sizeLine/\∀c H',(∀d u,H d=some u->H' d=some u)->H' c=some (.tup (xs++ys))->Q (.ref c) H'
def Ky:OpR X (binaryOp .Add) Mp:=by
 intro pins s σ H x y v u Q I rx ry h
 obtain⟨a,b,xs,ys,rfl,rfl,ha,hb,hz,q⟩:=h
 cases rx
 cases ry
 obtain⟨its,r1,p1,_⟩:=I.tuple (SqT.of ha)
 obtain⟨its2,r2,p2,_⟩:=I.tuple (SqT.of hb)
 by_cases hx:xs=[]
 ·subst hx
  cases r1
  obtain⟨m,F⟩:=I.fr
  refine add_tuples (vs:=[]) F Ig p1 p2 (λ_=>⟨.ref b,H,I,rfl,q b H (λ_ _ z=>z) (by simpa using hb)⟩) (λz=>absurd rfl z) (λz=>absurd rfl z) (by rw[←r2.length];simpa using hz)
 ·refine Kw pins s σ H (.ref a) (.ref b) (.ref a) (.ref b) Q I rfl rfl ⟨a,b,xs,ys,rfl,rfl,SqT.of ha,SqT.of hb,hx,hz,λe=>?_,λ_ p hp=>?_⟩
  ·subst e
   exact q a H (λ_ _ z=>z) (by rw[ê];exact ha)
  ·exact q p _ (λd u z=>by rw[au (aB z hp)];exact z) aq
end
section
variable {K:Ú}{C c:Addr}{dd:Option Addr}{cd:ClassData}{sl:Array (Option Value)}
end
end L2
namespace Dl
open PySem L2 PyProof.Rows
abbrev D:=PyData
def kD:Key->D
 |.inl i=>.int i
 |.inr x=>.str x
mutual
inductive Rp(ok:Addr->Prop)(H:Hp):V->D->Prop
 |non:Rp ok H .non .none
 |bl (b:Bool):Rp ok H (.bl b) (.bool b)
 |int (i:Int):Rp ok H (.int i) (.int i)
 |str (x:Str):Rp ok H (.str x) (.str x)
 |lst {a:Addr}{vs:List V}{ds:List D} (o:ok a) (h:H a=some (.lst vs)) (r:Rps ok H vs ds):Rp ok H (.ref a) (.list ds)
 |tup {a:Addr}{vs:List V}{ds:List D} (h:H a=some (.tup vs)) (r:Rps ok H vs ds):Rp ok H (.ref a) (.tuple ds)
 |dct {a:Addr}{kvs:List (Key×V)}{ds:List (D×D)} (o:ok a) (h:H a=some (.dK kvs)) (r:Rkv ok H kvs ds):Rp ok H (.ref a) (.dict ds)
inductive Rps(ok:Addr->Prop)(H:Hp):List V->List D->Prop
 |nil:Rps ok H [] []
 |cons {v:V}{d:D}{vs:List V}{ds:List D} (h:Rp ok H v d) (t:Rps ok H vs ds):Rps ok H (v::vs) (d::ds)
inductive Rkv(ok:Addr->Prop)(H:Hp):List (Key×V)->List (D×D)->Prop
 |nil:Rkv ok H [] []
 |cons {k:Key}{v:V}{d:D}{vs:List (Key×V)}{ds:List (D×D)} (h:Rp ok H v d) (t:Rkv ok H vs ds):Rkv ok H ((k,v)::vs) ((kD k,d)::ds)
end
section
variable {ok ok':Addr->Prop}{H H':Hp}
mutual
def Rp.mono(f:∀a,ok a->ok' a)(g:∀a o,ok a->H a=some o->H' a=some o)(t:∀a xs,H a=some (.tup xs)->H' a=some (.tup xs)):∀{v:V}{d:D},Rp ok H v d->Rp ok' H' v d
 |_,_,.non=>.non
 |_,_,.bl b=>.bl b
 |_,_,.int i=>.int i
 |_,_,.str x=>.str x
 |_,_,.lst o h r=>.lst (f _ o) (g _ _ o h) (Rps.mono f g t r)
 |_,_,.tup h r=>.tup (t _ _ h) (Rps.mono f g t r)
 |_,_,.dct o h r=>.dct (f _ o) (g _ _ o h) (Rkv.mono f g t r)
def Rps.mono(f:∀a,ok a->ok' a)(g:∀a o,ok a->H a=some o->H' a=some o)(t:∀a xs,H a=some (.tup xs)->H' a=some (.tup xs)):∀{v:List V}{d:List D},Rps ok H v d->Rps ok' H' v d
 |_,_,.nil=>.nil
 |_,_,.cons h r=>.cons (Rp.mono f g t h) (Rps.mono f g t r)
def Rkv.mono(f:∀a,ok a->ok' a)(g:∀a o,ok a->H a=some o->H' a=some o)(t:∀a xs,H a=some (.tup xs)->H' a=some (.tup xs)):∀{v:List (Key×V)}{d:List (D×D)},Rkv ok H v d->Rkv ok' H' v d
 |_,_,.nil=>.nil
 |_,_,.cons h r=>.cons (Rp.mono f g t h) (Rkv.mono f g t r)
end
def Rps.length:∀{vs:List V}{ds:List D},Rps ok H vs ds->vs.length=ds.length
 |_,_,.nil=>rfl
 |_,_,.cons _ t=>by rw[ì,ì,Rps.length t]
def Rps.get:∀{vs:List V}{ds:List D}{i:Nat}{v:V},Rps ok H vs ds->vs[i]?=some v->∃d,ds[i]?=some d/\Rp ok H v d
 |_,_,i,v,.nil,e=>by simp at e
 |_,_,0,v,.cons h t,e=>by simp at e;subst e;exact⟨_,rfl,h⟩
 |_,_,i+1,v,.cons h t,e=>by
  obtain⟨d,a,b⟩:=Rps.get (i:=i) (v:=v) t (by simpa using e)
  exact⟨d,by simpa using a,b⟩
def Rps.getD:∀{vs:List V}{ds:List D}{i:Nat}{d:D},Rps ok H vs ds->ds[i]?=some d->∃v,vs[i]?=some v/\Rp ok H v d
 |_,_,i,v,.nil,e=>by simp at e
 |_,_,0,v,.cons h t,e=>by simp at e;subst e;exact⟨_,rfl,h⟩
 |_,_,i+1,v,.cons h t,e=>by
  obtain⟨d,a,b⟩:=Rps.getD (i:=i) (d:=v) t (by simpa using e)
  exact⟨d,by simpa using a,b⟩
def Rps.app:∀{vs ws:List V}{ds es:List D},Rps ok H vs ds->Rps ok H ws es->Rps ok H (vs++ws) (ds++es)
 |_,_,_,_,.nil,s=>s
 |_,_,_,_,.cons h t,s=>.cons h (Rps.app t s)
def Rps.snoc{vs:List V}{ds:List D}{v:V}{d:D}(h:Rps ok H vs ds)(r:Rp ok H v d):Rps ok H (vs++[v]) (ds++[d]):=h.app (.cons r .nil)
def Rps.set{v:V}{d:D}(r:Rp ok H v d):∀{vs:List V}{ds:List D} (i:Nat),Rps ok H vs ds->Rps ok H (vs.set i v) (ds.set i d)
 |_,_,_,.nil=>.nil
 |_,_,0,.cons _ t=>.cons r t
 |_,_,i+1,.cons q t=>.cons q (Rps.set r i t)
def Rps.take:∀{vs:List V}{ds:List D} (n:Nat),Rps ok H vs ds->Rps ok H (vs.take n) (ds.take n)
 |_,_,0,_=>by simp;exact .nil
 |_,_,_+1,.nil=>by simp;exact .nil
 |_,_,n+1,.cons r t=>.cons r (Rps.take n t)
def Rps.drop:∀{vs:List V}{ds:List D} (n:Nat),Rps ok H vs ds->Rps ok H (vs.drop n) (ds.drop n)
 |_,_,0,r=>r
 |_,_,_+1,.nil=>by simp;exact .nil
 |_,_,n+1,.cons _ t=>Rps.drop n t
def Rps.ofMap{α:Type}{f:α->V}{g:α->D}(h:∀x,Rp ok H (f x) (g x)):∀l:List α,Rps ok H (l.map f) (l.map g)
 |[]=>.nil
 |x::l=>.cons (h x) (Rps.ofMap h l)
def Rp.int'{v:V}{i:Int}(r:Rp ok H v (.int i)):v=.int i:=by cases r;rfl
def Rp.bl'{v:V}{i:Bool}(r:Rp ok H v (.bool i)):v=.bl i:=by cases r;rfl
def Rp.str'{v:V}{i:Str}(r:Rp ok H v (.str i)):v=.str i:=by cases r;rfl
def Rp.bO{v:V}{ds:List D}(r:Rp ok H v (.list ds)):∃a vs,v=.ref a/\ok a/\H a=some (.lst vs)/\Rps ok H vs ds:=by
 cases r with
 |lst o h r=>exact⟨_,_,rfl,o,h,r⟩
def Rp.fu{v:V}{ds:List D}(r:Rp ok H v (.tuple ds)):∃a vs,v=.ref a/\H a=some (.tup vs)/\Rps ok H vs ds:=by
 cases r with
 |tup h r=>exact⟨_,_,rfl,h,r⟩
def Rps.ints:∀{vs:List V}{ns:List Int},Rps ok H vs (ns.map Â)->vs=ns.map V.int
 |[],[],_=>rfl
 |_,n::ns,.cons h t=>by
  have e:=h.int'
  subst e
  rw[Rps.ints t]
  rfl
def Rps.two{vs:List V}{d e:D}(r:Rps ok H vs [d,e]):∃v w,vs=[v,w]/\Rp ok H v d/\Rp ok H w e:=by
 cases r with
 |cons h t =>
  cases t with
  |cons h2 t2 =>
   cases t2
   exact⟨_,_,rfl,h,h2⟩
end
mutual
def iu:D->Bool
 |.none=>true
 |.bool _=>true
 |.int _=>true
 |.str _=>true
 |.list _=>false
 |.tuple ds=>dR ds
 |.dict _=>false
def dR:List D->Bool
 |[]=>true
 |d::ds=>iu d&&dR ds
end
section
variable {ok:Addr->Prop}{H:Hp}
mutual
def Rp.imm:∀{v:V}{d:D},Rp ok H v d->iu d=true->Rp (λ_=>False) H v d
 |_,_,.non,_=>.non
 |_,_,.bl b,_=>.bl b
 |_,_,.int i,_=>.int i
 |_,_,.str x,_=>.str x
 |_,_,.tup h r,e=>.tup h (Rps.imm r e)
def Rps.imm:∀{v:List V}{d:List D},Rps ok H v d->dR d=true->Rps (λ_=>False) H v d
 |_,_,.nil,_=>.nil
 |_,_,.cons h r,e=>.cons (Rp.imm h (by simp only[dR,Ù] at e;exact e.1)) (Rps.imm r (by simp only[dR,Ù] at e;exact e.2))
end
end
def Fxd(o:HO):Prop:=∃x φ,o=.frz x (.ext φ)
structure Pn where
 fp:Addr->Prop
 PI:Hp->Prop
 pv:V
 mono:∀H H',PI H->(∀b o,(fp b\/Fxd o)->H b=some o->H' b=some o)->PI H'
 is:∀H b,PI H->fp b->∃o,H b=some o/\(∀xs,o≠.tup xs)/\¬Fxd o
class Gr where
 G:Pn->Hp->Prop
instance (priority:=low) grT:Gr:=⟨λ_ _=>True⟩
def dB:Pn:=⟨λ_=>False,λ_=>True,.non,λ_ _ _ _=>trivial,λ_ _ _ h=>h.elim⟩
def Kp(p:Pn)(H H':Hp):Prop:=∀b o,H b=some o->¬p.fp b->H' b=some o
def Kp.refl{p:Pn}{H:Hp}:Kp p H H:=λ_ _ h _=>h
def Kp.trans{p:Pn}{H H1 H2:Hp}(a:Kp p H H1)(b:Kp p H1 H2):Kp p H H2:=λc o h n=>b c o (a c o h n) n
def Kp.of{p:Pn}{H H':Hp}(s:Same H H'):Kp p H H':=λb o h _=>s b o h
inductive Sl where
 |any
 |im (d:D)
 |sh (d:D)
 |sn (d:D)
 |dw (r:Nat) (d:D)
 |pen (C:Pn->Prop)
 |rw (r:Nat) (L:List (List D))
 |tw (r:Nat) (L:List (List D))
 |scr (v:V) (b:Bool)
 |sp (r:Nat) (b:Bool) (ds:List D)
inductive Kd where
 |imm|new|reg (r:Nat)|n0|snw|shr|wk
 deriving DecidableEq
def Kd.le:Kd->Kd->Bool
 |.imm,_=>true
 |.new,.new=>true
 |.new,.n0=>true
 |.new,.snw=>true
 |.new,.shr=>true
 |.new,.wk=>true
 |.reg r,.reg q=>r == q
 |.reg _,.n0=>true
 |.reg _,.wk=>true
 |.snw,.snw=>true
 |.snw,.n0=>true
 |.snw,.shr=>true
 |.snw,.wk=>true
 |.n0,.n0=>true
 |.n0,.wk=>true
 |.shr,.shr=>true
 |.shr,.wk=>true
 |.wk,.wk=>true
 |_,_=>false
def Kd.join(a b:Kd):Kd:=if a.le b then b else if b.le a then a else if a.le .n0&&b.le .n0 then .n0 else if a.le .shr&&b.le .shr then .shr else .wk
def norm(k:Kd)(d:D):Kd:=match k with
 |.imm=>.imm
 |k=>if iu d then .imm else k
def gU{k:Kd}{d:D}(h:iu d=true):norm k d=.imm:=by
 cases k <;> first
  |rfl
  |exact if_pos h
def nj{k:Kd}{d:D}(h:¬iu d=true):norm k d=k:=by
 cases k <;> first
  |rfl
  |exact if_neg h
def okK(p:Pn)(H0:Hp)(own:Addr->Option Nat)(Hb:Hp):Kd->Addr->Prop
 |.imm=>λ_=>False
 |.new=>λa=>Hb a=none
 |.reg r=>λa=>own a=some r
 |.n0=>λa=>H0 a=none/\¬p.fp a
 |.snw=>λa=>H0 a=none/\¬p.fp a/\own a=none
 |.shr=>λa=>¬p.fp a/\own a=none
 |.wk=>λa=>¬p.fp a
structure At(p:Pn)(H0:Hp)(own:Addr->Option Nat)(Hb H:Hp):Prop where
 k0:∀b o,H0 b=some o->¬p.fp b->Hb b=some o
 kp:Kp p Hb H
 penb:p.PI Hb
 pen:p.PI H
 ow:∀a r,own a=some r->H0 a=none/\¬p.fp a/\Hb a≠none
section
variable {p:Pn}{H0 Hb H H':Hp}{own:Addr->Option Nat}
def At.nfp(A:At p H0 own Hb H){a:Addr}(h:H a=none):¬p.fp a:=λz=>by
 obtain⟨o,e,_⟩:=p.is H a A.pen z
 rw[h] at e
 cases e
def At.free(A:At p H0 own Hb H){a:Addr}(h:H a=none):Hb a=none:=by
 have hn:=A.nfp h
 cases e:Hb a with
 |none=>rfl
 |some o=>rw[A.kp a o e hn] at h;cases h
def At.nfb(A:At p H0 own Hb H){a:Addr}(h:Hb a=none):¬p.fp a:=λz=>by
 obtain⟨o,e,_⟩:=p.is Hb a A.penb z
 rw[h] at e
 cases e
def At.Kv(A:At p H0 own Hb H){a:Addr}(h:Hb a=none):own a=none:=by
 cases e:own a with
 |none=>rfl
 |some r=>exact absurd h (A.ow a r e).2.2
def At.h0(A:At p H0 own Hb H){a:Addr}(h:Hb a=none):H0 a=none:=by
 cases e:H0 a with
 |none=>rfl
 |some o=>rw[A.k0 a o e (A.nfb h)] at h;cases h
def bZ(A:At p H0 own Hb H){j k:Kd}(h:j.le k=true){a:Addr}(o:okK p H0 own Hb j a):okK p H0 own Hb k a:=by
 cases j with
 |imm=>exact Į o
 |new =>
  cases k with
  |imm=>cases h
  |new=>exact o
  |reg r=>cases h
  |n0=>exact⟨A.h0 o,A.nfb o⟩
  |snw=>exact⟨A.h0 o,A.nfb o,A.Kv o⟩
  |shr=>exact⟨A.nfb o,A.Kv o⟩
  |wk=>exact A.nfb o
 |reg r =>
  cases k with
  |reg q =>
   have e:r=q:=by simpa[Kd.le] using h
   subst e
   exact o
  |n0=>exact⟨(A.ow a r o).1,(A.ow a r o).2.1⟩
  |wk=>exact(A.ow a r o).2.1
  |_=>cases h
 |n0 =>
  cases k with
  |n0=>exact o
  |wk=>exact o.2
  |_=>cases h
 |snw =>
  cases k with
  |snw=>exact o
  |n0=>exact⟨o.1,o.2.1⟩
  |shr=>exact o.2
  |wk=>exact o.2.1
  |_=>cases h
 |shr =>
  cases k with
  |shr=>exact o
  |wk=>exact o.1
  |_=>cases h
 |wk =>
  cases k with
  |wk=>exact o
  |_=>cases h
def j8(A:At p H0 own Hb H){k:Kd}{a:Addr}(o:okK p H0 own Hb k a):¬p.fp a:=by
 have:k.le .wk=true:=by cases k <;> rfl
 exact bZ A this o
def mK(A:At p H0 own Hb H){j k:Kd}(h:j.le k=true){v:V}{d:D}{H2:Hp}(r:Rp (okK p H0 own Hb j) H2 v d):Rp (okK p H0 own Hb k) H2 v d :=
 r.mono (λa o=>bZ A h o) (λ_ _ _ e=>e) λ_ _ e=>e
def eF(a b:Kd):a.le (a.join b)=true/\b.le (a.join b)=true:=by
 unfold Kd.join
 by_cases h:a.le b=true
 ·rw[if_pos h];exact⟨h,by cases b <;> simp[Kd.le]⟩
 ·rw[if_neg h]
  by_cases h2:b.le a=true
  ·rw[if_pos h2];exact⟨by cases a <;> simp[Kd.le],h2⟩
  ·rw[if_neg h2]
   by_cases h3:(a.le .n0&&b.le .n0)=true
   ·rw[if_pos h3];exact Ù _ _ ▸ h3
   ·rw[if_neg h3]
    by_cases h4:(a.le .shr&&b.le .shr)=true
    ·rw[if_pos h4];exact Ù _ _ ▸ h4
    ·rw[if_neg h4];exact⟨by cases a <;> rfl,by cases b <;> rfl⟩
def aX{k:Kd}{v:V}{d:D}{H2:Hp}(r:Rp (okK p H0 own Hb k) H2 v d):Rp (okK p H0 own Hb (norm k d)) H2 v d:=by
 by_cases h:iu d=true
 ·rw[gU h];exact r.imm h
 ·rw[nj h];exact r
def gA(A:At p H0 own Hb H)(k:Kp p H H'):∀a xs,H a=some (.tup xs)->H' a=some (.tup xs):=λa xs h=>k a _ h λz=>by
 obtain⟨o,e,n⟩:=p.is H a A.pen z
 rw[h] at e
 exact n.1 xs (à e).symm
def mL(A:At p H0 own Hb H)(k:Kp p H H'){j:Kd}{v:V}{d:D}(r:Rp (okK p H0 own Hb j) H v d):Rp (okK p H0 own Hb j) H' v d :=
 r.mono (λ_ o=>o) (λa o h e=>k a o e (j8 A h)) (gA A k)
def cj(A:At p H0 own Hb H)(k:Kp p H H'){j:Kd}{v:List V}{d:List D}(r:Rps (okK p H0 own Hb j) H v d):Rps (okK p H0 own Hb j) H' v d :=
 r.mono (λ_ o=>o) (λa o h e=>k a o e (j8 A h)) (gA A k)
def At.go(A:At p H0 own Hb H)(k:Kp p H H')(i:p.PI H'):At p H0 own Hb H':=⟨A.k0,A.kp.trans k,A.penb,i,A.ow⟩
def At.base{H1:Hp}(A:At p H0 own Hb H)(B:At p H0 own H H1):At p H0 own Hb H1:=⟨A.k0,A.kp.trans B.kp,A.penb,B.pen,A.ow⟩
def HS(A:At p H0 own Hb H){k:Kd}{a:Addr}(o:okK p H0 own H k a):okK p H0 own Hb k a:=by
 cases k <;> first
  |exact o
  |exact A.free o
def mO(A:At p H0 own Hb H){k:Kd}{v:V}{d:D}{H2:Hp}(r:Rp (okK p H0 own H k) H2 v d):Rp (okK p H0 own Hb k) H2 v d :=
 r.mono (λa o=>HS A o) (λ_ _ _ e=>e) λ_ _ e=>e
def At.new(A:At p H0 own Hb H){a:Addr}(h:H a=none)(o:HO):Kp p H (upd H a o)/\p.PI (upd H a o)/\okK p H0 own Hb .new a :=
 have s:Same H (upd H a o):=λb u q=>by rw[au (aB q h)];exact q
 ⟨Kp.of s,p.mono H _ A.pen λb u _ q=>s b u q,A.free h⟩
end
structure RowsH(own:Addr->Option Nat)(r:Nat)(H:Hp)(st:Addr)(as:List Addr)(L:List (List D)):Prop where
 top:H st=some (.lst (as.map V.ref))
 nd:(st::as).Nodup
 ow:∀a∈st::as,own a=some r
 len:as.length=L.length
 row:∀(j:Nat) (a:Addr) (ds:List D),as[j]?=some a->L[j]?=some ds->∃vs,H a=some (.lst vs)/\Rps (λ_=>False) H vs ds
def RowsH.mono{own own':Addr->Option Nat}{r:Nat}{H H':Hp}{st:Addr}{as:List Addr}{L:List (List D)}(h:RowsH own r H st as L)(g:∀a o,own a=some r->H a=some o->own' a=some r/\H' a=some o)(t:∀a xs,H a=some (.tup xs)->H' a=some (.tup xs)):RowsH own' r H' st as L:=by
 have live:∀a∈st::as,∃o,H a=some o:=λa ha=>by
  rcases Ð.mp ha with rfl|ha
  ·exact⟨_,h.top⟩
  ·obtain⟨j,hj⟩:=Ń ha
   have hl:=(Ê.mp hj).1
   obtain⟨vs,e,_⟩:=h.row j a _ hj (Ç (by rw[←h.len];exact hl))
   exact⟨_,e⟩
 refine⟨(g st _ (h.ow st Å) h.top).2,h.nd,λa ha=>?_,h.len,λj a ds e1 e2=>?_⟩
 ·obtain⟨o,e⟩:=live a ha
  exact(g a o (h.ow a ha) e).1
 ·obtain⟨vs,e,r'⟩:=h.row j a ds e1 e2
  exact⟨vs,(g a _ (h.ow a (Ä _ (Ò e1))) e).2,r'.mono (λ_ o=>o) (λ_ _ o=>o.elim) t⟩
def oM{ok:Addr->Prop}{H:Hp}:∀(as:List Addr) (L:List (List D)),as.length=L.length->(∀a∈as,ok a)->(∀(j:Nat) (a:Addr) (ds:List D),as[j]?=some a->L[j]?=some ds->∃vs,H a=some (.lst vs)/\Rps (λ_=>False) H vs ds)->Rps ok H (as.map V.ref) (L.map Ī)
 |[],[],_,_,_=>.nil
 |a::as,d::L,hl,h,r=>by
  obtain⟨vs,e,rs⟩:=r 0 a d rfl rfl
  exact .cons (.lst (h a Å) e (rs.mono (λ_ o=>o.elim) (λ_ _ o=>o.elim) λ_ _ e=>e)) (oM as L (by simpa using hl) (λb hb=>h b (Ä _ hb)) λj b ds e1 e2=>r (j+1) b ds e1 e2)
 |[],_::_,hl,_,_=>by cases hl
 |_::_,[],hl,_,_=>by cases hl
def RowsH.rp{own:Addr->Option Nat}{r:Nat}{H:Hp}{st:Addr}{as:List Addr}{L:List (List D)}(h:RowsH own r H st as L):Rp (λa=>own a=some r) H (.ref st) (.list (L.map Ī)) :=
 .lst (h.ow st Å) h.top (oM as L h.len (λa ha=>h.ow a (Ä _ ha)) h.row)
structure RowsT(own:Addr->Option Nat)(r:Nat)(H:Hp)(st:Addr)(as:List Addr)(L:List (List D)):Prop where
 top:H st=some (.tup (as.map V.ref))
 nd:as.Nodup
 ow:∀a∈as,own a=some r
 len:as.length=L.length
 row:∀(j:Nat) (a:Addr) (ds:List D),as[j]?=some a->L[j]?=some ds->∃vs,H a=some (.lst vs)/\Rps (λ_=>False) H vs ds
def RowsT.mono{own own':Addr->Option Nat}{r:Nat}{H H':Hp}{st:Addr}{as:List Addr}{L:List (List D)}(h:RowsT own r H st as L)(g:∀a o,own a=some r->H a=some o->own' a=some r/\H' a=some o)(t:∀a xs,H a=some (.tup xs)->H' a=some (.tup xs)):RowsT own' r H' st as L:=by
 refine⟨t st _ h.top,h.nd,λa ha=>?_,h.len,λj a ds e1 e2=>?_⟩
 ·obtain⟨j,hj⟩:=Ń ha
  have hl:=(Ê.mp hj).1
  obtain⟨vs,e,_⟩:=h.row j a _ hj (Ç (by rw[←h.len];exact hl))
  exact(g a _ (h.ow a ha) e).1
 ·obtain⟨vs,e,r'⟩:=h.row j a ds e1 e2
  exact⟨vs,(g a _ (h.ow a (Ò e1)) e).2,r'.mono (λ_ o=>o) (λ_ _ o=>o.elim) t⟩
def RowsT.rp{own:Addr->Option Nat}{r:Nat}{H:Hp}{st:Addr}{as:List Addr}{L:List (List D)}(h:RowsT own r H st as L):Rp (λa=>own a=some r) H (.ref st) (.tuple (L.map Ī)) :=
 .tup h.top (oM as L h.len h.ow h.row)
def okS(p:Pn)(H0:Hp)(own:Addr->Option Nat)(b:Bool)(a:Addr):Prop:=(b=true->H0 a=none)/\¬p.fp a/\own a=none
def jX(p:Pn)(H0:Hp)(own:Addr->Option Nat)(σ:L2.St)(H:Hp)(i:Nat):Sl->Prop
 |.any=>True
 |.im d=>∃v,σ[i]?=some (some v)/\Rp (λ_=>False) H v d
 |.sh d=>∃v,σ[i]?=some (some v)/\Rp (λa=>¬p.fp a/\own a=none) H v d
 |.sn d=>∃v,σ[i]?=some (some v)/\Rp (λa=>H0 a=none/\¬p.fp a/\own a=none) H v d
 |.dw r d=>∃v,σ[i]?=some (some v)/\Rp (λa=>own a=some r) H v d
 |.pen C=>σ[i]?=some (some p.pv)/\C p
 |.rw r L=>∃st as,σ[i]?=some (some (.ref st))/\RowsH own r H st as L
 |.tw r L=>∃st as,σ[i]?=some (some (.ref st))/\RowsT own r H st as L
 |.scr v b=>σ[i]?=some (some v)/\(b=true->p=dB)
 |.sp r b ds=>∃l vs,σ[i]?=some (some (.ref l))/\own l=some r/\H l=some (.lst vs)/\Rps (okS p H0 own b) H vs ds
structure EnvD[Gr](p:Pn)(H0:Hp)(own:Addr->Option Nat)(σ:L2.St)(H:Hp)(ρ:List Sl):Prop where
 k0:∀b o,H0 b=some o->¬p.fp b->H b=some o
 pen:p.PI H
 ow:∀a r,own a=some r->H0 a=none/\¬p.fp a/\H a≠none
 slot:∀i s,ρ[i]?=some s->jX p H0 own σ H i s
 len:ρ.length=σ.length
 gr:Gr.G p H0
variable [Gr]
section
variable {p:Pn}{H0 H H':Hp}{own:Addr->Option Nat}{σ:L2.St}{ρ:List Sl}
def EnvD.at(E:EnvD p H0 own σ H ρ):At p H0 own H H:=⟨E.k0,Kp.refl,E.pen,E.pen,E.ow⟩
def EnvD.go(E:EnvD p H0 own σ H ρ)(k:Kp p H H')(i:p.PI H'):EnvD p H0 own σ H' ρ:=by
 have A:=E.at
 have tp:=gA A k
 refine⟨λb o e n=>k b o (E.k0 b o e n) n,i,λa r e=>?_,λj s e=>?_,E.len,E.gr⟩
 ·obtain⟨h1,h2,h3⟩:=E.ow a r e
  refine⟨h1,h2,λz=>?_⟩
  cases q:H a with
  |none=>exact h3 q
  |some o=>rw[k a o q h2] at z;cases z
 ·have q:=E.slot j s e
  cases s with
  |any=>trivial
  |im d=>exact let ⟨v,a,b⟩:=q;⟨v,a,b.mono (λ_ o=>o) (λ_ _ o=>o.elim) tp⟩
  |sh d=>exact let ⟨v,a,b⟩:=q;⟨v,a,b.mono (λ_ o=>o) (λc u o e=>k c u e o.1) tp⟩
  |sn d=>exact let ⟨v,a,b⟩:=q;⟨v,a,b.mono (λ_ o=>o) (λc u o e=>k c u e o.2.1) tp⟩
  |dw r d=>exact let ⟨v,a,b⟩:=q;⟨v,a,b.mono (λ_ o=>o) (λc u o e=>k c u e (E.ow c r o).2.1) tp⟩
  |pen C=>exact q
  |rw r L=>exact let ⟨st,as,a,b⟩:=q;⟨st,as,a,b.mono (λc u o e=>⟨o,k c u e (E.ow c r o).2.1⟩) tp⟩
  |tw r L=>exact let ⟨st,as,a,b⟩:=q;⟨st,as,a,b.mono (λc u o e=>⟨o,k c u e (E.ow c r o).2.1⟩) tp⟩
  |scr v b=>exact q
  |sp r b ds=>exact let ⟨l,vs,a,o,h,z⟩:=q;⟨l,vs,a,o,k l _ h (E.ow l r o).2.1,z.mono (λ_ o=>o) (λc u o e=>k c u e o.2.1) tp⟩
end
abbrev DK:=Kd->D->Prop
abbrev DE:=List Sl->DK->Prop
def bD(t:DE):TE:=λσ H Q=>∃p H0 own ρ P,EnvD p H0 own σ H ρ/\t ρ P/\∀k d v H',P k d->At p H0 own H H'->Rp (okK p H0 own H k) H' v d->Q v H'
abbrev PD(X:Cx)(e:Expr)(t:DE):Prop:=PE X e (bD t)
abbrev DA:=List Sl->(List (Kd×D)->Prop)->Prop
inductive RpK(p:Pn)(H0:Hp)(own:Addr->Option Nat)(Hb H:Hp):List V->List (Kd×D)->Prop
 |nil:RpK p H0 own Hb H [] []
 |cons {v:V}{kd:Kd×D}{vs:List V}{ks:List (Kd×D)} (h:Rp (okK p H0 own Hb kd.1) H v kd.2) (t:RpK p H0 own Hb H vs ks):RpK p H0 own Hb H (v::vs) (kd::ks)
def dN(t:DA):TA:=λσ H Q=>∃p H0 own ρ P,EnvD p H0 own σ H ρ/\t ρ P/\∀ks vs H',P ks->At p H0 own H H'->RpK p H0 own H H' vs ks->Q vs H'
abbrev PDA(X:Cx)(es:List Expr)(t:DA):Prop:=PA X es (dN t)
abbrev DT:=List Sl->(Bool->Prop)->Prop
def liftT(t:DT):TT:=λσ H Q=>∃p H0 own ρ P,EnvD p H0 own σ H ρ/\t ρ P/\∀b H',P b->At p H0 own H H'->Q b H'
abbrev PDT(X:Cx)(e:Expr)(t:DT):Prop:=PT X e (liftT t)
def PE.wk{X:Cx}{e:Expr}{t t':TE}(h:PE X e t)(w:∀σ H Q,t' σ H Q->t σ H Q):PE X e t':=λpins s σ H Q I q=>h pins s σ H Q I (w σ H Q q)
def PT.wk{X:Cx}{e:Expr}{t t':TT}(h:PT X e t)(w:∀σ H Q,t' σ H Q->t σ H Q):PT X e t':=λpins s σ H Q I q=>h pins s σ H Q I (w σ H Q q)
def PA.wk{X:Cx}{e:List Expr}{t t':TA}(h:PA X e t)(w:∀σ H Q,t' σ H Q->t σ H Q):PA X e t':=λpos pins s σ H Q I q=>h pos pins s σ H Q I (w σ H Q q)
section
variable {X:Cx}{pos:Pos}{a b:Expr}{ta tb:DE}
def RpK.go{p:Pn}{H0 Hb H H':Hp}{own:Addr->Option Nat}(A:At p H0 own Hb H)(k:Kp p H H'):∀{vs:List V}{ks:List (Kd×D)},RpK p H0 own Hb H vs ks->RpK p H0 own Hb H' vs ks
 |_,_,.nil=>.nil
 |_,_,.cons h t=>.cons (mL A k h) (RpK.go A k t)
def RpK.base{p:Pn}{H0 Hb H H':Hp}{own:Addr->Option Nat}(A:At p H0 own Hb H):∀{vs:List V}{ks:List (Kd×D)},RpK p H0 own H H' vs ks->RpK p H0 own Hb H' vs ks
 |_,_,.nil=>.nil
 |_,_,.cons h t=>.cons (mO A h) (RpK.base A t)
def tV(i:Nat):DE:=λρ P=>match ρ[i]? with
 |some (.im d)=>P .imm d
 |some (.sh d)=>P .shr d
 |some (.sn d)=>P .snw d
 |some (.dw r d)=>P (.reg r) d
 |some (.rw r L)=>P (.reg r) (.list (L.map Ī))
 |some (.tw r L)=>P (.reg r) (.tuple (L.map Ī))
 |some (.sp r b ds)=>P (if b=true then .n0 else .wk) (.list ds)
 |_=>False
def O5{i:Nat}{x:Str}{ps:Pos}(h:PE X (.Name x ps) (dJ i)):PD X (.Name x ps) (tV i):=PE.wk h (by
 rintro σ H Q ⟨p,H0,own,ρ,P,E,t,q⟩
 unfold tV at t
 split at t
 ·rename_i d e;obtain⟨v,e1,r⟩:=E.slot i _ e;exact⟨v,e1,q _ _ _ _ t E.at r⟩
 ·rename_i d e;obtain⟨v,e1,r⟩:=E.slot i _ e;exact⟨v,e1,q _ _ _ _ t E.at r⟩
 ·rename_i d e;obtain⟨v,e1,r⟩:=E.slot i _ e;exact⟨v,e1,q _ _ _ _ t E.at r⟩
 ·rename_i d e;obtain⟨v,e1,r⟩:=E.slot i _ e;exact⟨v,e1,q _ _ _ _ t E.at r⟩
 ·rename_i r L e;obtain⟨st,as,e1,h⟩:=E.slot i _ e;exact⟨_,e1,q _ _ _ _ t E.at h.rp⟩
 ·rename_i r L e;obtain⟨st,as,e1,h⟩:=E.slot i _ e;exact⟨_,e1,q _ _ _ _ t E.at h.rp⟩
 ·rename_i r b ds e
  obtain⟨l,vs,e1,o,h,z⟩:=E.slot i _ e
  refine⟨_,e1,q _ _ _ _ t E.at ?_⟩
  cases b with
  |true=>exact .lst ⟨(E.ow l r o).1,(E.ow l r o).2.1⟩ h (z.mono (λc n=>⟨n.1 rfl,n.2.1⟩) (λ_ _ _ e=>e) λ_ _ e=>e)
  |false=>exact .lst (E.ow l r o).2.1 h (z.mono (λc n=>n.2.1) (λ_ _ _ e=>e) λ_ _ e=>e)
 ·exact t.elim)
def tK(d:D):DE:=λ_ P=>P .imm d
def qW{e:Expr}{v:V}{d:D}(h:PE X e (tC v))(r:∀H,Rp (λ_=>False) H v d):PD X e (tK d):=PE.wk h (by
 rintro σ H Q ⟨p,H0,own,ρ,P,E,t,q⟩
 exact q _ _ _ _ t E.at (r H))
def aF{i:Int}{j:Nat}:PD X (.Constant (.int i) j pos) (tK (.int i)):=qW GQ λ_=>.int i
def fZ{i:Bool}{j:Nat}:PD X (.Constant (.bool i) j pos) (tK (.bool i)):=qW G4 λ_=>.bl i
def fK{x:Str}{j:Nat}:PD X (.Constant (.str x) j pos) (tK (.str x)):=qW OJ λ_=>.str x
abbrev G2:=Kd->D->Kd->D->DK->Prop
def t2(g:G2)(ta tb:DE):DE:=λρ P=>ta ρ λk1 d1=>tb ρ λk2 d2=>g k1 d1 k2 d2 P
def Ok2(g:G2)(r:R2):Prop:=∀p H0 own Hb H x y k1 d1 k2 d2 P Q,At p H0 own Hb H->Rp (okK p H0 own Hb k1) H x d1->Rp (okK p H0 own Hb k2) H y d2->g k1 d1 k2 d2 P ->
 (∀k d v H',P k d->Kp p H H'->p.PI H'->Rp (okK p H0 own Hb k) H' v d->Q v H')->r x y H Q
def ug{g:G2}{r:R2}(ok:Ok2 g r):∀σ H Q,bD (t2 g ta tb) σ H Q->tOp r (bD ta) (bD tb) σ H Q:=by
 rintro σ H Q ⟨p,H0,own,ρ,P,E,t,q⟩
 refine⟨p,H0,own,ρ,_,E,t,λk1 d1 v1 H1 t1 A1 r1=>?_⟩
 have E1:=E.go A1.kp A1.pen
 refine⟨p,H0,own,ρ,_,E1,t1,λk2 d2 v2 H2 t2 A2 r2=>?_⟩
 have A:At p H0 own H H2:=A1.base A2
 exact ok p H0 own H H2 v1 v2 k1 d1 k2 d2 P Q A (mL A1 A2.kp r1) (mO A1 r2) t2 λk d v H' h k3 i3 r3=>q k d v H' h (A.go k3 i3) r3
def kZ{op:Operator}{r:R2}{g:G2}(ho:OpR X (binaryOp op) r)(ok:Ok2 g r)(ha:PD X a ta)(hb:PD X b tb):PD X (.BinOp a op b pos) (t2 g ta tb):=PE.wk (bW ho ha hb) (ug ok)
def lU{op:CmpOp}{r:R2}{g:G2}(ho:OpR X (compareOp op) r)(ok:Ok2 g r)(ha:PD X a ta)(hb:PD X b tb)(hm:behindInMarks op b=false):PD X (.Compare a [op] [b] pos) (t2 g ta tb):=PE.wk (Kq ho ha hb hm) (ug ok)
def fB(t:DE):DT:=λρ P=>t ρ λ_ d=>match d with
 |.bool b=>P b
 |_=>False
def rJ{t:DE}:∀σ H Q,liftT (fB t) σ H Q->(bD t) σ H (λx H'=>∃k,x=.bl k/\Q k H'):=by
 rintro σ H Q ⟨p,H0,own,ρ,P,E,t,q⟩
 refine⟨p,H0,own,ρ,_,E,t,λk d v H' h A r=>?_⟩
 cases d with
 |bool b=>exact⟨b,r.bl',q b H' h A⟩
 |_=>exact h.elim
def eE{op:CmpOp}{r:R2}{g:G2}(ho:OpR X (compareOp op) r)(ok:Ok2 g r)(ha:PD X a ta)(hb:PD X b tb)(hm:behindInMarks op b=false):PDT X (.Compare a [op] [b] pos) (fB (t2 g ta tb)) :=
 PT.wk (iQ ho ha hb hm) λσ H Q h=>ug ok σ H _ (rJ σ H Q h)
def d9{e:Expr}{t:DE}(h:PD X e t)(he:∀whole,isTrue e X.env whole=(do let v ←whole;standAt e.pos;holding [v] (truthy v)):=by intro _;rfl):PDT X e (fB t) :=
 PT.wk (yZ h he) λσ H Q q=>rJ σ H Q q
def T3(t:DT):DT:=λρ P=>t ρ λb=>P (!b)
def fX{t:DT}(ha:PDT X a t):PDT X (.UnaryOp .Not a pos) (T3 t):=PT.wk (zf ha) (by
 rintro σ H Q ⟨p,H0,own,ρ,P,E,t,q⟩
 exact⟨p,H0,own,ρ,_,E,t,λb H' h A=>q _ H' h A⟩)
abbrev PDW(X:Cx)(e:Expr)(t:DT):Prop:=PW X e (liftT t)
def PW.wk{X:Cx}{e:Expr}{t t':TT}(h:PW X e t)(w:∀σ H Q,t' σ H Q->t σ H Q):PW X e t':=λwh pins s σ H Q I q=>h wh pins s σ H Q I (w σ H Q q)
def QV(t u:DT):DT:=λρ P=>t ρ λb=>if b=true then u ρ P else P false
def dOr(t u:DT):DT:=λρ P=>t ρ λb=>if b=true then P true else u ρ P
section
variable {rest:List Expr}{t u:DT}
def fJ(ha:PDT X a t):PDW X (.BoolOp .And [a] pos) t:=Bu ha
def d8(ha:PDT X a t):PDW X (.BoolOp .Or [a] pos) t:=Gq ha
def Iw:∀σ H Q,liftT (QV t u) σ H Q->Rq (liftT t) (liftT u) σ H Q:=by
 rintro σ H Q ⟨p,H0,own,ρ,P,E,t,q⟩
 refine⟨p,H0,own,ρ,_,E,t,λb H' h A=>?_⟩
 cases b with
 |true=>exact aN ⟨p,H0,own,ρ,P,E.go A.kp A.pen,by simpa using h,λc H2 h2 A2=>q c H2 h2 (A.base A2)⟩
 |false=>exact aM (q false H' (by simpa using h) A)
def K9:∀σ H Q,liftT (dOr t u) σ H Q->tOr (liftT t) (liftT u) σ H Q:=by
 rintro σ H Q ⟨p,H0,own,ρ,P,E,t,q⟩
 refine⟨p,H0,own,ρ,_,E,t,λb H' h A=>?_⟩
 cases b with
 |true=>exact aN (q true H' (by simpa using h) A)
 |false=>exact aM ⟨p,H0,own,ρ,P,E.go A.kp A.pen,by simpa using h,λc H2 h2 A2=>q c H2 h2 (A.base A2)⟩
def iR(ha:PDT X a t)(hb:PDW X (.BoolOp .And (b::rest) pos) u):PDW X (.BoolOp .And (a::b::rest) pos) (QV t u):=PW.wk (Gu ha hb) Iw
def dU(ha:PDT X a t)(hb:PDW X (.BoolOp .Or (b::rest) pos) u):PDW X (.BoolOp .Or (a::b::rest) pos) (dOr t u):=PW.wk (Mq ha hb) K9
def PDW.pt{e:Expr}{t:DT}(h:PDW X e t):PDT X e t:=PW.pt h
end
end
variable [Gr]
section
variable {X:Cx}{pos:Pos}{a b e:Expr}{es:List Expr}{ta tb te:DE}{t:DA}
def fU:DA:=λ_ P=>P []
def bR(te:DE)(t:DA):DA:=λρ P=>te ρ λk d=>t ρ λks=>P ((k,d)::ks)
def ak:PDA X [] fU:=PA.wk oV (by
 rintro σ H Q ⟨p,H0,own,ρ,P,E,t,q⟩
 exact q [] [] H t E.at .nil)
def aj(ha:PD X e te)(hr:PDA X es t)(hs:zS X e es:=by rfl):PDA X (e::es) (bR te t):=PA.wk (cX ha hr hs) (by
 rintro σ H Q ⟨p,H0,own,ρ,P,E,t,q⟩
 refine⟨p,H0,own,ρ,_,E,t,λk d v H1 h A r=>?_⟩
 refine⟨p,H0,own,ρ,_,E.go A.kp A.pen,h,λks vs H2 h2 A2 r2=>?_⟩
 exact q _ _ H2 h2 (A.base A2) (.cons (mL A A2.kp r) (RpK.base A r2)))
def joins:List (Kd×D)->Kd
 |[]=>.imm
 |kd::ks=>kd.1.join (joins ks)
def RpK.all{p:Pn}{H0 Hb H H2:Hp}{own:Addr->Option Nat}(A:At p H0 own Hb H):∀{vs:List V}{ks:List (Kd×D)}{k:Kd},(joins ks).le k=true->RpK p H0 own Hb H2 vs ks->Rps (okK p H0 own Hb (joins ks)) H2 vs (ks.map (·.2))
 |_,_,_,_,.nil=>.nil
 |_,kd::ks,k,e,.cons h t=>by
  have j:=eF kd.1 (joins ks)
  exact .cons (mK A j.1 h) ((RpK.all A (k:=joins ks) (by cases joins ks <;> simp[Kd.le]) t).mono (λa o=>bZ A j.2 o) (λ_ _ _ e=>e) λ_ _ e=>e)
def Kd.le_refl(k:Kd):k.le k=true:=by cases k <;> simp[Kd.le]
def RpK.length{p:Pn}{H0 Hb H2:Hp}{own:Addr->Option Nat}:∀{vs:List V}{ks:List (Kd×D)},RpK p H0 own Hb H2 vs ks->vs.length=ks.length
 |_,_,.nil=>rfl
 |_,_,.cons _ t=>by rw[ì,ì,RpK.length t]
def Mf(t:DA):DE:=λρ P=>t ρ λks=>ks.length<=1000/\P ((joins ks).join .new) (.list (ks.map (·.2)))
def uM(t:DA):DE:=λρ P=>t ρ λks=>ks.length<=1000/\P (norm (joins ks) (.tuple (ks.map (·.2)))) (.tuple (ks.map (·.2)))
def cB(h:PDA X es t):PD X (.List es pos) (Mf t):=PE.wk (jC h) (by
 rintro σ H Q ⟨p,H0,own,ρ,P,E,t,q⟩
 refine⟨p,H0,own,ρ,_,E,t,λks vs H1 h A r=>?_⟩
 have h24:=ï
 have hl:=r.length
 refine⟨by have:=h.1;omega,λl hl=>?_⟩
 obtain⟨k2,i2,nw⟩:=A.new hl (.lst vs)
 have j:=eF (joins ks) .new
 refine q _ _ _ _ h.2 (A.go k2 i2) (.lst (bZ A j.2 nw) aq ?_)
 exact(cj A k2 (RpK.all A (Kd.le_refl _) r)).mono (λa o=>bZ A j.1 o) (λ_ _ _ e=>e) λ_ _ e=>e)
def cM{x1}(h:PDA X es t):PD X (.Tuple es x1 pos) (uM t):=PE.wk (GK h) (by
 rintro σ H Q ⟨p,H0,own,ρ,P,E,t,q⟩
 refine⟨p,H0,own,ρ,_,E,t,λks vs H1 h A r=>?_⟩
 have h24:=ï
 have hl:=r.length
 refine⟨by have:=h.1;omega,λl hl=>?_⟩
 obtain⟨k2,i2,nw⟩:=A.new hl (.tup vs)
 exact q _ _ _ _ h.2 (A.go k2 i2) (aX (.tup aq (cj A k2 (RpK.all A (Kd.le_refl _) r)))))
abbrev GC:=List (Kd×D)->DK->Prop
def tCl(g:GC)(t:DA):DE:=λρ P=>t ρ λks=>g ks P
def OkC(g:GC)(r:List V->Hp->VK->Prop):Prop:=∀p H0 own Hb H vs ks P Q,At p H0 own Hb H->RpK p H0 own Hb H vs ks->g ks P ->
 (∀k d v H',P k d->Kp p H H'->p.PI H'->Rp (okK p H0 own Hb k) H' v d->Q v H')->r vs H Q
def Ng{g:GC}{r:List V->Hp->VK->Prop}(ok:OkC g r):∀σ H Q,bD (tCl g t) σ H Q->tCB r (dN t) σ H Q:=by
 rintro σ H Q ⟨p,H0,own,ρ,P,E,t,q⟩
 refine⟨p,H0,own,ρ,_,E,t,λks vs H1 h A r=>?_⟩
 exact ok p H0 own H H1 vs ks P Q A r h λk d v H' h2 k2 i2 r2=>q k d v H' h2 (A.go k2 i2) r2
def cN{r:List V->Hp->VK->Prop}{id:String}{x:Str}{ps:Pos}{g:GC}(hc:bK X (.builtin id) r)(ok:OkC g r)(hg:Gl X x)(hm:X.mg x=none)(hv:bootBuiltins x=some (.builtin id))(ha:PDA X (e::es) t)(hn:x≠"__name__":=by decide)(hdb:zB x:=by decide)(he:zS X e es:=by rfl)(hpl:zP X pos es:=by rfl):PD X (.Call (.Name x ps) (e::es) [] pos) (tCl g t):=PE.wk (dM hc hg hm hv ha hn hdb he hpl) (Ng ok)
def xK{r:List V->Hp->VK->Prop}{id:String}{x:Str}{ps:Pos}{g:GC}(hc:bK X (.type id) r)(ok:OkC g r)(hg:Gl X x)(hm:X.mg x=none)(hv:bootBuiltins x=some (.type id))(ha:PDA X (e::es) t)(hn:x≠"__name__":=by decide)(hdb:zB x:=by decide)(he:zS X e es:=by rfl)(hpl:zP X pos es:=by rfl):PD X (.Call (.Name x ps) (e::es) [] pos) (tCl g t):=PE.wk (tQ hc hg hm hv ha hn hdb he hpl) (Ng ok)
def spD(t:List D->(D->Prop)->Prop):Sp:=λvs H Q _=>∃ds P,Rps (λ_=>True) H vs ds/\t ds P/\∀d v H',P d->Same H H'->Rp (λa=>H a=none) H' v d->Q v H'
def spP(C:Pn->Prop)(t:List D->(D->Prop)->Prop):Sp:=λvs H Q _=>∃p vs' ds P,C p/\vs=p.pv::vs'/\p.PI H/\Rps (λa=>¬p.fp a) H vs' ds/\t ds P/\∀d v H',P d->Kp p H H'->p.PI H'->Rp (λa=>H a=none) H' v d->Q v H'
def tFn(f:List D->(D->Prop)->Prop)(t:DA):DE:=λρ P=>t ρ λks=>f (ks.map (·.2)) λd=>P (norm .new d) d
def RpK.rps{p:Pn}{H0 Hb H H2:Hp}{own:Addr->Option Nat}(A:At p H0 own Hb H):∀{vs:List V}{ks:List (Kd×D)},RpK p H0 own Hb H2 vs ks->Rps (λa=>¬p.fp a) H2 vs (ks.map (·.2))
 |_,_,.nil=>.nil
 |_,_,.cons h t=>.cons (h.mono (λa o=>j8 A o) (λ_ _ _ e=>e) λ_ _ e=>e) (RpK.rps A t)
def Lb{f:List D->(D->Prop)->Prop}:∀σ H Q,bD (tFn f t) σ H Q->tG (spD f) [] E0 (dN t) σ H Q:=by
 rintro σ H Q ⟨p,H0,own,ρ,P,E,t,q⟩
 refine⟨p,H0,own,ρ,_,E,t,λks vs H1 h A r=>?_⟩
 show spD f (vs++[]) H1 Q E0
 rw[ê]
 refine⟨ks.map (·.2),_,(RpK.rps A r).mono (λ_ _=>trivial) (λ_ _ _ e=>e) λ_ _ e=>e,h,λd v H' h2 s r2=>?_⟩
 have k2:Kp p H1 H':=Kp.of s
 refine q _ d v H' h2 (A.go k2 (p.mono H1 H' A.pen λb o _ e=>s b o e)) (aX ?_)
 exact r2.mono (λa o=>A.free o) (λ_ _ _ e=>e) λ_ _ e=>e
def Oj(C:Pn->Prop)(f:List D->(D->Prop)->Prop)(i:Nat)(t:DA):DE:=λρ P=>ρ[i]?=some (.pen C)/\tFn f t ρ P
def Iu{C:Pn->Prop}{f:List D->(D->Prop)->Prop}{i:Nat}:∀σ H Q,bD (Oj C f i t) σ H Q->tG (spP C f) [] E0 (qF (dJ i) (dN t)) σ H Q:=by
 rintro σ H Q ⟨p,H0,own,ρ,P,E,⟨hp,t⟩,q⟩
 obtain⟨hs,c⟩:=E.slot i _ hp
 refine⟨p.pv,hs,p,H0,own,ρ,_,E,t,λks vs H1 h A r=>?_⟩
 show spP C f ((p.pv::vs)++[]) H1 Q E0
 rw[ê]
 refine⟨p,vs,ks.map (·.2),_,c,rfl,A.pen,RpK.rps A r,h,λd v H' h2 k2 i2 r2=>?_⟩
 exact q _ d v H' h2 (A.go k2 i2) (aX (r2.mono (λa o=>A.free o) (λ_ _ _ e=>e) λ_ _ e=>e))
def gI(C:Int->Int->Prop)(f:Int->Int->D):G2:=λ_ d1 _ d2 P=>match d1,d2 with
 |.int i,.int j=>C i j/\P .imm (f i j)
 |_,_=>False
def gI0(f:Int->Int->D):G2:=λ_ d1 _ d2 P=>match d1,d2 with
 |.int i,.int j=>P .imm (f i j)
 |_,_=>False
def okI{C:Int->Int->Prop}{f:Int->Int->D}{g:Int->Int->V}(h:∀i j H,Rp (λ_=>False) H (g i j) (f i j)):Ok2 (gI C f) (rI C g):=by
 intro p H0 own Hb H x y k1 d1 k2 d2 P Q A r1 r2 t q
 unfold gI at t
 split at t
 ·rename_i i j
  exact⟨i,j,r1.int',r2.int',t.1,q _ _ _ _ t.2 Kp.refl A.pen (h i j H)⟩
 ·exact t.elim
def xW{f:Int->Int->D}{g:Int->Int->V}(h:∀i j H,Rp (λ_=>False) H (g i j) (f i j)):Ok2 (gI0 f) (rI0 g):=by
 intro p H0 own Hb H x y k1 d1 k2 d2 P Q A r1 r2 t q
 unfold gI0 at t
 split at t
 ·rename_i i j
  exact⟨i,j,r1.int',r2.int',q _ _ _ _ t Kp.refl A.pen (h i j H)⟩
 ·exact t.elim
def jF(ha:PD X a ta)(hb:PD X b tb):PD X (.BinOp a .Add b pos) (t2 (gI0 λi j=>.int (i+j)) ta tb):=kZ iY (xW λi j _=>.int _) ha hb
def oU(ha:PD X a ta)(hb:PD X b tb):PD X (.BinOp a .Sub b pos) (t2 (gI0 λi j=>.int (i - j)) ta tb):=kZ Pa (xW λi j _=>.int _) ha hb
def G7(ha:PD X a ta)(hb:PD X b tb):PD X (.BinOp a .Mult b pos) (t2 (gI JM λi j=>.int (i * j)) ta tb):=kZ lV (okI λi j _=>.int _) ha hb
def Ks(ha:PD X a ta)(hb:PD X b tb):PD X (.BinOp a .FloorDiv b pos) (t2 (gI Uj λi j=>.int (i / j)) ta tb):=kZ vB (okI λi j _=>.int _) ha hb
def O7(ha:PD X a ta)(hb:PD X b tb):PD X (.BinOp a .Mod b pos) (t2 (gI (λ_ j=>0<j) λi j=>.int (i % j)) ta tb):=kZ iW (okI λi j _=>.int _) ha hb
def R8(ha:PD X a ta)(hb:PD X b tb):PD X (.Compare a [.Lt] [b] pos) (t2 (gI0 λi j=>.bool (decide (i<j))) ta tb):=lU lg (xW λi j _=>.bl _) ha hb (bT _)
def G9(ha:PD X a ta)(hb:PD X b tb):PD X (.Compare a [.GtE] [b] pos) (t2 (gI0 λi j=>.bool (decide (j<=i))) ta tb):=lU Ht (xW λi j _=>.bl _) ha hb (bT _)
def zy(ha:PD X a ta)(hb:PD X b tb):PDT X (.Compare a [.Lt] [b] pos) (fB (t2 (gI0 λi j=>.bool (decide (i<j))) ta tb)):=eE lg (xW λi j _=>.bl _) ha hb (bT _)
def lO(ha:PD X a ta)(hb:PD X b tb):PDT X (.Compare a [.Gt] [b] pos) (fB (t2 (gI0 λi j=>.bool (decide (j<i))) ta tb)):=eE Hs (xW λi j _=>.bl _) ha hb (bT _)
def zA(ha:PD X a ta)(hb:PD X b tb):PDT X (.Compare a [.GtE] [b] pos) (fB (t2 (gI0 λi j=>.bool (decide (j<=i))) ta tb)):=eE Ht (xW λi j _=>.bl _) ha hb (bT _)
def scD:D->D->Option Bool
 |.int i,.int j=>some (decide (i=j))
 |.bool i,.bool j=>some (decide (i=j))
 |.str i,.str j=>some (decide (i=j))
 |_,_=>none
def gEq(neg:Bool):G2:=λ_ d1 _ d2 P=>match scD d1 d2 with
 |some b=>P .imm (.bool (if neg then !b else b))
 |none=>False
def PJ:Ok2 (gEq false) rEq:=by
 intro p H0 own Hb H x y k1 d1 k2 d2 P Q A r1 r2 t q
 unfold gEq scD at t
 split at t
 ·rename_i b e
  split at e <;> first|cases e|skip
  ·rw[r1.int',r2.int']
   refine⟨rfl,?_⟩
   have e2:∀i j:Int,decide (V.int i=V.int j)=decide (i=j):=λi j=>by simp
   rw[e2];exact q _ _ _ _ t Kp.refl A.pen (.bl _)
  ·rw[r1.bl',r2.bl']
   refine⟨rfl,?_⟩
   have e2:∀i j:Bool,decide (V.bl i=V.bl j)=decide (i=j):=λi j=>by simp
   rw[e2];exact q _ _ _ _ t Kp.refl A.pen (.bl _)
  ·rw[r1.str',r2.str']
   refine⟨rfl,?_⟩
   have e2:∀i j:Str,decide (V.str i=V.str j)=decide (i=j):=λi j=>by simp
   rw[e2];exact q _ _ _ _ t Kp.refl A.pen (.bl _)
 ·exact t.elim
def PB:Ok2 (gEq true) rNe:=by
 intro p H0 own Hb H x y k1 d1 k2 d2 P Q A r1 r2 t q
 unfold gEq scD at t
 split at t
 ·rename_i b e
  split at e <;> first|cases e|skip
  ·rw[r1.int',r2.int']
   refine⟨rfl,?_⟩
   have e2:∀i j:Int,decide (V.int i=V.int j)=decide (i=j):=λi j=>by simp
   rw[e2];exact q _ _ _ _ t Kp.refl A.pen (.bl _)
  ·rw[r1.bl',r2.bl']
   refine⟨rfl,?_⟩
   have e2:∀i j:Bool,decide (V.bl i=V.bl j)=decide (i=j):=λi j=>by simp
   rw[e2];exact q _ _ _ _ t Kp.refl A.pen (.bl _)
  ·rw[r1.str',r2.str']
   refine⟨rfl,?_⟩
   have e2:∀i j:Str,decide (V.str i=V.str j)=decide (i=j):=λi j=>by simp
   rw[e2];exact q _ _ _ _ t Kp.refl A.pen (.bl _)
 ·exact t.elim
def R9(ha:PD X a ta)(hb:PD X b tb):PD X (.Compare a [.Eq] [b] pos) (t2 (gEq false) ta tb):=lU tR PJ ha hb (bT _)
def R7(ha:PD X a ta)(hb:PD X b tb):PD X (.Compare a [.NotEq] [b] pos) (t2 (gEq true) ta tb):=lU BK PB ha hb (bT _)
def G6(ha:PD X a ta)(hb:PD X b tb):PDT X (.Compare a [.Eq] [b] pos) (fB (t2 (gEq false) ta tb)):=eE tR PJ ha hb (bT _)
def G5(ha:PD X a ta)(hb:PD X b tb):PDT X (.Compare a [.NotEq] [b] pos) (fB (t2 (gEq true) ta tb)):=eE BK PB ha hb (bT _)
def gIx:G2:=λk1 d1 _ d2 P=>match d1,d2 with
 |.list ds,.int i=>∃d,atI ds i=some d/\P (norm k1 d) d
 |.tuple ds,.int i=>∃d,atI ds i=some d/\P (norm k1 d) d
 |_,_=>False
def Rps.atI{ok:Addr->Prop}{H:Hp}{vs:List V}{ds:List D}{i:Int}{d:D}(r:Rps ok H vs ds)(h:L2.atI ds i=some d):∃v,L2.atI vs i=some v/\Rp ok H v d:=by
 unfold L2.atI at h ⊢
 rw[r.length]
 cases e:ixN ds.length i with
 |none=>rw[e] at h;cases h
 |some j =>
  rw[e] at h
  obtain⟨v,h1,h2⟩:=r.getD (i:=j) (d:=d) h
  exact⟨v,h1,h2⟩
def Tg:G2:=λk1 d1 _ d2 P=>match d1,d2 with
 |.list ds,.int i=>∃d,atI ds i=some d/\P (norm k1 d) d
 |_,_=>False
def Tf:G2:=λk1 d1 _ d2 P=>match d1,d2 with
 |.tuple ds,.int i=>∃d,atI ds i=some d/\P (norm k1 d) d
 |_,_=>False
def gw(ha:PD X a ta)(hb:PD X b tb)(hs:ou b):PD X (.Subscript a b pos) (t2 Tg ta tb):=PE.wk (dY cF ha hb hs) (ug (by
 intro p H0 own Hb H x y k1 d1 k2 d2 P Q A r1 r2 t q
 unfold Tg at t
 split at t
 ·rename_i ds i
  obtain⟨d,hd,t⟩:=t
  obtain⟨c,vs,rfl,o,hc,rs⟩:=r1.bO
  obtain⟨v,hv,rv⟩:=rs.atI hd
  exact⟨c,vs,i,v,rfl,r2.int',SqL.of hc,hv,q _ _ _ _ t Kp.refl A.pen (aX rv)⟩
 ·exact t.elim))
def jE(ha:PD X a ta)(hb:PD X b tb)(hs:ou b):PD X (.Subscript a b pos) (t2 Tf ta tb):=PE.wk (dY vO ha hb hs) (ug (by
 intro p H0 own Hb H x y k1 d1 k2 d2 P Q A r1 r2 t q
 unfold Tf at t
 split at t
 ·rename_i ds i
  obtain⟨d,hd,t⟩:=t
  obtain⟨c,vs,rfl,hc,rs⟩:=r1.fu
  obtain⟨v,hv,rv⟩:=rs.atI hd
  exact⟨c,vs,i,v,rfl,r2.int',SqT.of hc,hv,q _ _ _ _ t Kp.refl A.pen (aX rv)⟩
 ·exact t.elim))
def fG{p:Pn}{H0 Hb H:Hp}{own:Addr->Option Nat}{vs:List V}{kd:Kd×D}(r:RpK p H0 own Hb H vs [kd]):∃v,vs=[v]/\Rp (okK p H0 own Hb kd.1) H v kd.2:=by
 cases r with
 |cons h t=>cases t;exact⟨_,rfl,h⟩
def J6{p:Pn}{H0 Hb H:Hp}{own:Addr->Option Nat}{vs:List V}{kd ke:Kd×D}(r:RpK p H0 own Hb H vs [kd,ke]):∃v w,vs=[v,w]/\Rp (okK p H0 own Hb kd.1) H v kd.2/\Rp (okK p H0 own Hb ke.1) H w ke.2:=by
 cases r with
 |cons h t =>
  cases t with
  |cons h2 t2=>cases t2;exact⟨_,_,rfl,h,h2⟩
def Lp:GC:=λks P=>match ks with
 |[(_,.list ds)]=>P .imm (.int ds.length)
 |[(_,.tuple ds)]=>P .imm (.int ds.length)
 |_=>False
def Sy{K:Ú}:OkC Lp (λxs H Q=>∃p ys,xs=[.ref p]/\(SqL K H p ys\/SqT K H p ys)/\Q (.int ys.length) H):=by
 intro p H0 own Hb H vs ks P Q A r t q
 unfold Lp at t
 split at t
 ·obtain⟨v,rfl,r'⟩:=fG r
  obtain⟨c,vs,rfl,o,hc,rs⟩:=r'.bO
  exact⟨c,vs,rfl,.inl (SqL.of hc),by rw[rs.length];exact q _ _ _ _ t Kp.refl A.pen (.int _)⟩
 ·obtain⟨v,rfl,r'⟩:=fG r
  obtain⟨c,vs,rfl,hc,rs⟩:=r'.fu
  exact⟨c,vs,rfl,.inr (SqT.of hc),by rw[rs.length];exact q _ _ _ _ t Kp.refl A.pen (.int _)⟩
 ·exact t.elim
def bB{ps:Pos}(hm:X.mg "len"=none)(ha:PDA X [a] t)(hg:Gl X "len":=by rfl)(he:zS X a []:=by rfl)(hpl:zP X pos []:=by rfl):PD X (.Call (.Name "len" ps) [a] [] pos) (tCl Lp t) :=
 cN eU Sy hg hm PySem.boot_len ha (by decide) (by decide) he hpl
end
variable [Gr]
section
variable {ok ok':Addr->Prop}{H H':Hp}
mutual
def Rp.cU(f:∀a o,ok a->H a=some o->ok' a/\H' a=some o)(t:∀a xs,H a=some (.tup xs)->H' a=some (.tup xs)):∀{v:V}{d:D},Rp ok H v d->Rp ok' H' v d
 |_,_,.non=>.non
 |_,_,.bl b=>.bl b
 |_,_,.int i=>.int i
 |_,_,.str x=>.str x
 |_,_,.lst o h r=>.lst (f _ _ o h).1 (f _ _ o h).2 (Rps.cU f t r)
 |_,_,.tup h r=>.tup (t _ _ h) (Rps.cU f t r)
 |_,_,.dct o h r=>.dct (f _ _ o h).1 (f _ _ o h).2 (Rkv.cU f t r)
def Rps.cU(f:∀a o,ok a->H a=some o->ok' a/\H' a=some o)(t:∀a xs,H a=some (.tup xs)->H' a=some (.tup xs)):∀{v:List V}{d:List D},Rps ok H v d->Rps ok' H' v d
 |_,_,.nil=>.nil
 |_,_,.cons h r=>.cons (Rp.cU f t h) (Rps.cU f t r)
def Rkv.cU(f:∀a o,ok a->H a=some o->ok' a/\H' a=some o)(t:∀a xs,H a=some (.tup xs)->H' a=some (.tup xs)):∀{v:List (Key×V)}{d:List (D×D)},Rkv ok H v d->Rkv ok' H' v d
 |_,_,.nil=>.nil
 |_,_,.cons h r=>.cons (Rp.cU f t h) (Rkv.cU f t r)
end
end
structure DEnds where
 nx:List Sl->Prop
 rt:D->Prop
 bk:List Sl->Prop:=λ_=>False
 ct:List Sl->Prop:=λ_=>False
abbrev DS:=DEnds->List Sl->Prop
structure FrS(p:Pn)(own:Addr->Option Nat)(H:Hp)(own':Addr->Option Nat)(H':Hp):Prop where
 keep:∀b o,H b=some o->¬p.fp b->own b=none->H' b=some o/\own' b=none
 tup:∀a xs,H a=some (.tup xs)->H' a=some (.tup xs)
def FrS.trans{p:Pn}{o1 o2 o3:Addr->Option Nat}{H1 H2 H3:Hp}(a:FrS p o1 H1 o2 H2)(b:FrS p o2 H2 o3 H3):FrS p o1 H1 o3 H3:=⟨λc o h n e=>let ⟨x,y⟩:=a.keep c o h n e;b.keep c o x n y,λc xs e=>b.tup c xs (a.tup c xs e)⟩
def FrS.refl{p:Pn}{o1:Addr->Option Nat}{H1:Hp}:FrS p o1 H1 o1 H1:=⟨λ_ _ h _ e=>⟨h,e⟩,λ_ _ e=>e⟩
def At.tups{p:Pn}{H0 H H':Hp}{own:Addr->Option Nat}(A:At p H0 own H H'):∀a xs,H a=some (.tup xs)->H' a=some (.tup xs):=gA (⟨A.k0,Kp.refl,A.penb,A.penb,A.ow⟩:At p H0 own H H) A.kp
structure RPost(p:Pn)(H0 H':Hp)(v:V)(d:D):Prop where
 k0:∀b o,H0 b=some o->¬p.fp b->H' b=some o
 pen:p.PI H'
 rp:Rp (λa=>H0 a=none/\¬p.fp a) H' v d
structure Wish(p:Pn)(H0:Hp)(own:Addr->Option Nat)(H:Hp)(P:DEnds)(Q:Ends):Prop where
 nx:∀own' σ' H' ρ',EnvD p H0 own' σ' H' ρ'->FrS p own H own' H'->P.nx ρ'->Q.nx σ' H'
 rt:∀d v H',P.rt d->RPost p H0 H' v d->Q.rt v H'
 bk:∀own' σ' H' ρ',EnvD p H0 own' σ' H' ρ'->FrS p own H own' H'->P.bk ρ'->Q.bk σ' H'
 ct:∀own' σ' H' ρ',EnvD p H0 own' σ' H' ρ'->FrS p own H own' H'->P.ct ρ'->Q.ct σ' H'
def Wish.go{p:Pn}{H0 H H':Hp}{own own':Addr->Option Nat}{P:DEnds}{Q:Ends}(w:Wish p H0 own H P Q)(f:FrS p own H own' H'):Wish p H0 own' H' P Q :=
 ⟨λo s h r e g n=>w.nx o s h r e (f.trans g) n,w.rt,λo s h r e g n=>w.bk o s h r e (f.trans g) n,λo s h r e g n=>w.ct o s h r e (f.trans g) n⟩
def jM(t:DS):TS:=λQ σ H=>∃p H0 own ρ P,EnvD p H0 own σ H ρ/\t P ρ/\Wish p H0 own H P Q
abbrev PDS(X:Cx)(st:Stmt)(t:DS):Prop:=PS X st (jM t)
abbrev iG(X:Cx)(st:List Stmt)(t:DS):Prop:=PSs X st (jM t)
def PSs.wk'{X:Cx}{ss:List Stmt}{t t':TS}(h:PSs X ss t)(w:∀D σ H,t' D σ H->t D σ H):PSs X ss t':=λpins s σ H D I q=>h pins s σ H D I (w D σ H q)
def PS.wk'{X:Cx}{ss:Stmt}{t t':TS}(h:PS X ss t)(w:∀D σ H,t' D σ H->t D σ H):PS X ss t':=λpins s σ H D I q=>h pins s σ H D I (w D σ H q)
def At.frs{p:Pn}{H0 H H':Hp}{own:Addr->Option Nat}(A:At p H0 own H H'):FrS p own H own H':=⟨λb o h n e=>⟨A.kp b o h n,e⟩,A.tups⟩
section
variable {X:Cx}{pos:Pos}{st:Stmt}{rest:List Stmt}{e:Expr}{te:DE}{t u:DS}
def Cz:DS:=λP ρ=>P.nx ρ
def Eo(t u:DS):DS:=λP ρ=>t { P with nx:=u P } ρ
def gB:iG X [] Cz:=PSs.wk' dG (by
 rintro Q σ H ⟨p,H0,own,ρ,P,E,t,w⟩
 exact w.nx own σ H ρ E FrS.refl t)
def aJ(h1:PDS X st t)(h2:iG X rest u):iG X (st::rest) (Eo t u):=PSs.wk' (gJ h1 h2) (by
 rintro Q σ H ⟨p,H0,own,ρ,P,E,t,w⟩
 exact⟨p,H0,own,ρ,_,E,t,⟨λo s h r e g n=>⟨p,H0,o,r,P,e,n,w.go g⟩,w.rt,w.bk,w.ct⟩⟩)
def aK(h1:PDS X st t):iG X [st] t:=u6 h1
def nW:PDS X st (λ_ _=>False):=PS.wk' Gw (by
 rintro Q σ H ⟨p,H0,own,ρ,P,E,t,w⟩
 exact t)
def Aq(te:DE):DS:=λP ρ=>te ρ λk d=>k.le .n0=true/\P.rt d
def bw(he:PD X e te):PDS X (.Return (some e) pos) (Aq te):=PS.wk' (gq he) (by
 rintro Q σ H ⟨p,H0,own,ρ,P,E,t,w⟩
 refine⟨p,H0,own,ρ,_,E,t,λk d v H' h A r=>w.rt d v H' h.2 ⟨λb o e n=>A.kp b o (A.k0 b o e n) n,A.pen,?_⟩⟩
 exact mK A h.1 r)
def dIf(c:DT)(t u:DS):DS:=λP ρ=>c ρ λb=>if b=true then t P ρ else u P ρ
def dz{c:Expr}{a b:List Stmt}{tc:DT}(hc:PDT X c tc)(ha:iG X a t)(hb:iG X b u):PDS X (.If c a b pos) (dIf tc t u):=PS.wk' (jA hc ha hb) (by
 rintro Q σ H ⟨p,H0,own,ρ,P,E,t,w⟩
 refine⟨p,H0,own,ρ,_,E,t,λb H' h A=>?_⟩
 cases b with
 |true=>exact aN ⟨p,H0,own,ρ,P,E.go A.kp A.pen,by simpa using h,w.go A.frs⟩
 |false=>exact aM ⟨p,H0,own,ρ,P,E.go A.kp A.pen,by simpa using h,w.go A.frs⟩)
def NK(te:DE):DS:=λP ρ=>te ρ λ_ _=>P.nx ρ
def qz(he:PD X e te)(hs:swapsWith e none pos.line X.env=pure false:=by rfl):PDS X (.Expr e pos) (NK te):=PS.wk' (bL he hs) (by
 rintro Q σ H ⟨p,H0,own,ρ,P,E,t,w⟩
 exact⟨p,H0,own,ρ,_,E,t,λk d v H' h A r=>w.nx own σ H' ρ (E.go A.kp A.pen) A.frs h⟩)
def Sl.region:Sl->Option Nat
 |.dw r _=>some r
 |.rw r _=>some r
 |.tw r _=>some r
 |.sp r _ _=>some r
 |_=>none
def gb(r:Nat)(ρ:List Sl)(i:Nat):Bool:=(ρ.set i .any).all λs=>s.region != some r
def stK(rg:Option Nat)(ρ:List Sl)(i:Nat)(k:Kd)(d:D):Option Sl:=match k with
 |.imm=>some (.im d)
 |.new=>match rg with
  |some r=>if gb r ρ i=true then some (.dw r d) else none
  |none=>some (.sn d)
 |.reg r=>some (.dw r d)
 |.snw=>some (.sn d)
 |.shr=>some (.sh d)
 |_=>none
def Em(i:Nat)(rg:Option Nat)(te:DE):DS:=λP ρ=>te ρ λk d=>match stK rg ρ i (norm k d) d with
 |some s=>P.nx (ρ.set i s)
 |none=>False
section
variable {p:Pn}{H0 H H1:Hp}{own:Addr->Option Nat}{σ:L2.St}{ρ:List Sl}{i:Nat}
def EnvD.set{v:V}{s:Sl}(E:EnvD p H0 own σ H ρ)(hs:i<σ.length->jX p H0 own (σ.set i (some v)) H i s):EnvD p H0 own (σ.set i (some v)) H (ρ.set i s):=by
 refine⟨E.k0,E.pen,E.ow,λj s' e=>?_,by simpa using E.len,E.gr⟩
 by_cases hj:j=i
 ·subst hj
  have hl:j<ρ.length:=by
   have:=(Ê.mp e).1
   simpa using this
  rw[ë hl] at e
  cases e
  exact hs (by rw[←E.len];exact hl)
 ·rw[ď (ė hj)] at e
  have q:=E.slot j s' e
  have eq:(σ.set i (some v))[j]?=σ[j]?:=ď (ė hj)
  cases s' <;> simp only[jX,eq] at q ⊢ <;> exact q
def cL(r:Nat)(H H1:Hp)(own:Addr->Option Nat):Addr->Option Nat:=λa=>match H a,H1 a with
 |none,some _=>some r
 |_,_=>own a
def bH{r:Nat}{a:Addr}{o:HO}(h:H a=some o):cL r H H1 own a=own a:=by unfold cL;rw[h]
def pF{r:Nat}{a:Addr}{o:HO}(h:H a=none)(h1:H1 a=some o):cL r H H1 own a=some r:=by unfold cL;rw[h,h1]
def EnvD.adopt(r:Nat)(E:EnvD p H0 own σ H ρ)(A:At p H0 own H H1):EnvD p H0 (cL r H H1 own) σ H1 ρ:=by
 have tp:=gA E.at A.kp
 refine⟨λb o e n=>A.kp b o (E.k0 b o e n) n,A.pen,λa q e=>?_,λj s e=>?_,E.len,E.gr⟩
 ·cases h:H a with
  |some o =>
   rw[bH h] at e
   obtain⟨x,y,z⟩:=E.ow a q e
   refine⟨x,y,by rw[A.kp a o h y];exact λz=>nomatch z⟩
  |none =>
   cases h1:H1 a with
   |none =>
    have e':own a=some q:=by rw[←e];unfold cL;rw[h,h1]
    exact absurd h (E.ow a q e').2.2
   |some o=>exact⟨E.at.h0 h,E.at.nfb h,λz=>nomatch z⟩
 ·have q:=E.slot j s e
  cases s with
  |any=>trivial
  |im d=>exact let ⟨v,a,b⟩:=q;⟨v,a,b.mono (λ_ o=>o) (λ_ _ o=>o.elim) tp⟩
  |sh d=>exact let ⟨v,a,b⟩:=q;⟨v,a,b.cU (λc o n h=>⟨⟨n.1,by rw[bH h];exact n.2⟩,A.kp c o h n.1⟩) tp⟩
  |sn d=>exact let ⟨v,a,b⟩:=q;⟨v,a,b.cU (λc o n h=>⟨⟨n.1,n.2.1,by rw[bH h];exact n.2.2⟩,A.kp c o h n.2.1⟩) tp⟩
  |dw r' d=>exact let ⟨v,a,b⟩:=q;⟨v,a,b.cU (λc o n h=>⟨by rw[bH h];exact n,A.kp c o h (E.ow c r' n).2.1⟩) tp⟩
  |pen C=>exact q
  |rw r' L=>exact let ⟨st,as,a,b⟩:=q;⟨st,as,a,b.mono (λc o n h=>⟨by rw[bH h];exact n,A.kp c o h (E.ow c r' n).2.1⟩) tp⟩
  |tw r' L=>exact let ⟨st,as,a,b⟩:=q;⟨st,as,a,b.mono (λc o n h=>⟨by rw[bH h];exact n,A.kp c o h (E.ow c r' n).2.1⟩) tp⟩
  |scr v b=>exact q
  |sp r' b ds=>exact let ⟨l,vs,a,o,h,z⟩:=q;⟨l,vs,a,by rw[bH h];exact o,A.kp l _ h (E.ow l r' o).2.1,z.cU (λc u n e=>⟨⟨n.1,n.2.1,by rw[bH e];exact n.2.2⟩,A.kp c u e n.2.1⟩) tp⟩
def yO{r:Nat}{k:Kd}{v:V}{d:D}(h:k.le .new=true)(A:At p H0 own H H1)(x:Rp (okK p H0 own H k) H1 v d):Rp (λa=>cL r H H1 own a=some r) H1 v d :=
 (mK A h x).cU (λa o n e=>⟨pF n e,e⟩) λ_ _ e=>e
def pG{r:Nat}(A:At p H0 own H H1):FrS p own H (cL r H H1 own) H1:=⟨λb o h n e=>⟨A.kp b o h n,by rw[bH h];exact e⟩,A.tups⟩
def EnvD.drop(E:EnvD p H0 own σ H ρ):EnvD p H0 own σ H (ρ.set i .any):=by
 refine⟨E.k0,E.pen,E.ow,λj s' e=>?_,by simpa using E.len,E.gr⟩
 by_cases hj:j=i
 ·subst hj
  have hl:j<ρ.length:=by
   have:=(Ê.mp e).1
   simpa using this
  rw[ë hl] at e
  cases e
  trivial
 ·rw[ď (ė hj)] at e
  exact E.slot j s' e
def aQ(r:Nat)(own:Addr->Option Nat):Addr->Option Nat:=λa=>if own a=some r then none else own a
def EnvD.clear{r:Nat}(E:EnvD p H0 own σ H ρ)(h:ρ.all (λs=>s.region != some r)=true):EnvD p H0 (aQ r own) σ H ρ:=by
 refine⟨E.k0,E.pen,λa q e=>?_,λj s e=>?_,E.len,E.gr⟩
 ·unfold aQ at e
  split at e
  ·cases e
  ·exact E.ow a q e
 ·have q:=E.slot j s e
  have z:=ĝ.mp h s (Ò e)
  have c0:∀a,own a=none->aQ r own a=none:=λa n=>by unfold aQ;rw[n];simp
  cases s with
  |any=>trivial
  |im d=>exact q
  |sh d=>exact let ⟨v,a,b⟩:=q;⟨v,a,b.mono (λc n=>⟨n.1,c0 c n.2⟩) (λ_ _ _ e=>e) λ_ _ e=>e⟩
  |sn d=>exact let ⟨v,a,b⟩:=q;⟨v,a,b.mono (λc n=>⟨n.1,n.2.1,c0 c n.2.2⟩) (λ_ _ _ e=>e) λ_ _ e=>e⟩
  |dw r' d =>
   have hne:r'≠r:=by simpa[Sl.region] using z
   exact let ⟨v,a,b⟩:=q;⟨v,a,b.mono (λc n=>by unfold aQ;rw[n,if_neg (by simpa using hne)]) (λ_ _ _ e=>e) λ_ _ e=>e⟩
  |pen C=>exact q
  |rw r' L =>
   have hne:r'≠r:=by simpa[Sl.region] using z
   exact let ⟨st,as,a,b⟩:=q;⟨st,as,a,b.mono (λc o n e=>⟨by unfold aQ;rw[n,if_neg (by simpa using hne)],e⟩) λ_ _ e=>e⟩
  |tw r' L =>
   have hne:r'≠r:=by simpa[Sl.region] using z
   exact let ⟨st,as,a,b⟩:=q;⟨st,as,a,b.mono (λc o n e=>⟨by unfold aQ;rw[n,if_neg (by simpa using hne)],e⟩) λ_ _ e=>e⟩
  |scr v b=>exact q
  |sp r' b ds =>
   have hne:r'≠r:=by simpa[Sl.region] using z
   exact let ⟨l,vs,a,o,h,y⟩:=q;⟨l,vs,a,by unfold aQ;rw[o,if_neg (by simpa using hne)],h,y.mono (λc n=>⟨n.1,n.2.1,c0 c n.2.2⟩) (λ_ _ _ e=>e) λ_ _ e=>e⟩
def iC{r:Nat}:FrS p own H (aQ r own) H:=⟨λb o h n e=>⟨h,by unfold aQ;rw[e];simp⟩,λ_ _ e=>e⟩
end
def bF{i:Nat}(rg:Option Nat)(h:PS X st (sU (bD te) (iw i))):PDS X st (Em i rg te):=PS.wk' h (by
 rintro Q σ H ⟨p,H0,own,ρ,P,E,t,w⟩
 refine⟨p,H0,own,ρ,_,E,t,λk d v H1 h A r=>?_⟩
 have r:=aX r
 generalize norm k d=k' at h r
 show Q.nx (σ.set i (some v)) H1
 have E1:=E.go A.kp A.pen
 have fin:∀s,jX p H0 own (σ.set i (some v)) H1 i s\/¬i<σ.length->P.nx (ρ.set i s)->Q.nx (σ.set i (some v)) H1:=λs hs hn =>
  w.nx own _ H1 _ (E1.set λhl=>hs.elim id λz=>absurd hl z) A.frs hn
 have here:i<σ.length->(σ.set i (some v))[i]?=some (some v):=λhl=>ë hl
 by_cases hl:i<σ.length
 ·cases k' with
  |imm=>exact fin (.im d) (.inl ⟨v,here hl,r⟩) h
  |new =>
   cases rg with
   |none=>exact fin (.sn d) (.inl ⟨v,here hl,mK A (k:=.snw) rfl r⟩) h
   |some q =>
    simp only[stK] at h
    by_cases hf:gb q ρ i=true
    ·rw[if_pos hf] at h
     have E2:EnvD p H0 (aQ q own) σ H (ρ.set i .any):=(E.drop (i:=i)).clear hf
     have A2:At p H0 (aQ q own) H H1:=⟨A.k0,A.kp,A.penb,A.pen,E2.ow⟩
     have E3:=E2.adopt q A2
     have r2:Rp (okK p H0 (aQ q own) H .new) H1 v d:=r
     have E4:EnvD p H0 (cL q H H1 (aQ q own)) (σ.set i (some v)) H1 ((ρ.set i .any).set i (.dw q d)):=E3.set λ_=>⟨v,here hl,yO (k:=.new) rfl A2 r2⟩
     rw[List.set_set] at E4
     exact w.nx _ _ H1 _ E4 (iC.trans (pG A2)) h
    ·rw[if_neg hf] at h
     exact h.elim
  |reg q=>exact fin (.dw q d) (.inl ⟨v,here hl,r⟩) h
  |n0=>exact h.elim
  |snw=>exact fin (.sn d) (.inl ⟨v,here hl,r⟩) h
  |shr=>exact fin (.sh d) (.inl ⟨v,here hl,r⟩) h
  |wk=>exact h.elim
 ·cases hs:stK rg ρ i k' d with
  |none=>rw[hs] at h;exact h.elim
  |some s=>rw[hs] at h;exact fin s (.inr hl) h)
end
variable [Gr]
section
variable {ok ok':Addr->Prop}{H:Hp}
mutual
def Rp.inj:∀{v:V}{d d':D},Rp ok H v d->Rp ok' H v d'->d=d'
 |_,_,_,.non,.non=>rfl
 |_,_,_,.bl b,.bl _=>rfl
 |_,_,_,.int i,.int _=>rfl
 |_,_,_,.str x,.str _=>rfl
 |_,_,_,.lst o h r,.lst o' h' r'=>by
  rw[h] at h';cases h'
  rw[Rps.inj r r']
 |_,_,_,.lst o h r,.tup h' r'=>by rw[h] at h';cases h'
 |_,_,_,.lst o h r,.dct o' h' r'=>by rw[h] at h';cases h'
 |_,_,_,.tup h r,.lst o' h' r'=>by rw[h] at h';cases h'
 |_,_,_,.tup h r,.tup h' r'=>by
  rw[h] at h';cases h'
  rw[Rps.inj r r']
 |_,_,_,.tup h r,.dct o' h' r'=>by rw[h] at h';cases h'
 |_,_,_,.dct o h r,.lst o' h' r'=>by rw[h] at h';cases h'
 |_,_,_,.dct o h r,.tup h' r'=>by rw[h] at h';cases h'
 |_,_,_,.dct o h r,.dct o' h' r'=>by
  rw[h] at h';cases h'
  rw[Rkv.inj r r']
def Rps.inj:∀{v:List V}{d d':List D},Rps ok H v d->Rps ok' H v d'->d=d'
 |_,_,_,.nil,.nil=>rfl
 |_,_,_,.cons h t,.cons h' t'=>by rw[Rp.inj h h',Rps.inj t t']
def Rkv.inj:∀{v:List (Key×V)}{d d':List (D×D)},Rkv ok H v d->Rkv ok' H v d'->d=d'
 |_,_,_,.nil,.nil=>rfl
 |_,_,_,.cons h t,.cons h' t'=>by rw[Rp.inj h h',Rkv.inj t t']
end
variable {l:Addr}{T:D}
mutual
def Rp.avoid(h0:Rp ok' H (.ref l) T):∀{v:V}{d:D},Rp ok H v d->sizeOf d<sizeOf T->Rp (λa=>ok a/\a≠l) H v d
 |_,_,.non,_=>.non
 |_,_,.bl b,_=>.bl b
 |_,_,.int i,_=>.int i
 |_,_,.str x,_=>.str x
 |_,_,.lst (ds:=ds) o h r,s=>.lst ⟨o,λz=>by
   subst z
   have e:=Rp.inj (Rp.lst o h r) h0
   rw[e] at s
   exact absurd s (Ă _)⟩ h (Rps.avoid h0 r (by simp only[PyData.list.sizeOf_spec] at s;omega))
 |_,_,.tup (ds:=ds) h r,s=>.tup h (Rps.avoid h0 r (by simp only[PyData.tuple.sizeOf_spec] at s;omega))
 |_,_,.dct (ds:=ds) o h r,s=>.dct ⟨o,λz=>by
   subst z
   have e:=Rp.inj (Rp.dct o h r) h0
   rw[e] at s
   exact absurd s (Ă _)⟩ h (Rkv.avoid h0 r (by simp only[PyData.dict.sizeOf_spec] at s;omega))
def Rps.avoid(h0:Rp ok' H (.ref l) T):∀{v:List V}{d:List D},Rps ok H v d->sizeOf d<sizeOf T->Rps (λa=>ok a/\a≠l) H v d
 |_,_,.nil,_=>.nil
 |_,_,.cons h t,s=>.cons (Rp.avoid h0 h (by simp only[List.cons.sizeOf_spec] at s;omega)) (Rps.avoid h0 t (by simp only[List.cons.sizeOf_spec] at s;omega))
def Rkv.avoid(h0:Rp ok' H (.ref l) T):∀{v:List (Key×V)}{d:List (D×D)},Rkv ok H v d->sizeOf d<sizeOf T->Rkv (λa=>ok a/\a≠l) H v d
 |_,_,.nil,_=>.nil
 |_,_,.cons h t,s=>.cons (Rp.avoid h0 h (by simp only[List.cons.sizeOf_spec,Prod.mk.sizeOf_spec] at s;omega)) (Rkv.avoid h0 t (by simp only[List.cons.sizeOf_spec] at s;omega))
end
end
def forget(r:Nat)(ρ:List Sl):List Sl:=ρ.map λs=>if s.region=some r then .any else s
section
variable {p:Pn}{H0 H H1:Hp}{own:Addr->Option Nat}{σ:L2.St}{ρ:List Sl}{i:Nat}
def EnvD.write{r:Nat}{l:Addr}{u o':HO}(E:EnvD p H0 own σ H ρ)(hl:own l=some r)(ho:H l=some u)(hu:∀xs,u≠.tup xs)(hc:¬Fxd u:=by rintro⟨_,_,z⟩;cases z):EnvD p H0 own σ (upd H l o') (forget r ρ):=by
 have h0:=E.ow l r hl
 have tp:∀a xs,H a=some (.tup xs)->upd H l o' a=some (.tup xs):=λa xs e=>by
  rw[au];exact e
  intro z;subst z;rw[ho] at e;exact hu xs (à e)
 refine⟨λb o e n=>?_,p.mono H _ E.pen λb o f e=>?_,λa q e=>?_,λj s e=>?_,by unfold forget;rw[À];exact E.len,E.gr⟩
 ·rw[au];exact E.k0 b o e n
  intro z;subst z;rw[h0.1] at e;cases e
 ·rw[au];exact e
  intro z;subst z;exact f.elim h0.2.1 λc=>hc (by rw[ho] at e;cases e;exact c)
 ·obtain⟨x,y,z⟩:=E.ow a q e
  refine⟨x,y,?_⟩
  by_cases hh:a=l
  ·subst hh;rw[aq];exact λz=>nomatch z
  ·rw[au hh];exact z
 ·unfold forget at e
  rw[Þ] at e
  cases hr:ρ[j]? with
  |none=>rw[hr] at e;cases e
  |some s0 =>
   rw[hr] at e
   have e:=à e
   have q:=E.slot j s0 hr
   have ne:∀c,own c≠some r->c≠l:=λc n z=>by subst z;exact n hl
   cases s0 with
   |any=>simp only[Sl.region] at e;subst e;trivial
   |im d =>
    have e:Sl.im d=s:=e
    subst e
    exact let ⟨v,a,b⟩:=q;⟨v,a,b.mono (λ_ o=>o) (λ_ _ o=>o.elim) tp⟩
   |sh d =>
    have e:Sl.sh d=s:=e
    subst e
    exact let ⟨v,a,b⟩:=q;⟨v,a,b.mono (λ_ o=>o) (λc o n e=>by rw[au (ne c (by rw[n.2];exact λz=>nomatch z))];exact e) tp⟩
   |sn d =>
    have e:Sl.sn d=s:=e
    subst e
    exact let ⟨v,a,b⟩:=q;⟨v,a,b.mono (λ_ o=>o) (λc o n e=>by rw[au (ne c (by rw[n.2.2];exact λz=>nomatch z))];exact e) tp⟩
   |dw r' d =>
    by_cases hrr:r'=r
    ·subst hrr
     have e:(if (some r':Option Nat)=some r' then Sl.any else Sl.dw r' d)=s:=e
     rw[if_pos rfl] at e
     subst e
     trivial
    ·have e:(if (some r':Option Nat)=some r then Sl.any else Sl.dw r' d)=s:=e
     rw[if_neg (by simpa using hrr)] at e
     subst e
     exact let ⟨v,a,b⟩:=q;⟨v,a,b.mono (λ_ o=>o) (λc o n e=>by rw[au (ne c (by rw[n];simpa using hrr))];exact e) tp⟩
   |pen C =>
    have e:Sl.pen C=s:=e
    subst e
    exact q
   |scr v b =>
    have e:Sl.scr v b=s:=e
    subst e
    exact q
   |sp r' b ds =>
    by_cases hrr:r'=r
    ·subst hrr
     have e:(if (some r':Option Nat)=some r' then Sl.any else Sl.sp r' b ds)=s:=e
     rw[if_pos rfl] at e
     subst e
     trivial
    ·have e:(if (some r':Option Nat)=some r then Sl.any else Sl.sp r' b ds)=s:=e
     rw[if_neg (by simpa using hrr)] at e
     subst e
     exact let ⟨l',vs,a,o,h,y⟩:=q;⟨l',vs,a,o,by rw[au (ne l' (by rw[o];simpa using hrr))];exact h,y.mono (λ_ o=>o) (λc o n e=>by rw[au (ne c (by rw[n.2.2];exact λz=>nomatch z))];exact e) tp⟩
   |rw r' L =>
    by_cases hrr:r'=r
    ·subst hrr
     have e:(if (some r':Option Nat)=some r' then Sl.any else Sl.rw r' L)=s:=e
     rw[if_pos rfl] at e
     subst e
     trivial
    ·have e:(if (some r':Option Nat)=some r then Sl.any else Sl.rw r' L)=s:=e
     rw[if_neg (by simpa using hrr)] at e
     subst e
     exact let ⟨st,as,a,b⟩:=q;⟨st,as,a,b.mono (λc o n e=>⟨n,by rw[au (ne c (by rw[n];simpa using hrr))];exact e⟩) tp⟩
   |tw r' L =>
    by_cases hrr:r'=r
    ·subst hrr
     have e:(if (some r':Option Nat)=some r' then Sl.any else Sl.tw r' L)=s:=e
     rw[if_pos rfl] at e
     subst e
     trivial
    ·have e:(if (some r':Option Nat)=some r then Sl.any else Sl.tw r' L)=s:=e
     rw[if_neg (by simpa using hrr)] at e
     subst e
     exact let ⟨st,as,a,b⟩:=q;⟨st,as,a,b.mono (λc o n e=>⟨n,by rw[au (ne c (by rw[n];simpa using hrr))];exact e⟩) tp⟩
def gF{r:Nat}{l:Addr}{u o':HO}(hl:own l=some r)(ho:H l=some u)(hu:∀xs,u≠.tup xs):FrS p own H own (upd H l o'):=by
 refine⟨λb o h n e=>⟨?_,e⟩,λa xs e=>?_⟩
 ·rw[au];exact h
  intro z;subst z;rw[hl] at e;cases e
 ·rw[au];exact e
  intro z;subst z;rw[ho] at e;exact hu xs (à e)
def EnvD.put{v:V}{s:Sl}(E:EnvD p H0 own σ H ρ)(hs:jX p H0 own σ H i s):EnvD p H0 own σ H (ρ.set i s):=by
 refine⟨E.k0,E.pen,E.ow,λj s' e=>?_,by simpa using E.len,E.gr⟩
 by_cases hj:j=i
 ·subst hj
  have hl:j<ρ.length:=by
   have:=(Ê.mp e).1
   simpa using this
  rw[ë hl] at e
  cases e
  exact hs
 ·rw[ď (ė hj)] at e
  exact E.slot j s' e
def EnvD.qL{r:Nat}{l:Addr}{vs vs':List V}{ds ds':List D}(E:EnvD p H0 own σ H ρ)(A:At p H0 own H H1)(hv:σ[i]?=some (some (.ref l)))(hl:own l=some r)(ho:H l=some (.lst vs))(rs:Rps (λa=>own a=some r) H vs ds)(hs:∀H2,(∀{w:V}{d:D},Rp (λa=>own a=some r) H w d->sizeOf d<sizeOf (Ī ds)->Rp (λa=>cL r H H1 own a=some r) H2 w d)->(∀{w:V}{d:D},Rp (okK p H0 own H .new) H1 w d->Rp (λa=>cL r H H1 own a=some r) H2 w d)->Rps (λa=>cL r H H1 own a=some r) H2 vs' ds') :
  EnvD p H0 (cL r H H1 own) σ (upd H1 l (.lst vs')) ((forget r ρ).set i (.dw r (.list ds')))/\FrS p own H (cL r H H1 own) (upd H1 l (.lst vs')):=by
 have h1:H1 l=some (.lst vs):=A.kp l _ ho (E.ow l r hl).2.1
 have hl':cL r H H1 own l=some r:=by rw[bH ho];exact hl
 have E1:=(E.adopt r A).write (o':=.lst vs') hl' h1 (λxs z=>nomatch z)
 have tp:∀a xs,H1 a=some (.tup xs)->upd H1 l (.lst vs') a=some (.tup xs):=λa xs e=>by
  rw[au];exact e
  intro z;subst z;rw[h1] at e;cases e
 refine⟨E1.put (v:=.ref l) ⟨.ref l,hv,.lst hl' aq (hs _ ?_ ?_)⟩,(pG A).trans (gF hl' h1 λxs z=>nomatch z)⟩
 ·intro w d x sz
  have x1:=Rp.avoid (Rp.lst (ok:=λa=>own a=some r) hl ho rs) x sz
  exact x1.cU (λa o n e=>⟨by rw[bH e];exact n.1,by rw[au n.2];exact A.kp a o e (E.ow a r n.1).2.1⟩) λa xs e=>tp a xs (gA E.at A.kp a xs e)
 ·intro w d x
  exact x.cU (λa o n e=>⟨pF n e,by rw[au (λz=>by subst z;rw[ho] at n;cases n)];exact e⟩) tp
end
section
variable {X:Cx}{pos:Pos}{st:Stmt}{e:Expr}{te:DE}{i:Nat}{ta:DA}
def gG{d:D}{ds:List D}(h:d∈ds):sizeOf d<sizeOf (Ī ds):=by
 have:=List.sizeOf_lt_of_mem h
 simp only[PyData.list.sizeOf_spec]
 omega
def mJ{ok ok':Addr->Prop}{H H2:Hp}{T:D}(f:∀{w:V}{d:D},Rp ok H w d->sizeOf d<sizeOf T->Rp ok' H2 w d):∀{vs:List V}{ds:List D},Rps ok H vs ds->(∀d∈ds,sizeOf d<sizeOf T)->Rps ok' H2 vs ds
 |_,_,.nil,_=>.nil
 |_,_,.cons h t,s=>.cons (f h (s _ Å)) (mJ f t λd hd=>s d (Ä _ hd))
def QT(i:Nat)(te:DE):DS:=λP ρ=>match ρ[i]? with
 |some (.dw r (.list ds))=>te ρ λk d=>(norm k d).le .new=true/\ds.length<1000/\P.nx ((forget r ρ).set i (.dw r (.list (ds++[d]))))
 |_=>False
def kO(h:PS X st (jh (tBM X.K "list" d7 (dJ i) (dN (bR te fU))))):PDS X st (QT i te):=PS.wk' h (by
 rintro Q σ H ⟨p,H0,own,ρ,P,E,t,w⟩
 unfold QT at t
 split at t
 ·rename_i r ds hr
  obtain⟨v,hv,x⟩:=E.slot i _ hr
  obtain⟨l,vs,rfl,hl,ho,rs⟩:=x.bO
  refine⟨.ref l,hv,.inl ⟨rfl,vs,SqL.of ho⟩,p,H0,own,ρ,λks=>∃k d,ks=[(k,d)]/\(norm k d).le .new=true/\ds.length<1000/\P.nx ((forget r ρ).set i (.dw r (.list (ds++[d])))),E,?_,?_⟩
  ·show te ρ λk d=>∃k' d',[(k,d)]=[(k',d')]/\_
   have e:(λk d=>∃k' d',[((k,d):Kd×D)]=[(k',d')]/\(norm k' d').le .new=true/\ds.length<1000/\P.nx ((forget r ρ).set i (.dw r (.list (ds++[d'])))))=λk d=>(norm k d).le .new=true/\ds.length<1000/\P.nx ((forget r ρ).set i (.dw r (.list (ds++[d])))):=by
    funext k d
    apply propext
    constructor
    ·rintro⟨k',d',e,h⟩
     cases e
     exact h
    ·exact λh=>⟨k,d,rfl,h⟩
   rw[e]
   exact t
  ·rintro ks ws H1 ⟨k,d,rfl,hk,hlen,hn⟩ A rk
   obtain⟨y,rfl,ry⟩:=fG rk
   have ry:=mK A hk (aX ry)
   have h1:H1 l=some (.lst vs):=A.kp l _ ho (E.ow l r hl).2.1
   have h24:=ï
   have hln:=rs.length
   refine⟨l,vs,y,rfl,rfl,h1,by omega,?_⟩
   obtain⟨E2,F2⟩:=E.qL (vs':=vs++[y]) (ds':=ds++[d]) A hv hl ho rs λH2 f g=>(mJ f rs λd hd=>gG hd).snoc (g ry)
   exact w.nx _ σ _ _ E2 F2 hn
 ·exact t.elim)
end
variable [Gr]
abbrev DG:=Kd->D->List Sl->(List Sl->Prop)->Prop
abbrev DGs:=Kd->List D->List Sl->(List Sl->Prop)->Prop
def Mh(k:Kd)(d:D):Sl:=match k with
 |.imm=>.im d
 |.new=>.sn d
 |.reg r=>.dw r d
 |.snw=>.sn d
 |.shr=>.sh d
 |_=>.any
def okB(p:Pn)(H0:Hp)(own:Addr->Option Nat):Kd->Addr->Prop
 |.imm=>λ_=>False
 |.new=>λa=>H0 a=none/\¬p.fp a/\own a=none
 |.reg r=>λa=>own a=some r
 |.snw=>λa=>H0 a=none/\¬p.fp a/\own a=none
 |.shr=>λa=>¬p.fp a/\own a=none
 |.n0=>λ_=>True
 |.wk=>λ_=>True
def Nb(g:DG):TG:=λv σ H Q=>∃p H0 own ρ k d P,EnvD p H0 own σ H ρ/\Rp (okB p H0 own k) H v d/\g k d ρ P/\∀σ' ρ',EnvD p H0 own σ' H ρ'->P ρ'->Q σ' H
def rM(g:DGs):TGs:=λvs σ H Q=>∃p H0 own ρ k ds P,EnvD p H0 own σ H ρ/\Rps (okB p H0 own k) H vs ds/\g k ds ρ P/\∀σ' ρ',EnvD p H0 own σ' H ρ'->P ρ'->Q σ' H
abbrev PDG(X:Cx)(e:Expr)(g:DG):Prop:=PG X e (Nb g)
def PG.wk{X:Cx}{e:Expr}{t t':TG}(h:PG X e t)(w:∀v σ H Q,t' v σ H Q->t v σ H Q):PG X e t':=λpins s σ H v u Q I r q=>h pins s σ H v u Q I r (w v σ H Q q)
def PGs.wk{X:Cx}{e:List Expr}{t t':TGs}(h:PGs X e t)(w:∀v σ H Q,t' v σ H Q->t v σ H Q):PGs X e t':=λpins s σ H v u Q I r q=>h pins s σ H v u Q I r (w v σ H Q q)
def mQ{p:Pn}{H0 H:Hp}{own:Addr->Option Nat}{k:Kd}{v:V}{d:D}(r:Rp (okB p H0 own k) H v d):Rp (okB p H0 own (norm k d)) H v d:=by
 by_cases h:iu d=true
 ·rw[gU h];exact r.imm h
 ·rw[nj h];exact r
section
variable {X:Cx}{pos:Pos}{e:Expr}{es:List Expr}
def gNm(i:Nat):DG:=λk d ρ P=>P (ρ.set i (Mh (norm k d) d))
def Gg{p:Pn}{H0 H:Hp}{own:Addr->Option Nat}{σ:L2.St}{i:Nat}{k:Kd}{v:V}{d:D}(r:Rp (okB p H0 own k) H v d)(h:σ[i]?=some (some v)):jX p H0 own σ H i (Mh k d):=by
 cases k with
 |imm=>exact⟨v,h,r⟩
 |new=>exact⟨v,h,r⟩
 |reg q=>exact⟨v,h,r⟩
 |n0=>trivial
 |snw=>exact⟨v,h,r⟩
 |shr=>exact⟨v,h,r⟩
 |wk=>trivial
def aO{i:Nat}{x:Str}(h:PG X (.Name x pos) (iw i)):PDG X (.Name x pos) (gNm i):=PG.wk h (by
 rintro v σ H Q ⟨p,H0,own,ρ,k,d,P,E,r,t,q⟩
 exact q _ _ (E.set λhl=>Gg (mQ r) (ë hl)) t)
def Ja:DGs:=λ_ ds ρ P=>match ds with
 |[]=>P ρ
 |_=>False
def vR(g:DG)(gs:DGs):DGs:=λk ds ρ P=>match ds with
 |d::r=>g (norm k d) d ρ λρ'=>gs k r ρ' P
 |[]=>False
def dH:PGs X [] (rM Ja):=PGs.wk Bv (by
 rintro v σ H Q ⟨p,H0,own,ρ,k,ds,P,E,r,t,q⟩
 cases ds with
 |nil=>cases r;exact⟨rfl,q _ _ E t⟩
 |cons d ds=>exact t.elim)
def jT{g:DG}{gs:DGs}(h1:PDG X e g)(h2:PGs X es (rM gs))(hs:(assignEach (e::es) X.env).map (·.2)=assign e X.env::(assignEach es X.env).map (·.2):=by rfl):PGs X (e::es) (rM (vR g gs)):=PGs.wk (mU h1 h2 hs) (by
 rintro v σ H Q ⟨p,H0,own,ρ,k,ds,P,E,r,t,q⟩
 cases r with
 |nil=>exact t.elim
 |cons r rs =>
  exact⟨_,_,rfl,p,H0,own,ρ,_,_,_,E,mQ r,t,λσ' ρ' E' t'=>⟨p,H0,own,ρ',k,_,P,E',rs,t',q⟩⟩)
def gTp(n:Nat)(gs:DGs):DG:=λk d ρ P=>match d with
 |.tuple ds=>ds.length=n/\gs k ds ρ P
 |_=>False
def gC{gs:DGs}{k n:Nat}(hc:X.calm=true)(h:PGs X es (rM gs))(hn:(assignEach es X.env).length=n:=by rfl)(hst:(assignEach es X.env).findIdx? (·.1)=none:=by rfl):PDG X (.Tuple es k pos) (gTp n gs):=PG.wk (GD hc h hn hst) (by
 rintro v σ H Q ⟨p,H0,own,ρ,k,d,P,E,r,t,q⟩
 cases d with
 |tuple ds =>
  obtain⟨a,vs,rfl,ha,rs⟩:=r.fu
  exact⟨a,vs,rfl,SqT.of ha,by rw[rs.length];exact t.1,p,H0,own,ρ,k,ds,P,E,rs,t.2,q⟩
 |_=>exact t.elim)
end
structure Wlk(Ok:Hp->Prop)(J:It)(ds:List D)(ok:Addr->Prop):Prop where
 go:∀i H,Ok H->i<ds.length->J.go i H
 stop:∀H,Ok H->J.stop ds.length H
 yld:∀i H x H',Ok H->J.yld i H x H'->Same H H'/\∀d,ds[i]?=some d->Rp ok H' x d
 stab:∀H H',Ok H->(∀b o,ok b->H b=some o->H' b=some o)->(∀a xs,H a=some (.tup xs)->H' a=some (.tup xs))->Ok H'
abbrev DI:=List Sl->(Kd->List D->Prop)->Prop
def okA(p:Pn)(H0:Hp)(own:Addr->Option Nat)(Hb:Hp)(k:Kd)(H:Hp)(a:Addr):Prop:=okK p H0 own Hb k a/\∃o,H a=some o
def M9(t:DI):TI:=λσ H R=>∃p H0 own ρ P,EnvD p H0 own σ H ρ/\t ρ P/\∀k ds J H1 Ok,P k ds->At p H0 own H H1->Wlk Ok J ds (okA p H0 own H k H1)->Ok H1->R J H1
abbrev PDI(X:Cx)(tg e:Expr)(t:DI):Prop:=PI X tg e (M9 t)
def PI.wk{X:Cx}{tg e:Expr}{t t':TI}(h:PI X tg e t)(w:∀σ H R,t' σ H R->t σ H R):PI X tg e t':=λpins s σ H R I q=>h pins s σ H R I (w σ H R q)
section
variable {X:Cx}{tg l:Expr}{tl:DE}{pos:Pos}{ta:DA}
def Fy{K:Ú}{ok:Addr->Prop}{a:Addr}{ds:List D}:Wlk (λH=>Rp ok H (.ref a) (.list ds)) (Itl K a) ds ok where
 go:=λi H r hi=>by
  obtain⟨b,vs,e,o,h,rs⟩:=r.bO
  cases e
  have:i<vs.length:=by rw[rs.length];exact hi
  exact⟨vs,vs[i],SqL.of h,by simp[this]⟩
 stop:=λH r=>by
  obtain⟨b,vs,e,o,h,rs⟩:=r.bO
  cases e
  exact⟨vs,SqL.of h,by rw[rs.length];exact Ë _⟩
 yld:=λi H x H' r y=>by
  obtain⟨rfl,y⟩:=y
  obtain⟨b,vs,e,o,h,rs⟩:=r.bO
  cases e
  refine⟨Same.refl _,λd hd=>?_⟩
  obtain⟨v,hv,rv⟩:=rs.getD hd
  have:=y vs (SqL.of h)
  rw[hv] at this
  cases this
  exact rv
 stab:=λH H' r f t=>r.cU (λa o n e=>⟨n,f a o n e⟩) t
def Fv{K:Ú}{ok:Addr->Prop}{a:Addr}{ds:List D}:Wlk (λH=>Rp ok H (.ref a) (.tuple ds)) (Itt K a) ds ok where
 go:=λi H r hi=>by
  obtain⟨b,vs,e,h,rs⟩:=r.fu
  cases e
  have:i<vs.length:=by rw[rs.length];exact hi
  exact⟨vs,vs[i],SqT.of h,by simp[this]⟩
 stop:=λH r=>by
  obtain⟨b,vs,e,h,rs⟩:=r.fu
  cases e
  exact⟨vs,SqT.of h,by rw[rs.length];exact Ë _⟩
 yld:=λi H x H' r y=>by
  obtain⟨rfl,y⟩:=y
  obtain⟨b,vs,e,h,rs⟩:=r.fu
  cases e
  refine⟨Same.refl _,λd hd=>?_⟩
  obtain⟨v,hv,rv⟩:=rs.getD hd
  have:=y vs (SqT.of h)
  rw[hv] at this
  cases this
  exact rv
 stab:=λH H' r f t=>r.cU (λa o n e=>⟨n,f a o n e⟩) t
def Fw{ok:Addr->Prop}{lo:Int}{n:Nat}:Wlk (λ_=>True) (Itr lo n) ((Ý n).map λi=>Â (lo+((i:Nat):Int))) ok where
 go:=λi H r hi=>by
  have h:i<n:=by simpa using hi
  exact h
 stop:=λH r=>by show n<=_;simp
 yld:=λi H x H' r y=>by
  obtain⟨rfl,rfl⟩:=y
  refine⟨Same.refl _,λd hd=>?_⟩
  rw[Þ] at hd
  cases h:(Ý n)[i]? with
  |none=>rw[h] at hd;cases hd
  |some j =>
   rw[h] at hd
   have e:=à hd
   have hj:j=i:=by
    have:=Ê.mp h
    obtain⟨h1,h2⟩:=this
    simpa using h2.symm
   subst e hj
   exact .int _
 stab:=λ_ _ _ _ _=>trivial
def rpA{p:Pn}{H0 Hb H:Hp}{own:Addr->Option Nat}{k:Kd}{v:V}{d:D}(r:Rp (okK p H0 own Hb k) H v d):Rp (okA p H0 own Hb k H) H v d:=r.cU (λa o n e=>⟨⟨n,o,e⟩,e⟩) λ_ _ e=>e
def iSq(tl:DE):DI:=λρ P=>tl ρ λk d=>match d with
 |.list ds=>P k ds
 |.tuple ds=>P k ds
 |_=>False
def cQ(hl:PD X l tl):PDI X tg l (iSq tl):=PI.wk (Gz hl) (by
 rintro σ H R ⟨p,H0,own,ρ,P,E,t,q⟩
 refine⟨p,H0,own,ρ,_,E,t,λk d v H1 h A r=>?_⟩
 cases d with
 |list ds =>
  obtain⟨a,vs,rfl,o,ha,rs⟩:=r.bO
  exact⟨a,rfl,.inl ⟨⟨vs,SqL.of ha⟩,q k ds _ H1 _ h A Fy (rpA r)⟩⟩
 |tuple ds =>
  obtain⟨a,vs,rfl,ha,rs⟩:=r.fu
  exact⟨a,rfl,.inr ⟨⟨vs,SqT.of ha⟩,q k ds _ H1 _ h A Fv (rpA r)⟩⟩
 |_=>exact h.elim)
def yq(lo:Int)(n:Nat):List D:=(Ý n).map λi=>Â (lo+((i:Nat):Int))
def iR1(ta:DA):DI:=λρ P=>ta ρ λks=>match ks with
 |[(_,.int j)]=>(-(2 ^ 62)<=j/\j<2 ^ 62)/\P .imm (yq 0 j.toNat)
 |_=>False
def aV{a:Expr}{ps:Pos}(hm:X.mg "range"=none)(ha:PDA X [a] ta)(hg:Gl X "range":=by rfl)(hs:starEach [a] X.env=[(false,eval a X.env)]:=by rfl):PDI X tg (.Call (.Name "range" ps) [a] [] pos) (iR1 ta):=PI.wk (oO hg hm ha hs) (by
 rintro σ H R ⟨p,H0,own,ρ,P,E,t,q⟩
 refine⟨p,H0,own,ρ,_,E,t,λks vs H1 h A r=>?_⟩
 split at h
 ·rename_i k j
  obtain⟨v,rfl,r'⟩:=fG r
  exact⟨j,by rw[r'.int'],h.1.1,h.1.2,q _ _ _ H1 _ h.2 A Fw trivial⟩
 ·exact h.elim)
end
variable [Gr]
def elK:Kd->Kd
 |.new=>.snw
 |k=>k
section
variable {X:Cx}{tg iter:Expr}{pos:Pos}{body:List Stmt}{ti:DI}{g:DG}{tb:DS}
def T5(ti:DI)(g:DG)(tb:DS):DS:=λP ρ=>ti ρ λk ds=>k.le .shr=true/\∃Iv:Nat->List Sl->Prop,Iv 0 ρ /\
 (∀i d ρ',ds[i]?=some d->Iv i ρ'->g (norm (elK k) d) d ρ' λρ2=>tb { nx:=Iv (i+1),ct:=Iv (i+1),bk:=P.nx,rt:=P.rt } ρ2)/\∀ρ',Iv ds.length ρ'->P.nx ρ'
def SM{p:Pn}{H0 Hb H1 H':Hp}{own own':Addr->Option Nat}{k:Kd}(hk:k.le .shr=true)(A:At p H0 own Hb H1)(F:FrS p own H1 own' H'){v:V}{d:D}{H2:Hp}(r:Rp (okA p H0 own Hb k H1) H2 v d):Rp (okB p H0 own' (elK k)) H2 v d:=by
 refine r.mono (λa n=>?_) (λ_ _ _ e=>e) λ_ _ e=>e
 obtain⟨o,u,hu⟩:=n
 have o2:¬p.fp a/\own a=none:=bZ A (k:=.shr) hk o
 have f:=(F.keep a u hu o2.1 o2.2).2
 cases k with
 |imm=>exact o
 |new=>exact⟨A.h0 o,o2.1,f⟩
 |reg q=>cases hk
 |n0=>cases hk
 |snw=>exact⟨o.1,o2.1,f⟩
 |shr=>exact⟨o2.1,f⟩
 |wk=>cases hk
def cO(hp:PassesOwn (model X.prog X.w) X.A X.env X.xe)(hc:X.calm=true)(hi:PDI X tg iter ti)(hg:PDG X tg g)(hb:iG X body tb)(hs:zF X iter:=by intro _;rfl):PDS X (.For tg iter body [] pos) (T5 ti g tb):=PS.wk' (qN hp hc hi hg hb hs) (by
 rintro Q σ H ⟨p,H0,own,ρ,P,E,t,w⟩
 refine⟨p,H0,own,ρ,_,E,t,λk ds J H1 Ok h A W o1=>?_⟩
 obtain⟨hk,Iv,i0,step,done⟩:=h
 have w1:=w.go A.frs
 have okS:∀own' H',FrS p own H1 own' H'->Ok H':=λown' H' F=>W.stab H1 H' o1 (λb o n e=>by
  have o2:¬p.fp b/\own b=none:=bZ A (k:=.shr) hk n.1
  exact(F.keep b o e o2.1 o2.2).1) F.tup
 refine⟨λi m σ' H'=>m=ds.length - i/\i<=ds.length/\∃own' ρ',EnvD p H0 own' σ' H' ρ'/\FrS p own H1 own' H'/\Iv i ρ',⟨_,rfl,ú _,own,ρ,E.go A.kp A.pen,FrS.refl,i0⟩,?_⟩
 rintro i m σ' H' ⟨rfl,hi,own',ρ',E',F',iv⟩
 have oH:=okS own' H' F'
 by_cases hlt:i<ds.length
 ·refine .inr ⟨W.go i H' oH hlt,λσ2 H2=>∃own' ρ',EnvD p H0 own' σ2 H2 ρ'/\FrS p own H1 own' H2/\Iv (i+1) ρ',λσ2 H2 h=>⟨_,by omega,rfl,hlt,h⟩,λx H2 y=>?_⟩
  obtain⟨sm,rx⟩:=W.yld i H' x H2 oH y
  have rx:=rx ds[i] (Ç hlt)
  have E2:EnvD p H0 own' σ' H2 ρ':=E'.go (Kp.of sm) (p.mono H' H2 E'.pen λb o _ e=>sm b o e)
  have F2:FrS p own H1 own' H2:=⟨λb o e n z=>let ⟨x,y⟩:=F'.keep b o e n z;⟨sm b o x,y⟩,λa xs e=>sm a _ (F'.tup a xs e)⟩
  refine⟨p,H0,own',ρ',_,_,_,E2,mQ (SM hk A F2 rx),step i ds[i] ρ' (Ç hlt) iv,λσ3 ρ3 E3 t3=>?_⟩
  have nxt:∀own4 σ4 H4 ρ4,EnvD p H0 own4 σ4 H4 ρ4->FrS p own' H2 own4 H4->Iv (i+1) ρ4->∃own' ρ',EnvD p H0 own' σ4 H4 ρ'/\FrS p own H1 own' H4/\Iv (i+1) ρ':=λown4 σ4 H4 ρ4 E4 F4 v4=>⟨own4,ρ4,E4,F2.trans F4,v4⟩
  exact⟨p,H0,own',ρ3,_,E3,t3,⟨nxt,w.rt,λo s h r e f n=>w1.nx o s h r e (F2.trans f) n,nxt⟩⟩
 ·have e:i=ds.length:=by omega
  subst e
  exact .inl ⟨W.stop H' oH,w1.nx own' σ' H' ρ' E' F' (done ρ' iv)⟩)
def Ao(tc:DT)(tb:DS):DS:=λP ρ=>∃Iv:Nat->List Sl->Prop,(∃m,Iv m ρ)/\∀m ρ',Iv m ρ'->tc ρ' λb =>
 if b=true then tb { nx:=λρ2=>∃m',m'<m/\Iv m' ρ2,ct:=λρ2=>∃m',m'<m/\Iv m' ρ2,bk:=P.nx,rt:=P.rt } ρ' else P.nx ρ'
def nU{c:Expr}{tc:DT}(hp:PassesOwn (model X.prog X.w) X.A X.env X.xe)(hc:PDT X c tc)(hb:iG X body tb):PDS X (.While c body [] pos) (Ao tc tb):=PS.wk' (Gv hp hc hb) (by
 rintro Q σ H ⟨p,H0,own,ρ,P,E,⟨Iv,⟨m,i0⟩,step⟩,w⟩
 refine⟨λm σ' H'=>∃own' ρ',EnvD p H0 own' σ' H' ρ'/\FrS p own H own' H'/\Iv m ρ',⟨m,own,ρ,E,FrS.refl,i0⟩,?_⟩
 rintro m σ1 H1 ⟨own1,ρ1,E1,F1,iv⟩
 refine⟨p,H0,own1,ρ1,_,E1,step m ρ1 iv,λb H2 h A=>?_⟩
 have F2:=F1.trans A.frs
 cases b with
 |true =>
  refine aN ⟨λσ' H'=>∃m',m'<m/\∃own' ρ',EnvD p H0 own' σ' H' ρ'/\FrS p own H own' H'/\Iv m' ρ',λσ' H' h=>h,?_⟩
  have nxt:∀own4 σ4 H4 ρ4,EnvD p H0 own4 σ4 H4 ρ4->FrS p own1 H2 own4 H4->(∃m',m'<m/\Iv m' ρ4)->∃m',m'<m/\∃own' ρ',EnvD p H0 own' σ4 H4 ρ'/\FrS p own H own' H4/\Iv m' ρ':=λown4 σ4 H4 ρ4 E4 F4 ⟨m',hm,v4⟩=>⟨m',hm,own4,ρ4,E4,F2.trans F4,v4⟩
  exact⟨p,H0,own1,ρ1,{ nx:=λρ2=>∃m',m'<m/\Iv m' ρ2,ct:=λρ2=>∃m',m'<m/\Iv m' ρ2,bk:=P.nx,rt:=P.rt },E1.go A.kp A.pen,by simpa using h,⟨nxt,w.rt,λo s h r e f n=>w.nx o s h r e (F2.trans f) n,nxt⟩⟩
 |false=>exact aM (w.nx own1 σ1 H2 ρ1 (E1.go A.kp A.pen) F2 (by simpa using h)))
end
def EnvD.comp{p:Pn}{H0 H:Hp}{own:Addr->Option Nat}{σ:L2.St}{ρ:List Sl}(n:Nat)(E:EnvD p H0 own σ H ρ):EnvD p H0 own (Æ n none++σ) H (Æ n .any++ρ):=by
 refine⟨E.k0,E.pen,E.ow,λj s e=>?_,by simp[E.len],E.gr⟩
 by_cases hj:j<n
 ·rw[ó (by simpa using hj)] at e
  have:s=.any:=by
   rw[ŋ] at e
   rw[if_pos hj] at e
   exact(à e).symm
  subst this
  trivial
 ·have e1:(Æ n Sl.any++ρ)[j]?=ρ[j - n]?:=by rw[è (by simpa using hj)];simp
  have e2:(Æ n (none:Option V)++σ)[j]?=σ[j - n]?:=by rw[è (by simpa using hj)];simp
  rw[e1] at e
  have q:=E.slot _ s e
  cases s <;> simp only[jX,e2] at q ⊢ <;> exact q
abbrev Fj(X:Cx)(es:List Expr)(t:DT):Prop:=PTs X es (liftT t)
def dh{X:Cx}:Fj X [] (λ_ P=>P true):=λpins s σ H Q I h=>by
 obtain⟨p,H0,own,ρ,P,E,t,q⟩:=h
 exact Kf pins s σ H Q I (q true H t E.at)
def cG{X:Cx}{c:Expr}{t:DT}(hc:PDT X c t):Fj X [c] t:=Ke hc
def elC(k:Kd):Kd:=elK k
def dLC(n:Nat)(ti:DI)(g:DG)(tt:DT)(te:DE):DE:=λρ P=>ti ρ λk ds=>ds.length<=1000/\∃(ke:Kd) (Iv:Nat->List D->Prop),Iv 0 [] /\
 (∀i d ys,ds[i]?=some d->Iv i ys->g (norm (elC k) d) d (Æ n .any++ρ) λρ'=>tt ρ' λb=>if b=true then te ρ' λk' d'=>(norm k' d').le ke=true/\Iv (i+1) (ys++[d']) else Iv (i+1) ys) /\
 ∀ys,Iv ds.length ys->P (ke.join .new) (.list ys)
def SJ{p:Pn}{H0 Hb H1:Hp}{own:Addr->Option Nat}{k:Kd}(A:At p H0 own Hb H1){v:V}{d:D}{H2:Hp}(r:Rp (okA p H0 own Hb k H1) H2 v d):Rp (okB p H0 own (elC k)) H2 v d:=by
 refine r.mono (λa n=>?_) (λ_ _ _ e=>e) λ_ _ e=>e
 obtain⟨o,u,hu⟩:=n
 cases k with
 |imm=>exact o
 |new=>exact⟨A.h0 o,A.nfb o,A.Kv o⟩
 |reg q=>exact o
 |n0=>trivial
 |snw=>exact o
 |shr=>exact o
 |wk=>trivial
section
variable {X:Cx}{own:List Str}{scope:Scope}{tg iter elt:Expr}{ifs:List Expr}{pos:Pos}{ti:DI}{g:DG}{tt:DT}{te:DE}
def qt{n:Nat}:∀σ H Q,bD (dLC n ti g tt te) σ H Q->tLC n (M9 ti) (λ_=>Nb g) (λ_=>liftT tt) (λ_=>bD te) σ H Q:=by
 rintro σ H Q ⟨p,H0,own,ρ,P,E,t,q⟩
 refine⟨p,H0,own,ρ,_,E,t,λk ds J H1 Ok h A W o1=>?_⟩
 obtain⟨hlen,ke,Iv,i0,step,done⟩:=h
 have okS:∀H',Kp p H1 H'->p.PI H'->Ok H':=λH' K i=>W.stab H1 H' o1 (λb o n e=>K b o e (j8 A n.1)) (gA A K)
 refine⟨λi m ys H'=>m=ds.length - i/\i<=ds.length/\Kp p H1 H'/\p.PI H'/\∃es,Rps (okK p H0 own H ke) H' ys es/\es.length<=i/\Iv i es,⟨_,rfl,ú _,Kp.refl,A.pen,[],.nil,Ë _,i0⟩,?_⟩
 rintro c i m ys H' ⟨rfl,hi,K',I',es,rs,hl,iv⟩
 have oH:=okS H' K' I'
 have A':=A.go K' I'
 have h24:=ï
 by_cases hlt:i<ds.length
 ·refine .inr ⟨W.go i H' oH hlt,by have:=rs.length;omega,λys' H2=>Kp p H1 H2/\p.PI H2/\∃es,Rps (okK p H0 own H ke) H2 ys' es/\es.length<=i+1/\Iv (i+1) es,λys' H2 h=>⟨_,by omega,rfl,hlt,h⟩,λx H2 y=>?_⟩
  obtain⟨sm,rx⟩:=W.yld i H' x H2 oH y
  have rx:=rx ds[i] (Ç hlt)
  have I2:p.PI H2:=p.mono H' H2 I' λb o _ e=>sm b o e
  have K2:Kp p H1 H2:=K'.trans (Kp.of sm)
  have A2:=A.go K2 I2
  have E2:EnvD p H0 own σ H2 ρ:=E.go A2.kp A2.pen
  have rs2:=cj A' (Kp.of sm) rs
  refine⟨p,H0,own,_,_,_,_,E2.comp n,mQ (SJ A rx),step i ds[i] es (Ç hlt) iv,λσ3 ρ3 E3 t3=>?_⟩
  refine⟨p,H0,own,ρ3,_,E3,t3,λb H4 h4 A4=>?_⟩
  have A5:At p H0 own H H4:=A2.base A4
  have rs4:=cj A2 A4.kp rs2
  cases b with
  |true =>
   refine aN ⟨p,H0,own,ρ3,_,E3.go A4.kp A4.pen,by simpa using h4,λk' d' v H6 h6 A6 r6=>?_⟩
   refine⟨(K2.trans A4.kp).trans A6.kp,A6.pen,es++[d'],(cj A5 A6.kp rs4).snoc (mK (A5.base A6) h6.1 (aX (mO A5 r6))),by simp;omega,h6.2⟩
  |false=>exact aM ⟨K2.trans A4.kp,A4.pen,es,rs4,by omega,by simpa using h4⟩
 ·have e:i=ds.length:=by omega
  subst e
  refine .inl ⟨W.stop H' oH,λl hl'=>?_⟩
  obtain⟨k7,i7,nw⟩:=A'.new hl' (.lst ys)
  have j:=eF ke .new
  refine q _ _ _ _ (done es iv) (A'.go k7 i7) (.lst (bZ A' j.2 nw) aq ?_)
  exact(cj A' k7 rs).mono (λa o=>bZ A' j.1 o) (λ_ _ _ e=>e) λ_ _ e=>e
def fY(own:List Str)(hc:X.calm=true)(hi:PDI X tg iter ti)(hg:∀c,PDG (X.comp own scope c) tg g)(ht:∀c,Fj (X.comp own scope c) ifs tt)(he:∀c,PD (X.comp own scope c) elt te)(hk:gD X.env scope X.N=true:=by rfl)(hs:zF X iter:=by intro _;rfl) :
  PD X (.ListComp elt [⟨tg,iter,ifs,0⟩] scope pos) (dLC own.length ti g tt te):=PE.wk (R6 own hc hi hg ht he hk hs) qt
def qU(own M:List Str)(hc:X.calm=true)(hi:PDI X tg iter ti)(hg:∀c,PDG (X.bf own M scope c) tg g)(ht:∀c,Fj (X.bf own M scope c) ifs tt)(he:∀c,PD (X.bf own M scope c) elt te)(hk:aZ X.env scope X.N M=true:=by decide +kernel)(hs:zF X iter:=by intro _;rfl) :
  PD X (.ListComp elt [⟨tg,iter,ifs,0⟩] scope pos) (dLC own.length ti g tt te):=PE.wk (GP own M hc hi hg ht he hk hs) qt
end
def bG(d:D):Sl:=if iu d then .im d else .sh d
def eZ{p:Pn}{H:Hp}{N:List Str}{vs:List V}{ds:List D}(g:Gr.G p H)(hp:p.PI H)(r:Rps (λa=>¬p.fp a) H vs ds):EnvD p H (λ_=>none) (L2.start N vs) H (ds.map bG++Æ (N.length - vs.length) .any):=by
 refine⟨λ_ _ e _=>e,hp,(λ_ _ e=>nomatch e),λj s e=>?_,by unfold L2.start;simp[r.length],g⟩
 by_cases hj:j<ds.length
 ·rw[ó (by simpa using hj),Þ] at e
  obtain⟨v,hv,rv⟩:=r.getD (Ç hj)
  rw[Ç hj] at e
  have e:=à e
  have hs:(L2.start N vs)[j]?=some (some v):=by
   unfold L2.start
   rw[ó (by rw[À,r.length];exact hj),Þ,hv]
   rfl
  subst e
  unfold bG
  by_cases hi:iu ds[j]=true
  ·rw[if_pos hi];exact⟨v,hs,rv.imm hi⟩
  ·rw[if_neg hi];exact⟨v,hs,rv.mono (λ_ o=>⟨o,rfl⟩) (λ_ _ _ e=>e) λ_ _ e=>e⟩
 ·rw[è (by simpa using hj),ŋ] at e
  split at e
  ·cases e;trivial
  ·cases e
def wj{f:List D->(D->Prop)->Prop}{T:DS}{N:List Str}{vs:List V}{H:Hp}{Q:VK}{E:XK}(h:spD f vs H Q E)(body:∀ds P,f ds P->T { nx:=λ_=>P .none,rt:=P } (ds.map bG++Æ (N.length - ds.length) .any))(g:Gr.G dB H:=by trivial):jM T { nx:=λ_ H'=>Q .non H',rt:=Q } (L2.start N vs) H:=by
 obtain⟨ds,P,r,t,q⟩:=h
 have E:=eZ (p:=dB) (N:=N) g trivial (r.mono (ok':=λa=>¬dB.fp a) (λ_ _ z=>z) (λ_ _ _ e=>e) λ_ _ e=>e)
 rw[r.length] at E
 have sm:∀H',(∀b o,H b=some o->¬dB.fp b->H' b=some o)->Same H H':=λH' k b o e=>k b o e λz=>z
 refine⟨dB,H,λ_=>none,_,_,E,body ds P t,⟨λo s h' r' e' _ n=>q _ _ h' n (sm h' e'.k0) .non,λd v h' n w=>q d v h' n (sm h' w.k0) (w.rp.mono (λ_ o=>o.1) (λ_ _ _ e=>e) λ_ _ e=>e),λ_ _ _ _ _ _ n=>n.elim,λ_ _ _ _ _ _ n=>n.elim⟩⟩
def QG{C:Pn->Prop}{f:List D->(D->Prop)->Prop}{T:DS}{N:List Str}{vs:List V}{H:Hp}{Q:VK}{E:XK}(h:spP C f vs H Q E)(body:∀ds P,f ds P->T { nx:=λ_=>P .none,rt:=P } (.pen C::(ds.map bG++Æ (N.length - (ds.length+1)) .any)))(g:∀p,Gr.G p H:=by intro _;trivial):jM T { nx:=λ_ H'=>Q .non H',rt:=Q } (L2.start N vs) H:=by
 obtain⟨p,vs',ds,P,c,rfl,pi,r,t,q⟩:=h
 have E0:=eZ (p:=p) (N:=N.drop 1) (g p) pi r
 have E:EnvD p H (λ_=>none) (L2.start N (p.pv::vs')) H (.pen C::(ds.map bG++Æ (N.length - (ds.length+1)) .any)):=by
  refine⟨λ_ _ e _=>e,pi,(λ_ _ e=>nomatch e),λj s e=>?_,by unfold L2.start;simp[r.length],g p⟩
  cases j with
  |zero =>
   have e:=à e
   subst e
   exact⟨rfl,c⟩
  |succ j =>
   rw[List.getElem?_cons_succ] at e
   have hl:N.length - (ds.length+1)=(N.drop 1).length - vs'.length:=by rw[r.length,Ĉ];omega
   rw[hl] at e
   have q:=E0.slot j s e
   have es:(L2.start N (p.pv::vs'))[j+1]?=(L2.start (N.drop 1) vs')[j]?:=by
    unfold L2.start
    have:N.length - (p.pv::vs').length=(N.drop 1).length - vs'.length:=by rw[Ĉ,ì];omega
    rw[this]
    simp
   cases s <;> simp only[jX,es] at q ⊢ <;> exact q
 have nw:∀{H' v d},RPost p H H' v d->Rp (λa=>H a=none) H' v d:=λw=>w.rp.mono (λ_ o=>o.1) (λ_ _ _ e=>e) λ_ _ e=>e
 exact⟨p,H,λ_=>none,_,_,E,body ds P t,⟨λo s h' r' e' _ n=>q _ _ h' n e'.k0 e'.pen .non,λd v h' n w=>q d v h' n w.k0 w.pen (nw w),λ_ _ _ _ _ _ n=>n.elim,λ_ _ _ _ _ _ n=>n.elim⟩⟩
end Dl
namespace PySem
open PyProof.Rows
abbrev oA(f0:Value)(q:Bool)(TI TO:Addr):Obj:={ cls:=.type "zip",data:=.fields #[f0,.bool q,.bool false,.ref TI,.ref TO] }
section
variable {prog:Program}{w:World}{A:Around}{E:Value->Shared->Prop}{s:Shared}
def uK{z TI TO i1 i2 l1 l2 T:Addr}{q:Bool}{k:Nat}{xs ys:Array Value}{x y:Value}{oT:Obj}{Q:Value->Shared->Prop}(n1:i1≠z)(n2:i2≠z)(n12:i1≠i2)(m1:l1≠z)(m2:l2≠z)(m3:l2≠i1)(hZ:s.heap.get? z=some (oA (rawInt T) q TI TO))(hI:s.heap.get? TI=some { cls:=.type "tuple",data:=.seq #[.ref i1,.ref i2] })(hT:s.heap.get? T=some oT)(j1:s.heap.IsListIter i1 l1 k)(j2:s.heap.IsListIter i2 l2 k)(e1:s.heap.IsList l1 xs)(e2:s.heap.IsList l2 ys)(hx:xs[k]?=some x)(hy:ys[k]?=some y)(hQ:∀h',h'.get? z=some (oA (rawInt T) true TI TO)->h'.IsListIter i1 l1 (k+1)->h'.IsListIter i2 l2 (k+1)->h'.get? s.heap.objs.size=some { cls:=.type "tuple",data:=.seq #[x,y] } ->
   (∀c o,c≠z->c≠i1->c≠i2->s.heap.get? c=some o->h'.get? c=some o)->Q (.ref s.heap.objs.size) { s with heap:=h' }) :
  wpAny (model prog w) A (Builtin.«zip.__next__» ⟨[.ref z],[]⟩) (λfin s'=>∃v,fin=.done (.ret v)/\Q v s') E s:=by
 have fld:∀{i:Nat}{v:Value}{R:Value->Shared->Prop},(#[rawInt T,Value.bool q,.bool false,.ref TI,.ref TO]:Array Value)[i]?=some v->R v s->wpAny (model prog w) A (field (.ref z) i) R E s:=λh r=>wpAny_field hZ rfl h r
 show wpAny _ _ (field (.ref z) 2 >>= _) _ _ _
 refine Ã (fld (v:=.bool false) rfl ?_)
 show wpAny _ _ (field (.ref z) 3 >>= _) _ _ _
 refine Ã (fld (v:=.ref TI) rfl ?_)
 refine Ã (wpAny_seqItems hI rfl ?_)
 show wpAny _ _ (ļ (.ref z) >>= _) _ _ _
 refine Ã ?_
 unfold ļ
 refine Ã (fld (v:=rawInt T) rfl ?_)
 show wpAny _ _ (loadIfAlive ((T:Int).toNat) >>= _) _ _ _
 rw[é]
 refine Ã (W.kdx_alive hT ?_)
 simp only[Option.isNone_some,Ħ,if_false]
 refine Ã (fld (v:=.bool q) rfl ?_)
 refine L2.thn (Q:=λa s'=>a=false/\∃h1,s'={ s with heap:=h1 }/\h1.get? z=some (oA (rawInt T) true TI TO)/\h1.objs.size=s.heap.objs.size/\∀c o,c≠z->s.heap.get? c=some o->h1.get? c=some o) ?_ ?_
 ·cases q with
  |true=>exact Ô ⟨rfl,s.heap,rfl,hZ,rfl,λc o _ e=>e⟩
  |false =>
   rw[if_pos (by decide)]
   refine Ã (wpAny_setField_rec hZ (by simp) λh1 z1 b1=>Ô ⟨rfl,h1,rfl,z1,b1.1,λc o n e=>b1.extBut _ _ n e⟩)
 rintro a s' ⟨rfl,h1,rfl,z1,sz1,k1⟩
 simp only[Ħ,if_false]
 refine Ã ?_
 simp only[←Array.forIn_toList,List.forIn_cons,List.forIn_nil]
 have at1:h1.IsListIter i1 l1 k:=j1.at λo e=>k1 i1 o n1 e
 have at2:h1.IsListIter i2 l2 k:=j2.at λo e=>k1 i2 o n2 e
 have f1:h1.IsList l1 xs:=e1.at λo e=>k1 l1 o m1 e
 have f2:h1.IsList l2 ys:=e2.at λo e=>k1 l2 o m2 e
 refine Ã (Ã (Ē ?_))
 show wpAny _ _ (ŝ (.ref i1) >>= _) _ _ _
 refine Ã (wpAny_nextOf_list_item at1 f1 hx λh2 c1 b2=>Ô (Ô ?_))
 refine Ã (Ã (Ē ?_))
 show wpAny _ _ (ŝ (.ref i2) >>= _) _ _ _
 refine Ã (wpAny_nextOf_list_item (at2.extBut b2.extBut n12.symm) (f2.extBut b2.extBut m3) hy λh3 c2 b3=>Ô (Ô (Ô ?_)))
 have sz3:h3.objs.size=s.heap.objs.size:=by rw[b3.1,b2.1,sz1]
 show wpAny _ _ (newTuple [x,y] >>= _) _ _ _
 refine Ã (wpAny_newTuple (Ô ⟨_,rfl,?_⟩))
 show Q (.ref h3.objs.size) _
 rw[sz3]
 have up:∀c o,c≠i1->c≠i2->h1.get? c=some o->(h3.push { cls:=.type "tuple",data:=.seq #[x,y] }).get? c=some o:=λc o a b e=>Ñ _ (b3.extBut _ _ b (b2.extBut _ _ a e))
 refine hQ _ (up z _ n1.symm n2.symm z1) ((c1.extBut b3.extBut n12).at λo e=>Ñ _ e) (c2.at λo e=>Ñ _ e) ?_ λc o a b d e=>up c o b d (k1 c o a e)
 rw[←sz3]
 exact á _ rfl
def wQ{z TI TO i1 i2 l1 l2 T:Addr}{q:Bool}{k:Nat}{xs ys:Array Value}{oT:Obj}{Q:Fin->Shared->Prop}(hh:A.handled=none)(n1:i1≠z)(n2:i2≠z)(n12:i1≠i2)(m1:l1≠z)(m2:l2≠z)(m3:l2≠i1)(hZ:s.heap.get? z=some (oA (rawInt T) q TI TO))(hI:s.heap.get? TI=some { cls:=.type "tuple",data:=.seq #[.ref i1,.ref i2] })(hT:s.heap.get? T=some oT)(j1:s.heap.IsListIter i1 l1 k)(j2:s.heap.IsListIter i2 l2 k)(e1:s.heap.IsList l1 xs)(e2:s.heap.IsList l2 ys)(hend:xs[k]?=none\/ys[k]?=none)(hE:∀h' e,(∀c o,c≠z->c≠i1->c≠i2->s.heap.get? c=some o->h'.get? c=some o)->(∃o,h'.get? e=some o/\o.cls=.type "StopIteration")->E (.ref e) { s with heap:=h' }) :
  wpAny (model prog w) A (Builtin.«zip.__next__» ⟨[.ref z],[]⟩) Q E s:=by
 have fld:∀{i:Nat}{v:Value}{R:Value->Shared->Prop},(#[rawInt T,Value.bool q,.bool false,.ref TI,.ref TO]:Array Value)[i]?=some v->R v s->wpAny (model prog w) A (field (.ref z) i) R E s:=λh r=>wpAny_field hZ rfl h r
 show wpAny _ _ (field (.ref z) 2 >>= _) _ _ _
 refine Ã (fld (v:=.bool false) rfl ?_)
 show wpAny _ _ (field (.ref z) 3 >>= _) _ _ _
 refine Ã (fld (v:=.ref TI) rfl ?_)
 refine Ã (wpAny_seqItems hI rfl ?_)
 show wpAny _ _ (ļ (.ref z) >>= _) _ _ _
 refine Ã ?_
 unfold ļ
 refine Ã (fld (v:=rawInt T) rfl ?_)
 show wpAny _ _ (loadIfAlive ((T:Int).toNat) >>= _) _ _ _
 rw[é]
 refine Ã (W.kdx_alive hT ?_)
 simp only[Option.isNone_some,Ħ,if_false]
 refine Ã (fld (v:=.bool q) rfl ?_)
 refine L2.thn (Q:=λa s'=>a=false/\∃h1,s'={ s with heap:=h1 }/\h1.get? z=some (oA (rawInt T) true TI TO)/\h1.objs.size=s.heap.objs.size/\∀c o,c≠z->s.heap.get? c=some o->h1.get? c=some o) ?_ ?_
 ·cases q with
  |true=>exact Ô ⟨rfl,s.heap,rfl,hZ,rfl,λc o _ e=>e⟩
  |false =>
   rw[if_pos (by decide)]
   refine Ã (wpAny_setField_rec hZ (by simp) λh1 z1 b1=>Ô ⟨rfl,h1,rfl,z1,b1.1,λc o n e=>b1.extBut _ _ n e⟩)
 rintro a s' ⟨rfl,h1,rfl,z1,sz1,k1⟩
 simp only[Ħ,if_false]
 refine Ã ?_
 simp only[←Array.forIn_toList,List.forIn_cons,List.forIn_nil]
 have at1:h1.IsListIter i1 l1 k:=j1.at λo e=>k1 i1 o n1 e
 have at2:h1.IsListIter i2 l2 k:=j2.at λo e=>k1 i2 o n2 e
 have f1:h1.IsList l1 xs:=e1.at λo e=>k1 l1 o m1 e
 have f2:h1.IsList l2 ys:=e2.at λo e=>k1 l2 o m2 e
 refine Ã (Ã (Ē ?_))
 show wpAny _ _ (ŝ (.ref i1) >>= _) _ _ _
 cases hx:xs[k]? with
 |none=>exact Ã (wpAny_nextOf_list_end hh at1 f1 hx λh2 e b2 he=>hE h2 e (λc o a b _ x=>b2 c o b (k1 c o a x)) he)
 |some x =>
  have hy:ys[k]?=none:=hend.elim (λz=>by rw[hx] at z;cases z) id
  refine Ã (wpAny_nextOf_list_item at1 f1 hx λh2 c1 b2=>Ô (Ô ?_))
  refine Ã (Ã (Ē ?_))
  show wpAny _ _ (ŝ (.ref i2) >>= _) _ _ _
  exact Ã (wpAny_nextOf_list_end hh (at2.extBut b2.extBut n12.symm) (f2.extBut b2.extBut m3) hy λh3 e b3 he=>hE h3 e (λc o a b d x=>b3 c o d (b2.extBut _ _ b (k1 c o a x))) he)
structure ZSt(z TI TO i1 i2 l1 l2:Addr)(xs ys:Array Value)(i:Nat)(h:Heap):Prop where
 zip:(i=0/\h.get? z=some (oA .none false TI TO))\/∃(T:Addr) (q:Bool) (oT:Obj),h.get? z=some (oA (rawInt T) q TI TO)/\h.get? T=some oT/\T≠z/\T≠i1/\T≠i2
 ti:h.get? TI=some { cls:=.type "tuple",data:=.seq #[.ref i1,.ref i2] }
 to:∃a b,h.get? TO=some { cls:=.type "tuple",data:=.seq #[a,b] }
 j1:h.IsListIter i1 l1 i
 j2:h.IsListIter i2 l2 i
 e1:h.IsList l1 xs
 e2:h.IsList l2 ys
variable {z TI TO i1 i2 l1 l2:Addr}{xs ys:Array Value}
def ZSt.keeps{i:Nat}{h h':Heap}(Z:ZSt z TI TO i1 i2 l1 l2 xs ys i h){S:Addr}{oS:Obj}(hS:h.get? S=some oS)(hc:oS.cls=.type "list")(n1:S≠l1)(n2:S≠l2)(nT:∀(T:Addr) (q:Bool),h.get? z=some (oA (rawInt T) q TI TO)->S≠T)(k:∀b o,b≠S->h.get? b=some o->h'.get? b=some o):ZSt z TI TO i1 i2 l1 l2 xs ys i h':=by
 have ne:∀{b:Addr}{o:Obj},h.get? b=some o->o.cls≠.type "list"->b≠S:=λe n z=>by subst z;rw[hS] at e;cases e;exact n hc
 obtain⟨o1,a1,c1,d1⟩:=Z.j1
 obtain⟨o2,a2,c2,d2⟩:=Z.j2
 obtain⟨a,b,ab⟩:=Z.to
 have k1:=k i1 o1 (ne a1 (by rw[c1];decide)) a1
 have k2:=k i2 o2 (ne a2 (by rw[c2];decide)) a2
 refine⟨?_,k _ _ (ne Z.ti (show Đ "tuple"≠_ by decide)) Z.ti,⟨a,b,k _ _ (ne ab (show Đ "tuple"≠_ by decide)) ab⟩,⟨o1,k1,c1,d1⟩,⟨o2,k2,c2,d2⟩,Z.e1.at λo e=>k _ o n1.symm e,Z.e2.at λo e=>k _ o n2.symm e⟩
 rcases Z.zip with ⟨h0,hz⟩|⟨T,q,oT,hz,hT,r⟩
 ·exact .inl ⟨h0,k _ _ (ne hz (show Đ "zip"≠_ by decide)) hz⟩
 ·exact .inr ⟨T,q,oT,k _ _ (ne hz (show Đ "zip"≠_ by decide)) hz,k _ _ (nT T q hz).symm hT,r⟩
def Fp{i:Nat}{x y:Value}{Q:Option Value->Shared->Prop}(D:ZipApart z TI TO i1 i2 l1 l2)(Z:ZSt z TI TO i1 i2 l1 l2 xs ys i s.heap)(hx:xs[i]?=some x)(hy:ys[i]?=some y)(hQ:∀h',ZSt z TI TO i1 i2 l1 l2 xs ys (i+1) h'->h'.get? s.heap.objs.size=some { cls:=.type "tuple",data:=.seq #[x,y] }->(∀(T:Addr) (q:Bool),h'.get? z=some (oA (rawInt T) q TI TO)->T=s.heap.objs.size\/∃q',s.heap.get? z=some (oA (rawInt T) q' TI TO)) ->
   (∀c o,c≠z->c≠TO->c≠i1->c≠i2->s.heap.get? c=some o->h'.get? c=some o)->Q (some (.ref s.heap.objs.size)) { s with heap:=h' }):wpAny (model prog w) A (pyNext (.ref z)) Q E s:=by
 obtain⟨a,b,ab⟩:=Z.to
 have lt:∀{c:Addr}{o:Obj},s.heap.get? c=some o->s.heap.objs.size≠c:=λe=>ŷ (Î e)
 obtain⟨o1,a1,_⟩:=id Z.j1
 obtain⟨o2,a2,_⟩:=id Z.j2
 rcases Z.zip with ⟨rfl,hz⟩|⟨T,q,oT,hz,hT,t1,t2,t3⟩
 ·refine wpAny_pyNext_zip_item D hz Z.ti ab Z.j1 Z.j2 Z.e1 Z.e2 hx hy λh' b1 b2 b3 b4 b5 b6 b7=>hQ h' ⟨.inr ⟨_,false,_,b1,b5,lt hz,lt a1,lt a2⟩,b7 _ _ D.TIz D.TITO D.TIi1 D.TIi2 Z.ti,⟨_,_,b2⟩,b3,b4,Z.e1.at λo e=>b7 _ o D.l1z D.l1TO D.l1i1 D.l1i2 e,Z.e2.at λo e=>b7 _ o D.l2z D.l2TO D.l2i1 D.l2i2 e⟩ b5 (λT q e=>?_) b7
  rw[b1] at e
  cases e
  exact .inl rfl
 ·have hTy:s.TypeIs (.ref z) "zip":=⟨_,hz,rfl⟩
  unfold pyNext
  refine Ã (wpAny_attempt (wpAny_callSpecial?_slot (name:=å "__next__") hTy F.slot_zip_next (wpAny_call_entry F.slot_zip_next hTy F.entry_zip_next ?_ (F.args_zip_next_1 _))))
  refine uK D.i1z D.i2z D.i12 D.l1z D.l2z D.l2i1 hz Z.ti hT Z.j1 Z.j2 Z.e1 Z.e2 hx hy λh' b1 b3 b4 b5 b7=>Ô (hQ h' ⟨.inr ⟨T,true,oT,b1,b7 _ _ t1 t2 t3 hT,t1,t2,t3⟩,b7 _ _ D.TIz D.TIi1 D.TIi2 Z.ti,⟨a,b,b7 _ _ D.TOz D.TOi1 D.TOi2 ab⟩,b3,b4,Z.e1.at λo e=>b7 _ o D.l1z D.l1i1 D.l1i2 e,Z.e2.at λo e=>b7 _ o D.l2z D.l2i1 D.l2i2 e⟩ b5 (λT' q' e=>?_) λc o n1 _ n3 n4 e=>b7 c o n1 n3 n4 e)
  rw[b1] at e
  cases e
  exact .inr ⟨_,hz⟩
def JN{i:Nat}{Q:Option Value->Shared->Prop}(hh:A.handled=none)(D:ZipApart z TI TO i1 i2 l1 l2)(Z:ZSt z TI TO i1 i2 l1 l2 xs ys i s.heap)(hend:xs[i]?=none\/ys[i]?=none)(hQ:∀h',(∀c o,c≠z->c≠TO->c≠i1->c≠i2->s.heap.get? c=some o->h'.get? c=some o)->Q none { s with heap:=h' }):wpAny (model prog w) A (pyNext (.ref z)) Q E s:=by
 obtain⟨a,b,ab⟩:=Z.to
 rcases Z.zip with ⟨rfl,hz⟩|⟨T,q,oT,hz,hT,t1,t2,t3⟩
 ·exact wpAny_pyNext_zip_end hh D hz Z.ti ab Z.j1 Z.j2 Z.e1 Z.e2 hend hQ
 ·have hTy:s.TypeIs (.ref z) "zip":=⟨_,hz,rfl⟩
  unfold pyNext
  refine Ã (wpAny_attempt (wpAny_callSpecial?_slot (name:=å "__next__") hTy F.slot_zip_next (wpAny_call_entry F.slot_zip_next hTy F.entry_zip_next ?_ (F.args_zip_next_1 _))))
  refine wQ hh D.i1z D.i2z D.i12 D.l1z D.l2z D.l2i1 hz Z.ti hT Z.j1 Z.j2 Z.e1 Z.e2 hend λh' e k2 he=>?_
  obtain⟨o,ho,hc⟩:=he
  refine Ã (wpAny_isInstance (T:="StopIteration") (b:=true) ⟨o,ho,hc⟩ isSubtype_stop ?_)
  exact Ô (hQ _ λc o n1 _ n3 n4 e=>k2 c o n1 n3 n4 e)
def ItP(h:Heap):List Value->List (Value×Value)->Prop:=Paired λv p=>∃T,v=.ref T/\h.get? T=some { cls:=.type "tuple",data:=.seq #[p.1,p.2] }
def ItP.snoc{h:Heap}:∀{vs:List Value}{ps:List (Value×Value)}{v:Value}{p:Value×Value},ItP h vs ps->(∃T,v=.ref T/\h.get? T=some { cls:=.type "tuple",data:=.seq #[p.1,p.2] })->ItP h (vs++[v]) (ps++[p])
 |_,_,_,_,.nil,r=>.cons r .nil
 |_,_,_,_,.cons a t,r=>.cons a (ItP.snoc t r)
def ItP.keeps{h h':Heap}{vs:List Value}{ps:List (Value×Value)}(H:ItP h vs ps)(k:∀T o,h.get? T=some o->o.cls=.type "tuple"->(∃v∈vs,v=.ref T)->h'.get? T=some o):ItP h' vs ps:=by
 induction H with
 |nil=>exact .nil
 |cons a t ih =>
  obtain⟨T,e,hT⟩:=a
  exact .cons ⟨T,e,k T _ hT rfl ⟨_,Å,e⟩⟩ (ih λT o h c ⟨v,hv,e⟩=>k T o h c ⟨v,Ä _ hv,e⟩)
end
section
variable {prog:Program}{w:World}{A:Around}{z TI TO i1 i2 l1 l2:Addr}{xs ys:Array Value}{R:Result->Shared->Prop}
abbrev K5(acc:Array Value)(c:Nat):Obj:={ cls:=.type "list",dict:=none,data:=.seq acc c,slots:=#[] }
def Fl(hh:A.in1.handled=none)(D:ZipApart z TI TO i1 i2 l1 l2)(hn:min xs.size ys.size<=1000)(S:Addr)(nS:S≠z/\S≠TO/\S≠i1/\S≠i2/\S≠l1/\S≠l2)(res:Value):∀(m i:Nat) (s:Shared) (acc:Array Value) (c:Nat),min xs.size ys.size - i=m->i<=min xs.size ys.size ->
  ZSt z TI TO i1 i2 l1 l2 xs ys i s.heap->(∀(T:Addr) (q:Bool),s.heap.get? z=some (oA (rawInt T) q TI TO)->S≠T)->s.heap.get? S=some (K5 acc c)->ItP s.heap acc.toList ((xs.toList.zip ys.toList).take i)->(∀v∈acc.toList,∀T,v=.ref T->T≠z/\T≠TO/\T≠i1/\T≠i2/\T≠S) ->
  (∀h' acc' c',(∀b o,b≠S->b≠z->b≠TO->b≠i1->b≠i2->s.heap.get? b=some o->h'.get? b=some o)->h'.get? S=some (K5 acc' c')->ItP h' acc'.toList (xs.toList.zip ys.toList)->(∀v∈acc'.toList,v∈acc.toList\/∃T,v=.ref T/\s.heap.objs.size<=T)->R (.ok (.ret res)) { s with heap:=h' }) ->
  codeAny (model prog w) A (.builtin "list.extend.loop" ⟨[.ref S,.ref z,res],[]⟩) R s:=by
 obtain⟨s1,s2,s3,s4,s5,s6⟩:=nS
 intro m
 induction m with
 |zero =>
  intro i s acc c hm hi Z nT hS hP hv hR
  have e:i=min xs.size ys.size:=by omega
  refine ō F.entry_extend_loop ?_
  rw[Ŀ F.plain_extend_loop _]
  show wpAny _ A.in1 (pyNext (.ref z) >>= _) _ _ s
  refine Ã (JN hh D Z ?_ λh' k=>?_)
  ·rcases Nat.le_total xs.size ys.size with h|h
   ·exact .inl (Array.getElem?_eq_none (by omega))
   ·exact .inr (Array.getElem?_eq_none (by omega))
  ·have el:(xs.toList.zip ys.toList).take i=xs.toList.zip ys.toList:=List.take_of_length_le (by simp;omega)
   rw[el] at hP
   exact Ô (hR h' acc c (λb o n1 n2 n3 n4 n5 e=>k b o n2 n3 n4 n5 e) (k S _ s1 s2 s3 s4 hS) (hP.keeps λT o h _ ⟨v,hv',e⟩=>let ⟨a1,a2,a3,a4,_⟩:=hv v hv' T e;k T o a1 a2 a3 a4 h) λv hv=>.inl hv)
 |succ m ih =>
  intro i s acc c hm hi Z nT hS hP hv hR
  have hx:i<xs.size:=by omega
  have hy:i<ys.size:=by omega
  refine ō F.entry_extend_loop ?_
  rw[Ŀ F.plain_extend_loop _]
  show wpAny _ A.in1 (pyNext (.ref z) >>= _) _ _ s
  refine Ã (Fp D Z (Array.getElem?_eq_getElem hx) (Array.getElem?_eq_getElem hy) λh1 Z1 hT hz1 k1=>?_)
  have hS1:=k1 S _ s1 s2 s3 s4 hS
  have lt:∀{b:Addr}{o:Obj},s.heap.get? b=some o->s.heap.objs.size≠b:=λe=>ŷ (Î e)
  have hsz:=hP.length
  have hsz2:acc.size=i:=by
   have:acc.toList.length=i:=by rw[hsz,İ,List.length_zip];simp;omega
   simpa using this
  show wpAny _ A.in1 (updateSeq S (·.push (.ref s.heap.objs.size)) >>= _) _ _ _
  refine Ã ?_
  have h24:=ï
  have nT1:∀(T:Addr) (q:Bool),h1.get? z=some (oA (rawInt T) q TI TO)->S≠T:=λT q e=>by
   rcases hz1 T q e with z'|⟨q',e'⟩
   ·rw[z'];exact(lt hS).symm
   ·exact nT T q' e'
  have oth:∀b o,b≠S->h1.get? b=some o->(h1.update S (Ü (·.push (Ň s.heap.objs.size)))).get? b=some o:=λb o n e=>(Ķ _ _ (ė n)).trans e
  obtain⟨o1,a1,_⟩:=Z.j1
  obtain⟨o2,a2,_⟩:=Z.j2
  have az:∃o,s.heap.get? z=some o:=by
   rcases Z.zip with ⟨_,hz⟩|⟨_,_,_,hz,_⟩
   ·exact⟨_,hz⟩
   ·exact⟨_,hz⟩
  obtain⟨oz,az⟩:=az
  obtain⟨ta,tb,at'⟩:=Z.to
  have newT:s.heap.objs.size≠z/\s.heap.objs.size≠TO/\s.heap.objs.size≠i1/\s.heap.objs.size≠i2/\s.heap.objs.size≠S:=⟨lt az,lt at',lt a1,lt a2,lt hS⟩
  obtain⟨c2,hS2⟩:∃c2,(h1.update S (Ü (·.push (Ň s.heap.objs.size)))).get? S=some (K5 (acc.push (.ref s.heap.objs.size)) c2):=⟨_,ũ _ hS1 rfl⟩
  have tk:(xs.toList.zip ys.toList).take (i+1)=(xs.toList.zip ys.toList).take i++[(xs[i],ys[i])]:=by
   rw[Ŋ]
   congr 1
   have:(xs.toList.zip ys.toList)[i]?=some (xs[i],ys[i]):=by
    rw[List.getElem?_zip_eq_some]
    simp[hx,hy]
   rw[this]
   rfl
  refine Ů hS1 rfl (Ô ⟨Ű F.plain_extend_loop _,ih (i+1) { s with heap:=h1.update S (Ü (·.push (Ň s.heap.objs.size))) } (acc.push (.ref s.heap.objs.size)) c2 (by omega) (by omega) (Z1.keeps hS1 rfl s5 s6 nT1 oth) (λT q e=>nT1 T q ?_) hS2 ?_ ?_ ?_⟩) (by rw[hsz2];omega) (by show(acc.push _).size<=sizeLine+1;rw[Array.size_push,hsz2];omega)
  ·have zz:z≠S:=ė s1
   rw[show(h1.update S (Ü (·.push (Ň s.heap.objs.size)))).get? z=h1.get? z from Ķ _ _ (ė zz)] at e
   exact e
  ·rw[tk,Array.toList_push]
   refine ItP.snoc (hP.keeps λT o h _ ⟨v,hv',e⟩=>?_) ⟨_,rfl,oth _ _ newT.2.2.2.2 hT⟩
   obtain⟨b1,b2,b3,b4,b5⟩:=hv v hv' T e
   exact oth _ _ b5 (k1 T o b1 b2 b3 b4 h)
  ·intro v hv' T e
   rw[Array.toList_push] at hv'
   rcases â.mp hv' with q|q
   ·exact hv v q T e
   ·have q':v=.ref s.heap.objs.size:=by simpa using q
    rw[q'] at e
    cases e
    exact newT
  ·intro h' acc' c' kk hS' hP' hn'
   refine hR h' acc' c' (λb o n1 n2 n3 n4 n5 e=>kk b o n1 n2 n3 n4 n5 (oth b o n1 (k1 b o n2 n3 n4 n5 e))) hS' hP' λv hv'=>?_
   rcases hn' v hv' with q|⟨T,e,hT'⟩
   ·rw[Array.toList_push] at q
    rcases â.mp q with q|q
    ·exact .inl q
    ·have q':v=.ref s.heap.objs.size:=by simpa using q
     exact .inr ⟨_,q',Ë _⟩
   ·exact .inr ⟨T,e,õ (Nat.le_of_lt (Î (oth _ _ newT.2.2.2.2 hT))) hT'⟩
def yP:typeLookup (.type "zip") "__len__"=pure none:=by rw[typeLookup_type,builtinLookup_eq_fast];kernel_rfl
def wN:typeLookup (.type "zip") "__length_hint__"=pure none:=by rw[typeLookup_type,builtinLookup_eq_fast];kernel_rfl
def Fo{s:Shared}{E:Value->Shared->Prop}{Q:Value->Shared->Prop}(hh:A.handled=none)(D:ZipApart z TI TO i1 i2 l1 l2)(hn:min xs.size ys.size<=1000)(hz:s.heap.get? z=some (oA .none false TI TO))(Z:ZSt z TI TO i1 i2 l1 l2 xs ys 0 s.heap)(hQ:∀h' acc' c',(∀b o,b≠z->b≠TO->b≠i1->b≠i2->s.heap.get? b=some o->h'.get? b=some o)->h'.get? s.heap.objs.size=some (K5 acc' c')->ItP h' acc'.toList (xs.toList.zip ys.toList)->(∀v∈acc'.toList,∃T,v=.ref T/\s.heap.objs.size<T)->Q (.ref s.heap.objs.size) { s with heap:=h' }) :
  wpAny (model prog w) A (call (.type "list") [.ref z]) Q E s:=by
 have lt:∀{b:Addr}{o:Obj},s.heap.get? b=some o->s.heap.objs.size≠b:=λe=>ŷ (Î e)
 obtain⟨o1,a1,_⟩:=id Z.j1
 obtain⟨o2,a2,_⟩:=id Z.j2
 obtain⟨p1,b1,_⟩:=id Z.e1
 obtain⟨p2,b2,_⟩:=id Z.e2
 obtain⟨ta,tb,at'⟩:=id Z.to
 refine callType_codes (Q₁:=λobj s₁=>obj=.ref s.heap.objs.size/\s₁={ s with heap:=s.heap.push { cls:=.type "list",data:=.seq #[] } }) F.called_list (F.typeCall_list_1 _) F.entry_list_init (code_list_new _ ⟨rfl,rfl⟩) λobj sx hx=>?_
 obtain⟨rfl,rfl⟩:=hx
 have hS:(s.heap.push { cls:=.type "list",data:=.seq #[] }).get? s.heap.objs.size=some { cls:=.type "list",data:=.seq #[] }:=á _ rfl
 refine⟨⟨_,hS,rfl⟩,F.args_list_init_2 _ _,?_⟩
 show wpAny _ _ (Builtin.List.listItems (.ref s.heap.objs.size) >>= λold=>Builtin.List.listUpdate (.ref s.heap.objs.size) (λ_=>#[]) >>= λ_=>letGo old.toList.reverse >>= λ_=>Ş (.ref s.heap.objs.size) (.ref z) .none) _ _ _
 have old:∀b o,s.heap.get? b=some o->(s.heap.push { cls:=.type "list",data:=.seq #[] }).get? b=some o:=λb o e=>Ñ _ e
 refine Ã ?_
 unfold Builtin.List.listItems
 refine Ã (wpAny_seqItems hS rfl (Ô ?_))
 refine Ã (m:=updateSeq s.heap.objs.size (λ_=>#[])) (Ů hS rfl ?_)
 have hS2:=ũ (Ü (λ_=>(#[]:Array Value))) hS rfl
 refine Ã (wpAny_letGo ?_)
 generalize hg:(s.heap.push { cls:=.type "list",data:=.seq #[] }).update s.heap.objs.size (Ü λ_=>(#[]:Array Value))=g at hS2
 have kg:∀b o,s.heap.get? b=some o->g.get? b=some o:=λb o e=>by rw[←hg];exact(Ķ _ _ (lt e)).trans (old b o e)
 have sg:g.objs.size=s.heap.objs.size+1:=by rw[←hg,Ė,Ŝ]
 have Zg:∀{h:Heap},(∀b o,s.heap.get? b=some o->h.get? b=some o)->ZSt z TI TO i1 i2 l1 l2 xs ys 0 h:=λ{h} k=>⟨.inl ⟨rfl,k _ _ hz⟩,k _ _ Z.ti,⟨ta,tb,k _ _ at'⟩,Z.j1.at λo e=>k _ o e,Z.j2.at λo e=>k _ o e,Z.e1.at λo e=>k _ o e,Z.e2.at λo e=>k _ o e⟩
 have hT:∀{h:Heap},(∀b o,s.heap.get? b=some o->h.get? b=some o)->({ s with heap:=h }:Shared).TypeIs (.ref z) "zip":=λk=>⟨_,k _ _ hz,rfl⟩
 unfold Ş
 refine Ã (wpAny_typeOf (hT kg) ?_)
 have q1:Builtin.List.listSameRef (.ref s.heap.objs.size) (.ref z)=false:=by simp[Builtin.List.listSameRef,lt hz]
 have q2:(Đ "zip" == Đ "list")=false:=by decide
 have q3:(Đ "zip" == Đ "tuple")=false:=by decide
 simp only[q1,q2,q3,Bool.or_false,Ħ,if_false]
 refine Ã (wpAny_pyIter_zip (kg _ _ hz) ?_)
 refine Ã (Ē ?_)
 unfold Builtin.List.listLengthHint
 refine Ã (wpAny_specialOf (hT kg) yP ?_)
 show wpAny _ _ (specialOf (Ň z) (å "__length_hint__") >>= _) _ _ _
 refine Ã (wpAny_specialOf (hT kg) wN ?_)
 refine Ô ?_
 show wpAny _ _ (rule "list.extend.makes-room" >>= λ_=>Builtin.List.listTouch (.ref s.heap.objs.size) >>= λ_=>again (.builtin "list.extend.loop" ⟨[.ref s.heap.objs.size,.ref z,.none],[]⟩)) _ _ _
 refine Ã (wpAny_rule (Ã ?_))
 show wpAny _ _ (updateSeq s.heap.objs.size (·.push .none) >>= λ_=>updateSeq s.heap.objs.size (·.pop)) _ _ _
 refine Ã (Ů hS2 rfl ?_)
 have hS3:=ũ (Ü (·.push ĕ)) hS2 rfl
 refine Ů hS3 rfl ?_
 have hS4:=ũ (Ü (·.pop)) hS3 rfl
 generalize hk:(g.update s.heap.objs.size (Ü (·.push ĕ))).update s.heap.objs.size (Ü (·.pop))=g' at hS4
 have kk:∀b o,b≠s.heap.objs.size->g.get? b=some o->g'.get? b=some o:=λb o n e=>by rw[←hk];exact(Ķ _ _ (ė n)).trans ((Ķ _ _ (ė n)).trans e)
 have kk2:∀b o,s.heap.get? b=some o->g'.get? b=some o:=λb o e=>kk b o (ė (lt e)) (kg b o e)
 have sk:g'.objs.size=s.heap.objs.size+1:=by rw[←hk,Ė,Ė,sg]
 refine Ô ⟨Ű F.plain_extend_loop _,Fl (A:=A.in1) (xs:=xs) (ys:=ys) hh D hn s.heap.objs.size ⟨lt hz,lt at',lt a1,lt a2,lt b1,lt b2⟩ _ _ 0 { s with heap:=g' } #[] _ rfl (ú _) (Zg kk2) (λT q e=>?_) hS4 .nil (λv hv=>nomatch hv) λh' acc' c' k' hS' hP' hn'=>?_⟩
 ·have e':=kk2 _ _ hz
  rw[e] at e'
  cases e'
 ·refine⟨rfl,hQ h' acc' c' (λb o n1 n2 n3 n4 e=>k' b o (ė (lt e)) n1 n2 n3 n4 (kk2 b o e)) hS' hP' λv hv=>?_⟩
  rcases hn' v hv with q|⟨T,e,hT'⟩
  ·exact nomatch q
  ·refine⟨T,e,?_⟩
   have:g'.objs.size<=T:=hT'
   omega
end
end PySem
namespace L2
open PySem PySem.Spec PyProof.Rows
section
variable {X:Cx}{pins:List (Addr×Obj)}{σ:L2.St}{H:Hp}{s:Shared}
def Inv.FJ{a:Addr}{o:HO}{H0:Hp}{s0:Shared}{σ0:L2.St}(I:Inv X pins σ H s)(I0:Inv X pins σ0 H0 s0)(hle:s0.heap.objs.size<=a)(hn:H a=none)(new:bN X.prog X.w (upd H a o) s.heap a o):Inv X pins σ (upd H a o) s:=by
 have lt:∀{b:Addr}{u:Obj},s0.heap.get? b=some u->b≠a:=λe z=>absurd (ã (Î e) hle) (by rw[z];exact Ă _)
 refine I.track hn (λob e=>?_) (ė (ß (ã I0.lt hle))) (λx c e=>?_) (λp hp=>lt (I0.pin p hp).1) new
 ·exact absurd (ã (Î e) (õ I0.sz hle)) (Ă _)
 ·obtain⟨v,u,hu,_⟩:=I0.cell x c e
  exact lt hu
def Inv.tuples{H0:Hp}{s0:Shared}{σ0:L2.St}(I0:Inv X pins σ0 H0 s0):∀(vs:List Value) (ps:List (Value×Value)) (qs:List (V×V)) (H:Hp),Inv X pins σ H s->ItP s.heap vs ps->Paired (λ(q:V×V) (p:Value×Value)=>RelV q.1 p.1/\RelV q.2 p.2) qs ps->(∀v∈vs,∃T,v=.ref T/\s0.heap.objs.size<=T)->(∀T,s0.heap.objs.size<=T->H T=none\/∃xs,H T=some (.tup xs)) ->
  ∃(H':Hp) (ws:List V),Inv X pins σ H' s/\Same H H'/\Vals ws vs/\Paired (λw (q:V×V)=>∃t,w=.ref t/\H' t=some (.tup [q.1,q.2])) ws qs/\(∀T,s0.heap.objs.size<=T->H' T=none\/∃xs,H' T=some (.tup xs))/\(∀T,(∀v∈vs,v≠.ref T)->H' T=H T)
 |_,_,_,H,I,.nil,.nil,_,hN=>⟨H,[],I,Same.refl _,.nil,.nil,hN,λ_ _=>rfl⟩
 |_,_,_,H,I,.cons (a:=v) (l₁:=vs) (b:=p) (l₂:=ps) r t,.cons (a:=q) (l₁:=qs) rq tq,hv,hN=>by
  obtain⟨T,e,hT⟩:=r
  subst e
  obtain⟨T',e',hle⟩:=hv _ Å
  cases e'
  have vq:Vals [q.1,q.2] [p.1,p.2]:=.cons rq.1 (.cons rq.2 .nil)
  have okT:∀H2:Hp,bN X.prog X.w H2 s.heap T (.tup [q.1,q.2]):=λH2=>⟨by show 2<=sizeLine;decide,[p.1,p.2],vq,⟨_,hT,rfl,0,rfl⟩⟩
  have key:∃H1,Inv X pins σ H1 s/\Same H H1/\H1 T=some (.tup [q.1,q.2])/\(∀U,s0.heap.objs.size<=U->H1 U=none\/∃xs,H1 U=some (.tup xs))/\∀U,U≠T->H1 U=H U:=by
   rcases hN T hle with hn|⟨xs,hx⟩
   ·refine⟨upd H T (.tup [q.1,q.2]),I.FJ I0 hle hn (okT _),λb u e=>by rw[au (aB e hn)];exact e,aq,λU hU=>?_,λU hU=>au hU⟩
    by_cases z:U=T
    ·subst z;exact .inr ⟨_,aq⟩
    ·rw[au z];exact hN U hU
   ·refine⟨H,I,Same.refl _,?_,hN,λ_ _=>rfl⟩
    obtain⟨_,its,rv,o,ho,hc,n,hd⟩:=I.hok T _ hx
    rw[hT] at ho
    cases ho
    cases hd
    have:xs=[q.1,q.2]:=Vals.inj (by simpa using rv) vq
    rw[hx,this]
  obtain⟨H1,I1,s1,h1,N1,u1⟩:=key
  obtain⟨H2,ws,I2,s2,v2,p2,N2,u2⟩:=Inv.tuples I0 vs ps qs H1 I1 t tq (λv hv'=>hv v (Ä _ hv')) N1
  refine⟨H2,.ref T::ws,I2,s1.trans s2,.cons rfl v2,.cons ⟨T,rfl,s2 _ _ h1⟩ p2,N2,λU hU=>?_⟩
  rw[u2 U λv hv'=>hU v (Ä _ hv'),u1 U λz=>hU _ Å (by rw[z])]
def tLZ(K:Ú)(ta:TA):TE:=λσ H Q=>ta σ H λvs H1=>∃p q xs ys,vs=[.ref p,.ref q]/\SqL K H1 p xs/\SqL K H1 q ys/\xs.length<=1000 /\
 ∀l ws H',Same H1 H'->H1 l=none->H' l=some (.lst ws)->Paired (λw (q:V×V)=>∃t,w=.ref t/\H' t=some (.tup [q.1,q.2])) ws (xs.zip ys)->Q (.ref l) H'
def wR:∀{xs ys:List V}{us vs:List Value},Vals xs us->Vals ys vs->Paired (λ(q:V×V) (p:Value×Value)=>RelV q.1 p.1/\RelV q.2 p.2) (xs.zip ys) (us.zip vs)
 |_,_,_,_,.nil,_=>.nil
 |_,_,_,_,.cons _ _,.nil=>.nil
 |_,_,_,_,.cons a b,.cons c d=>.cons ⟨a,c⟩ (wR b d)
def zu{a b:Expr}{ta:TA}{p1 p2 pos1 pos2:Pos}(hc:X.calm=true)(hgl:Gl X "list")(hml:X.mg "list"=none)(hgz:Gl X "zip")(hmz:X.mg "zip"=none)(ha:PA X [a,b] ta)(e1:starEach [.Call (.Name "zip" p2) [a,b] [] pos2] X.env=[(false,eval (.Call (.Name "zip" p2) [a,b] [] pos2) X.env)]:=by rfl)(e2:starEach [a,b] X.env=(false,eval a X.env)::starEach [b] X.env:=by rfl)(e3:(backTo pos2 (starEach [b] X.env)).any (·.1)=false:=by rfl) :
  PE X (.Call (.Name "list" p1) [.Call (.Name "zip" p2) [a,b] [] pos2] [] pos1) (tLZ X.K ta):=by
 intro pins s σ H Q I h
 refine Ņ (jN I hgl hml boot_list ?_)
 refine Ł ?_ e1 rfl
 rw[e1]
 refine Calls.spliced_cons ?_
 refine Ņ (jN I hgz hmz PyProof.Rows.boot_zip ?_)
 refine Ł (thn (ha pos2 pins s σ H _ I h) λus s1 ⟨vs,H1,I1,r1,q1⟩=>?_) e2 e3
 obtain⟨p,q,xs,ys,rfl,hp,hq,hlen,k⟩:=q1
 obtain⟨u,u2,rfl,rx,ry⟩:=vals2 r1
 cases rx
 cases ry
 obtain⟨its,rv,pl,_⟩:=I1.list hp
 obtain⟨its2,rv2,pl2,_⟩:=I1.list hq
 refine call_zip_2 pl.isList pl2.isList λh' hz hTI hTO hi1 hi2 hsz hk=>?_
 refine Calls.spliced_nil ?_
 have lp:p<s1.heap.objs.size:=by obtain⟨o,e,_⟩:=pl.isList;exact Î e
 have lq:q<s1.heap.objs.size:=by obtain⟨o,e,_⟩:=pl2.isList;exact Î e
 have D:=zipApart_new lp lq
 have Z:ZSt (s1.heap.objs.size+4) (s1.heap.objs.size+2) (s1.heap.objs.size+3) s1.heap.objs.size (s1.heap.objs.size+1) p q its.toArray its2.toArray 0 h' :=
  ⟨.inl ⟨rfl,hz⟩,hTI,⟨_,_,hTO⟩,hi1,hi2,pl.isList.at λo e=>hk _ o e,pl2.isList.at λo e=>hk _ o e⟩
 have hl1:=rv.length
 refine Fo (s:={ s1 with heap:=h' }) (I1.ok.hd hc) D (by simp;omega) hz Z λh2 acc c2 k2 hS hP hT=>?_
 have lt:∀{b:Addr}{o:Obj},s1.heap.get? b=some o->b<s1.heap.objs.size:=λe=>Î e
 have kept:∀b o,s1.heap.get? b=some o->h2.get? b=some o:=λb o e=>by
  have l0:=lt e
  have l1:∀j,b≠s1.heap.objs.size+j:=λj=>ß (ã l0 (Nat.le_add_right _ _))
  exact k2 b o (l1 4) (l1 3) (l1 0) (l1 1) (hk b o e)
 have I2:Inv X pins σ H1 { s1 with heap:=h2 }:=I1.kept (t':=s1.toks) kept
 have hsz':h'.objs.size=s1.heap.objs.size+5:=hsz
 obtain⟨H3,ws,I3,s3,v3,p3,N3,u3⟩:=Inv.tuples I1 acc.toList _ _ H1 I2 hP (wR rv rv2) (λv hv=>by
  obtain⟨T,e,hT'⟩:=hT v hv
  have hT'':h'.objs.size<T:=hT'
  exact⟨T,e,by omega⟩) λT hT=>.inl (I1.hok.fresh hT)
 have hSn:H3 h'.objs.size=none:=by
  rw[u3 _ λv hv z=>?_]
  ·exact I1.hok.fresh (by omega)
  ·obtain⟨T,e,hT'⟩:=hT v hv
   rw[z] at e
   cases e
   exact absurd hT' (Ă _)
 have hwl:ws.length<=sizeLine:=by
  have:=v3.length
  have h24:=ï
  have l3:=p3.length
  rw[l3,List.length_zip]
  omega
 have I4:Inv X pins σ (upd H3 h'.objs.size (.lst ws)) { s1 with heap:=h2 }:=I3.FJ I1 (by omega) hSn ⟨hwl,acc.toList,c2,v3,hS⟩
 refine⟨.ref h'.objs.size,_,I4,rfl,k h'.objs.size ws _ (s3.trans λb u e=>by rw[au (aB e hSn)];exact e) (I1.hok.fresh (by omega)) aq (Paired.DQ p3 λw q ⟨t,e,ht⟩=>⟨t,e,by rw[au (aB ht hSn)];exact ht⟩)⟩
end
end L2
namespace Dl
open PySem L2 PyProof.Rows
variable [Gr]
section
variable {X:Cx}{pos:Pos}{a b c e:Expr}{es:List Expr}{ta tb tc te:DE}{t:DA}
def newP(k:Kd)(ds:List D)(P:Kd->Prop):Prop:=(dR ds=true/\P .new)\/P (k.join .new)
def j9{p:Pn}{H0 Hb H H2:Hp}{own:Addr->Option Nat}(A:At p H0 own Hb H){k:Kd}{vs:List V}{ds:List D}{P:Kd->Prop}{l:Addr}(r:Rps (okK p H0 own Hb k) H2 vs ds)(nw:okK p H0 own Hb .new l)(hl:H2 l=some (.lst vs))(h:newP k ds P):∃k',P k'/\Rp (okK p H0 own Hb k') H2 (.ref l) (.list ds):=by
 rcases h with ⟨i,h⟩|h
 ·exact⟨_,h,.lst nw hl ((Rps.imm r i).mono (λ_ o=>o.elim) (λ_ _ _ e=>e) λ_ _ e=>e)⟩
 ·exact⟨_,h,.lst (bZ A (eF k .new).2 nw) hl (r.mono (λa o=>bZ A (eF k .new).1 o) (λ_ _ _ e=>e) λ_ _ e=>e)⟩
def cZ:∀l:List Int,dR (l.map Â)=true
 |[]=>rfl
 |x::l=>by
  show(iu (.int x)&&dR (l.map Â))=true
  rw[cZ l]
  rfl
def eY:∀l:List Tie,dR (l.map pD)=true
 |[]=>rfl
 |x::l=>by
  show(iu (pD x)&&dR (l.map pD))=true
  rw[eY l]
  rfl
def prD(p:D×D):D:=.tuple [p.1,p.2]
def Td:GC:=λks P=>match ks with
 |[(k1,.list ds),(k2,.list es)]=>ds.length<=1000/\newP (k1.join k2) ((ds.zip es).map prD) λk=>P k (.list ((ds.zip es).map prD))
 |_=>False
def Rps.zip{ok:Addr->Prop}{H H':Hp}(m:∀{v:V}{d:D},Rp ok H v d->Rp ok H' v d):∀{xs ys:List V}{ds es:List D}{ws:List V},Rps ok H xs ds->Rps ok H ys es->Paired (λw (q:V×V)=>∃t,w=.ref t/\H' t=some (.tup [q.1,q.2])) ws (xs.zip ys)->Rps ok H' ws ((ds.zip es).map prD)
 |_,_,_,_,_,.nil,_,p=>by cases p;exact .nil
 |_,_,_,_,_,.cons _ _,.nil,p=>by cases p;exact .nil
 |_,_,_,_,_,.cons h t,.cons h2 t2,p=>by
  cases p with
  |cons r q =>
   obtain⟨t',rfl,ht⟩:=r
   exact .cons (.tup ht (.cons (m h) (.cons (m h2) .nil))) (Rps.zip m t t2 q)
def zH{p1 p2 pos1 pos2:Pos}(hc:X.calm=true)(hml:X.mg "list"=none)(hmz:X.mg "zip"=none)(ha:PDA X [a,b] t)(hgl:Gl X "list":=by rfl)(hgz:Gl X "zip":=by rfl)(e1:starEach [.Call (.Name "zip" p2) [a,b] [] pos2] X.env=[(false,eval (.Call (.Name "zip" p2) [a,b] [] pos2) X.env)]:=by rfl)(e2:starEach [a,b] X.env=(false,eval a X.env)::starEach [b] X.env:=by rfl)(e3:(backTo pos2 (starEach [b] X.env)).any (·.1)=false:=by rfl) :
  PD X (.Call (.Name "list" p1) [.Call (.Name "zip" p2) [a,b] [] pos2] [] pos1) (tCl Td t):=PE.wk (zu hc hgl hml hgz hmz ha e1 e2 e3) (by
 rintro σ H Q ⟨p,H0,own,ρ,P,E,t,q⟩
 refine⟨p,H0,own,ρ,_,E,t,λks vs H1 h A r=>?_⟩
 unfold Td at h
 split at h
 ·rename_i k1 ds k2 es'
  obtain⟨v,w,rfl,r1,r2⟩:=J6 r
  obtain⟨x,xs,e1,o1,h1,rs1⟩:=Rp.bO r1
  obtain⟨y,ys,e2,o2,h2,rs2⟩:=Rp.bO r2
  subst e1 e2
  refine⟨x,y,xs,ys,rfl,SqL.of h1,SqL.of h2,by rw[rs1.length];exact h.1,λl ws H' sm hl hl' hp=>?_⟩
  have K:Kp p H1 H':=Kp.of sm
  have i2:p.PI H':=p.mono H1 H' A.pen λb o _ e=>sm b o e
  have j2:=eF k1 k2
  have m1:∀{k:Kd},k.le (k1.join k2)=true->∀{vs ds},Rps (okK p H0 own H k) H1 vs ds->Rps (okK p H0 own H (k1.join k2)) H1 vs ds:=λhk _ _ z=>z.mono (λa o=>bZ A hk o) (λ_ _ _ e=>e) λ_ _ e=>e
  obtain⟨k',hk',rk'⟩:=j9 A (Rps.zip (λz=>mL A K z) (m1 j2.1 rs1) (m1 j2.2 rs2) hp) (A.free hl) hl' h.2
  exact q _ _ _ _ hk' (A.go K i2) rk'
 ·exact h.elim)
def tCh(f g:Int->Int->Bool)(ta tb tc:DE):DE:=λρ P=>ta ρ λ_ d1=>tb ρ λ_ d2=>match d1,d2 with
 |.int i,.int j=>if f i j=true then tc ρ λ_ d3=>(match d3 with
   |.int l=>P .imm (.bool (g j l))
   |_=>False) else P .imm (.bool false)
 |_,_=>False
def qu{f g:Int->Int->Bool}:∀σ H Q,bD (tCh f g ta tb tc) σ H Q->qG (rI0 λi j=>.bl (f i j)) (rI0 λi j=>.bl (g i j)) (bD ta) (bD tb) (bD tc) σ H Q:=by
 rintro σ H Q ⟨p,H0,own,ρ,P,E,t,q⟩
 refine⟨p,H0,own,ρ,_,E,t,λk1 d1 v1 H1 t1 A1 r1=>?_⟩
 refine⟨p,H0,own,ρ,_,E.go A1.kp A1.pen,t1,λk2 d2 v2 H2 t2 A2 r2=>?_⟩
 have A:=A1.base A2
 split at t2
 ·rename_i i j
  refine⟨i,j,r1.int',r2.int',_,rfl,?_⟩
  cases hf:f i j with
  |true =>
   rw[hf,if_pos rfl] at t2
   refine aN ⟨p,H0,own,ρ,_,(E.go A1.kp A1.pen).go A2.kp A2.pen,t2,λk3 d3 v3 H3 t3 A3 r3=>?_⟩
   cases d3 with
   |int l=>exact⟨j,l,r2.int',r3.int',q _ _ _ _ t3 (A.base A3) (.bl _)⟩
   |_=>exact t3.elim
  |false =>
   rw[hf,if_neg Ó] at t2
   exact aM (q _ _ _ _ t2 A (.bl _))
 ·exact t2.elim
def mZ(ha:PD X a ta)(hb:PD X b tb)(hc:PD X c tc)(hm:lastMarks [.LtE,.Lt] [b,c]=false:=by with_unfolding_all rfl):PD X (.Compare a [.LtE,.Lt] [b,c] pos) (tCh (λi j=>decide (i<=j)) (λi j=>decide (i<j)) ta tb tc):=PE.wk (GZ Sd lg ha hb hc hm) qu
def gM{op op':CmpOp}{r r':R2}{g:DE}(h:PT X (.Compare a [op,op'] [b,c] pos) (FT (qG r r' (bD ta) (bD tb) (bD tc))))(w:∀σ H Q,bD g σ H Q->qG r r' (bD ta) (bD tb) (bD tc) σ H Q):PDT X (.Compare a [op,op'] [b,c] pos) (fB g) :=
 PT.wk h λσ H Q q=>w σ H _ (rJ σ H Q q)
def Ma(ta:DE):DE:=λρ P=>ta ρ λ_ d=>match d with
 |.bool b=>P .imm (.bool (!b))
 |_=>False
def vg(ha:PD X a ta):PD X (.UnaryOp .Not a pos) (Ma ta):=PE.wk (O2 ha) (by
 rintro σ H Q ⟨p,H0,own,ρ,P,E,t,q⟩
 refine⟨p,H0,own,ρ,_,E,t,λk d v H' h A r=>?_⟩
 cases d with
 |bool b=>exact⟨b,r.bl',q _ _ _ _ h A (.bl _)⟩
 |_=>exact h.elim)
def Bh(ta tb:DE):DE:=λρ P=>ta ρ λ_ d=>match d with
 |.bool b=>if b=true then tb ρ P else P .imm (.bool false)
 |_=>False
def jD{op}(h:PD X a ta):PD X (.BoolOp op [a] pos) ta:=O1 h
def iT{rest:List Expr}(ha:PD X a ta)(hb:PD X (.BoolOp .And (b::rest) pos) tb):PD X (.BoolOp .And (a::b::rest) pos) (Bh ta tb):=PE.wk (O4 ha hb) (by
 rintro σ H Q ⟨p,H0,own,ρ,P,E,t,q⟩
 refine⟨p,H0,own,ρ,_,E,t,λk d v H' h A r=>?_⟩
 cases d with
 |bool b =>
  refine⟨b,r.bl',?_⟩
  cases b with
  |true=>exact aN ⟨p,H0,own,ρ,P,E.go A.kp A.pen,by simpa using h,λk d v H2 h2 A2 r2=>q k d v H2 h2 (A.base A2) (mO A r2)⟩
  |false=>exact aM (q _ _ _ _ (by simpa using h) A (.bl _))
 |_=>exact h.elim)
def Oe(tc:DT)(ta tb:DE):DE:=λρ P=>tc ρ λb=>if b=true then ta ρ P else tb ρ P
def gR{u:DT}(hc:PDT X c u)(ha:PD X a ta)(hb:PD X b tb):PD X (.IfExp c a b pos) (Oe u ta tb):=PE.wk (GX hc ha hb) (by
 rintro σ H Q ⟨p,H0,own,ρ,P,E,t,q⟩
 refine⟨p,H0,own,ρ,_,E,t,λb H' h A=>?_⟩
 have nx:∀k d v H2,P k d->At p H0 own H' H2->Rp (okK p H0 own H' k) H2 v d->Q v H2:=λk d v H2 h2 A2 r2=>q k d v H2 h2 (A.base A2) (mO A r2)
 cases b with
 |true=>exact aN ⟨p,H0,own,ρ,P,E.go A.kp A.pen,by simpa using h,nx⟩
 |false=>exact aM ⟨p,H0,own,ρ,P,E.go A.kp A.pen,by simpa using h,nx⟩)
def tyD:D->String
 |.none=>"NoneType"
 |.bool _=>"bool"
 |.int _=>"int"
 |.str _=>"str"
 |.list _=>"list"
 |.tuple _=>"tuple"
 |.dict _=>"dict"
def isT(c:String)(d:D):Bool:=tyD d == c || (c == "int"&&tyD d == "bool")
def tIs(c:String)(te:DE):DE:=λρ P=>te ρ λ_ d=>P .imm (.bool (isT c d))
def dF{T:String}{x:Str}{ps pt:Pos}(hk:∀t:Value,(t=.type "NoneType"\/t=.type "bool"\/t=.type "int"\/t=.type "str"\/t=.type "list"\/t=.type "tuple"\/t=.type "dict")->∃n,t=.type n/\Ŷ X.K t (.type T)=some (n == T || (T == "int"&&n == "bool")))(hm:X.mg "isinstance"=none)(he:PD X e te)(hT:PE X (.Name x pt) (tC (.ty T)))(hg:Gl X "isinstance":=by rfl)(h1:starEach [e,.Name x pt] X.env=(false,eval e X.env)::starEach [.Name x pt] X.env:=by rfl)(h2:starEach [.Name x pt] X.env=(false,eval (.Name x pt) X.env)::starEach [] X.env:=by rfl)(hpl:(backTo pos (starEach [.Name x pt] X.env)).any (·.1)=false:=by rfl) :
  PD X (.Call (.Name "isinstance" ps) [e,.Name x pt] [] pos) (tIs T te):=PE.wk (dM wI hg hm boot_isinstance (cX he (cX hT oV h2) h1) (by decide) (by decide) h1 hpl) (by
 rintro σ H Q ⟨p,H0,own,ρ,P,E,t,q⟩
 refine⟨p,H0,own,ρ,_,E,t,λk d v H' h A r=>?_⟩
 have fin:∀n,TyOf X.K H' v (.type n)->n=tyD d->∃x' c' t' b,[v,V.ty T]=[x',.ty c']/\TyOf X.K H' x' t'/\Ŷ X.K t' (.type c')=some b/\Q (.bl b) H':=λn ty en=>by
  obtain⟨n',e,hk'⟩:=hk (.type n) (by rw[en];cases d <;> simp[tyD])
  cases e
  refine⟨v,T,.type n,_,rfl,ty,hk',?_⟩
  rw[en]
  exact q _ _ _ _ h A (.bl _)
 show ∃x' c' t' b,_/\_
 cases r with
 |non=>exact fin _ .non rfl
 |bl b=>exact fin _ (.bl b) rfl
 |int i=>exact fin _ (.int i) rfl
 |str x=>exact fin _ (.str x) rfl
 |lst o hh rr=>exact fin _ (.lst hh) rfl
 |tup hh rr=>exact fin _ (.tup hh) rfl
 |dct o hh rr=>exact fin _ (.dK hh) rfl)
def BX{K:Ú}:∀t:Value,(t=.type "NoneType"\/t=.type "bool"\/t=.type "int"\/t=.type "str"\/t=.type "list"\/t=.type "tuple"\/t=.type "dict")->∃n,t=.type n/\Ŷ K t (.type "int")=some (n == "int" || ("int" == "int"&&n == "bool")):=by
 rintro t (rfl|rfl|rfl|rfl|rfl|rfl|rfl) <;> exact⟨_,rfl,rfl⟩
def yj{K:Ú}:∀t:Value,(t=.type "NoneType"\/t=.type "bool"\/t=.type "int"\/t=.type "str"\/t=.type "list"\/t=.type "tuple"\/t=.type "dict")->∃n,t=.type n/\Ŷ K t (.type "bool")=some (n == "bool" || ("bool" == "int"&&n == "bool")):=by
 rintro t (rfl|rfl|rfl|rfl|rfl|rfl|rfl) <;> exact⟨_,rfl,rfl⟩
def jP{K:Ú}:∀t:Value,(t=.type "NoneType"\/t=.type "bool"\/t=.type "int"\/t=.type "str"\/t=.type "list"\/t=.type "tuple"\/t=.type "dict")->∃n,t=.type n/\Ŷ K t (.type "list")=some (n == "list" || ("list" == "int"&&n == "bool")):=by
 rintro t (rfl|rfl|rfl|rfl|rfl|rfl|rfl) <;> exact⟨_,rfl,rfl⟩
def kit_tuple{K:Ú}:∀t:Value,(t=.type "NoneType"\/t=.type "bool"\/t=.type "int"\/t=.type "str"\/t=.type "list"\/t=.type "tuple"\/t=.type "dict")->∃n,t=.type n/\Ŷ K t (.type "tuple")=some (n == "tuple" || ("tuple" == "int"&&n == "bool")):=by
 rintro t (rfl|rfl|rfl|rfl|rfl|rfl|rfl) <;> exact⟨_,rfl,rfl⟩
def Li{K:Ú}:∀t:Value,(t=.type "NoneType"\/t=.type "bool"\/t=.type "int"\/t=.type "str"\/t=.type "list"\/t=.type "tuple"\/t=.type "dict")->∃n,t=.type n/\Ŷ K t (.type "str")=some (n == "str" || ("str" == "int"&&n == "bool")):=by
 rintro t (rfl|rfl|rfl|rfl|rfl|rfl|rfl) <;> exact⟨_,rfl,rfl⟩
def Qt:GC:=λks P=>match ks with
 |[(_,.list ds)]=>∃bs:List Bool,ds=bs.map PyData.bool/\P .imm (.bool (bs.all id))
 |_=>False
def Rps.bools{ok:Addr->Prop}{H:Hp}:∀{vs:List V}{bs:List Bool},Rps ok H vs (bs.map PyData.bool)->vs=bs.map V.bl
 |[],[],_=>rfl
 |_,b::bs,.cons h t=>by
  have e:=h.bl'
  subst e
  rw[Rps.bools t]
  rfl
def iU{ps:Pos}(hc:X.calm=true)(hm:X.mg "all"=none)(hv:bootBuiltins "all"=some (.builtin "all"))(ha:PDA X [a] t)(hg:Gl X "all":=by rfl)(he:zS X a []:=by rfl)(hpl:zP X pos []:=by rfl):PD X (.Call (.Name "all" ps) [a] [] pos) (tCl Qt t) :=
 cN (EY hc) (by
  intro p H0 own Hb H vs ks P Q A r t q
  unfold Qt at t
  split at t
  ·obtain⟨bs,rfl,t⟩:=t
   obtain⟨v,rfl,r'⟩:=fG r
   obtain⟨x,xs,e1,o1,h1,rs1⟩:=Rp.bO r'
   subst e1
   have e2:=Rps.bools rs1
   subst e2
   exact⟨x,bs,rfl,SqL.of h1,q _ _ _ _ t Kp.refl A.pen (.bl _)⟩
  ·exact t.elim) hg hm hv ha (by decide) (by decide) he hpl
def gMM(f:Int->Int->Int):GC:=λks P=>match ks with
 |[(_,.int i),(_,.int j)]=>P .imm (.int (f i j))
 |_=>False
def j6{ps:Pos}(hc:X.calm=true)(hm:X.mg "max"=none)(ha:PDA X [a,b] t)(hg:Gl X "max":=by rfl)(he:starEach [a,b] X.env=(false,eval a X.env)::starEach [b] X.env:=by rfl)(hpl:(backTo pos (starEach [b] X.env)).any (·.1)=false:=by rfl):PD X (.Call (.Name "max" ps) [a,b] [] pos) (tCl (gMM λi j=>if j > i then j else i) t) :=
 cN (Ez hc) (by
  intro p H0 own Hb H vs ks P Q A r t q
  unfold gMM at t
  split at t
  ·rename_i k i k' j
   obtain⟨v,w,rfl,r1,r2⟩:=J6 r
   rw[Rp.int' r1,Rp.int' r2]
   exact⟨i,j,rfl,q _ _ _ _ t Kp.refl A.pen (.int _)⟩
  ·exact t.elim) hg hm boot_max ha (by decide) (by decide) he hpl
def BJ{ps:Pos}(hc:X.calm=true)(hm:X.mg "min"=none)(ha:PDA X [a,b] t)(hg:Gl X "min":=by rfl)(he:starEach [a,b] X.env=(false,eval a X.env)::starEach [b] X.env:=by rfl)(hpl:(backTo pos (starEach [b] X.env)).any (·.1)=false:=by rfl):PD X (.Call (.Name "min" ps) [a,b] [] pos) (tCl (gMM λi j=>if j<i then j else i) t) :=
 cN (Ey hc) (by
  intro p H0 own Hb H vs ks P Q A r t q
  unfold gMM at t
  split at t
  ·rename_i k i k' j
   obtain⟨v,w,rfl,r1,r2⟩:=J6 r
   rw[Rp.int' r1,Rp.int' r2]
   exact⟨i,j,rfl,q _ _ _ _ t Kp.refl A.pen (.int _)⟩
  ·exact t.elim) hg hm boot_min ha (by decide) (by decide) he hpl
def Ln:GC:=λks P=>match ks with
 |[(k,.list ds)]=>newP k ds λk'=>P k' (.list ds)
 |[(k,.tuple ds)]=>newP k ds λk'=>P k' (.list ds)
 |_=>False
def vo{ps:Pos}(hm:X.mg "list"=none)(ha:PDA X [a] t)(hg:Gl X "list":=by rfl)(he:zS X a []:=by rfl)(hpl:zP X pos []:=by rfl):PD X (.Call (.Name "list" ps) [a] [] pos) (tCl Ln t) :=
 xK wH (by
  intro p H0 own Hb H vs ks P Q A r t q
  have fin:∀{k ds xs},Rps (okK p H0 own Hb k) H xs ds->newP k ds (λk'=>P k' (.list ds))->∀l,H l=none->Q (.ref l) (upd H l (.lst xs)):=λ{k ds xs} rs t l hl=>by
   obtain⟨k2,i2,nw⟩:=A.new hl (.lst xs)
   obtain⟨k',hk',rk'⟩:=j9 A (cj A k2 rs) nw aq t
   exact q _ _ _ _ hk' k2 i2 rk'
  unfold Ln at t
  split at t
  ·obtain⟨v,rfl,r'⟩:=fG r
   obtain⟨x,xs,e1,o1,h1,rs1⟩:=Rp.bO r'
   subst e1
   exact⟨x,xs,rfl,.inl (SqL.of h1),fin rs1 t⟩
  ·obtain⟨v,rfl,r'⟩:=fG r
   obtain⟨x,xs,e1,h1,rs1⟩:=Rp.fu r'
   subst e1
   exact⟨x,xs,rfl,.inr (SqT.of h1),fin rs1 t⟩
  ·exact t.elim) hg hm boot_list ha (by decide) (by decide) he hpl
def Ci:GC:=λks P=>match ks with
 |[(k,.list ds)]=>P (norm k (.tuple ds)) (.tuple ds)
 |[(k,.tuple ds)]=>P (norm k (.tuple ds)) (.tuple ds)
 |_=>False
def mY{ps:Pos}(hm:X.mg "tuple"=none)(ha:PDA X [a] t)(hg:Gl X "tuple":=by rfl)(he:zS X a []:=by rfl)(hpl:zP X pos []:=by rfl):PD X (.Call (.Name "tuple" ps) [a] [] pos) (tCl Ci t) :=
 xK tu (by
  intro p H0 own Hb H vs ks P Q A r t q
  unfold Ci at t
  split at t
  ·rename_i k ds
   obtain⟨v,rfl,r'⟩:=fG r
   obtain⟨x,xs,e1,o1,h1,rs1⟩:=Rp.bO r'
   subst e1
   refine⟨x,xs,rfl,.inl ⟨SqL.of h1,λl hl=>?_⟩⟩
   obtain⟨k2,i2,nw⟩:=A.new hl (.tup xs)
   exact q _ _ _ _ t k2 i2 (aX (.tup aq (cj A k2 rs1)))
  ·rename_i k ds
   obtain⟨v,rfl,r'⟩:=fG r
   obtain⟨x,xs,e1,h1,rs1⟩:=Rp.fu r'
   subst e1
   exact⟨x,xs,rfl,.inr ⟨SqT.of h1,q _ _ _ _ t Kp.refl A.pen (aX r')⟩⟩
  ·exact t.elim) hg hm boot_tuple ha (by decide) (by decide) he hpl
def Af:GC:=λks P=>match ks with
 |[(_,.list ds)]=>∃ns:List Int,ds=ns.map Â/\ns.length<64/\∀out:List Int,out.Perm ns->out.Pairwise (·<=·)->P .new (.list (out.map Â))
 |_=>False
def qT{ps:Pos}(hm:X.mg "sorted"=none)(ha:PDA X [a] t)(hg:Gl X "sorted":=by rfl)(he:zS X a []:=by rfl)(hpl:zP X pos []:=by rfl):PD X (.Call (.Name "sorted" ps) [a] [] pos) (tCl Af t) :=
 cN wG (by
  intro p H0 own Hb H vs ks P Q A r t q
  unfold Af at t
  split at t
  ·obtain⟨ns,rfl,hl,t⟩:=t
   obtain⟨v,rfl,r'⟩:=fG r
   obtain⟨x,xs,e1,o1,h1,rs1⟩:=Rp.bO r'
   subst e1
   have e2:=Rps.ints rs1
   subst e2
   refine⟨x,ns,rfl,SqL.of h1,hl,λl out hl' hp hs=>?_⟩
   obtain⟨k2,i2,nw⟩:=A.new hl' (.lst (out.map V.int))
   exact q _ _ _ _ (t out hp hs) k2 i2 (.lst nw aq (Rps.ofMap (λi=>.int i) out))
  ·exact t.elim) hg hm boot_sorted ha (by decide) (by decide) he hpl
def vU:GC:=λks P=>match ks with
 |[(_,d)]=>∃ts:List Tie,(d=.list (ts.map pD)\/d=.tuple (ts.map pD))/\ts.length<64/\(∀t∈ts,lZ t)/\∀us:List Tie,us.Perm ts->us.Pairwise (λa b=>aL a<=aL b)->P .new (.list (us.map pD))
 |_=>False
def Rps.prs{ok:Addr->Prop}{H:Hp}:∀{vs:List V}{ts:List Tie},Rps ok H vs (ts.map pD)->Prs H vs ts
 |[],[],_=>.nil
 |_,t::ts,.cons h r=>by
  obtain⟨x,xs,e,hx,rs⟩:=Rp.fu h
  obtain⟨v1,v2,e2,q1,q2⟩:=Rps.two rs
  subst e e2
  rw[q1.int',q2.int'] at hx
  exact .cons ⟨x,rfl,hx⟩ (Rps.prs r)
def Prs.rps{ok:Addr->Prop}{H:Hp}:∀{vs:List V}{ts:List Tie},Prs H vs ts->Rps ok H vs (ts.map pD)
 |_,_,.nil=>.nil
 |_,_,.cons r t=>by
  obtain⟨x,e,hx⟩:=r
  subst e
  exact .cons (.tup hx (.cons (.int _) (.cons (.int _) .nil))) (Prs.rps t)
def gP{ps:Pos}(hm:X.mg "sorted"=none)(ha:PDA X [a] t)(hg:Gl X "sorted":=by rfl)(he:zS X a []:=by rfl)(hpl:zP X pos []:=by rfl):PD X (.Call (.Name "sorted" ps) [a] [] pos) (tCl vU t) :=
 cN wD (by
  intro p H0 own Hb H vs ks P Q A r t q
  unfold vU at t
  split at t
  ·obtain⟨ts,hd,hl,hn,t⟩:=t
   obtain⟨v,rfl,r'⟩:=fG r
   have fin:∀l ws us,H l=none->Prs H ws us->us.Perm ts->us.Pairwise (λa b=>aL a<=aL b)->Q (.ref l) (upd H l (.lst ws)):=λl ws us hl' pr hp hs=>by
    obtain⟨k2,i2,nw⟩:=A.new hl' (.lst ws)
    exact q _ _ _ _ (t us hp hs) k2 i2 (.lst nw aq (cj A k2 (Prs.rps pr)))
   rcases hd with rfl|rfl
   ·obtain⟨x,xs,e1,o1,h1,rs1⟩:=Rp.bO r'
    subst e1
    exact⟨x,xs,ts,rfl,.inl (SqL.of h1),Rps.prs rs1,hn,.inl hl,fin⟩
   ·obtain⟨x,xs,e1,h1,rs1⟩:=Rp.fu r'
    subst e1
    exact⟨x,xs,ts,rfl,.inr (SqT.of h1),Rps.prs rs1,hn,.inl hl,fin⟩
  ·exact t.elim) hg hm boot_sorted ha (by decide) (by decide) he hpl
end
variable [Gr]
section
variable {X:Cx}{pins:List (Addr×Obj)}{σ:L2.St}{H:Hp}{s:Shared}{ok:Addr->Prop}
mutual
def Rp.reads(I:Inv X pins σ H s):∀{v:V}{d:D}{u:Value},Rp ok H v d->RelV v u->d.canLay0=true->∃as,Reads s.heap u d as
 |_,_,_,.non,r,_=>by cases r;exact⟨_,.none⟩
 |_,_,_,.bl b,r,_=>by cases r;exact⟨_,.bool b⟩
 |_,_,_,.int i,r,_=>by obtain⟨t,rfl⟩:=r;exact⟨_,.int i t⟩
 |_,_,_,.str x,r,_=>by obtain⟨t,rfl⟩:=r;exact⟨_,.str x t⟩
 |_,_,_,.lst o h rs,r,c=>by
  cases r
  obtain⟨its,rv,pl,_⟩:=I.list (SqL.of h)
  obtain⟨as,ra⟩:=Rps.reads I rs rv (by simpa[PyData.canLay0] using c)
  obtain⟨ob,ho,hc,n,hd⟩:=pl.isList
  exact⟨_,.list ho hc hd (by simpa using ra)⟩
 |_,_,_,.tup h rs,r,c=>by
  cases r
  obtain⟨its,rv,pl,_⟩:=I.tuple (SqT.of h)
  obtain⟨as,ra⟩:=Rps.reads I rs rv (by simpa[PyData.canLay0] using c)
  obtain⟨ob,ho,hc,n,hd⟩:=pl
  exact⟨_,.tuple ho hc hd (by simpa using ra)⟩
 |_,_,_,.dct o h rs,r,c=>by simp[PyData.canLay0] at c
def Rps.reads(I:Inv X pins σ H s):∀{v:List V}{d:List D}{u:List Value},Rps ok H v d->Vals v u->ī d=true->∃as,ReadsAll s.heap u d as
 |_,_,_,.nil,r,_=>by cases r;exact⟨[],.nil⟩
 |_,_,_,.cons h t,r,c=>by
  cases r with
  |cons a b =>
   simp only[ī,Ù] at c
   obtain⟨as,ra⟩:=Rp.reads I h a c.1
   obtain⟨bs,rb⟩:=Rps.reads I t b c.2
   exact⟨_,.cons ra rb⟩
end
end
def okD(d:D):Bool:=d.canLay0&&decide (d.depth<=60)
section
variable {X:Cx}{pos:Pos}{a b e:Expr}{ta tb te:DE}
def Gp(K:Ú)(neg:Bool):R2:=λx y H Q=>∃ok ok' d e,Rp ok H x d/\Rp ok' H y e/\okD d=true/\okD e=true/\Q (.bl (if neg then !(ñ d e) else ñ d e)) H
def Hu(hu:X.A.units+64<cLine):OpR X (compareOp .Eq) (Gp X.K false):=by
 intro pins s σ H x y v u Q I rx ry h
 obtain⟨ok,ok',d,e,hd,he,cd,ce,q⟩:=h
 simp only[okD,Ù,decide_eq_true_eq] at cd ce
 obtain⟨as,ra⟩:=hd.reads I rx cd.1
 obtain⟨bs,rb⟩:=he.reads I ry ce.1
 exact SeqAt.compareEq_reads ra rb cd.1 ce.1 (by omega) ⟨.bl _,H,I,rfl,q⟩
def Hq(hu:X.A.units+64<cLine):OpR X (compareOp .NotEq) (Gp X.K true):=by
 intro pins s σ H x y v u Q I rx ry h
 obtain⟨ok,ok',d,e,hd,he,cd,ce,q⟩:=h
 simp only[okD,Ù,decide_eq_true_eq] at cd ce
 obtain⟨as,ra⟩:=hd.reads I rx cd.1
 obtain⟨bs,rb⟩:=he.reads I ry ce.1
 exact SeqAt.compareNe_reads ra rb cd.1 ce.1 (by omega) ⟨.bl _,H,I,rfl,q⟩
def Tj(neg:Bool):G2:=λ_ d1 _ d2 P=>okD d1=true/\okD d2=true/\P .imm (.bool (if neg then !(ñ d1 d2) else ñ d1 d2))
def Mz{K:Ú}(neg:Bool):Ok2 (Tj neg) (Gp K neg):=by
 intro p H0 own Hb H x y k1 d1 k2 d2 P Q A r1 r2 t q
 exact⟨_,_,d1,d2,r1,r2,t.1,t.2.1,q _ _ _ _ t.2.2 Kp.refl A.pen (.bl _)⟩
def eqP(x:D)(h:Heap)(u:Value):Bool:=by
 classical
 exact decide (∃d as,Reads h u d as/\ñ d x=true)
def Ov(neg:Bool):R2:=λx y H Q=>∃ok ok' d es,Rp ok H x d/\(Rp ok' H y (.list es)\/Rp ok' H y (.tuple es))/\okD d=true/\(es.all okD)=true/\Q (.bl (if neg then !(es.any λe=>ñ e d) else es.any λe=>ñ e d)) H
def Jt{x:D}{h:Heap}{u:Value}{d:D}{as:List Addr}(r:Reads h u d as):eqP x h u=ñ d x:=by
 classical
 unfold eqP
 rw[Č,decide_eq_true_eq]
 constructor
 ·rintro⟨d',as',r',e⟩
  rw[(r.unique d' as' r').1]
  exact e
 ·exact λe=>⟨d,as,r,e⟩
def oh{x:D}{h:Heap}:∀{us:List Value}{ds:List D}{as:List Addr},ReadsAll h us ds as->us.any (eqP x h)=ds.any λe=>ñ e x
 |_,_,_,.nil=>rfl
 |_,_,_,.cons a b=>by
  rw[List.any_cons,List.any_cons,Jt a,oh b]
def nF{A:Around}{s:Shared}{x:D}{v:Value}{bs:List Addr}(rx:Reads s.heap v x bs)(cx:okD x=true)(hu:A.units+60<cLine):∀{us:List Value}{ds:List D}{as:List Addr},ReadsAll s.heap us ds as->ds.all okD=true->∀u∈us,SeqAt.EqAt A s u v (eqP x s.heap u)
 |_,_,_,.nil,_,u,hu'=>nomatch hu'
 |_,d::ds,_,.cons a b,c,u,hu'=>by
  simp only[List.all_cons,Ù] at c
  rcases Ð.mp hu' with rfl|hu'
  ·rw[Jt a]
   have c1:=c.1
   simp only[okD,Ù,decide_eq_true_eq] at c1 cx
   exact SeqAt.eqAt_reads _ _ A s _ _ _ _ a rx c1.1 cx.1 (by omega)
  ·exact nF rx cx hu b c.2 u hu'
def nM{A:Around}(hu:A.units+64<cLine):A.in1.units+60<cLine:=by
 have:A.in1.units<=A.units+1:=by first|exact Ë _|exact ĳ _|(unfold Around.in1;simp)
 omega
def nJ:∀{es:List D},es.all okD=true->ī es=true
 |[],_=>rfl
 |e::es,h=>by
  simp only[List.all_cons,Ù,okD] at h
  simp only[ī,Ù]
  exact⟨h.1.1,nJ h.2⟩
def Hr(hu:X.A.units+64<cLine):OpR X (compareOp .In) (Ov false):=by
 intro pins s σ H x y v u Q I rx ry h
 obtain⟨ok,ok',d,es,hd,hs,cd,ce,q⟩:=h
 have cd':=cd
 simp only[okD,Ù,decide_eq_true_eq] at cd'
 obtain⟨bs,rb⟩:=hd.reads I rx cd'.1
 rcases hs with hs|hs
 ·obtain⟨c,vs,rfl,o,hc,rs⟩:=hs.bO
  cases ry
  obtain⟨its,r,pl,hz⟩:=I.list (SqL.of hc)
  obtain⟨as,ra⟩:=rs.reads I r (nJ ce)
  refine SeqAt.in_listAt (eqP d s.heap) pl.isList (λw hw=>nF rb cd (nM hu) ra ce w (by simpa using hw)) ⟨.bl _,H,I,rfl,?_⟩
  rw[show its.toArray.any (eqP d s.heap)=its.any (eqP d s.heap) by simp,oh ra]
  exact q
 ·obtain⟨c,vs,rfl,hc,rs⟩:=hs.fu
  cases ry
  obtain⟨its,r,pl,hz⟩:=I.tuple (SqT.of hc)
  obtain⟨as,ra⟩:=rs.reads I r (nJ ce)
  refine SeqAt.in_tupleAt (eqP d s.heap) pl (λw hw=>nF rb cd (nM hu) ra ce w (by simpa using hw)) ⟨.bl _,H,I,rfl,?_⟩
  rw[show its.toArray.any (eqP d s.heap)=its.any (eqP d s.heap) by simp,oh ra]
  exact q
def Dt(hu:X.A.units+64<cLine):OpR X (compareOp .NotIn) (Ov true):=by
 intro pins s σ H x y v u Q I rx ry h
 obtain⟨ok,ok',d,es,hd,hs,cd,ce,q⟩:=h
 have cd':=cd
 simp only[okD,Ù,decide_eq_true_eq] at cd'
 obtain⟨bs,rb⟩:=hd.reads I rx cd'.1
 rcases hs with hs|hs
 ·obtain⟨c,vs,rfl,o,hc,rs⟩:=hs.bO
  cases ry
  obtain⟨its,r,pl,hz⟩:=I.list (SqL.of hc)
  obtain⟨as,ra⟩:=rs.reads I r (nJ ce)
  refine SeqAt.notIn_listAt (eqP d s.heap) pl.isList (λw hw=>nF rb cd (nM hu) ra ce w (by simpa using hw)) ⟨.bl _,H,I,rfl,?_⟩
  rw[show its.toArray.any (eqP d s.heap)=its.any (eqP d s.heap) by simp,oh ra]
  exact q
 ·obtain⟨c,vs,rfl,hc,rs⟩:=hs.fu
  cases ry
  obtain⟨its,r,pl,hz⟩:=I.tuple (SqT.of hc)
  obtain⟨as,ra⟩:=rs.reads I r (nJ ce)
  refine SeqAt.notIn_tupleAt (eqP d s.heap) pl (λw hw=>nF rb cd (nM hu) ra ce w (by simpa using hw)) ⟨.bl _,H,I,rfl,?_⟩
  rw[show its.toArray.any (eqP d s.heap)=its.any (eqP d s.heap) by simp,oh ra]
  exact q
def gIn(neg:Bool):G2:=λ_ d1 _ d2 P=>match d2 with
 |.list es=>okD d1=true/\es.all okD=true/\P .imm (.bool (if neg then !(es.any λe=>ñ e d1) else es.any λe=>ñ e d1))
 |.tuple es=>okD d1=true/\es.all okD=true/\P .imm (.bool (if neg then !(es.any λe=>ñ e d1) else es.any λe=>ñ e d1))
 |_=>False
def okIn(neg:Bool):Ok2 (gIn neg) (Ov neg):=by
 intro p H0 own Hb H x y k1 d1 k2 d2 P Q A r1 r2 t q
 cases d2 with
 |list es=>exact⟨_,_,d1,es,r1,.inl r2,t.1,t.2.1,q _ _ _ _ t.2.2 Kp.refl A.pen (.bl _)⟩
 |tuple es=>exact⟨_,_,d1,es,r1,.inr r2,t.1,t.2.1,q _ _ _ _ t.2.2 Kp.refl A.pen (.bl _)⟩
 |_=>exact t.elim
def Mu(hu:X.A.units+64<cLine)(ha:PD X a ta)(hb:PD X b tb)(hm:behindInMarks .In b=false:=by rfl):PD X (.Compare a [.In] [b] pos) (t2 (gIn false) ta tb):=lU (Hr hu) (okIn false) ha hb hm
def dD(hu:X.A.units+64<cLine)(ha:PD X a ta)(hb:PD X b tb)(hm:behindInMarks .In b=false:=by rfl):PDT X (.Compare a [.In] [b] pos) (fB (t2 (gIn false) ta tb)):=eE (Hr hu) (okIn false) ha hb hm
def j4(hu:X.A.units+64<cLine)(ha:PD X a ta)(hb:PD X b tb)(hm:behindInMarks .NotIn b=false:=by rfl):PDT X (.Compare a [.NotIn] [b] pos) (fB (t2 (gIn true) ta tb)):=eE (Dt hu) (okIn true) ha hb hm
end
variable [Gr]
section
variable {X:Cx}{pos p2:Pos}{a b c e:Expr}{es:List Expr}{ta tb tc te:DE}{t:DA}{st:Stmt}
abbrev DO:=List Sl->(Option Int->Prop)->Prop
def rK(t:DO):TO:=λσ H Q=>∃p H0 own ρ P,EnvD p H0 own σ H ρ/\t ρ P/\∀o H',P o->At p H0 own H H'->Q o H'
def PO.wk{e:Option Expr}{t t':TO}(h:PO X e t)(w:∀σ H Q,t' σ H Q->t σ H Q):PO X e t':=λpins s σ H Q I q=>h pins s σ H Q I (w σ H Q q)
def MK:DO:=λ_ P=>P none
def HY(te:DE):DO:=λρ P=>te ρ λ_ d=>match d with
 |.int i=>P (some i)
 |_=>False
def wB:PO X none (rK MK):=PO.wk Ko (by
 rintro σ H Q ⟨p,H0,own,ρ,P,E,t,q⟩
 exact q _ _ t E.at)
def eN(h:PD X e te):PO X (some e) (rK (HY te)):=PO.wk (Km h) (by
 rintro σ H Q ⟨p,H0,own,ρ,P,E,t,q⟩
 refine⟨p,H0,own,ρ,_,E,t,λk d v H' h A r=>?_⟩
 cases d with
 |int i=>exact⟨i,r.int',q _ _ h A⟩
 |_=>exact h.elim)
def fQ{α:Type}(ds:List α)(lo hi:Option Int):List α:=(ds.drop (HT.sIx ds.length 0 lo)).take (HT.sIx ds.length ds.length hi - HT.sIx ds.length 0 lo)
def Rps.cut{ok:Addr->Prop}{H:Hp}{vs:List V}{ds:List D}(r:Rps ok H vs ds)(lo hi:Option Int):Rps ok H (sy vs lo hi) (fQ ds lo hi):=by
 unfold sy fQ
 rw[r.length]
 exact(r.drop _).take _
def Rf(te:DE)(tl th:DO):DE:=λρ P=>te ρ λk d=>tl ρ λlo=>th ρ λhi=>match d with
 |.list ds=>newP k (fQ ds lo hi) λk'=>P k' (.list (fQ ds lo hi))
 |_=>False
def zE{lo hi:Option Expr}{tl th:DO}(he:PD X e te)(hl:PO X lo (rK tl))(hh:PO X hi (rK th)):PD X (.Subscript e (.Slice lo hi none p2) pos) (Rf te tl th):=PE.wk (xJ Bl he hl hh) (by
 rintro σ H Q ⟨p,H0,own,ρ,P,E,t,q⟩
 refine⟨p,H0,own,ρ,_,E,t,λk d v H1 h A r=>?_⟩
 refine⟨p,H0,own,ρ,_,E.go A.kp A.pen,h,λo1 H2 h2 A2=>?_⟩
 refine⟨p,H0,own,ρ,_,(E.go A.kp A.pen).go A2.kp A2.pen,h2,λo2 H3 h3 A3=>?_⟩
 have A4:=(A.base A2).base A3
 have r3:=mL (A.base A2) A3.kp (mL A A2.kp r)
 cases d with
 |list ds =>
  obtain⟨x,xs,e1,o,h1,rs⟩:=Rp.bO r3
  subst e1
  refine⟨x,xs,rfl,SqL.of h1,λl hl=>?_⟩
  obtain⟨k2,i2,nw⟩:=A4.new hl (.lst (sy xs o1 o2))
  obtain⟨k',hk',rk'⟩:=j9 A4 (cj A4 k2 (rs.cut o1 o2)) nw aq h3
  exact q _ _ _ _ hk' (A4.go k2 i2) rk'
 |_=>exact h3.elim)
def Lq:G2:=λk1 d1 k2 d2 P=>match d1,d2 with
 |.list ds,.list es=>ds.length+es.length<=1000/\newP (k1.join k2) (ds++es) λk=>P k (.list (ds++es))
 |_,_=>False
def MJ:Ok2 Lq R0:=by
 intro p H0 own Hb H x y k1 d1 k2 d2 P Q A r1 r2 t q
 unfold Lq at t
 split at t
 ·obtain⟨c1,xs,e1,o1,h1,rs1⟩:=r1.bO
  obtain⟨c2,ys,e2,o2,h2,rs2⟩:=r2.bO
  subst e1 e2
  have h24:=ï
  refine⟨c1,c2,xs,ys,rfl,rfl,h1,h2,by rw[rs1.length,rs2.length];omega,λl hl=>?_⟩
  obtain⟨k3,i3,nw⟩:=A.new hl (.lst (xs++ys))
  have j:=eF k1 k2
  have m:∀{k vs ds},k.le (k1.join k2)=true->Rps (okK p H0 own Hb k) H vs ds->Rps (okK p H0 own Hb (k1.join k2)) H vs ds:=λhk z=>z.mono (λa o=>bZ A hk o) (λ_ _ _ e=>e) λ_ _ e=>e
  obtain⟨k',hk',rk'⟩:=j9 A (cj A k3 ((m j.1 rs1).app (m j.2 rs2))) nw aq t.2
  exact q _ _ _ _ hk' k3 i3 rk'
 ·exact t.elim
def vp(ha:PD X a ta)(hb:PD X b tb):PD X (.BinOp a .Add b pos) (t2 Lq ta tb):=kZ Hv MJ ha hb
def Jf:G2:=λk1 d1 k2 d2 P=>match d1,d2 with
 |.tuple ds,.tuple es=>ds.length+es.length<=1000/\P (norm (k1.join k2) (.tuple (ds++es))) (.tuple (ds++es))
 |_,_=>False
def PK:Ok2 Jf Mp:=by
 intro p H0 own Hb H x y k1 d1 k2 d2 P Q A r1 r2 t q
 unfold Jf at t
 split at t
 ·obtain⟨c1,xs,e1,h1,rs1⟩:=r1.fu
  obtain⟨c2,ys,e2,h2,rs2⟩:=r2.fu
  subst e1 e2
  have h24:=ï
  refine⟨c1,c2,xs,ys,rfl,rfl,h1,h2,by rw[rs1.length,rs2.length];omega,λl H' sm hl=>?_⟩
  have K:Kp p H H':=Kp.of sm
  have j:=eF k1 k2
  have m:∀{k vs ds},k.le (k1.join k2)=true->Rps (okK p H0 own Hb k) H vs ds->Rps (okK p H0 own Hb (k1.join k2)) H vs ds:=λhk z=>z.mono (λa o=>bZ A hk o) (λ_ _ _ e=>e) λ_ _ e=>e
  exact q _ _ _ _ t.2 K (p.mono H H' A.pen λb o _ e=>sm b o e) (aX (.tup hl (cj A K ((m j.1 rs1).app (m j.2 rs2)))))
 ·exact t.elim
def Od(ta:DE):DE:=λρ P=>ta ρ λ_ d=>match d with
 |.int i=>P .imm (.int (-i))
 |_=>False
def lQ(ha:PD X a ta):PD X (.UnaryOp .USub a pos) (Od ta):=PE.wk (Mt Fz ha) (by
 rintro σ H Q ⟨p,H0,own,ρ,P,E,t,q⟩
 refine⟨p,H0,own,ρ,_,E,t,λk d v H' h A r=>?_⟩
 cases d with
 |int i=>exact⟨i,r.int',q _ _ _ _ h A (.int _)⟩
 |_=>exact h.elim)
def QS(i:Nat)(te:DE):DS:=λP ρ=>match ρ[i]? with
 |some (.dw r (.list ds))=>te ρ λk d=>match d with
  |.list es=>(k.le .new || dR es)=true/\ds.length+es.length<=1000/\P.nx ((forget r ρ).set i (.dw r (.list (ds++es))))
  |_=>False
 |_=>False
def qp{te:DE}{ρ:List Sl}{R:Kd->D->Prop}(t:te ρ R):bR te fU ρ (λks=>∃k d,ks=[(k,d)]/\R k d):=by
 show te ρ λk d=>∃k' d',[((k,d):Kd×D)]=[(k',d')]/\R k' d'
 have e:(λk d=>∃k' d',[((k,d):Kd×D)]=[(k',d')]/\R k' d')=R:=by
  funext k d
  apply propext
  constructor
  ·rintro⟨k',d',e,h⟩
   cases e
   exact h
  ·exact λh=>⟨k,d,rfl,h⟩
 rw[e]
 exact t
def xq{ok ok':Addr->Prop}{H H2:Hp}(f:∀{w:V}{d:D},Rp ok H w d->Rp ok' H2 w d):∀{vs:List V}{ds:List D},Rps ok H vs ds->Rps ok' H2 vs ds
 |_,_,.nil=>.nil
 |_,_,.cons h t=>.cons (f h) (xq f t)
def cV{i:Nat}(h:PS X st (jh (tBM X.K "list" Bt (dJ i) (dN (bR te fU))))):PDS X st (QS i te):=PS.wk' h (by
 rintro Q σ H ⟨p,H0,own,ρ,P,E,t,w⟩
 unfold QS at t
 split at t
 ·rename_i r ds hr
  obtain⟨v,hv,x⟩:=E.slot i _ hr
  obtain⟨l,vs,rfl,hl,ho,rs⟩:=x.bO
  refine⟨.ref l,hv,.inl ⟨rfl,vs,SqL.of ho⟩,p,H0,own,ρ,_,E,qp t,?_⟩
  rintro ks ws H1 ⟨k,d,rfl,hh⟩ A rk
  cases d with
  |list es =>
   obtain⟨hk,hlen,hn⟩:=hh
   obtain⟨y,rfl,ry⟩:=fG rk
   obtain⟨b,zs,e1,o1,hb,rz⟩:=Rp.bO ry
   subst e1
   have rz2:Rps (okK p H0 own H .new) H1 zs es:=by
    rcases Bool.or_eq_true_iff.mp hk with q|q
    ·exact rz.mono (λa o=>bZ A q o) (λ_ _ _ e=>e) λ_ _ e=>e
    ·exact(Rps.imm rz q).mono (λa o=>o.elim) (λ_ _ _ e=>e) λ_ _ e=>e
   have h1:H1 l=some (.lst vs):=A.kp l _ ho (E.ow l r hl).2.1
   have h24:=ï
   have l1:=rs.length
   have l2:=rz.length
   refine⟨l,b,vs,zs,rfl,rfl,h1,hb,by omega,?_⟩
   obtain⟨E2,F2⟩:=E.qL (vs':=vs++zs) (ds':=ds++es) A hv hl ho rs λH2 f g=>(mJ f rs λd hd=>gG hd).app (xq g rz2)
   exact w.nx _ σ _ _ E2 F2 hn
  |_=>exact hh.elim
 ·exact t.elim)
def T4(i:Nat)(tj te:DE):DS:=λP ρ=>match ρ[i]? with
 |some (.dw r (.list ds))=>tj ρ λ_ dj=>te ρ λk d=>match dj with
  |.int j=>(norm k d).le .new=true/\0<=j/\j.toNat<=ds.length/\ds.length<1000/\P.nx ((forget r ρ).set i (.dw r (.list (ds.take j.toNat++d::ds.drop j.toNat))))
  |_=>False
 |_=>False
def El{i:Nat}{tj:DE}(h:PS X st (jh (tBM X.K "list" Bs (dJ i) (dN (bR tj (bR te fU)))))):PDS X st (T4 i tj te):=PS.wk' h (by
 rintro Q σ H ⟨p,H0,own,ρ,P,E,t,w⟩
 unfold T4 at t
 split at t
 ·rename_i r ds hr
  obtain⟨v,hv,x⟩:=E.slot i _ hr
  obtain⟨l,vs,rfl,hl,ho,rs⟩:=x.bO
  refine⟨.ref l,hv,.inl ⟨rfl,vs,SqL.of ho⟩,p,H0,own,ρ,λks=>∃k1 dj k d,ks=[(k1,dj),(k,d)]/\(match dj with
   |.int j=>(norm k d).le .new=true/\0<=j/\j.toNat<=ds.length/\ds.length<1000/\P.nx ((forget r ρ).set i (.dw r (.list (ds.take j.toNat++d::ds.drop j.toNat))))
   |_=>False),E,?_,?_⟩
  ·show tj ρ λk1 dj=>te ρ λk d=>∃k1' dj' k' d',[((k1,dj):Kd×D),(k,d)]=[(k1',dj'),(k',d')]/\_
   have e:∀(k1:Kd) (dj:D),(λk d=>∃k1' dj' k' d',[((k1,dj):Kd×D),(k,d)]=[(k1',dj'),(k',d')]/\(match dj' with
    |.int j=>(norm k' d').le .new=true/\0<=j/\j.toNat<=ds.length/\ds.length<1000/\P.nx ((forget r ρ).set i (.dw r (.list (ds.take j.toNat++d'::ds.drop j.toNat))))
    |_=>False))=λk d=>(match dj with
    |.int j=>(norm k d).le .new=true/\0<=j/\j.toNat<=ds.length/\ds.length<1000/\P.nx ((forget r ρ).set i (.dw r (.list (ds.take j.toNat++d::ds.drop j.toNat))))
    |_=>False):=λk1 dj=>by
    funext k d
    apply propext
    constructor
    ·rintro⟨k1',dj',k',d',e,h⟩
     cases e
     exact h
    ·exact λh=>⟨k1,dj,k,d,rfl,h⟩
   simp only[e]
   exact t
  ·rintro ks ws H1 ⟨k1,dj,k,d,rfl,hh⟩ A rk
   cases dj with
   |int j =>
    obtain⟨hk,h0,hj,hlen,hn⟩:=hh
    obtain⟨y1,y,rfl,ry1,ry⟩:=J6 rk
    have ry:=mK A hk (aX ry)
    have e1:=Rp.int' ry1
    have h1:H1 l=some (.lst vs):=A.kp l _ ho (E.ow l r hl).2.1
    have h24:=ï
    have l1:=rs.length
    refine⟨l,vs,j.toNat,y,rfl,?_,h1,by omega,by omega,?_⟩
    ·rw[e1]
     have:((j.toNat:Nat):Int)=j:=by omega
     rw[this]
    obtain⟨E2,F2⟩:=E.qL (vs':=vs.take j.toNat++y::vs.drop j.toNat) (ds':=ds.take j.toNat++d::ds.drop j.toNat) A hv hl ho rs λH2 f g=>by
     have m:=mJ f rs λd hd=>gG hd
     exact(m.take _).app (.cons (g ry) (m.drop _))
    exact w.nx _ σ _ _ E2 F2 hn
   |_=>exact hh.elim
 ·exact t.elim)
end
variable [Gr]
structure Cal(P:Program)(w:World)(K:Ú)(mg:Str->Option Value)(base:Heap)(k:Nat)(x:Str)(ps:List Str)(sp:Sp):Prop where
 ex:∃f fd,FnOk P w K mg base CX0 k f fd ps sp/\Binds K fd ps []/\W.keepIn K (.ref f)=true/\mg x=some (.ref f)
section
variable {X:Cx}{k j:Nat}{x:Str}{ps:List Str}{e:Expr}{es:List Expr}{t:DA}{p pos pq:Pos}
def pcS{sp:Sp}{ta:TA}(C:Cal X.prog X.w X.K X.mg X.base k x ps sp)(hr:Room j X.A)(ha:PA X (e::es) ta)(hk:k<=j)(hg:Gl X x)(hdb:zB x)(he:zS X e es)(hpl:zP X pos es) :
  PE X (.Call (.Name x p) (e::es) [] pos) (tG sp [] E0 ta):=by
 obtain⟨f,fd,F,b,kp,m⟩:=C.ex
 exact Kr F (hr.mono hk) hg m kp b .nil Mv ha hdb he hpl
def dc{f:List D->(D->Prop)->Prop}(C:Cal X.prog X.w X.K X.mg X.base k x ps (spD f))(hr:Room j X.A)(ha:PDA X (e::es) t)(hk:k<=j:=by decide)(hg:Gl X x:=by rfl)(hdb:zB x:=by decide)(he:zS X e es:=by rfl)(hpl:zP X pos es:=by rfl) :
  PD X (.Call (.Name x p) (e::es) [] pos) (tFn f t):=PE.wk (pcS C hr ha hk hg hdb he hpl) Lb
def dcP{C:Pn->Prop}{i:Nat}{f:List D->(D->Prop)->Prop}{y:Str}{py:Pos}(CC:Cal X.prog X.w X.K X.mg X.base k x ps (spP C f))(hr:Room j X.A)(hi:PE X (.Name y py) (dJ i))(ha:PDA X es t)(hk:k<=j:=by decide)(hg:Gl X x:=by rfl)(hdb:zB x:=by decide)(he:starEach (.Name y py::es) X.env=(false,eval (.Name y py) X.env)::starEach es X.env:=by rfl)(hpl:zP X pos es:=by rfl) :
  PD X (.Call (.Name x p) (.Name y py::es) [] pos) (Oj C f i t):=PE.wk (pcS CC hr (cX hi ha) hk hg hdb he hpl) Iu
def dv(i:Nat){x:Str}{pos:Pos}(hN:X.N[i]?=some x:=by rfl)(hv:Vis X.env.scope x:=by first|exact þ rfl|exact Or.inr (þ rfl)|exact Or.inr (Or.inr rfl))(hd:zB x:=by decide)(hcd:(x == ("__classdict__":Str))=false:=by decide):PD X (.Name x pos) (tV i):=O5 (pv i hN hv hd hcd)
end
structure Bn(mg:Str->Option Value):Prop where
 isinstance:mg "isinstance"=none
 int:mg "int"=none
 bool:mg "bool"=none
 tuple:mg "tuple"=none
 list:mg "list"=none
 len:mg "len"=none
 all:mg "all"=none
 min:mg "min"=none
 max:mg "max"=none
 sorted:mg "sorted"=none
 range:mg "range"=none
 abs:mg "abs"=none
def boot_all:bootBuiltins "all"=some (.builtin "all"):=by decide +kernel
def boot_abs:bootBuiltins "abs"=some (.builtin "abs"):=by decide +kernel
def FQ{i:Nat}{ρ:List Sl}{d:D}{P:DK}(h:ρ[i]?=some (bG d))(q:∀k,P k d):tV i ρ P:=by
 unfold tV
 rw[h]
 unfold bG
 by_cases hi:iu d=true
 ·rw[if_pos hi];exact q _
 ·rw[if_neg hi];exact q _
def Ld{f:List D->(D->Prop)->Prop}{n:Nat}(hn:∀ds P,f ds P->ds.length=n:=by intro _ _ h;repeat (first|(obtain⟨rfl,_⟩:=h;rfl)|obtain⟨_,h⟩:=h)):∀vs H Q E,spD f vs H Q E->vs.length=n:=λvs H Q E h=>by
 obtain⟨ds,P,r,t,_⟩:=h
 rw[r.length]
 exact hn ds P t
def aW{f:List D->(D->Prop)->Prop}{T:DS}{N:List Str}{vs:List V}{H:Hp}{Q:VK}{E:XK}(h:spD f vs H Q E)(body:∀ds P,f ds P->∃ρ,ds.map bG++Æ (N.length - ds.length) .any=ρ/\T { nx:=λ_=>P .none,rt:=P } ρ)(g:Gr.G dB H:=by trivial):jM T { nx:=λ_ H'=>Q .non H',rt:=Q } (L2.start N vs) H :=
 wj h (λds P t=>by
  obtain⟨ρ,e,q⟩:=body ds P t
  rw[e]
  exact q) g
def aG(n:Int)(us:List Tie):D:=.tuple [.int n,.tuple (us.map pD)]
def jd(n:Int)(us:List Tie):iu (aG n us)=true:=by
 show(iu (.int n)&&(dR (us.map pD)&&true))=true
 rw[eY]
 rfl
def cH(n:Int)(us:List Tie):bG (aG n us)=.im (aG n us):=if_pos (jd n us)
def isW:D->Bool
 |.int _=>true
 |_=>false
def Jl(ds:List D)(P:D->Prop):Prop:=∃d,ds=[d]/\P (.bool (isW d))
def dX(m:Int):D->Bool
 |.int i=>decide (0<=i/\i<m)
 |_=>false
def Jp(ds:List D)(P:D->Prop):Prop:=∃m d,ds=[.int m,d]/\P (.bool (dX m d))
def enterQ{C:Pn->Prop}{f:List D->(D->Prop)->Prop}{T:DS}{N:List Str}{vs:List V}{H:Hp}{Q:VK}{E:XK}(h:spP C f vs H Q E)(body:∀ds P,f ds P->∃ρ,ds.map bG++Æ (N.length - (ds.length+1)) .any=ρ/\T { nx:=λ_=>P .none,rt:=P } (.pen C::ρ))(g:∀p,Gr.G p H:=by intro _;trivial):jM T { nx:=λ_ H'=>Q .non H',rt:=Q } (L2.start N vs) H :=
 QG h (λds P t=>by
  obtain⟨ρ,e,q⟩:=body ds P t
  rw[e]
  exact q) g
variable [Gr]
def qx{α β:Type}{ds:List α}{i:Nat}{d:α}(p:α->Bool)(f:α->β)(h:ds[i]?=some d):((ds.take (i+1)).filter p).map f=((ds.take i).filter p).map f++(if p d=true then [f d] else []):=by
 rw[Ŋ,h,List.filter_append,Ø]
 congr 1
 by_cases hp:p d=true
 ·simp[hp]
 ·simp[hp]
def lY{α β:Type}{ds:List α}{i:Nat}{d:α}(f:α->β)(h:ds[i]?=some d):(ds.take (i+1)).map f=(ds.take i).map f++[f d]:=by
 rw[Ŋ,h,Ø]
 rfl
def cD{α β:Type}{l:List α}{g:α->β}{i:Nat}{d:β}(h:(l.map g)[i]?=some d):∃x,l[i]?=some x/\g x=d:=by
 rw[Þ] at h
 cases e:l[i]? with
 |none=>rw[e] at h;cases h
 |some x=>rw[e] at h;exact⟨x,rfl,à h⟩
def take_all{α:Type}(l:List α){n:Nat}(h:l.length<=n):l.take n=l:=List.take_of_length_le h
def bM:∀l:List Int,(l.map Â).all okD=true
 |[]=>rfl
 |x::l=>by
  rw[æ,List.all_cons,bM l]
  rfl
def any_ints(x:Int):∀l:List Int,((l.map Â).any λe=>ñ e (.int x))=decide (x∈l)
 |[]=>rfl
 |y::l=>by
  rw[æ,List.any_cons,any_ints x l]
  have e:ñ (.int y) (.int x)=(y == x):=rfl
  rw[e,Č,Bool.or_eq_true,beq_iff_eq,decide_eq_true_eq,decide_eq_true_eq,Ð]
  constructor
  ·rintro(h|h)
   ·exact .inl h.symm
   ·exact .inr h
  ·rintro(h|h)
   ·exact .inl h.symm
   ·exact .inr h
def DX(lo:Int)(n:Nat):(yq lo n).length=n:=by unfold yq;simp
def Ei{lo:Int}{n i:Nat}{d:D}(h:(yq lo n)[i]?=some d):i<n/\d=.int (lo+((i:Nat):Int)):=by
 unfold yq at h
 obtain⟨x,hx,e⟩:=cD h
 obtain⟨h1,h2⟩:=Ê.mp hx
 have h3:i<n:=by simpa using h1
 have h4:x=i:=by simpa using h2.symm
 subst h4
 exact⟨h3,e.symm⟩
variable [Gr]
section
variable {X:Cx}{pos p2:Pos}{a b e:Expr}{ta tb te:DE}
def Rps.rep{ok:Addr->Prop}{H:Hp}{vs:List V}{ds:List D}(r:Rps ok H vs ds):∀k:Nat,Rps ok H (Æ k vs).flatten (Æ k ds).flatten
 |0=>.nil
 |k+1=>by
  rw[ą,ą,ę,ę]
  exact r.app (Rps.rep r k)
def Lk:G2:=λk1 d1 _ d2 P=>match d1,d2 with
 |.list ds,.int k=>0<=k/\k<1000/\ds.length * k.toNat<=1000/\newP k1 (Æ k.toNat ds).flatten λk'=>P k' (.list (Æ k.toNat ds).flatten)
 |_,_=>False
def Mw:Ok2 Lk RW:=by
 intro p H0 own Hb H x y k1 d1 k2 d2 P Q A r1 r2 t q
 unfold Lk at t
 split at t
 ·rename_i ds k
  obtain⟨c1,xs,e1,o1,h1,rs1⟩:=r1.bO
  subst e1
  have h24:=ï
  refine⟨c1,k,xs,rfl,r2.int',h1,by omega,by omega,by rw[rs1.length];omega,λl hl=>?_⟩
  obtain⟨k3,i3,nw⟩:=A.new hl (.lst (Æ k.toNat xs).flatten)
  obtain⟨k',hk',rk'⟩:=j9 A (cj A k3 (rs1.rep k.toNat)) nw aq t.2.2.2
  exact q _ _ _ _ hk' k3 i3 rk'
 ·exact t.elim
def O6(ha:PD X a ta)(hb:PD X b tb):PD X (.BinOp a .Mult b pos) (t2 Lk ta tb):=kZ Hl Mw ha hb
end
def mR(ns:List Int):∀k,k<=ns.length->PySem.preSum (λi=>ns.getD i 0) k=(ns.take k).sum
 |0,_=>rfl
 |k+1,h=>by
  show PySem.preSum _ k+ns.getD k 0=_
  have hk:k<ns.length:=by omega
  have e:ns.take (k+1)=ns.take k++[ns[k]]:=by rw[Ŋ,Ç hk];rfl
  have e2:ns.getD k 0=ns[k]:=by rw[Ï,Ç hk];rfl
  rw[mR ns k (by omega),e,e2,List.sum_append,ċ,List.sum_nil,Int.add_zero]
def oF:∀(ns:List Int) (b:Int),(∀x∈ns,-b<=x/\x<=b)->-(b * ns.length)<=ns.sum/\ns.sum<=b * ns.length
 |[],b,_=>by simp
 |x::ns,b,h=>by
  obtain⟨h1,h2⟩:=oF ns b λy hy=>h y (Ä _ hy)
  have hx:=h x Å
  have e:b * ((x::ns).length:Int)=b * ns.length+b:=by
   rw[ì]
   have:(((ns.length+1:Nat)):Int)=(ns.length:Int)+1:=by omega
   rw[this,Int.mul_add,Int.mul_one]
  rw[e,ċ]
  omega
section
variable {X:Cx}{pos:Pos}{a:Expr}{t:DA}
def Et(hc:X.calm=true):bK X (.builtin "sum") (λxs H Q=>∃(p:Addr) (ns:List Int),xs=[.ref p]/\SqL X.K H p (ns.map V.int)/\ns.length<=1000/\(∀x∈ns,-1000000<=x/\x<=1000000)/\Q (.int ns.sum) H):=by
 intro pins s σ H xs us Q I r h
 obtain⟨p,ns,rfl,hp,hl,hs,q⟩:=h
 obtain⟨u,rfl,rx⟩:=vals1 r
 cases rx
 obtain⟨its,rv,pl,hz⟩:=I.list hp
 have hlen:its.length=ns.length:=by have:=rv.length;rw[À] at this;exact this.symm
 have hlt:p≠s.heap.objs.size:=by obtain⟨o,ho,_⟩:=pl.isList;exact ß (Î ho)
 have hltp:p<s.heap.objs.size:=by obtain⟨o,ho,_⟩:=pl.isList;exact Î ho
 have at':∀i v,its[i]?=some v->∃t,v=ň (ns.getD i 0) t:=λi v e=>by
  have hi:i<its.length:=(Ê.mp e).1
  have hv:(ns.map V.int)[i]?=some (V.int ns[i]):=by rw[Þ,Ç (show i<ns.length by omega)];rfl
  obtain⟨u,eu,ru⟩:=rv.get hv
  rw[e] at eu
  cases eu
  obtain⟨t,rfl⟩:=ru
  exact⟨t,by rw[Ï,Ç (show i<ns.length by omega)];rfl⟩
 refine call_sum_walk (wpAny_pyIter_list pl.isList ?_)
 refine⟨_,_,_,_,_,_,λi=>ns.getD i 0,rfl,Walks.list (A:=X.A.in1) (I.ok.hd hc) _ p hlt _,⟨⟨_,á _ rfl,rfl,rfl⟩,pl.isList.push _⟩,?_,λi v e=>at' i v (by simpa using e),λj hj=>?_,λh' tk t' hk=>?_⟩
 ·intro b hb
  show b<(s.heap.push _).objs.size
  rw[Ŝ]
  simp at hb
  rcases hb with rfl|rfl
  ·exact ş _
  ·exact ā hltp
 ·have hj:j<ns.length:=by simpa[hlen] using hj
  have e:ns.getD j 0=ns[j]:=by rw[Ï,Ç hj];rfl
  have b1:=hs _ (Ĩ hj)
  have b2:=oF (ns.take (j+1)) 1000000 λx hx=>hs x (List.mem_of_mem_take hx)
  have b3:(ns.take (j+1)).length<=1000:=by rw[İ];omega
  rw[mR ns (j+1) hj]
  refine⟨?_,?_⟩
  ·show -(2 ^ 63)<=ns.getD j 0/\ns.getD j 0<2 ^ 63
   rw[e]
   omega
  ·show -(2 ^ 63)<=(ns.take (j+1)).sum/\(ns.take (j+1)).sum<2 ^ 63
   omega
 ·have e:PySem.preSum (λi=>ns.getD i 0) its.toArray.size=ns.sum:=by
   rw[Í,hlen,mR ns ns.length (Ë _),ć]
  rw[e]
  refine⟨.int ns.sum,H,I.kept λb o eb=>hk b o ?_ (Ñ _ eb),⟨_,rfl⟩,q⟩
  intro hm
  have:b=s.heap.objs.size:=by simpa using hm
  exact absurd (this ▸ Î eb) (Ă _)
variable [Gr]
def boot_sum:bootBuiltins "sum"=some (.builtin "sum"):=by decide +kernel
end
variable [Gr]
section
variable {X:Cx}{pos:Pos}{a b e:Expr}{ta tb te:DE}
end
variable [Gr]
section
variable {X:Cx}{pos:Pos}{a b e:Expr}{ta tb te:DE}
end
variable [Gr]
section
variable {X:Cx}{pos:Pos}{st:Stmt}
end
@[reducible] def grX(H:Hp):Gr:=⟨λp H0=>p=dB/\H0=H⟩
structure Cal1(P:Program)(w:World)(K:Ú)(mg:Str->Option Value)(base:Heap)(k:Nat)(x:Str)(ps:List Str)(sp:Sp):Prop where
 ex:∃f fd,FnOk P w K mg base (CX1 P w) k f fd ps sp/\Binds K fd ps []/\W.keepIn K (.ref f)=true/\mg x=some (.ref f)
section
variable {X:Cx}{E:XK}{k j:Nat}{x:Str}{ps:List Str}{e:Expr}{es:List Expr}{p pos:Pos}
end
variable [Gr]
def boot_repr:bootBuiltins "repr"=some (.builtin "repr"):=by decide +kernel
section
variable {X:Cx}{pos:Pos}{a b e:Expr}{ta tb te:DE}{t:DA}
end
end Dl
namespace L2
open PySem PyProof.Rows
def yp:∀{ns:List Int}{us:List Value},Vals (ns.map V.int) us->IntsAre us ns
 |[],_,.nil=>.nil
 |n::ns,_,.cons r t=>by
  obtain⟨k,rfl⟩:=r
  exact .cons n k (yp t)
def once(ns:List Int):List Int:=ns.foldl ž []
def Ah(ns:List Int){m:Nat}(hm:m=ns.length):firstMet (λi=>ns.getD i 0) m=once ns:=by
 subst hm
 unfold firstMet once
 congr 1
 refine List.ext_getElem (by simp) λi h1 h2=>?_
 simp at h1
 simp[Ï,h1]
section
variable {X:Cx}
def yH(hc:X.calm=true):bK X (.type "set") (λxs H Q=>∃p ns,xs=[.ref p]/\SqL X.K H p (ns.map V.int)/\ns.length<=1000/\∀l S,H l=none->Q (.ref l) (upd H l (.set S (once ns).length))):=by
 intro pins s σ H xs us Q I r h
 obtain⟨p,ns,rfl,hq,hl,q⟩:=h
 obtain⟨u,rfl,rx⟩:=vals1 r
 cases rx
 obtain⟨its,r',pl,hz⟩:=I.list hq
 have hlen:=r'.length
 rw[À] at hlen
 refine call_set_list (items:=its.toArray) (ns:=ns) (I.ok.hd hc) pl.isList (by simpa using yp r') ?_ λh' tk st k=>?_
 ·show its.toArray.size+1<scanBound
  rw[Í,←hlen]
  exact Nat.lt_of_le_of_lt (Nat.add_le_add_right hl 1) (by decide)
 ·rw[Ah ns (by rw[Í,←hlen])] at st
  refine⟨.ref s.heap.objs.size,_,I.laid (t':=tk) (λb o e=>k b o (Î e) e) (Ë _) (show bN X.prog X.w _ h' _ (.set _ (once ns).length) from st),rfl,q _ _ (I.hok.fresh (Ë _))⟩
def tD:bK X (.builtin "len") (λxs H Q=>∃p S n,xs=[.ref p]/\H p=some (.set S n)/\n<=1000/\Q (.int (n:Int)) H):=by
 intro pins s σ H xs us Q I r h
 obtain⟨p,S,n,rfl,hq,hl,q⟩:=h
 obtain⟨u,rfl,rx⟩:=vals1 r
 cases rx
 obtain⟨o,es,ep,t,e1,e2,e3,_,_,_,e6,e7⟩:=I.hok p _ hq
 refine call_len_set e1 e2 e3 e6 (by rw[e7];omega) ?_
 rw[e7]
 exact⟨.int n,H,I.tok _,⟨_,rfl⟩,q⟩
end
def jG:∀(ns acc:List Int),(ns.foldl ž acc).length<=acc.length+ns.length
 |[],acc=>Ë _
 |n::ns,acc=>by
  rw[List.foldl_cons]
  have h:=jG ns (ž acc n)
  have:(ž acc n).length<=acc.length+1:=by
   unfold ž
   split
   ·omega
   ·rw[È];exact Ë _
  rw[ì]
  omega
def xP:∀(ns acc:List Int),((ns.foldl ž acc).length=acc.length+ns.length)↔(ns.Nodup/\∀x∈ns,x∉acc)
 |[],acc=>by simp
 |n::ns,acc=>by
  rw[List.foldl_cons,ì,List.nodup_cons]
  by_cases hn:n∈acc
  ·have e:ž acc n=acc:=by
    unfold ž
    rw[if_pos (List.any_eq_true.mpr ⟨n,hn,by simp⟩)]
   rw[e]
   have:=jG ns acc
   constructor
   ·intro h;omega
   ·rintro⟨_,h⟩
    exact absurd hn (h n Å)
  ·have e:ž acc n=acc++[n]:=by
    unfold ž
    rw[if_neg (λz=>by
     obtain⟨x,hx,ex⟩:=List.any_eq_true.mp z
     have:x=n:=by simpa using ex
     exact hn (this ▸ hx))]
   rw[e]
   have ih:=xP ns (acc++[n])
   rw[È,Õ] at ih
   constructor
   ·intro h
    obtain⟨a,b⟩:=ih.mp (by omega)
    refine⟨⟨λz=>b n z (î _ (Ö.mpr rfl)),a⟩,λx hx=>?_⟩
    rcases Ð.mp hx with z|z
    ·rw[z];exact hn
    ·exact λy=>b x z (ł _ y)
   ·rintro⟨⟨a,b⟩,c⟩
    have:=ih.mpr ⟨b,λx hx z=>by
     rcases â.mp z with y|y
     ·exact c x (Ä _ hx) y
     ·rw[Ö.mp y] at hx;exact a hx⟩
    omega
def qX(ns:List Int):(once ns).length=ns.length↔ns.Nodup:=by
 have:=xP ns []
 simp at this
 exact this
end L2
namespace Dl
open PySem L2 PyProof.Rows
variable [Gr]
section
variable {X:Cx}{pos pos':Pos}{a:Expr}{t:DA}
def boot_set:bootBuiltins "set"=some (.type "set"):=by decide +kernel
def Cj:GC:=λks P=>∃k ns,ks=[(k,.list (ns.map Â))]/\ns.length<=1000/\P .imm (.int ((once ns).length:Nat))
def j7{ps ps':Pos}(hc:X.calm=true)(hs:X.mg "set"=none)(hl:X.mg "len"=none)(ha:PDA X [a] t)(hgs:Gl X "set":=by rfl)(hgl:Gl X "len":=by rfl)(he:zS X a []:=by rfl)(hpl:zP X pos []:=by rfl)(he':starEach [Expr.Call (.Name "set" ps) [a] [] pos] X.env=(false,eval (Expr.Call (.Name "set" ps) [a] [] pos) X.env)::starEach [] X.env:=by rfl)(hpl':(backTo pos' (starEach [] X.env)).any (·.1)=false:=by rfl) :
  PD X (.Call (.Name "len" ps') [.Call (.Name "set" ps) [a] [] pos] [] pos') (tCl Cj t) :=
 PE.wk (dM tD hgl hl PySem.boot_len (cX (tQ (yH hc) hgs hs boot_set ha (by decide) (by decide) he hpl) oV he') (by decide) (by decide) he' hpl') (by
  rintro σ H Q ⟨p,H0,own,ρ,P,E,t,q⟩
  refine⟨p,H0,own,ρ,_,E,t,λks vs H1 h A r=>?_⟩
  obtain⟨k,ns,rfl,hn,h⟩:=h
  obtain⟨v,rfl,r'⟩:=fG r
  obtain⟨c,ws,rfl,o,hc',rs⟩:=r'.bO
  have ew:=rs.ints
  subst ew
  refine⟨c,ns,rfl,SqL.of hc',hn,λl S hl'=>?_⟩
  obtain⟨k2,i2,nw⟩:=A.new hl' (.set S (once ns).length)
  have h1:=jG ns []
  exact⟨l,S,_,rfl,aq,by unfold once;simp at h1;omega,q _ _ _ _ h (A.go k2 i2) (.int _)⟩)
end
variable [Gr]
section
variable {X:Cx}{pos p2:Pos}{a b c e:Expr}{es:List Expr}{ta tb tc te:DE}{t:DA}{st:Stmt}
def OpR.or{f:Value->Value->Sem Value}{r r':R2}(h:OpR X f r)(h':OpR X f r'):OpR X f (λx y H Q=>r x y H Q\/r' x y H Q):=by
 intro pins s σ H x y v u Q I rx ry q
 rcases q with q|q
 ·exact h pins s σ H x y v u Q I rx ry q
 ·exact h' pins s σ H x y v u Q I rx ry q
def bK.or{f:Value}{r r':List V->Hp->VK->Prop}(h:bK X f r)(h':bK X f r'):bK X f (λx H Q=>r x H Q\/r' x H Q):=by
 intro pins s σ H x v Q I rx q
 rcases q with q|q
 ·exact h pins s σ H x v Q I rx q
 ·exact h' pins s σ H x v Q I rx q
def G8(ha:PD X a ta)(hb:PD X b tb)(hs:ou b:=by exact λ_ _=>rfl):PD X (.Subscript a b pos) (t2 gIx ta tb):=PE.wk (dY (IxR.or cF vO) ha hb hs) (ug (by
 intro p H0 own Hb H x y k1 d1 k2 d2 P Q A r1 r2 t q
 unfold gIx at t
 split at t
 ·rename_i ds i
  obtain⟨d,hd,t⟩:=t
  obtain⟨c,vs,rfl,o,hc,rs⟩:=r1.bO
  obtain⟨v,hv,rv⟩:=rs.atI hd
  exact .inl ⟨c,vs,i,v,rfl,r2.int',SqL.of hc,hv,q _ _ _ _ t Kp.refl A.pen (aX rv)⟩
 ·rename_i ds i
  obtain⟨d,hd,t⟩:=t
  obtain⟨c,vs,rfl,hc,rs⟩:=r1.fu
  obtain⟨v,hv,rv⟩:=rs.atI hd
  exact .inr ⟨c,vs,i,v,rfl,r2.int',SqT.of hc,hv,q _ _ _ _ t Kp.refl A.pen (aX rv)⟩
 ·exact t.elim))
def Nj:G2:=λk1 d1 k2 d2 P=>match d1 with
 |.int i=>(match d2 with
  |.int j=>P .imm (.int (i+j))
  |_=>False)
 |.list ds=>Lq k1 (.list ds) k2 d2 P
 |.tuple ds=>Jf k1 (.tuple ds) k2 d2 P
 |_=>False
def vd(ha:PD X a ta)(hb:PD X b tb):PD X (.BinOp a .Add b pos) (t2 Nj ta tb):=kZ (OpR.or iY (OpR.or Hv Ky)) (by
 intro p H0 own Hb H x y k1 d1 k2 d2 P Q A r1 r2 t q
 cases d1 with
 |int i =>
  cases d2 with
  |int j=>exact .inl ⟨i,j,r1.int',r2.int',q _ _ _ _ t Kp.refl A.pen (.int _)⟩
  |_=>exact t.elim
 |list ds=>exact .inr (.inl (MJ p H0 own Hb H x y k1 _ k2 d2 P Q A r1 r2 t q))
 |tuple ds=>exact .inr (.inr (PK p H0 own Hb H x y k1 _ k2 d2 P Q A r1 r2 t q))
 |_=>exact t.elim) ha hb
def Jc:G2:=λk1 d1 k2 d2 P=>match d1 with
 |.int i=>(match d2 with
  |.int j=>JM i j/\P .imm (.int (i * j))
  |_=>False)
 |.list ds=>Lk k1 (.list ds) k2 d2 P
 |_=>False
def gO(ha:PD X a ta)(hb:PD X b tb):PD X (.BinOp a .Mult b pos) (t2 Jc ta tb):=kZ (OpR.or lV Hl) (by
 intro p H0 own Hb H x y k1 d1 k2 d2 P Q A r1 r2 t q
 cases d1 with
 |int i =>
  cases d2 with
  |int j=>exact .inl ⟨i,j,r1.int',r2.int',t.1,q _ _ _ _ t.2 Kp.refl A.pen (.int _)⟩
  |_=>exact t.elim
 |list ds=>exact .inr (Mw p H0 own Hb H x y k1 _ k2 d2 P Q A r1 r2 t q)
 |_=>exact t.elim) ha hb
def nR(neg:Bool):G2:=λk1 d1 k2 d2 P=>match scD d1 d2 with
 |some b=>P .imm (.bool (if neg then !b else b))
 |none=>Tj neg k1 d1 k2 d2 P
def MF{K:Ú}:Ok2 (nR false) (λx y H Q=>rEq x y H Q\/Gp K false x y H Q):=by
 intro p H0 own Hb H x y k1 d1 k2 d2 P Q A r1 r2 t q
 cases e:scD d1 d2 with
 |some b =>
  have t':gEq false k1 d1 k2 d2 P:=by
   unfold nR at t
   unfold gEq
   rw[e] at t ⊢
   exact t
  exact .inl (PJ p H0 own Hb H x y k1 d1 k2 d2 P Q A r1 r2 t' q)
 |none =>
  unfold nR at t
  rw[e] at t
  exact .inr (Mz false p H0 own Hb H x y k1 d1 k2 d2 P Q A r1 r2 t q)
def Mx{K:Ú}:Ok2 (nR true) (λx y H Q=>rNe x y H Q\/Gp K true x y H Q):=by
 intro p H0 own Hb H x y k1 d1 k2 d2 P Q A r1 r2 t q
 cases e:scD d1 d2 with
 |some b =>
  have t':gEq true k1 d1 k2 d2 P:=by
   unfold nR at t
   unfold gEq
   rw[e] at t ⊢
   exact t
  exact .inl (PB p H0 own Hb H x y k1 d1 k2 d2 P Q A r1 r2 t' q)
 |none =>
  unfold nR at t
  rw[e] at t
  exact .inr (Mz true p H0 own Hb H x y k1 d1 k2 d2 P Q A r1 r2 t q)
def lR(hu:X.A.units+64<cLine)(ha:PD X a ta)(hb:PD X b tb):PD X (.Compare a [.Eq] [b] pos) (t2 (nR false) ta tb):=lU (OpR.or tR (Hu hu)) MF ha hb (bT _)
def zG(hu:X.A.units+64<cLine)(ha:PD X a ta)(hb:PD X b tb):PD X (.Compare a [.NotEq] [b] pos) (t2 (nR true) ta tb):=lU (OpR.or BK (Hq hu)) Mx ha hb (bT _)
def mX(hu:X.A.units+64<cLine)(ha:PD X a ta)(hb:PD X b tb):PDT X (.Compare a [.Eq] [b] pos) (fB (t2 (nR false) ta tb)):=eE (OpR.or tR (Hu hu)) MF ha hb (bT _)
def j5(hu:X.A.units+64<cLine)(ha:PD X a ta)(hb:PD X b tb):PDT X (.Compare a [.NotEq] [b] pos) (fB (t2 (nR true) ta tb)):=eE (OpR.or BK (Hq hu)) Mx ha hb (bT _)
end
section
variable {n:Nat}{g:DG}{tt:DT}{te:DE}{ρ:List Sl}{k:Kd}{ds:List D}{R:Kd->List D->Prop}
def K3{α β:Type}(f:α->β){l:List α}{i:Nat}{x:α}(h:l[i]?=some x):(l.take (i+1)).map f=(l.take i).map f++[f x]:=by
 rw[Ŋ,h]
 simp
def oZ{α:Type}(xs:List α)(e f:α->D)(ke:Kd)(hd:ds=xs.map e)(hl:xs.length<=1000)(step:∀x∈xs,∀(A:D->Prop) (B:Prop),A (f x)->g (norm (elC k) (e x)) (e x) (Æ n .any++ρ) λρ'=>if true=true then te ρ' λk' d'=>(norm k' d').le ke=true/\A d' else B)(q:R ke (xs.map f)) :
  ds.length<=1000/\∃(ke:Kd) (Iv:Nat->List D->Prop),Iv 0 [] /\
   (∀i d ys,ds[i]?=some d->Iv i ys->g (norm (elC k) d) d (Æ n .any++ρ) λρ'=>if true=true then te ρ' λk' d'=>(norm k' d').le ke=true/\Iv (i+1) (ys++[d']) else Iv (i+1) ys) /\
   ∀ys,Iv ds.length ys->R ke ys:=by
 subst hd
 refine⟨by rw[À];exact hl,ke,λi ys=>ys=(xs.take i).map f,rfl,?_,?_⟩
 ·rintro i d ys hd rfl
  rw[Þ] at hd
  cases hx:xs[i]? with
  |none=>rw[hx] at hd;cases hd
  |some x =>
   rw[hx] at hd
   have hd:=à hd
   subst hd
   exact step x (Ò hx) (λd'=>(xs.take i).map f++[d']=(xs.take (i+1)).map f) _ (K3 f hx).symm
 ·rintro ys rfl
  rw[À,ć]
  exact q
def uo{α:Type}(xs:List α)(e:α->D)(p:α->Bool)(f:α->D)(ke:Kd)(hd:ds=xs.map e)(hl:xs.length<=1000)(step:∀x∈xs,∀(A:D->Prop) (B:Prop),(p x=true->A (f x))->(p x=false->B)->g (norm (elC k) (e x)) (e x) (Æ n .any++ρ) λρ'=>tt ρ' λb=>if b=true then te ρ' λk' d'=>(norm k' d').le ke=true/\A d' else B)(q:R ke ((xs.filter p).map f)) :
  ds.length<=1000/\∃(ke:Kd) (Iv:Nat->List D->Prop),Iv 0 [] /\
   (∀i d ys,ds[i]?=some d->Iv i ys->g (norm (elC k) d) d (Æ n .any++ρ) λρ'=>tt ρ' λb=>if b=true then te ρ' λk' d'=>(norm k' d').le ke=true/\Iv (i+1) (ys++[d']) else Iv (i+1) ys) /\
   ∀ys,Iv ds.length ys->R ke ys:=by
 subst hd
 refine⟨by rw[À];exact hl,ke,λi ys=>ys=((xs.take i).filter p).map f,rfl,?_,?_⟩
 ·rintro i d ys hd rfl
  rw[Þ] at hd
  cases hx:xs[i]? with
  |none=>rw[hx] at hd;cases hd
  |some x =>
   rw[hx] at hd
   have hd:=à hd
   subst hd
   have sn:((xs.take (i+1)).filter p).map f=((xs.take i).filter p).map f++if p x=true then [f x] else []:=by
    rw[Ŋ,hx,List.filter_append,Ø]
    cases hp:p x <;> simp[hp]
   refine step x (Ò hx) (λd'=>((xs.take i).filter p).map f++[d']=((xs.take (i+1)).filter p).map f) _ (λh=>?_) (λh=>?_)
   ·rw[sn,if_pos h]
   ·show _=_
    rw[sn,h,if_neg Ó,ê]
 ·rintro ys rfl
  rw[À,ć]
  exact q
end
section
variable {g:DG}{tb:DS}{k:Kd}{ds:List D}{ρ:List Sl}{P:DEnds}
def Lr{α:Type}(xs:List α)(e:α->D)(ok:List Sl->Prop)(hd:ds=xs.map e)(hk:k.le .shr=true)(h0:ok ρ)(step:∀x∈xs,∀ρ',ok ρ'->g (norm (elK k) (e x)) (e x) ρ' λρ2=>tb { nx:=ok,ct:=ok,bk:=P.nx,rt:=P.rt } ρ2)(q:∀ρ',ok ρ'->P.nx ρ') :
  k.le .shr=true/\∃Iv:Nat->List Sl->Prop,Iv 0 ρ /\
   (∀i d ρ',ds[i]?=some d->Iv i ρ'->g (norm (elK k) d) d ρ' λρ2=>tb { nx:=Iv (i+1),ct:=Iv (i+1),bk:=P.nx,rt:=P.rt } ρ2)/\∀ρ',Iv ds.length ρ'->P.nx ρ':=by
 subst hd
 refine⟨hk,λ_ ρ'=>ok ρ',h0,?_,q⟩
 intro i d ρ' hd h
 rw[Þ] at hd
 cases hx:xs[i]? with
 |none=>rw[hx] at hd;cases hd
 |some x =>
  rw[hx] at hd
  have hd:=à hd
  subst hd
  exact step x (Ò hx) ρ' h
end
variable [Gr]
section
variable {X:Cx}{scope:Scope}{tg iter elt:Expr}{ifs:List Expr}{pos:Pos}{ti:DI}{g:DG}{tt:DT}{te:DE}
def Ox(own:List Str){i:Nat}{y:Str}{py spos:Pos}(hc:X.calm=true)(hN:X.N.Nodup)(hiN:X.N[i]?=some y)(hx:Loc X.env.scope y)(hi:PDI X tg iter ti)(hg:∀c,PDG (X.comp own scope c) tg g)(ht:∀c,Fj (X.comp own scope c) ifs tt)(he:∀c,PD (X.comp own scope c) elt te)(hsw:swapsWith (.ListComp elt [⟨tg,iter,ifs,0⟩] scope pos) (some (.Name y py)) spos.line X.env=pure true:=by rfl)(hk:gD X.env scope X.N=true:=by rfl)(hs:zF X iter:=by intro _;rfl)(hf:zL X y:=by first|exact .inl rfl|exact .inr rfl|assumption) :
  PS X (.Assign [.Name y py] (.ListComp elt [⟨tg,iter,ifs,0⟩] scope pos) spos) (sU (bD (dLC own.length ti g tt te)) (iw i)):=PS.wk' (Mr own hc hN hiN hx hi hg ht he hsw hk hs hf) λD σ H q=>qt σ H _ q
end
section
variable {n:Nat}{g:DG}{tt:DT}{te:DE}{ρ:List Sl}{k:Kd}{ds:List D}{R:Kd->List D->Prop}
end
variable [Gr]
section
variable {X:Cx}{pos:Pos}{st:Stmt}{rest:List Stmt}{te tj:DE}{ti:DI}{t:DS}
def QM(i:Nat)(t:DS):DS:=λP ρ=>match ρ[i]? with
 |some (.dw r d)=>gb r ρ i=true/\t P (ρ.set i (.sn d))
 |some (.rw r L)=>gb r ρ i=true/\t P (ρ.set i (.sn (.list (L.map Ī))))
 |some (.sp r b ds)=>gb r ρ i=true/\t P (ρ.set i (if b=true then .sn (.list ds) else .sh (.list ds)))
 |_=>False
def EnvD.freeze{p:Pn}{H0 H:Hp}{own:Addr->Option Nat}{σ:L2.St}{ρ:List Sl}{i r:Nat}{d:D}{v:V}(E:EnvD p H0 own σ H ρ)(hf:gb r ρ i=true)(hv:σ[i]?=some (some v))(x:Rp (λa=>own a=some r) H v d) :
  EnvD p H0 (aQ r own) σ H (ρ.set i (.sn d)):=by
 have E2:EnvD p H0 (aQ r own) σ H (ρ.set i .any):=(E.drop (i:=i)).clear hf
 have E3:=E2.put (v:=v) (i:=i) (s:=.sn d) ⟨v,hv,x.mono (λa o=>⟨(E.ow a r o).1,(E.ow a r o).2.1,by unfold aQ;rw[if_pos o]⟩) (λ_ _ _ e=>e) λ_ _ e=>e⟩
 rw[List.set_set] at E3
 exact E3
def Al(i:Nat)(h:iG X rest t):iG X rest (QM i t):=PSs.wk' h (by
 rintro Q σ H ⟨p,H0,own,ρ,P,E,q,w⟩
 unfold QM at q
 split at q
 ·rename_i r d e
  obtain⟨v,hv,x⟩:=E.slot i _ e
  exact⟨p,H0,_,_,P,E.freeze q.1 hv x,q.2,w.go iC⟩
 ·rename_i r L e
  obtain⟨st,as,hv,x⟩:=E.slot i _ e
  exact⟨p,H0,_,_,P,E.freeze q.1 hv x.rp,q.2,w.go iC⟩
 ·rename_i r b ds e
  obtain⟨l,vs,hv,o,h,z⟩:=E.slot i _ e
  have E2:EnvD p H0 (aQ r own) σ H (ρ.set i .any):=(E.drop (i:=i)).clear q.1
  have c0:∀a,own a=none->aQ r own a=none:=λa n=>by unfold aQ;rw[n];simp
  have cl:aQ r own l=none:=by unfold aQ;rw[if_pos o]
  have E3:EnvD p H0 (aQ r own) σ H ((ρ.set i .any).set i (if b=true then .sn (.list ds) else .sh (.list ds))):=E2.put (v:=.ref l) (by
   cases b with
   |true=>exact⟨_,hv,.lst ⟨(E.ow l r o).1,(E.ow l r o).2.1,cl⟩ h (z.mono (λc n=>⟨n.1 rfl,n.2.1,c0 c n.2.2⟩) (λ_ _ _ e=>e) λ_ _ e=>e)⟩
   |false=>exact⟨_,hv,.lst ⟨(E.ow l r o).2.1,cl⟩ h (z.mono (λc n=>⟨n.2.1,c0 c n.2.2⟩) (λ_ _ _ e=>e) λ_ _ e=>e)⟩)
  rw[List.set_set] at E3
  exact⟨p,H0,_,_,P,E3,q.2,w.go iC⟩
 ·exact q.elim)
def spK(b:Bool):Kd:=if b=true then .snw else .shr
def Pz{p:Pn}{H0 Hb H:Hp}{own:Addr->Option Nat}{b:Bool}(A:At p H0 own Hb H){k:Kd}(hk:k.le (spK b)=true){v:V}{d:D}{H2:Hp}(r:Rp (okK p H0 own Hb k) H2 v d):Rp (okS p H0 own b) H2 v d:=by
 have r2:=mK A hk r
 cases b with
 |true=>exact r2.mono (λa o=>⟨λ_=>o.1,o.2.1,o.2.2⟩) (λ_ _ _ e=>e) λ_ _ e=>e
 |false=>exact r2.mono (λa o=>⟨λz=>(nomatch z),o.1,o.2⟩) (λ_ _ _ e=>e) λ_ _ e=>e
def EnvD.Kc{p:Pn}{H0 H:Hp}{own:Addr->Option Nat}{σ:L2.St}{ρ:List Sl}{i r:Nat}{b:Bool}{l:Addr}{vs vs':List V}{ds':List D}(E:EnvD p H0 own σ H ρ)(hv:σ[i]?=some (some (.ref l)))(o:own l=some r)(h:H l=some (.lst vs))(z:Rps (okS p H0 own b) H vs' ds') :
  EnvD p H0 own σ (upd H l (.lst vs')) ((forget r ρ).set i (.sp r b ds'))/\FrS p own H own (upd H l (.lst vs')):=by
 refine⟨(E.write (o':=.lst vs') o h λxs z=>nomatch z).put (v:=.ref l) ⟨l,vs',hv,o,aq,z.mono (λ_ o=>o) (λc u n e=>?_) λa xs e=>?_⟩,gF o h λxs z=>nomatch z⟩
 ·rw[au];exact e
  intro y;subst y;rw[n.2.2] at o;cases o
 ·rw[au];exact e
  intro y;subst y;rw[h] at e;cases e
def EnvD.spine{p:Pn}{H0 H H1:Hp}{own:Addr->Option Nat}{σ:L2.St}{ρ:List Sl}{i r:Nat}{b:Bool}{l:Addr}{vs:List V}{ds:List D}(E:EnvD p H0 own σ H ρ)(A:At p H0 own H H1)(hf:gb r ρ i=true)(hl:H1 l=none)(z:Rps (okS p H0 own b) H1 vs ds) :
  ∃own',EnvD p H0 own' (σ.set i (some (.ref l))) (upd H1 l (.lst vs)) (ρ.set i (.sp r b ds))/\FrS p own H own' (upd H1 l (.lst vs)):=by
 have E2:EnvD p H0 (aQ r own) σ H (ρ.set i .any):=(E.drop (i:=i)).clear hf
 have E3:=E2.go A.kp A.pen
 have s1:Same H1 (upd H1 l (.lst vs)):=λb u q=>by rw[au (aB q hl)];exact q
 have A8:At p H0 (aQ r own) H1 (upd H1 l (.lst vs)):=⟨E3.k0,Kp.of s1,E3.pen,p.mono H1 _ E3.pen λb u _ q=>s1 b u q,E3.ow⟩
 have E4:=E3.adopt r A8
 have c0:∀a,own a=none->aQ r own a=none:=λa n=>by unfold aQ;rw[n];simp
 have E5:=E4.set (i:=i) (v:=.ref l) (s:=.sp r b ds) λhli=>⟨l,vs,ë hli,pF hl aq,aq,z.cU (λc u n e=>⟨⟨n.1,n.2.1,by rw[bH e];exact c0 c n.2.2⟩,s1 c u e⟩) λa xs e=>s1 a _ e⟩
 rw[List.set_set] at E5
 exact⟨_,E5,(A.frs.trans iC).trans (pG A8)⟩
def RpK.okS{p:Pn}{H0 Hb H:Hp}{own:Addr->Option Nat}{b:Bool}(A:At p H0 own Hb H):∀{vs:List V}{ks:List (Kd×D)},RpK p H0 own Hb H vs ks->(ks.all λkd=>(norm kd.1 kd.2).le (spK b))=true->Rps (okS p H0 own b) H vs (ks.map (·.2))
 |_,_,.nil,_=>.nil
 |_,kd::ks,.cons h t,e=>by
  rw[List.all_cons,Ù] at e
  exact .cons (Pz A e.1 (aX h)) (RpK.okS A t e.2)
def Ny(i r:Nat)(b:Bool)(t:DA):DS:=λP ρ=>t ρ λks=>ks.length<=1000/\(ks.all λkd=>(norm kd.1 kd.2).le (spK b))=true/\gb r ρ i=true/\P.nx (ρ.set i (.sp r b (ks.map (·.2))))
def wu{i:Nat}{t:DA}(r:Nat)(b:Bool)(h:PS X st (sU (Rk (dN t)) (iw i))):PDS X st (Ny i r b t):=PS.wk' h (by
 rintro Q σ H ⟨p,H0,own,ρ,P,E,q,w⟩
 refine⟨p,H0,own,ρ,_,E,q,λks vs H1 h A rk=>?_⟩
 have h24:=ï
 have hln:=rk.length
 refine⟨by have:=h.1;omega,λl hl=>?_⟩
 obtain⟨own',E2,F2⟩:=E.spine A h.2.2.1 hl (RpK.okS A rk h.2.1)
 exact w.nx _ _ _ _ E2 F2 h.2.2.2)
def Ar(js:List Nat)(t:DS):DS:=λP ρ=>t P (js.foldl (λρ j=>ρ.set j .any) ρ)
def EnvD.drops{p:Pn}{H0 H:Hp}{own:Addr->Option Nat}{σ:L2.St}:∀(js:List Nat) {ρ:List Sl},EnvD p H0 own σ H ρ->EnvD p H0 own σ H (js.foldl (λρ j=>ρ.set j .any) ρ)
 |[],_,E=>E
 |_::js,_,E=>EnvD.drops js E.drop
def rZ(js:List Nat)(h:iG X rest t):iG X rest (Ar js t):=PSs.wk' h (by
 rintro Q σ H ⟨p,H0,own,ρ,P,E,q,w⟩
 exact⟨p,H0,own,_,P,E.drops js,q,w⟩)
end
@[reducible] def grL(K:Ú)(sc:Addr)(ns:List Int):Gr:=⟨λp H0=>SqL K H0 sc (ns.map V.int)/\∀b,p.fp b->H0 b=none⟩
def Rt(K:Ú):Sp:=λvs H Q _=>∃(a:Addr) (ns:List Int),vs=[.ref a]/\SqL K H a (ns.map V.int)/\∀H',Q (.bl true) H'
section
variable {X:Cx}{k1 k2 j:Nat}{x y z:Str}{ps1 ps2:List Str}{e:Expr}{es1 es2:List Expr}{p1 p2 p3 pos pos1:Pos}{K:Ú}{sc:Addr}{ns:List Int}{C:Pn->Prop}{pre:List D->Prop}{g:List D->(D->Prop)->Prop}{i:Nat}
end
variable [Gr]
section
variable {X:Cx}{pos pos':Pos}{a b:Expr}{t:DA}
end
variable [Gr]
mutual
inductive Tm where
 |int (i:Int)
 |neg (i:Int)
 |bl (b:Bool)
 |non
 |str (s:Str)
 |var (i:Nat)
 |lst (ts:Tms)
 |tup (ts:Tms)
 |dct
inductive Tms where
 |nil
 |cons (t:Tm) (ts:Tms)
end
def Uk(sc:Scope)(x:Str):Bool:=sc.names.lookup x == some .local || sc.names.lookup x == some .cell || sc.names.lookup x == some .free
mutual
def okT(N:List Str)(sc:Scope):Tm->Expr->Bool
 |.int i,.Constant (.int j) _ _=>i == j
 |.neg i,.UnaryOp .USub (.Constant (.int j) _ _) _=>i == j
 |.bl b,.Constant (.bool c) _ _=>b == c
 |.non,.Constant .none _ _=>true
 |.str s,.Constant (.str u) _ _=>s == u
 |.var i,.Name x _=>N[i]? == some x&&(Uk sc x&&(!(x == ("__debug__":Str))&&!(x == ("__classdict__":Str))))
 |.lst ts,.List es _=>Py N sc ts es
 |.tup ts,.Tuple es _ _=>Py N sc ts es
 |.dct,.Dict [] [] _=>true
 |_,_=>false
def Py(N:List Str)(sc:Scope):Tms->List Expr->Bool
 |.nil,[]=>true
 |.cons t ts,e::es=>okT N sc t e&&Py N sc ts es
 |_,_=>false
end
mutual
def evT(ρ:List Sl):Tm->Option (Kd×D)
 |.int i=>some (.imm,.int i)
 |.neg i=>some (.imm,.int (-i))
 |.bl b=>some (.imm,.bool b)
 |.non=>some (.imm,.none)
 |.str s=>some (.imm,.str s)
 |.var i=>match ρ[i]? with
  |some (.im d)=>some (.imm,d)
  |some (.sh d)=>some (.shr,d)
  |some (.sn d)=>some (.snw,d)
  |some (.dw r d)=>some (.reg r,d)
  |_=>none
 |.lst ts=>match QC ρ ts with
  |some ks=>some ((joins ks).join .new,.list (ks.map (·.2)))
  |none=>none
 |.tup ts=>match QC ρ ts with
  |some ks=>some (norm (joins ks) (.tuple (ks.map (·.2))),.tuple (ks.map (·.2)))
  |none=>none
 |.dct=>some (.new,.dict [])
def QC(ρ:List Sl):Tms->Option (List (Kd×D))
 |.nil=>some []
 |.cons t ts=>match evT ρ t,QC ρ ts with
  |some k,some ks=>some (k::ks)
  |_,_=>none
end
mutual
def smT:Tm->Bool
 |.lst ts=>Oo 1000 ts
 |.tup ts=>Oo 1000 ts
 |_=>true
def Oo:Nat->Tms->Bool
 |_,.nil=>true
 |n+1,.cons t ts=>smT t&&Oo n ts
 |0,.cons _ _=>false
end
section
variable {X:Cx}{e:Expr}{es:List Expr}
section
variable {N:List Str}{sc:Scope}
end
end
end Dl
namespace L2
open PySem PySem.Spec PyProof.Rows HT
section
variable {X:Cx}{e:Expr}{te:TE}{p1 p2 p3 pos:Pos}
end
end L2
namespace Dl
open PySem L2 PyProof.Rows
variable [Gr]
section
variable {X:Cx}{pos p1 p2 p3:Pos}{a b e:Expr}{es:List Expr}{ta tb te:DE}{t:DA}
def Rg(te:DE)(tl th:DO):DE:=λρ P=>te ρ λk d=>tl ρ λlo=>th ρ λhi=>match d with
 |.list ds=>newP k (fQ ds lo hi) λk'=>P k' (.list (fQ ds lo hi))
 |.tuple ds=>¬(HT.sIx ds.length 0 lo=0/\HT.sIx ds.length ds.length hi=ds.length)/\P (norm k (.tuple (fQ ds lo hi))) (.tuple (fQ ds lo hi))
 |_=>False
def Bx{lo hi:Option Expr}{tl th:DO}(he:PD X e te)(hl:PO X lo (rK tl))(hh:PO X hi (rK th)):PD X (.Subscript e (.Slice lo hi none p2) pos) (Rg te tl th):=PE.wk (xJ (SlR.or Bl Oq) he hl hh) (by
 rintro σ H Q ⟨p,H0,own,ρ,P,E,t,q⟩
 refine⟨p,H0,own,ρ,_,E,t,λk d v H1 h A r=>?_⟩
 refine⟨p,H0,own,ρ,_,E.go A.kp A.pen,h,λo1 H2 h2 A2=>?_⟩
 refine⟨p,H0,own,ρ,_,(E.go A.kp A.pen).go A2.kp A2.pen,h2,λo2 H3 h3 A3=>?_⟩
 have A4:=(A.base A2).base A3
 have r3:=mL (A.base A2) A3.kp (mL A A2.kp r)
 cases d with
 |list ds =>
  obtain⟨x,xs,e1,o,h1,rs⟩:=Rp.bO r3
  subst e1
  refine .inl ⟨x,xs,rfl,SqL.of h1,λl hl=>?_⟩
  obtain⟨k2,i2,nw⟩:=A4.new hl (.lst (sy xs o1 o2))
  obtain⟨k',hk',rk'⟩:=j9 A4 (cj A4 k2 (rs.cut o1 o2)) nw aq h3
  exact q _ _ _ _ hk' (A4.go k2 i2) rk'
 |tuple ds =>
  obtain⟨x,xs,e1,h1,rs⟩:=Rp.fu r3
  subst e1
  refine .inr ⟨x,xs,rfl,SqT.of h1,by rw[rs.length];exact h3.1,λl hl=>?_⟩
  obtain⟨k2,i2,nw⟩:=A4.new hl (.tup (sy xs o1 o2))
  exact q _ _ _ _ h3.2 (A4.go k2 i2) (aX (.tup aq (cj A4 k2 (rs.cut o1 o2))))
 |_=>exact h3.elim)
end
variable [Gr]
section
variable {X:Cx}{pos pos' p2:Pos}{a b e:Expr}{ta tb te tj tm:DE}{st st2:Stmt}{rest:List Stmt}{ti:DI}{g:DG}{t:DS}
end
variable [Gr]
def Ag(r:Nat)(ρ:List Sl):forget r (forget r ρ)=forget r ρ:=by
 unfold forget
 rw[ô]
 refine Ğ λs _=>?_
 show(if (if s.region=some r then Sl.any else s).region=some r then Sl.any else (if s.region=some r then Sl.any else s))=_
 by_cases h:s.region=some r
 ·rw[if_pos h];rfl
 ·rw[if_neg h,if_neg h]
section
variable {X:Cx}{te te1 te2 tj tm:DE}{st st2:Stmt}{rest:List Stmt}{t:DS}
end
variable [Gr]
def rQ(r:Nat)(ρ:List Sl)(j:Nat):forget r ((forget r ρ).set j .any)=(forget r ρ).set j .any:=by
 have h:=Ag r ρ
 unfold forget at h ⊢
 rw[List.map_set,h]
 rfl
section
variable {X:Cx}{te tj:DE}{st:Stmt}{t:DS}
end
end Dl
namespace L2
open PySem PySem.Spec PyProof.Rows
end L2
namespace Dl
open PySem L2 PyProof.Rows
variable [Gr]
section
variable {X:Cx}{tg:Expr}{pos:Pos}{ta:DA}
end
section
variable {X:Cx}
def Ew(hc:X.calm=true):bK X (.builtin "min") (λxs H Q=>∃(p:Addr) (ns:List Int),xs=[.ref p]/\SqL X.K H p (ns.map V.int)/\ns≠[]/\∀M,M∈ns->(∀a∈ns,M<=a)->Q (.int M) H):=by
 intro pins s σ H xs us Q I r h
 obtain⟨p,ns,rfl,hp,hne,q⟩:=h
 obtain⟨u,rfl,rx⟩:=vals1 r
 cases rx
 obtain⟨its,rv,pl,hz⟩:=I.list hp
 have hi:IntsAre its ns:=intsAre_of rv
 obtain⟨zs,e⟩:=hi.allInts.items
 have hns:ns=zs.toList.map (·.1):=by rw[←hi.numsOf,←nums_intItems,←e]
 have hsz:0<zs.size:=by
  have h3:=ź.mpr hne
  rw[hns,À,ķ] at h3;exact h3
 have hl:=pl.isList
 rw[e] at hl
 refine min_intList (I.ok.hd hc) hl hsz λv h' tk hv hk=>?_
 obtain⟨t,rfl⟩:=intItems_at hv
 obtain⟨h1,h2⟩:=argBest_lt (numAt zs) (zs.size - 1)
 refine⟨.int _,H,I.kept λb o eb=>hk b o eb,⟨_,rfl⟩,q _ ?_ λa ha=>?_⟩
 ·rw[hns,numAt_eq];refine getD_mem ?_;rw[À,ķ];omega
 ·rw[hns] at ha
  obtain⟨j,hj,rfl⟩:=mem_getD ha
  rw[À,ķ] at hj
  have h3:=h2 j (by omega)
  rw[←numAt_eq];exact h3
def Es(hc:X.calm=true):bK X (.builtin "sum") (λxs H Q=>∃(p:Addr) (ns:List Int),xs=[.ref p]/\SqT X.K H p (ns.map V.int)/\ns.length<=1000/\(∀x∈ns,-1000000<=x/\x<=1000000)/\Q (.int ns.sum) H):=by
 intro pins s σ H xs us Q I r h
 obtain⟨p,ns,rfl,hp,hl,hs,q⟩:=h
 obtain⟨u,rfl,rx⟩:=vals1 r
 cases rx
 obtain⟨its,rv,pl,hz⟩:=I.tuple hp
 have hlen:its.length=ns.length:=by have:=rv.length;rw[À] at this;exact this.symm
 have hltp:p<s.heap.objs.size:=by obtain⟨o,ho,_⟩:=pl;exact Î ho
 have at':∀i v,its[i]?=some v->∃t,v=ň (ns.getD i 0) t:=λi v e=>by
  have hi:i<its.length:=(Ê.mp e).1
  have hv:(ns.map V.int)[i]?=some (V.int ns[i]):=by rw[Þ,Ç (show i<ns.length by omega)];rfl
  obtain⟨u,eu,ru⟩:=rv.get hv
  rw[e] at eu
  cases eu
  obtain⟨t,rfl⟩:=ru
  exact⟨t,by rw[Ï,Ç (show i<ns.length by omega)];rfl⟩
 refine call_sum_walk (wpAny_pyIter_tuple pl ?_)
 refine⟨_,_,_,_,_,_,λi=>ns.getD i 0,rfl,Walks.tuple (A:=X.A.in1) (I.ok.hd hc) _ p (ß hltp) _,⟨⟨_,á _ rfl,rfl,rfl⟩,pl.push _⟩,?_,λi v e=>at' i v (by simpa using e),λj hj=>?_,λh' tk t' hk=>?_⟩
 ·intro b hb
  show b<(s.heap.push _).objs.size
  rw[Ŝ]
  simp at hb
  rcases hb with rfl|rfl
  ·exact ş _
  ·exact ā hltp
 ·have hj:j<ns.length:=by simpa[hlen] using hj
  have e:ns.getD j 0=ns[j]:=by rw[Ï,Ç hj];rfl
  have b1:=hs _ (Ĩ hj)
  have b2:=oF (ns.take (j+1)) 1000000 λx hx=>hs x (List.mem_of_mem_take hx)
  have b3:(ns.take (j+1)).length<=1000:=by rw[İ];omega
  rw[mR ns (j+1) hj]
  refine⟨?_,?_⟩
  ·show -(2 ^ 63)<=ns.getD j 0/\ns.getD j 0<2 ^ 63
   rw[e]
   omega
  ·show -(2 ^ 63)<=(ns.take (j+1)).sum/\(ns.take (j+1)).sum<2 ^ 63
   omega
 ·have e:PySem.preSum (λi=>ns.getD i 0) its.toArray.size=ns.sum:=by
   rw[Í,hlen,mR ns ns.length (Ë _),ć]
  rw[e]
  refine⟨.int ns.sum,H,I.kept λb o eb=>hk b o ?_ (Ñ _ eb),⟨_,rfl⟩,q⟩
  intro hm
  have:b=s.heap.objs.size:=by simpa using hm
  exact absurd (this ▸ Î eb) (Ă _)
end
section
variable {prog:Program}{w:World}{A:Around}{E:Value->Shared->Prop}
end
section
variable {X:Cx}{pos:Pos}
variable [Gr]
end
section
variable {X:Cx}{pos:Pos}{a:Expr}{t:DA} [Gr]
def Qs(f:Int->Int->Int)(le:Int->Int->Prop):GC:=λks P=>match ks with
 |[(_,.tuple [.int i,.int j])]=>P .imm (.int (f i j))
 |[(_,.list ds)]=>∃ns:List Int,ds=ns.map Â/\ns≠[]/\∀M,M∈ns->(∀a∈ns,le M a)->P .imm (.int M)
 |_=>False
def vh{ps:Pos}(hc:X.calm=true)(hm:X.mg "min"=none)(ha:PDA X [a] t)(hg:Gl X "min":=by rfl)(he:zS X a []:=by rfl)(hpl:zP X pos []:=by rfl):PD X (.Call (.Name "min" ps) [a] [] pos) (tCl (Qs (λi j=>if j<i then j else i) (λM a=>M<=a)) t) :=
 cN (bK.or (Eu hc) (Ew hc)) (by
  intro p H0 own Hb H vs ks P Q A r t q
  unfold Qs at t
  split at t
  ·rename_i k i j
   obtain⟨v,rfl,r'⟩:=fG r
   obtain⟨x,xs,e1,h1,rs1⟩:=Rp.fu r'
   obtain⟨v1,v2,e2,q1,q2⟩:=Rps.two rs1
   subst e1 e2
   rw[q1.int',q2.int'] at h1
   exact .inl ⟨x,i,j,rfl,SqT.of h1,q _ _ _ _ t Kp.refl A.pen (.int _)⟩
  ·obtain⟨ns,rfl,hne,t⟩:=t
   obtain⟨v,rfl,r'⟩:=fG r
   obtain⟨x,xs,e1,o1,h1,rs1⟩:=Rp.bO r'
   subst e1
   have e2:=Rps.ints rs1
   subst e2
   exact .inr ⟨x,ns,rfl,SqL.of h1,hne,λM h1 h2=>q _ _ _ _ (t M h1 h2) Kp.refl A.pen (.int _)⟩
  ·exact t.elim) hg hm boot_min ha (by decide) (by decide) he hpl
def Jd:GC:=λks P=>match ks with
 |[(_,.list ds)]=>∃ns:List Int,ds=ns.map Â/\ns.length<=1000/\(∀x∈ns,-1000000<=x/\x<=1000000)/\P .imm (.int ns.sum)
 |[(_,.tuple ds)]=>∃ns:List Int,ds=ns.map Â/\ns.length<=1000/\(∀x∈ns,-1000000<=x/\x<=1000000)/\P .imm (.int ns.sum)
 |_=>False
def qm{ps:Pos}(hc:X.calm=true)(hm:X.mg "sum"=none)(ha:PDA X [a] t)(hg:Gl X "sum":=by rfl)(he:zS X a []:=by rfl)(hpl:zP X pos []:=by rfl):PD X (.Call (.Name "sum" ps) [a] [] pos) (tCl Jd t) :=
 cN (bK.or (Et hc) (Es hc)) (by
  intro p H0 own Hb H vs ks P Q A r t q
  unfold Jd at t
  split at t
  ·obtain⟨ns,rfl,hl,hb,t⟩:=t
   obtain⟨v,rfl,r'⟩:=fG r
   obtain⟨x,xs,e1,o1,h1,rs1⟩:=Rp.bO r'
   subst e1
   have e2:=Rps.ints rs1
   subst e2
   exact .inl ⟨x,ns,rfl,SqL.of h1,hl,hb,q _ _ _ _ t Kp.refl A.pen (.int _)⟩
  ·obtain⟨ns,rfl,hl,hb,t⟩:=t
   obtain⟨v,rfl,r'⟩:=fG r
   obtain⟨x,xs,e1,h1,rs1⟩:=Rp.fu r'
   subst e1
   have e2:=Rps.ints rs1
   subst e2
   exact .inr ⟨x,ns,rfl,SqT.of h1,hl,hb,q _ _ _ _ t Kp.refl A.pen (.int _)⟩
  ·exact t.elim) hg hm boot_sum ha (by decide) (by decide) he hpl
variable {b:Expr}{ta tb:DE}
end
section
variable {X:Cx}
end
section
variable {X:Cx}{pos:Pos}{a e:Expr}{te ta:DE}{t:DA}{st st2:Stmt}{rest:List Stmt} [Gr]
end
section
variable {X:Cx}{tg iter c:Expr}{pos pos1:Pos}{ret:Stmt}{ti:DI}{g:DG}{tc:DT} [Gr]
end
end Dl
namespace L2
open PySem PyProof.Rows
def Asc(xs:Array Nat):Prop:=xs.toList.Pairwise (·<·)
structure Good(w:World)(t:SetTable):Prop where
 asc:Asc t.place
 dum:t.dummies=#[]
 led:t.led=!w.params.followText "set-order"
section
variable {w:World}{t:SetTable}
end
section
variable {P:Program}{w:World}{A:Around}{E:Value->Shared->Prop}{s:Shared}
end
section
variable {P:Program}{w:World}{A:Around}{R:Result->Shared->Prop}{I:Addr}{fp wr:List Addr}{G:Array GenState->Array GenState->Prop}{n:Nat}{W:Nat->Value->Prop}{St:Nat->Shared->Prop}
end
section
variable {P:Program}{w:World}{A:Around}{E:Value->Shared->Prop}{s:Shared}
end
section
variable {P:Program}{w:World}{A:Around}{E:Value->Shared->Prop}{s:Shared}{I a:Addr}{f:Value}{i n ep:Nat}{o:Obj}{es:Array (Int×Value)}{t:SetTable}
end
section
variable {P:Program}{w:World}{A:Around}{E:Value->Shared->Prop}{s:Shared}
variable {a:Addr}{i ep:Nat}{o:Obj}{es:Array (Int×Value)}{t:SetTable}
end
section
variable {P:Program}{w:World}{A:Around}{E:Value->Shared->Prop}{s:Shared}{I a:Addr}{ep:Nat}{o:Obj}{es:Array (Int×Value)}{t:SetTable}
end
end L2
namespace L2
open PySem PySem.Spec PyProof.Rows
section
variable {P:Program}{w:World}{A:Around}{E:Value->Shared->Prop}{s:Shared}{a:Addr}{S:Int->Bool}{n:Nat}
end
end L2
set_option autoImplicit true
set_option relaxedAutoImplicit true
namespace Wr
open PySem L2 PyProof.Rows Dl
structure WD[Gr](X:Cx)(e:Expr)(t:DE):Prop where
 h:PD X e t
structure WDT[Gr](X:Cx)(e:Expr)(t:DT):Prop where
 h:PDT X e t
structure WDW[Gr](X:Cx)(e:Expr)(t:DT):Prop where
 h:PDW X e t
structure WDA[Gr](X:Cx)(e:List Expr)(t:DA):Prop where
 h:PDA X e t
structure WDS[Gr](X:Cx)(e:Stmt)(t:DS):Prop where
 h:PDS X e t
structure WDSs[Gr](X:Cx)(e:List Stmt)(t:DS):Prop where
 h:iG X e t
structure WDI[Gr](X:Cx)(tg e:Expr)(t:DI):Prop where
 h:PDI X tg e t
structure WDG[Gr](X:Cx)(e:Expr)(t:DG):Prop where
 h:PDG X e t
structure WDGs[Gr](X:Cx)(e:List Expr)(t:DGs):Prop where
 h:PGs X e (rM t)
structure WDTs[Gr](X:Cx)(e:List Expr)(t:DT):Prop where
 h:Fj X e t
structure WDO[Gr](X:Cx)(e:Option Expr)(t:DO):Prop where
 h:PO X e (rK t)
structure WV(X:Cx)(e:Expr)(i:Nat):Prop where
 h:PE X e (dJ i)
structure WC(X:Cx)(e:Expr)(v:V):Prop where
 h:PE X e (tC v)
section
variable [Gr]
def wv(i:Nat){x:Str}{pos:Pos}(hN:X.N[i]?=some x:=by rfl)(hv:Vis X.env.scope x:=by first|exact þ rfl|exact Or.inr (þ rfl)|exact Or.inr (Or.inr rfl))(hd:zB x:=by decide)(hcd:(x == ("__classdict__":Str))=false:=by decide):WV X (.Name x pos) i:=⟨pv i hN hv hd hcd⟩
def wpt{t:DT}(h:WDW X e t):WDT X e t:=⟨PDW.pt h.h⟩
def gM{op op':CmpOp}{f f':Int->Int->Bool}(ho:OpR X (compareOp op) (rI0 λi j=>.bl (f i j)))(ho':OpR X (compareOp op') (rI0 λi j=>.bl (f' i j)))(ha:WD X a ta)(hb:WD X b tb)(hc:WD X c tc)(hm:lastMarks [op,op'] [b,c]=false:=by with_unfolding_all rfl):WDT X (.Compare a [op,op'] [b,c] pos) (fB (tCh f f' ta tb tc)):=⟨Dl.gM (qM ho ho' ha.h hb.h hc.h hm) qu⟩
def wty{x:Str}{T:String}(hg:Gl X x)(hm:X.mg x=none)(hv:bootBuiltins x=some (.type T))(hn:x≠"__name__":=by decide)(hd:zB x:=by decide):WC X (.Name x ps) (.ty T):=⟨mW hg hm hv rfl hn hd⟩
def bF{i:Nat}{x:Str}{e:Expr}{te:DE}{pos' pos:Pos}(rg:Option Nat)(hN:X.N.Nodup)(hi:X.N[i]?=some x)(hx:Loc X.env.scope x)(he:WD X e te)(hs:swapsWith e (some (.Name x pos')) pos.line X.env=pure false:=by rfl)(hf:zL X x:=by first|exact .inl rfl|exact .inr rfl|assumption) :
  WDS X (.Assign [.Name x pos'] e pos) (Em i rg te):=⟨Dl.bF rg (zm hN hi hx he.h hs hf)⟩
def iz(rg:Option Nat)(own:List Str){i:Nat}{y:Str}{py spos:Pos}(hc:X.calm=true)(hN:X.N.Nodup)(hiN:X.N[i]?=some y)(hx:Loc X.env.scope y)(hi:WDI X tg iter ti)(hg:∀c,WDG (X.comp own scope c) tg g)(ht:∀c,WDTs (X.comp own scope c) ifs tt)(he:∀c,WD (X.comp own scope c) elt te)(hsw:swapsWith (.ListComp elt [⟨tg,iter,ifs,0⟩] scope pos) (some (.Name y py)) spos.line X.env=pure true:=by rfl)(hk:gD X.env scope X.N=true:=by rfl)(hs:zF X iter:=by intro _;rfl)(hf:zL X y:=by first|exact .inl rfl|exact .inr rfl|assumption) :
  WDS X (.Assign [.Name y py] (.ListComp elt [⟨tg,iter,ifs,0⟩] scope pos) spos) (Em i rg (dLC own.length ti g tt te)):=⟨Dl.bF rg (Ox own hc hN hiN hx hi.h (λc=>(hg c).h) (λc=>(ht c).h) (λc=>(he c).h) hsw hk hs hf)⟩
def wu{i:Nat}{x:Str}{es:List Expr}{t:DA}{pos' pos lp:Pos}(r:Nat)(b:Bool)(hN:X.N.Nodup)(hi:X.N[i]?=some x)(hx:Loc X.env.scope x)(he:WDA X es t)(hs:swapsWith (.List es lp) (some (.Name x pos')) pos.line X.env=pure false:=by rfl)(hf:zL X x:=by first|exact .inl rfl|exact .inr rfl|assumption) :
  WDS X (.Assign [.Name x pos'] (.List es lp) pos) (Ny i r b t):=⟨Dl.wu r b (zm hN hi hx (jC he.h) hs hf)⟩
def kO{i:Nat}{x:Str}{e:Expr}{es:List Expr}{apos cpos np pos:Pos}(hv:WV X (.Name x np) i)(ha:WDA X (e::es) (bR te fU))(hbase:attributeBase (.Name x np) "append" X.env (eval (.Name x np) X.env)=eval (.Name x np) X.env:=by rfl)(hfew:zW X cpos (e::es):=by rfl)(hline:(apos.endLine == cpos.line)=true:=by rfl)(hst:zS X e es:=by rfl)(hplain:zP X cpos es:=by rfl)(hs:swapsWith (.Call (.Attribute (.Name x np) "append" apos) (e::es) [] cpos) none pos.line X.env=pure false:=by rfl) :
  WDS X (.Expr (.Call (.Attribute (.Name x np) "append" apos) (e::es) [] cpos) pos) (QT i te):=⟨Dl.kO (bL (fH í Ĝ ě cT hv.h ha.h hbase hfew hline hst hplain) hs)⟩
def cV{i:Nat}{x:Str}{e:Expr}{es:List Expr}{apos cpos np pos:Pos}(hv:WV X (.Name x np) i)(ha:WDA X (e::es) (bR te fU))(hbase:attributeBase (.Name x np) "extend" X.env (eval (.Name x np) X.env)=eval (.Name x np) X.env:=by rfl)(hfew:zW X cpos (e::es):=by rfl)(hline:(apos.endLine == cpos.line)=true:=by rfl)(hst:zS X e es:=by rfl)(hplain:zP X cpos es:=by rfl)(hs:swapsWith (.Call (.Attribute (.Name x np) "extend" apos) (e::es) [] cpos) none pos.line X.env=pure false:=by rfl) :
  WDS X (.Expr (.Call (.Attribute (.Name x np) "extend" apos) (e::es) [] cpos) pos) (QS i te):=⟨Dl.cV (bL (fH í Ŗ ŕ gZ hv.h ha.h hbase hfew hline hst hplain) hs)⟩
def aO{i:Nat}{x:Str}(hN:X.N.Nodup)(hi:X.N[i]?=some x)(hx:Loc X.env.scope x)(hf:zL X x:=by first|exact .inl rfl|exact .inr rfl|assumption):WDG X (.Name x pos) (gNm i):=⟨Dl.aO (Bw hN hi hx hf)⟩
def aF{i:Int}{j:Nat}:WD X (.Constant (.int i) j pos) (tK (.int i)):=⟨Dl.aF ⟩
def fZ{i:Bool}{j:Nat}:WD X (.Constant (.bool i) j pos) (tK (.bool i)):=⟨Dl.fZ ⟩
def fK{x:Str}{j:Nat}:WD X (.Constant (.str x) j pos) (tK (.str x)):=⟨Dl.fK ⟩
def d9{e:Expr}{t:DE}(h:WD X e t)(he:∀whole,isTrue e X.env whole=(do let v ←whole;standAt e.pos;holding [v] (truthy v)):=by intro _;rfl):WDT X e (fB t):=⟨Dl.d9 (h:=h.h) (he:=he)⟩
def fX{t:DT}(ha:WDT X a t):WDT X (.UnaryOp .Not a pos) (T3 t):=⟨Dl.fX (ha:=ha.h)⟩
def fJ(ha:WDT X a t):WDW X (.BoolOp .And [a] pos) t:=⟨Dl.fJ (ha:=ha.h)⟩
def d8(ha:WDT X a t):WDW X (.BoolOp .Or [a] pos) t:=⟨Dl.d8 (ha:=ha.h)⟩
def iR{rest:List Expr}(ha:WDT X a t)(hb:WDW X (.BoolOp .And (b::rest) pos) u):WDW X (.BoolOp .And (a::b::rest) pos) (QV t u):=⟨Dl.iR (ha:=ha.h) (hb:=hb.h)⟩
def dU{rest:List Expr}(ha:WDT X a t)(hb:WDW X (.BoolOp .Or (b::rest) pos) u):WDW X (.BoolOp .Or (a::b::rest) pos) (dOr t u):=⟨Dl.dU (ha:=ha.h) (hb:=hb.h)⟩
def ak :WDA X [] fU:=⟨Dl.ak ⟩
def aj(ha:WD X e te)(hr:WDA X es t)(hs:zS X e es:=by rfl):WDA X (e::es) (bR te t):=⟨Dl.aj (ha:=ha.h) (hr:=hr.h) (hs:=hs)⟩
def cB(h:WDA X es t):WD X (.List es pos) (Mf t):=⟨Dl.cB (h:=h.h)⟩
def cM{x1}(h:WDA X es t):WD X (.Tuple es x1 pos) (uM t):=⟨Dl.cM (h:=h.h)⟩
def oU(ha:WD X a ta)(hb:WD X b tb):WD X (.BinOp a .Sub b pos) (t2 (gI0 λi j=>.int (i - j)) ta tb):=⟨Dl.oU (ha:=ha.h) (hb:=hb.h)⟩
def G9(ha:WD X a ta)(hb:WD X b tb):WD X (.Compare a [.GtE] [b] pos) (t2 (gI0 λi j=>.bool (decide (j<=i))) ta tb):=⟨Dl.G9 (ha:=ha.h) (hb:=hb.h)⟩
def zy(ha:WD X a ta)(hb:WD X b tb):WDT X (.Compare a [.Lt] [b] pos) (fB (t2 (gI0 λi j=>.bool (decide (i<j))) ta tb)):=⟨Dl.zy (ha:=ha.h) (hb:=hb.h)⟩
def lO(ha:WD X a ta)(hb:WD X b tb):WDT X (.Compare a [.Gt] [b] pos) (fB (t2 (gI0 λi j=>.bool (decide (j<i))) ta tb)):=⟨Dl.lO (ha:=ha.h) (hb:=hb.h)⟩
def zA(ha:WD X a ta)(hb:WD X b tb):WDT X (.Compare a [.GtE] [b] pos) (fB (t2 (gI0 λi j=>.bool (decide (j<=i))) ta tb)):=⟨Dl.zA (ha:=ha.h) (hb:=hb.h)⟩
def bB{ps:Pos}(hm:X.mg "len"=none)(ha:WDA X [a] t)(hg:Gl X "len":=by rfl)(he:zS X a []:=by rfl)(hpl:zP X pos []:=by rfl):WD X (.Call (.Name "len" ps) [a] [] pos) (tCl Lp t):=⟨Dl.bB (hm:=hm) (ha:=ha.h) (hg:=hg) (he:=he) (hpl:=hpl)⟩
def gB :WDSs X [] Cz:=⟨Dl.gB ⟩
def aJ{st:Stmt}{rest:List Stmt}(h1:WDS X st t)(h2:WDSs X rest u):WDSs X (st::rest) (Eo t u):=⟨Dl.aJ (h1:=h1.h) (h2:=h2.h)⟩
def aK{st:Stmt}(h1:WDS X st t):WDSs X [st] t:=⟨Dl.aK (h1:=h1.h)⟩
def nW{st:Stmt}:WDS X st (λ_ _=>False):=⟨Dl.nW ⟩
def bw(he:WD X e te):WDS X (.Return (some e) pos) (Aq te):=⟨Dl.bw (he:=he.h)⟩
def dz{c:Expr}{a b:List Stmt}{tc:DT}(hc:WDT X c tc)(ha:WDSs X a t)(hb:WDSs X b u):WDS X (.If c a b pos) (dIf tc t u):=⟨Dl.dz (hc:=hc.h) (ha:=ha.h) (hb:=hb.h)⟩
def qz(he:WD X e te)(hs:swapsWith e none pos.line X.env=pure false:=by rfl):WDS X (.Expr e pos) (NK te):=⟨Dl.qz (he:=he.h) (hs:=hs)⟩
def dH :WDGs X [] Ja:=⟨Dl.dH ⟩
def jT{g:DG}{gs:DGs}(h1:WDG X e g)(h2:WDGs X es gs)(hs:(assignEach (e::es) X.env).map (·.2)=assign e X.env::(assignEach es X.env).map (·.2):=by rfl):WDGs X (e::es) (vR g gs):=⟨Dl.jT (h1:=h1.h) (h2:=h2.h) (hs:=hs)⟩
def gC{gs:DGs}{k n:Nat}(hc:X.calm=true)(h:WDGs X es gs)(hn:(assignEach es X.env).length=n:=by rfl)(hst:(assignEach es X.env).findIdx? (·.1)=none:=by rfl):WDG X (.Tuple es k pos) (gTp n gs):=⟨Dl.gC (hc:=hc) (h:=h.h) (hn:=hn) (hst:=hst)⟩
def cQ(hl:WD X l tl):WDI X tg l (iSq tl):=⟨Dl.cQ (hl:=hl.h)⟩
def aV{a:Expr}{ps:Pos}(hm:X.mg "range"=none)(ha:WDA X [a] ta)(hg:Gl X "range":=by rfl)(hs:starEach [a] X.env=[(false,eval a X.env)]:=by rfl):WDI X tg (.Call (.Name "range" ps) [a] [] pos) (iR1 ta):=⟨Dl.aV (hm:=hm) (ha:=ha.h) (hg:=hg) (hs:=hs)⟩
def cO{body:List Stmt}(hp:PassesOwn (model X.prog X.w) X.A X.env X.xe)(hc:X.calm=true)(hi:WDI X tg iter ti)(hg:WDG X tg g)(hb:WDSs X body tb)(hs:zF X iter:=by intro _;rfl):WDS X (.For tg iter body [] pos) (T5 ti g tb):=⟨Dl.cO (hp:=hp) (hc:=hc) (hi:=hi.h) (hg:=hg.h) (hb:=hb.h) (hs:=hs)⟩
def nU{body:List Stmt}{c:Expr}{tc:DT}(hp:PassesOwn (model X.prog X.w) X.A X.env X.xe)(hc:WDT X c tc)(hb:WDSs X body tb):WDS X (.While c body [] pos) (Ao tc tb):=⟨Dl.nU (hp:=hp) (hc:=hc.h) (hb:=hb.h)⟩
def dh{X:Cx}:WDTs X [] (λ_ P=>P true):=⟨Dl.dh ⟩
def cG{X:Cx}{c:Expr}{t:DT}(hc:WDT X c t):WDTs X [c] t:=⟨Dl.cG (hc:=hc.h)⟩
def fY(own:List Str)(hc:X.calm=true)(hi:WDI X tg iter ti)(hg:∀c,WDG (X.comp own scope c) tg g)(ht:∀c,WDTs (X.comp own scope c) ifs tt)(he:∀c,WD (X.comp own scope c) elt te)(hk:gD X.env scope X.N=true:=by rfl)(hs:zF X iter:=by intro _;rfl):WD X (.ListComp elt [⟨tg,iter,ifs,0⟩] scope pos) (dLC own.length ti g tt te):=⟨Dl.fY (own:=own) (hc:=hc) (hi:=hi.h) (hg:=λc=>(hg c).h) (ht:=λc=>(ht c).h) (he:=λc=>(he c).h) (hk:=hk) (hs:=hs)⟩
def qU(own M:List Str)(hc:X.calm=true)(hi:WDI X tg iter ti)(hg:∀c,WDG (X.bf own M scope c) tg g)(ht:∀c,WDTs (X.bf own M scope c) ifs tt)(he:∀c,WD (X.bf own M scope c) elt te)(hk:aZ X.env scope X.N M=true:=by decide +kernel)(hs:zF X iter:=by intro _;rfl):WD X (.ListComp elt [⟨tg,iter,ifs,0⟩] scope pos) (dLC own.length ti g tt te):=⟨Dl.qU (own:=own) (M:=M) (hc:=hc) (hi:=hi.h) (hg:=λc=>(hg c).h) (ht:=λc=>(ht c).h) (he:=λc=>(he c).h) (hk:=hk) (hs:=hs)⟩
def mZ(ha:WD X a ta)(hb:WD X b tb)(hc:WD X c tc)(hm:lastMarks [.LtE,.Lt] [b,c]=false:=by with_unfolding_all rfl):WD X (.Compare a [.LtE,.Lt] [b,c] pos) (tCh (λi j=>decide (i<=j)) (λi j=>decide (i<j)) ta tb tc):=⟨Dl.mZ (ha:=ha.h) (hb:=hb.h) (hc:=hc.h) (hm:=hm)⟩
def vg(ha:WD X a ta):WD X (.UnaryOp .Not a pos) (Ma ta):=⟨Dl.vg (ha:=ha.h)⟩
def jD{op}(h:WD X a ta):WD X (.BoolOp op [a] pos) ta:=⟨Dl.jD (h:=h.h)⟩
def iT{rest:List Expr}(ha:WD X a ta)(hb:WD X (.BoolOp .And (b::rest) pos) tb):WD X (.BoolOp .And (a::b::rest) pos) (Bh ta tb):=⟨Dl.iT (ha:=ha.h) (hb:=hb.h)⟩
def gR{u:DT}(hc:WDT X c u)(ha:WD X a ta)(hb:WD X b tb):WD X (.IfExp c a b pos) (Oe u ta tb):=⟨Dl.gR (hc:=hc.h) (ha:=ha.h) (hb:=hb.h)⟩
def iU{ps:Pos}(hc:X.calm=true)(hm:X.mg "all"=none)(hv:bootBuiltins "all"=some (.builtin "all"))(ha:WDA X [a] t)(hg:Gl X "all":=by rfl)(he:zS X a []:=by rfl)(hpl:zP X pos []:=by rfl):WD X (.Call (.Name "all" ps) [a] [] pos) (tCl Qt t):=⟨Dl.iU (hc:=hc) (hm:=hm) (hv:=hv) (ha:=ha.h) (hg:=hg) (he:=he) (hpl:=hpl)⟩
def j6{ps:Pos}(hc:X.calm=true)(hm:X.mg "max"=none)(ha:WDA X [a,b] t)(hg:Gl X "max":=by rfl)(he:starEach [a,b] X.env=(false,eval a X.env)::starEach [b] X.env:=by rfl)(hpl:(backTo pos (starEach [b] X.env)).any (·.1)=false:=by rfl):WD X (.Call (.Name "max" ps) [a,b] [] pos) (tCl (gMM λi j=>if j > i then j else i) t):=⟨Dl.j6 (hc:=hc) (hm:=hm) (ha:=ha.h) (hg:=hg) (he:=he) (hpl:=hpl)⟩
def vo{ps:Pos}(hm:X.mg "list"=none)(ha:WDA X [a] t)(hg:Gl X "list":=by rfl)(he:zS X a []:=by rfl)(hpl:zP X pos []:=by rfl):WD X (.Call (.Name "list" ps) [a] [] pos) (tCl Ln t):=⟨Dl.vo (hm:=hm) (ha:=ha.h) (hg:=hg) (he:=he) (hpl:=hpl)⟩
def mY{ps:Pos}(hm:X.mg "tuple"=none)(ha:WDA X [a] t)(hg:Gl X "tuple":=by rfl)(he:zS X a []:=by rfl)(hpl:zP X pos []:=by rfl):WD X (.Call (.Name "tuple" ps) [a] [] pos) (tCl Ci t):=⟨Dl.mY (hm:=hm) (ha:=ha.h) (hg:=hg) (he:=he) (hpl:=hpl)⟩
def qT{ps:Pos}(hm:X.mg "sorted"=none)(ha:WDA X [a] t)(hg:Gl X "sorted":=by rfl)(he:zS X a []:=by rfl)(hpl:zP X pos []:=by rfl):WD X (.Call (.Name "sorted" ps) [a] [] pos) (tCl Af t):=⟨Dl.qT (hm:=hm) (ha:=ha.h) (hg:=hg) (he:=he) (hpl:=hpl)⟩
def gP{ps:Pos}(hm:X.mg "sorted"=none)(ha:WDA X [a] t)(hg:Gl X "sorted":=by rfl)(he:zS X a []:=by rfl)(hpl:zP X pos []:=by rfl):WD X (.Call (.Name "sorted" ps) [a] [] pos) (tCl vU t):=⟨Dl.gP (hm:=hm) (ha:=ha.h) (hg:=hg) (he:=he) (hpl:=hpl)⟩
def dD(hu:X.A.units+64<cLine)(ha:WD X a ta)(hb:WD X b tb)(hm:behindInMarks .In b=false:=by rfl):WDT X (.Compare a [.In] [b] pos) (fB (t2 (gIn false) ta tb)):=⟨Dl.dD (hu:=hu) (ha:=ha.h) (hb:=hb.h) (hm:=hm)⟩
def j4(hu:X.A.units+64<cLine)(ha:WD X a ta)(hb:WD X b tb)(hm:behindInMarks .NotIn b=false:=by rfl):WDT X (.Compare a [.NotIn] [b] pos) (fB (t2 (gIn true) ta tb)):=⟨Dl.j4 (hu:=hu) (ha:=ha.h) (hb:=hb.h) (hm:=hm)⟩
def eN(h:WD X e te):WDO X (some e) (HY te):=⟨Dl.eN (h:=h.h)⟩
def lQ(ha:WD X a ta):WD X (.UnaryOp .USub a pos) (Od ta):=⟨Dl.lQ (ha:=ha.h)⟩
def dc{f:List D->(D->Prop)->Prop}(C:Cal X.prog X.w X.K X.mg X.base k x ps (spD f))(hr:Room j X.A)(ha:WDA X (e::es) t)(hk:k<=j:=by decide)(hg:Gl X x:=by rfl)(hdb:zB x:=by decide)(he:zS X e es:=by rfl)(hpl:zP X pos es:=by rfl):WD X (.Call (.Name x p) (e::es) [] pos) (tFn f t):=⟨Dl.dc (C:=C) (hr:=hr) (ha:=ha.h) (hk:=hk) (hg:=hg) (hdb:=hdb) (he:=he) (hpl:=hpl)⟩
def dcP{C:Pn->Prop}{i:Nat}{f:List D->(D->Prop)->Prop}{y:Str}{py:Pos}(CC:Cal X.prog X.w X.K X.mg X.base k x ps (spP C f))(hr:Room j X.A)(hi:WV X (.Name y py) i)(ha:WDA X es t)(hk:k<=j:=by decide)(hg:Gl X x:=by rfl)(hdb:zB x:=by decide)(he:starEach (.Name y py::es) X.env=(false,eval (.Name y py) X.env)::starEach es X.env:=by rfl)(hpl:zP X pos es:=by rfl):WD X (.Call (.Name x p) (.Name y py::es) [] pos) (Oj C f i t):=⟨Dl.dcP (CC:=CC) (hr:=hr) (hi:=hi.h) (ha:=ha.h) (hk:=hk) (hg:=hg) (hdb:=hdb) (he:=he) (hpl:=hpl)⟩
def dv(i:Nat){x:Str}{pos:Pos}(hN:X.N[i]?=some x:=by rfl)(hv:Vis X.env.scope x:=by first|exact þ rfl|exact Or.inr (þ rfl)|exact Or.inr (Or.inr rfl))(hd:zB x:=by decide)(hcd:(x == ("__classdict__":Str))=false:=by decide):WD X (.Name x pos) (tV i):=⟨Dl.dv (i:=i) (hN:=hN) (hv:=hv) (hd:=hd) (hcd:=hcd)⟩
def j7{ps ps':Pos}(hc:X.calm=true)(hs:X.mg "set"=none)(hl:X.mg "len"=none)(ha:WDA X [a] t)(hgs:Gl X "set":=by rfl)(hgl:Gl X "len":=by rfl)(he:zS X a []:=by rfl)(hpl:zP X pos []:=by rfl)(he':starEach [Expr.Call (.Name "set" ps) [a] [] pos] X.env=(false,eval (Expr.Call (.Name "set" ps) [a] [] pos) X.env)::starEach [] X.env:=by rfl)(hpl':(backTo pos' (starEach [] X.env)).any (·.1)=false:=by rfl):WD X (.Call (.Name "len" ps') [.Call (.Name "set" ps) [a] [] pos] [] pos') (tCl Cj t):=⟨Dl.j7 (hc:=hc) (hs:=hs) (hl:=hl) (ha:=ha.h) (hgs:=hgs) (hgl:=hgl) (he:=he) (hpl:=hpl) (he':=he') (hpl':=hpl')⟩
def G8(ha:WD X a ta)(hb:WD X b tb)(hs:ou b:=by exact λ_ _=>rfl):WD X (.Subscript a b pos) (t2 gIx ta tb):=⟨Dl.G8 (ha:=ha.h) (hb:=hb.h) (hs:=hs)⟩
def vd(ha:WD X a ta)(hb:WD X b tb):WD X (.BinOp a .Add b pos) (t2 Nj ta tb):=⟨Dl.vd (ha:=ha.h) (hb:=hb.h)⟩
def gO(ha:WD X a ta)(hb:WD X b tb):WD X (.BinOp a .Mult b pos) (t2 Jc ta tb):=⟨Dl.gO (ha:=ha.h) (hb:=hb.h)⟩
def lR(hu:X.A.units+64<cLine)(ha:WD X a ta)(hb:WD X b tb):WD X (.Compare a [.Eq] [b] pos) (t2 (nR false) ta tb):=⟨Dl.lR (hu:=hu) (ha:=ha.h) (hb:=hb.h)⟩
def zG(hu:X.A.units+64<cLine)(ha:WD X a ta)(hb:WD X b tb):WD X (.Compare a [.NotEq] [b] pos) (t2 (nR true) ta tb):=⟨Dl.zG (hu:=hu) (ha:=ha.h) (hb:=hb.h)⟩
def mX(hu:X.A.units+64<cLine)(ha:WD X a ta)(hb:WD X b tb):WDT X (.Compare a [.Eq] [b] pos) (fB (t2 (nR false) ta tb)):=⟨Dl.mX (hu:=hu) (ha:=ha.h) (hb:=hb.h)⟩
def j5(hu:X.A.units+64<cLine)(ha:WD X a ta)(hb:WD X b tb):WDT X (.Compare a [.NotEq] [b] pos) (fB (t2 (nR true) ta tb)):=⟨Dl.j5 (hu:=hu) (ha:=ha.h) (hb:=hb.h)⟩
def Al{rest:List Stmt}(i:Nat)(h:WDSs X rest t):WDSs X rest (QM i t):=⟨Dl.Al (i:=i) (h:=h.h)⟩
def rZ{rest:List Stmt}(js:List Nat)(h:WDSs X rest t):WDSs X rest (Ar js t):=⟨Dl.rZ (js:=js) (h:=h.h)⟩
def Bx{lo hi:Option Expr}{tl th:DO}(he:WD X e te)(hl:WDO X lo tl)(hh:WDO X hi th):WD X (.Subscript e (.Slice lo hi none p2) pos) (Rg te tl th):=⟨Dl.Bx (he:=he.h) (hl:=hl.h) (hh:=hh.h)⟩
def vh{ps:Pos}(hc:X.calm=true)(hm:X.mg "min"=none)(ha:WDA X [a] t)(hg:Gl X "min":=by rfl)(he:zS X a []:=by rfl)(hpl:zP X pos []:=by rfl):WD X (.Call (.Name "min" ps) [a] [] pos) (tCl (Qs (λi j=>if j<i then j else i) (λM a=>M<=a)) t):=⟨Dl.vh (hc:=hc) (hm:=hm) (ha:=ha.h) (hg:=hg) (he:=he) (hpl:=hpl)⟩
def qm{ps:Pos}(hc:X.calm=true)(hm:X.mg "sum"=none)(ha:WDA X [a] t)(hg:Gl X "sum":=by rfl)(he:zS X a []:=by rfl)(hpl:zP X pos []:=by rfl):WD X (.Call (.Name "sum" ps) [a] [] pos) (tCl Jd t):=⟨Dl.qm (hc:=hc) (hm:=hm) (ha:=ha.h) (hg:=hg) (he:=he) (hpl:=hpl)⟩
end
section
def dF[Gr]{T:String}{x:Str}{e:Expr}{te:DE}{ps pt pos:Pos}(hk:∀t:Value,(t=.type "NoneType"\/t=.type "bool"\/t=.type "int"\/t=.type "str"\/t=.type "list"\/t=.type "tuple"\/t=.type "dict")->∃n,t=.type n/\Ŷ X.K t (.type T)=some (n == T || (T == "int"&&n == "bool")))(hm:X.mg "isinstance"=none)(he:WD X e te)(hT:WC X (.Name x pt) (.ty T))(hg:Gl X "isinstance":=by rfl)(h1:starEach [e,.Name x pt] X.env=(false,eval e X.env)::starEach [.Name x pt] X.env:=by rfl)(h2:starEach [.Name x pt] X.env=(false,eval (.Name x pt) X.env)::starEach [] X.env:=by rfl)(hpl:(backTo pos (starEach [.Name x pt] X.env)).any (·.1)=false:=by rfl) :
  WD X (.Call (.Name "isinstance" ps) [e,.Name x pt] [] pos) (tIs T te):=⟨Dl.dF hk hm he.h hT.h hg h1 h2 hpl⟩
end
end Wr
set_option autoImplicit false
set_option autoImplicit true
namespace Wr
open PySem L2 PyProof.Rows Dl
section
variable [Gr] {X:Cx}{tj te:DE}
end
section
variable [Gr] {X:Cx}{tj te te1 te2 ta:DE}{t:DS}
end
end Wr
namespace Dl
open PySem L2 PyProof.Rows
section
variable {X:Cx}{pins:List (Addr×Obj)}{σ:L2.St}{H:Hp}{s:Shared}{ok ok':Addr->Prop}
mutual
def Rp.gn(I:Inv X pins σ H s):∀{v:V}{d:D}{u:Value},Rp ok H v d->RelV v u->∃as,Reads s.heap u d as/\∀a∈as,H a≠none
 |_,_,_,.non,r=>by cases r;exact⟨_,.none,λ_ h=>nomatch h⟩
 |_,_,_,.bl b,r=>by cases r;exact⟨_,.bool b,λ_ h=>nomatch h⟩
 |_,_,_,.int i,r=>by obtain⟨t,rfl⟩:=r;exact⟨_,.int i t,λ_ h=>nomatch h⟩
 |_,_,_,.str x,r=>by obtain⟨t,rfl⟩:=r;exact⟨_,.str x t,λ_ h=>nomatch h⟩
 |_,_,_,.lst o h rs,r=>by
  cases r
  obtain⟨its,rv,pl,_⟩:=I.list (SqL.of h)
  obtain⟨as,ra,na⟩:=Rps.gn I rs rv
  obtain⟨ob,ho,hc,n,hd⟩:=pl.isList
  refine⟨_,.list ho hc hd (by simpa using ra),λb hb=>?_⟩
  rcases Ð.mp hb with rfl|hb
  ·rw[h];exact λz=>nomatch z
  ·exact na b hb
 |_,_,_,.tup h rs,r=>by
  cases r
  obtain⟨its,rv,pl,_⟩:=I.tuple (SqT.of h)
  obtain⟨as,ra,na⟩:=Rps.gn I rs rv
  obtain⟨ob,ho,hc,n,hd⟩:=pl
  exact⟨_,.tuple ho hc hd (by simpa using ra),na⟩
 |_,_,_,.dct (a:=a) (kvs:=kvs) (ds:=ds) o h rs,r=>by
  cases r
  obtain⟨_,_,vs,rel,ob,es,ep,ho,hc,hd,_,hp,_⟩:=TX I.hok h
  obtain⟨as,bs,ra,rb,na⟩:=Rkv.gn I rs rel hp
  refine⟨_,.dict ho hc.1 hd ra rb,λb hb=>?_⟩
  rcases â.mp hb with hb|hb
  ·rcases Ð.mp hb with rfl|hb
   ·rw[h];exact λz=>nomatch z
   ·exact na b (.inl hb)
  ·exact na b (.inr hb)
def Rps.gn(I:Inv X pins σ H s):∀{v:List V}{d:List D}{u:List Value},Rps ok H v d->Vals v u->∃as,ReadsAll s.heap u d as/\∀a∈as,H a≠none
 |_,_,_,.nil,r=>by cases r;exact⟨[],.nil,λ_ h=>nomatch h⟩
 |_,_,_,.cons h t,r=>by
  cases r with
  |cons a b =>
   obtain⟨as,ra,na⟩:=Rp.gn I h a
   obtain⟨bs,rb,nb⟩:=Rps.gn I t b
   exact⟨_,.cons ra rb,λc hc=>(â.mp hc).elim (na c) (nb c)⟩
def Rkv.gn(I:Inv X pins σ H s):∀{kvs:List (Key×V)}{ds:List (D×D)}{vs:List (Key×Value)}{es:List DictEntry},Rkv ok H kvs ds->KV kvs vs->Pairs (nC X.prog X.w) es vs->∃as bs,ReadsAll s.heap (es.map (·.key)) (ds.map (·.1)) as/\ReadsAll s.heap (es.map (·.val)) (ds.map (·.2)) bs/\∀a,a∈as\/a∈bs->H a≠none
 |_,_,_,_,.nil,r,p=>by
  cases r
  cases p
  exact⟨[],[],.nil,.nil,λ_ h=>h.elim (λh=>nomatch h) λh=>nomatch h⟩
 |_,_,_,_,.cons h t,r,p=>by
  cases r with
  |cons a b =>
   cases p with
   |cons p1 p2 p3 =>
    obtain⟨a1,a2⟩:=a
    obtain⟨as,bs,ra,rb,nb⟩:=Rkv.gn I t b p3
    obtain⟨cs,rc,nc⟩:=Rp.gn I h a2
    have p1':IV _ _=true:=p1
    rw[←a1] at p1'
    rw[←p2] at rc
    rcases bx p1' with ⟨i,tk,e1,e2⟩|⟨x,tk,e1,e2⟩
    ·refine⟨_,_,.cons (as:=[]) ?_ ra,.cons rc rb,λc hc=>?_⟩
     ·dsimp only at e1 ⊢;rw[e2,e1]
      exact .int i tk
     ·rcases hc with hc|hc
      ·exact nb c (.inl hc)
      ·exact(â.mp hc).elim (nc c) λz=>nb c (.inr z)
    ·refine⟨_,_,.cons (as:=[]) ?_ ra,.cons rc rb,λc hc=>?_⟩
     ·dsimp only at e1 ⊢;rw[e2,e1]
      exact .str x tk
     ·rcases hc with hc|hc
      ·exact nb c (.inl hc)
      ·exact(â.mp hc).elim (nc c) λz=>nb c (.inr z)
end
mutual
def Rp.lG(f:∀a o,ok a->((∀xs,o≠.tup xs)/\¬Fxd o)->H a=some o->ok' a):∀{v:V}{d:D},Rp ok H v d->Rp ok' H v d
 |_,_,.non=>.non
 |_,_,.bl b=>.bl b
 |_,_,.int i=>.int i
 |_,_,.str x=>.str x
 |_,_,.lst o h r=>.lst (f _ _ o ⟨(λ_ z=>by cases z),λ⟨_,_,z⟩=>by cases z⟩ h) h (Rps.lG f r)
 |_,_,.tup h r=>.tup h (Rps.lG f r)
 |_,_,.dct o h r=>.dct (f _ _ o ⟨(λ_ z=>by cases z),λ⟨_,_,z⟩=>by cases z⟩ h) h (Rkv.lG f r)
def Rps.lG(f:∀a o,ok a->((∀xs,o≠.tup xs)/\¬Fxd o)->H a=some o->ok' a):∀{v:List V}{d:List D},Rps ok H v d->Rps ok' H v d
 |_,_,.nil=>.nil
 |_,_,.cons h r=>.cons (Rp.lG f h) (Rps.lG f r)
def Rkv.lG(f:∀a o,ok a->((∀xs,o≠.tup xs)/\¬Fxd o)->H a=some o->ok' a):∀{v:List (Key×V)}{d:List (D×D)},Rkv ok H v d->Rkv ok' H v d
 |_,_,.nil=>.nil
 |_,_,.cons h r=>.cons (Rp.lG f h) (Rkv.lG f r)
end
end
def zN(d:D):Prop:=d.showable=true/\d.depth<=50/\d.shown.length<=sizeLine
def CW(base:Heap):Prop:=∃o,base.get? sysModules=some o
section
variable {X:Cx}{pos:Pos}{a e:Expr}{te:DE}{t:DA} [Gr]
def Ay(hS:CW X.base)(hg:X.A.guards=some [])(hu:X.A.units+64<cLine):bK X (.builtin "repr") (λxs H Q=>∃ok v d,xs=[v]/\Rp ok H v d/\zN d/\Q (.str d.shown) H):=by
 intro pins s σ H xs us Q I r h
 obtain⟨ok,v,d,rfl,rd,⟨o2,o3,o4⟩,q⟩:=h
 obtain⟨u,rfl,r1⟩:=vals1 r
 have fin:∀(x:Str) (tk:Tok),x=d.shown->EP X pins σ Q (.str x tk) { s with toks:=s.toks+1 }:=λx tk e=>by subst e;exact⟨.str d.shown,H,I.tok _,⟨tk,rfl⟩,q⟩
 have big:∀a,v=.ref a->wpAny (model X.prog X.w) X.A (call (.builtin "repr") [u]) (EP X pins σ Q) X.xe s:=λa ea=>by
  subst ea
  obtain⟨as,ra,na⟩:=rd.gn I r1
  cases r1
  obtain⟨o,ho⟩:=hS
  refine repr_of_reads' (h₀:=s.heap) ra o2 (λ_ hm=>na _ hm (I.bs _ _ ho).2) hg (by omega) (λ_ _ e=>e) (λh' u tk k=>?_) o4
  exact⟨.str d.shown,H,I.kept k,⟨_,rfl⟩,q⟩
 cases rd with
 |non=>cases r1;exact PySem.P.repr_of_none (fin _ _ rfl)
 |bl b=>cases r1;exact PySem.P.repr_of_bool (fin _ _ (by cases b <;> rfl))
 |int i =>
  obtain⟨t,rfl⟩:=r1
  exact PySem.P.repr_of_int (of_decide_eq_true o2) (fin _ _ rfl)
 |str x =>
  obtain⟨t,rfl⟩:=r1
  exact PySem.P.repr_of_str (fin _ _ rfl) o4
 |lst o h rs=>exact big _ rfl
 |tup h rs=>exact big _ rfl
 |dct o h rs=>exact big _ rfl
def Je:GC:=λks P=>∃k d,ks=[(k,d)]/\zN d/\P .imm (.str d.shown)
def gQ{ps:Pos}(hS:CW X.base)(hgd:X.A.guards=some [])(hu:X.A.units+64<cLine)(hm:X.mg "repr"=none)(ha:PDA X [a] t)(hg:Gl X "repr":=by rfl)(he:zS X a []:=by rfl)(hpl:zP X pos []:=by rfl):PD X (.Call (.Name "repr" ps) [a] [] pos) (tCl Je t) :=
 cN (Ay hS hgd hu) (by
  intro p H0 own Hb H vs ks P Q A r t q
  obtain⟨k,d,rfl,o,t⟩:=t
  obtain⟨v,rfl,r'⟩:=fG r
  exact⟨_,v,d,rfl,r',o,q _ _ _ _ t Kp.refl A.pen (.str _)⟩) hg hm boot_repr ha (by decide) (by decide) he hpl
end
def spR(f:List D->(D->Prop)->Prop):Sp:=λvs H Q _=>∃ok ds P,Rps ok H vs ds/\f ds P/\∀d v H',P d->Same H H'->Rp (λa=>ok a\/H a=none) H' v d->Q v H'
def vM{f:List D->(D->Prop)->Prop}{n:Nat}(hn:∀ds P,f ds P->ds.length=n:=by intro _ _ h;repeat (first|(obtain⟨rfl,_⟩:=h;rfl)|obtain⟨_,h⟩:=h)):∀vs H Q E,spR f vs H Q E->vs.length=n:=λvs H Q E h=>by
 obtain⟨ok,ds,P,r,t,_⟩:=h
 rw[r.length]
 exact hn ds P t
section
variable [Gr]
abbrev DR:=(D->Prop)->List Sl->Prop
structure WishR(p:Pn)(own:Addr->Option Nat)(H:Hp)(P:D->Prop)(Q:Ends):Prop where
 rt:∀d v H',P d->p.PI H'->(∀b o,H b=some o->¬p.fp b->own b=none->H' b=some o)->Rp (λa=>¬p.fp a) H' v d->Q.rt v H'
def M8(t:DR):TS:=λQ σ H=>∃p H0 own ρ P,EnvD p H0 own σ H ρ/\t P ρ/\WishR p own H P Q
structure WR(X:Cx)(ss:List Stmt)(t:DR):Prop where
 h:PSs X ss (M8 t)
def RV(te:DE):DR:=λP ρ=>te ρ λ_ d=>P d
def RQ(t:DS)(u:DR):DR:=λP ρ=>t { nx:=u P,rt:=λ_=>False } ρ
variable {X:Cx}{pos:Pos}{e:Expr}{te:DE}{st:Stmt}{rest:List Stmt}{t:DS}{u:DR}
def yX(he:Wr.WD X e te):WR X [.Return (some e) pos] (RV te):=⟨PSs.wk' (u6 (gq he.h)) (by
 rintro Q σ H ⟨p,H0,own,ρ,P,E,t,w⟩
 exact⟨p,H0,own,ρ,_,E,t,λk d v H' h A r=>w.rt d v H' h A.pen (λb o e n _=>A.kp b o e n) (r.mono (λa o=>j8 A o) (λ_ _ _ e=>e) λ_ _ e=>e)⟩)⟩
def uX(h1:Wr.WDS X st t)(h2:WR X rest u):WR X (st::rest) (RQ t u):=⟨PSs.wk' (gJ h1.h h2.h) (by
 rintro Q σ H ⟨p,H0,own,ρ,P,E,t,w⟩
 refine⟨p,H0,own,ρ,_,E,t,⟨λo s h r e g n=>⟨p,H0,o,r,P,e,n,⟨λd v H' hP hI hk rp=>w.rt d v H' hP hI (λb ob e1 n1 o1=>?_) rp⟩⟩,λ_ _ _ n=>n.elim,λ_ _ _ _ _ _ n=>n.elim,λ_ _ _ _ _ _ n=>n.elim⟩⟩
 obtain⟨e2,o2⟩:=g.keep b ob e1 n1 o1
 exact hk b ob e2 n1 o2)⟩
def Ak{f:List D->(D->Prop)->Prop}{T:DR}{N:List Str}{vs:List V}{H:Hp}{Q:VK}{E:XK}(h:spR f vs H Q E)(body:∀ds P,f ds P->∃ρ,ds.map bG++Æ (N.length - ds.length) .any=ρ/\T P ρ)(g:∀p,Gr.G p H:=by intro _;trivial):M8 T { nx:=λ_ H'=>Q .non H',rt:=Q } (L2.start N vs) H:=by
 obtain⟨ok,ds,P,r,t,q⟩:=h
 obtain⟨ρ,e,b⟩:=body ds P t
 let p:Pn:=⟨λa=>¬ok a/\∃o,H a=some o/\(∀xs,o≠.tup xs)/\¬Fxd o,λH'=>∀b o,¬ok b->H b=some o->((∀xs,o≠.tup xs)/\¬Fxd o)->H' b=some o,.non,
  λH1 H2 h1 h2 b o n e1 e2=>h2 b o (.inl ⟨n,o,e1,e2⟩) (h1 b o n e1 e2),λH1 b h1 ⟨n,o,e1,e2⟩=>⟨o,h1 b o n e1 e2,e2⟩⟩
 have E:=eZ (p:=p) (N:=N) (g p) (λb o _ e _=>e) (r.mono (ok':=λa=>¬p.fp a) (λa o z=>z.1 o) (λ_ _ _ e=>e) λ_ _ e=>e)
 rw[r.length] at E
 rw[e] at E
 refine⟨p,H,λ_=>none,_,_,E,b,⟨λd v H' hP hI hk rp=>?_⟩⟩
 have sm:Same H H':=λb o e=>by
  by_cases hf:p.fp b
  ·obtain⟨n,o',e1,e2⟩:=hf
   rw[e] at e1
   cases e1
   exact hI b o n e e2
  ·exact hk b o e hf rfl
 refine q d v H' hP sm (rp.lG λa o n1 n2 e1=>?_)
 cases hx:H a with
 |none=>exact .inr rfl
 |some o' =>
  have e2:=sm a o' hx
  rw[e1] at e2
  cases e2
  exact .inl (ħ λz=>n1 ⟨z,o,hx,n2⟩)
def Ut(f:List D->(D->Prop)->Prop)(t:DA):DE:=λρ P=>t ρ λks=>(ks.all λk=>k.1.le .shr)=true/\f (ks.map (·.2)) λd=>P (norm .shr d) d
def Bp{p:Pn}{H0 Hb H H2:Hp}{own:Addr->Option Nat}(A:At p H0 own Hb H):∀{vs:List V}{ks:List (Kd×D)},RpK p H0 own Hb H2 vs ks->(ks.all λk=>k.1.le .shr)=true->Rps (okK p H0 own Hb .shr) H2 vs (ks.map (·.2))
 |_,_,.nil,_=>.nil
 |_,_,.cons h t,q=>by
  rw[List.all_cons,Ù] at q
  exact .cons (mK A q.1 h) (Bp A t q.2)
variable {k j:Nat}{x:Str}{ps:List Str}{es:List Expr}{ta:DA}{p:Pos}
def dcR{f:List D->(D->Prop)->Prop}(C:Cal X.prog X.w X.K X.mg X.base k x ps (spR f))(hr:Room j X.A)(ha:Wr.WDA X (e::es) ta)(hk:k<=j:=by decide)(hg:Gl X x:=by rfl)(hdb:zB x:=by decide)(he:zS X e es:=by rfl)(hpl:zP X pos es:=by rfl) :
  Wr.WD X (.Call (.Name x p) (e::es) [] pos) (Ut f ta):=⟨PE.wk (pcS C hr ha.h hk hg hdb he hpl) (by
 rintro σ H Q ⟨p,H0,own,ρ,P,E,t,q⟩
 refine⟨p,H0,own,ρ,_,E,t,λks vs H1 h A r=>?_⟩
 show spR f (vs++[]) H1 Q E0
 rw[ê]
 refine⟨_,ks.map (·.2),_,Bp A r h.1,h.2,λd v H' h2 s r2=>?_⟩
 have k2:Kp p H1 H':=Kp.of s
 refine q _ d v H' h2 (A.go k2 (p.mono H1 H' A.pen λb o _ e=>s b o e)) (aX ?_)
 refine r2.mono (λa o=>?_) (λ_ _ _ e=>e) λ_ _ e=>e
 rcases o with o|o
 ·exact o
 ·exact bZ A (j:=.new) (k:=.shr) rfl (A.free o))⟩
end
end Dl
namespace Wr
open PySem L2 PyProof.Rows Dl
variable [Gr] {X:Cx}{pos:Pos}{a:Expr}{t:DA}
def gQ{ps:Pos}(hS:CW X.base)(hgd:X.A.guards=some [])(hu:X.A.units+64<cLine)(hm:X.mg "repr"=none)(ha:WDA X [a] t)(hg:Gl X "repr":=by rfl)(he:zS X a []:=by rfl)(hpl:zP X pos []:=by rfl):WD X (.Call (.Name "repr" ps) [a] [] pos) (tCl Je t):=⟨Dl.gQ hS hgd hu hm ha.h hg he hpl⟩
end Wr
namespace Dl
open PySem L2 PyProof.Rows
variable [Gr]
section
variable {X:Cx}{pos:Pos}{st:Stmt}{rest:List Stmt}{t u:DS}{te tj t1 t2:DE}
def pB(t u:DS):DS:=λP ρ=>∃M:List Sl->Prop,t { P with nx:=M } ρ/\∀ρ',M ρ'->u P ρ'
end
end Dl
namespace Wr
open PySem L2 PyProof.Rows Dl
section
variable [Gr] {X:Cx}{tj te t1 t2:DE}{t u:DS}
end
end Wr
set_option autoImplicit false
namespace L2
open PySem PySem.Spec PyProof.Rows
section
variable {X:Cx}{k:Nat}{f CF:Addr}{fd:FuncData}{ps:List Str}{sp:Sp}{E:XK}{x hx n:Str}{p np cpos epos hpos pos:Pos}{e:Expr}{es:List Expr}{t:TA}{b₀:Stmt}{suite:List Stmt}{ts:TS}{j:Nat}
end
section
variable {X:Cx}{k:Nat}{f CF:Addr}{fd:FuncData}{ps:List Str}{sp:Sp}{E:XK}{x hx n:Str}{p np cpos epos hpos pos:Pos}{e:Expr}{es:List Expr}{t:TA}{b₀:Stmt}{suite:List Stmt}{ts:TS}{j:Nat}
end
end L2
namespace Dl
open PySem L2 PyProof.Rows
section
variable [Gr] {X:Cx}{pos:Pos}{a:Expr}{t:DA}
def boot_str:bootBuiltins "str"=some (.type "str"):=by decide +kernel
end
end Dl
namespace Wr
open PySem L2 PyProof.Rows Dl
section
variable [Gr] {X:Cx}{pos:Pos}{a:Expr}{t:DA}
end
end Wr
namespace Dl
open PySem L2 PyProof.Rows
structure Ext(p q:Pn):Prop where
 pv:q.pv=p.pv
 fp:∀a,p.fp a->q.fp a
 pi:∀H,q.PI H->p.PI H
 go:∀H H',q.PI H->Kp p H H'->p.PI H'->q.PI H'
def CE(C:Pn->Prop)(q:Pn):Prop:=∃p,C p/\Ext p q
section
variable [Gr]
variable {X:Cx}{pos:Pos}{c:Expr}{a rest:List Stmt}{tc:DT}{t u:DR}
variable {k j i:Nat}{x y:Str}{ps:List Str}{es:List Expr}{ta:DA}{pp py:Pos}
end
end Dl
namespace L2
open PySem PySem.Spec PyProof.Rows Builtin
section
variable {X:Cx}
end
end L2
namespace Dl
open PySem L2 PyProof.Rows
section
variable [Gr]
variable {X:Cx}{pos:Pos}{a b e:Expr}{ta tb te:DE}{p1 p2 p3:Pos}
end
end Dl
namespace Wr
open PySem L2 PyProof.Rows Dl
section
variable [Gr] {X:Cx}{pos:Pos}{a b e:Expr}{ta tb te:DE}{p1 p2 p3:Pos}
end
end Wr
namespace L2
open PySem PySem.Spec PyProof.Rows Builtin
section
variable {X:Cx}
end
end L2
namespace Dl
open PySem L2 PyProof.Rows
section
variable [Gr] {X:Cx}{pos p2:Pos}{a b e:Expr}{t:DA}{ta tb te:DE}
end
end Dl
namespace Wr
open PySem L2 PyProof.Rows Dl
section
variable [Gr] {X:Cx}{pos p2:Pos}{a b e:Expr}{t:DA}{ta tb te:DE}
end
end Wr
namespace Dl
open PySem L2 PyProof.Rows
variable [Gr]
section
variable {X:Cx}{st st2:Stmt}{rest:List Stmt}{te1 te2:DE}{tt:DT}{tr:TS}{t:DS}
end
section
variable {X:Cx}{own:List Str}{scope:Scope}{tg iter elt:Expr}{ifs:List Expr}{pos:Pos}{g:DG}{tt:DT}{te:DE}
end
end Dl
namespace Wr
open PySem L2 PyProof.Rows Dl
variable [Gr]
section
variable {X:Cx}{te1 te2:DE}{tt:DT}{tr:TS}{t:DS}
end
end Wr
namespace PySem
open PySem.W PyProof.Rows PySem.Spec
section
variable {prog:Program}{w:World}{A:Around}{E:Value->Shared->Prop}{s:Shared}{it l:Addr}{items:Array Value}
end
end PySem
namespace L2
open PySem PySem.Spec PyProof.Rows
section
variable {X:Cx}
end
end L2
namespace Dl
open PySem L2 PyProof.Rows
section
variable [Gr] {X:Cx}{a:Expr}{t:DA}
end
end Dl
namespace Wr
open PySem L2 PyProof.Rows Dl
section
variable [Gr] {X:Cx}{a:Expr}{t:DA}
end
end Wr
namespace L2
open PySem PyProof.Rows
section
variable {X:Cx}{pins:List (Addr×Obj)}{σ:List (Option V)}{H:Hp}{s:Shared}
end
end L2
namespace Dl
open PySem L2 PyProof.Rows
variable [Gr]
section
variable {X:Cx}{pos pos':Pos}{a:Expr}{t:DA}
end
end Dl
namespace Wr
open PySem L2 PyProof.Rows Dl
section
variable [Gr] {X:Cx}{pos pos':Pos}{a:Expr}{t:DA}
end
end Wr
namespace L2
open PySem PySem.Spec PyProof.Rows
open PySem.AutoSeq1 (wpAny_loadPart')
open PySem.MeetsSeq PySem.MeetsSeq3
def rN:List Int->List Int->Bool
 |[],[]=>false
 |[],_::_=>true
 |_::_,[]=>false
 |x::a,y::b=>if x=y then rN a b else decide (x<y)
def lex_nil(b:List Int):rN [] b=decide (0<b.length):=by cases b <;> rfl
def ints_get:∀{vs:List Value}{ns:List Int},IntsAre vs ns->∀{i:Nat}{x:Int},ns[i]?=some x->∃t,vs[i]?=some (.int x t)
 |_,_,.nil,i,x,e=>by simp at e
 |_,_,.cons y t r,0,x,e=>by
  have e:some y=some x:=e
  cases e
  exact⟨t,rfl⟩
 |_,_,.cons y t r,i+1,x,e=>by
  obtain⟨t',h⟩:=ints_get r (i:=i) (x:=x) (by simpa using e)
  exact⟨t',by simpa using h⟩
def Ca{items:Array Value}{ns:List Int}(h:IntsAre items.toList ns){i:Nat}{x:Int}(hx:ns[i]?=some x):∃t,items[((i:Nat):Int).toNat]?=some (.int x t):=by
 obtain⟨t,e⟩:=ints_get h hx
 exact⟨t,by simpa using e⟩
def K4(l b:Addr)(items items2:Array Value)(n n2:Nat)(dd dd2:Option Addr)(sl sl2:Array (Option Value))(ns ms:List Int)(h1:IntsAre items.toList ns)(h2:IntsAre items2.toList ms)(k:Nat) :
  ∀i:Nat,i<=ns.length->i<=ms.length->ns.length - i=k->Meets (Builtin.«list.__eq__.loop» ⟨[.ref l,.ref b,rawInt i,rawInt 0],[]⟩)
   (λ_ R s=>s.heap.get? l=some { cls:=.type "list",dict:=dd,data:=.seq items n,slots:=sl }/\s.heap.get? b=some { cls:=.type "list",dict:=dd2,data:=.seq items2 n2,slots:=sl2 } /\
    R (.ok (.ret (.bool (rN (ns.drop i) (ms.drop i))))) s):=by
 have s1:items.size=ns.length:=by have:=h1.length;simpa using this
 have s2:items2.size=ms.length:=by have:=h2.length;simpa using this
 induction k with
 |zero =>
  intro i i1 i2 hk prog w A R s h
  obtain⟨hp,g,d,tk,os⟩:=s;obtain⟨hl,hb,h⟩:=h
  wp_walk using ĩ hl,ĩ hb
  have hi1:items[((i:Nat):Int).toNat]?=none:=by simp;omega
  rw[hi1]
  have hd:ns.drop i=[]:=List.drop_eq_nil_of_le (by omega)
  rw[hd,lex_nil] at h
  wp_walk using ĩ hl,ĩ hb
  show R (.ok (.ret (.bool (decide (items.size<items2.size))))) _
  have e:decide (items.size<items2.size)=decide (0<(ms.drop i).length):=by
   rw[Ĉ]
   exact decide_eq_decide.mpr (by omega)
  rw[e]
  exact h
 |succ k ih =>
  intro i i1 i2 hk prog w A R s h
  obtain⟨hp,g,d,tk,os⟩:=s;obtain⟨hl,hb,h⟩:=h
  wp_walk using ĩ hl,ĩ hb
  have hlt:i<ns.length:=by omega
  have hx:=Ç hlt
  have dx:ns.drop i=ns[i]::ns.drop (i+1):=Ŕ hlt
  rw[dx] at h
  generalize ns[i]=x at hx h
  obtain⟨t,ex⟩:=Ca h1 hx
  rw[ex]
  by_cases hlt2:i<ms.length
  ·have hy:=Ç hlt2
   have dy:ms.drop i=ms[i]::ms.drop (i+1):=Ŕ hlt2
   rw[dy] at h
   generalize ms[i]=y at hy h
   obtain⟨u,ey⟩:=Ca h2 hy
   rw[ey]
   have hc:((i:Int)+1)=((i+1:Nat):Int):=by push_cast;rfl
   have h:R (.ok (.ret (.bool (if x=y then rN (ns.drop (i+1)) (ms.drop (i+1)) else decide (x<y))))) _:=h
   refine Ã (wpAny_eqBool_int ?_)
   by_cases exy:x=y
   ·subst exy
    rw[if_pos rfl] at h
    rw[beq_self_eq_true]
    wp_walk
    rw[hc]
    exact⟨Ű plain_eq_loop _,ō entry_eq_loop (by
     rw[Ŀ plain_eq_loop _]
     exact ih (i+1) (by omega) (by omega) (by omega) prog w A R _ ⟨hl,hb,h⟩)⟩
   ·rw[if_neg exy] at h
    rw[beq_eq_false_iff_ne.mpr exy]
    wp_walk using ĩ hl,ĩ hb
    rw[ex,ey]
    refine Ã ?_
    show wpAny _ _ (compareOp .Lt (.int x t) (.int y u)) _ _ _
    exact PyProof.Rows.lt_int (Ô h)
  ·have hi2:items2[((i:Nat):Int).toNat]?=none:=by simp;omega
   rw[hi2]
   have hd:ms.drop i=[]:=List.drop_eq_nil_of_le (by omega)
   rw[hd] at h
   have h:R (.ok (.ret (.bool false))) _:=h
   wp_walk using ĩ hl,ĩ hb
   show R (.ok (.ret (.bool (decide (items.size<items2.size))))) _
   rw[decide_eq_false (by omega)]
   exact h
def K8(l b:Addr)(items items2:Array Value)(n n2:Nat)(dd dd2:Option Addr)(sl sl2:Array (Option Value))(ns ms:List Int)(h1:IntsAre items.toList ns)(h2:IntsAre items2.toList ms) :
  Meets (Builtin.«list.__lt__» ⟨[.ref l,.ref b],[]⟩)
   (λ_ R s=>s.heap.get? l=some { cls:=.type "list",dict:=dd,data:=.seq items n,slots:=sl }/\s.heap.get? b=some { cls:=.type "list",dict:=dd2,data:=.seq items2 n2,slots:=sl2 } /\
    R (.ok (.ret (.bool (rN ns ms)))) s):=by
 intro prog w A R s h
 obtain⟨hp,g,d,tk,os⟩:=s;obtain⟨hl,hb,h⟩:=h
 have f3:=AutoSeq1.sub_list_list
 wp_walk using ĩ hl,ĩ hb
 exact⟨Ű plain_eq_loop _,ō entry_eq_loop (by
  rw[Ŀ plain_eq_loop _]
  exact K4 l b items items2 n n2 dd dd2 sl sl2 ns ms h1 h2 _ 0 (ú _) (ú _) rfl prog w A R _ ⟨hl,hb,h⟩)⟩
def aU:Nat->List Int->Int
 |0,_=>0
 |_+1,[]=>0
 |k+1,x::l=>(x+1) * 64 ^ k+aU k l
def iH(l:List Int):Prop:=l.length<=40/\∀x∈l,0<=x/\x<62
def gK(k:Nat):(0:Int)<64 ^ k:=Int.pow_pos (by decide)
def jO:∀(k:Nat) (l:List Int),(∀x∈l,0<=x/\x<62)->0<=aU k l/\aU k l<64 ^ k
 |0,l,_=>⟨Ą _,by show(0:Int)<64 ^ 0;decide⟩
 |k+1,[],_=>⟨Ą _,gK _⟩
 |k+1,x::l,h=>by
  obtain⟨h1,h2⟩:=jO k l λy hy=>h y (Ä _ hy)
  have hx:=h x Å
  have p:=gK k
  have e:(64:Int) ^ (k+1)=64 ^ k * 64:=Int.pow_succ ..
  show 0<=(x+1) * 64 ^ k+aU k l/\(x+1) * 64 ^ k+aU k l<64 ^ (k+1)
  rw[e]
  generalize (64:Int) ^ k=M at *
  have a1:0<=(x+1) * M:=Int.mul_nonneg (by omega) (by omega)
  have a2:(x+1) * M<=62 * M:=Int.mul_le_mul_of_nonneg_right (by omega) (by omega)
  omega
def nG:∀(k:Nat) (a b:List Int),a.length<=k->b.length<=k->(∀x∈a,0<=x/\x<62)->(∀x∈b,0<=x/\x<62)->rN a b=decide (aU k a<aU k b)
 |0,[],[],_,_,_,_=>rfl
 |k+1,[],[],_,_,_,_=>rfl
 |k+1,[],y::b,_,_,_,hb=>by
  have h1:=(jO k b λz hz=>hb z (Ä _ hz)).1
  have hy:=hb y Å
  have p:=gK k
  have e:(0:Int)<(y+1) * 64 ^ k+aU k b:=by
   have:0<(y+1) * 64 ^ k:=Int.mul_pos (by omega) p
   omega
  exact(decide_eq_true e).symm
 |k+1,x::a,[],_,_,ha,_=>by
  have h1:=(jO k a λz hz=>ha z (Ä _ hz)).1
  have hx:=ha x Å
  have p:=gK k
  have e:¬(x+1) * 64 ^ k+aU k a<0:=by
   have:0<(x+1) * 64 ^ k:=Int.mul_pos (by omega) p
   omega
  exact(decide_eq_false e).symm
 |k+1,x::a,y::b,la,lb,ha,hb=>by
  have ih:=nG k a b (by simpa using la) (by simpa using lb) (λz hz=>ha z (Ä _ hz)) λz hz=>hb z (Ä _ hz)
  have h1:=jO k a λz hz=>ha z (Ä _ hz)
  have h2:=jO k b λz hz=>hb z (Ä _ hz)
  have p:=gK k
  show(if x=y then rN a b else decide (x<y))=decide ((x+1) * 64 ^ k+aU k a<(y+1) * 64 ^ k+aU k b)
  generalize (64:Int) ^ k=M at *
  by_cases e:x=y
  ·subst e
   rw[if_pos rfl,ih]
   exact decide_eq_decide.mpr (by omega)
  ·rw[if_neg e]
   refine decide_eq_decide.mpr ⟨λh=>?_,λh=>?_⟩
   ·have a2:(x+1+1) * M<=(y+1) * M:=Int.mul_le_mul_of_nonneg_right (by omega) (by omega)
    have a3:(x+1+1) * M=(x+1) * M+M:=by rw[Int.add_mul (x+1) 1 M,Int.one_mul]
    omega
   ·by_cases hlt:x<y
    ·exact hlt
    ·have a2:(y+1+1) * M<=(x+1) * M:=Int.mul_le_mul_of_nonneg_right (by omega) (by omega)
     have a3:(y+1+1) * M=(y+1) * M+M:=by rw[Int.add_mul (y+1) 1 M,Int.one_mul]
     omega
 |0,_::_,_,h,_,_,_=>absurd h (Nat.not_succ_le_zero _)
 |0,[],_::_,_,h,_,_=>absurd h (Nat.not_succ_le_zero _)
def BP:∀{a b:List Int},rN a b=false->rN b a=false->a=b
 |[],[],_,_=>rfl
 |[],_::_,h,_=>by cases h
 |_::_,[],_,h=>by cases h
 |x::a,y::b,h1,h2=>by
  have h1:(if x=y then rN a b else decide (x<y))=false:=h1
  have h2:(if y=x then rN b a else decide (y<x))=false:=h2
  by_cases e:x=y
  ·subst e
   rw[if_pos rfl] at h1 h2
   rw[BP h1 h2]
  ·rw[if_neg e] at h1
   rw[if_neg (λz=>e z.symm)] at h2
   have:=of_decide_eq_false h1
   have:=of_decide_eq_false h2
   omega
def DY{a b:List Int}(ha:iH a)(hb:iH b)(h:aU 40 a=aU 40 b):a=b:=by
 refine BP ?_ ?_
 ·rw[nG 40 a b ha.1 hb.1 ha.2 hb.2,h]
  exact decide_eq_false (Int.lt_irrefl _)
 ·rw[nG 40 b a hb.1 ha.1 hb.2 ha.2,h]
  exact decide_eq_false (Int.lt_irrefl _)
def Er{us vs:List (List Int)}(hp:us.Perm vs)(h1:us.Pairwise λa b=>aU 40 a<=aU 40 b)(h2:vs.Pairwise λa b=>aU 40 a<=aU 40 b)(hn:∀l∈us,iH l):us=vs:=by
 have e:us.map (aU 40)=vs.map (aU 40):=W.ksm_same (hp.map _) (by rw[List.pairwise_map];exact h1) (by rw[List.pairwise_map];exact h2)
 have hn2:∀l∈vs,iH l:=λl hl=>hn l (hp.mem_iff.mpr hl)
 clear hp h1 h2
 induction us generalizing vs with
 |nil=>cases vs with
  |nil=>rfl
  |cons=>cases e
 |cons a us ih=>cases vs with
  |nil=>cases e
  |cons b vs =>
   rw[æ,æ] at e
   injection e with e1 e2
   rw[DY (hn a Å) (hn2 b Å) e1,ih (λl hl=>hn l (Ä _ hl)) e2 λl hl=>hn2 l (Ä _ hl)]
def jq(h:Heap)(u:Value)(l:List Int):Prop:=∃a o its n,u=.ref a/\h.get? a=some o/\o.cls=.type "list"/\o.data=.seq its n/\IntsAre its.toList l
def jq.keep{h h':Heap}{u:Value}{l:List Int}(x:jq h u l)(k:∀a o,u=.ref a->h.get? a=some o->h'.get? a=some o):jq h' u l:=by
 obtain⟨a,o,its,n,e,ho,hc,hd,hi⟩:=x
 exact⟨a,o,its,n,e,k a o e ho,hc,hd,hi⟩
def R4{α β:Type}{F G:α->β->Prop}{l₁:List α}{l₂:List β}(h:Paired F l₁ l₂)(f:∀a b,a∈l₁->F a b->G a b):Paired G l₁ l₂:=by
 induction h with
 |nil=>exact .nil
 |cons r t ih=>exact .cons (f _ _ Å r) (ih λa b ha x=>f a b (Ä _ ha) x)
def R3{α β:Type}{F:α->β->Prop}{l₁:List α}{l₂:List β}(h:Paired F l₁ l₂):∀{a:α},a∈l₁->∃b,b∈l₂/\F a b:=by
 induction h with
 |nil=>intro a ha;cases ha
 |cons r t ih =>
  intro a ha
  rcases Ð.mp ha with rfl|ha
  ·exact⟨_,Å,r⟩
  ·obtain⟨b,hb,x⟩:=ih ha
   exact⟨b,Ä _ hb,x⟩
section
variable {prog:Program}{w:World}{A:Around}{E:Value->Shared->Prop}{s:Shared}
def zY{M:Model}{us:List Value}{ts:List (List Int)}(hp:Paired (jq s.heap) us ts)(v:Value)(hv:v∈us):W.Looks M s.heap (typeOf v) (.type "list"):=by
 obtain⟨l,_,a,o,its,n,rfl,ho,hc,_⟩:=R3 hp hv
 exact W.kitAt_ty M _ ⟨o,ho,hc⟩
def Im{us:List Value}{ts:List (List Int)}(hp:Paired (jq s.heap) us ts){u:Value}(hv:u∈us):u≠.ref (s.heap.objs.size+1):=by
 obtain⟨l,_,a,o,its,n,rfl,ho,hc,_⟩:=R3 hp hv
 intro z
 have z:a=s.heap.objs.size+1:=by injection z
 rw[z] at ho
 exact absurd (Î ho) (Nat.not_lt.mpr (ĳ _))
def Il{x y:Value}{a b:List Int}{Q:Bool->Shared->Prop}(hu:A.units<cLine)(hx:jq s.heap x a)(hy:jq s.heap y b)(na:iH a)(nb:iH b)(h:Q (decide (aU 40 a<aU 40 b)) s):wpAny (model prog w) A (keyLt' oneType' x y) Q E s:=by
 obtain⟨p,⟨c1,d1,e1,f1⟩,its,n,rfl,ho,hc,hd,hi⟩:=hx
 obtain⟨p',⟨c2,d2,e2,f2⟩,its',n',rfl,ho',hc',hd',hi'⟩:=hy
 simp only at hc hd hc' hd'
 subst hc hd hc' hd'
 rw[←nG 40 a b na.1 nb.1 na.2 nb.2] at h
 rw[keyLt'_oneType,oneLt'_eq]
 simp only[if_true]
 refine Ã (wpAny_cRoomFor hu ?_)
 refine Ã (wpAny_callSpecialIfBound?_slot ⟨_,ho,rfl⟩ PySem.F.slot_list_lt (call_meets PySem.F.slot_list_lt ⟨_,ho,rfl⟩ PySem.F.entry_list_lt (PySem.F.args_list_lt_2 _ _) (K8 p p' its its' n n' d1 d2 f1 f2 a b hi hi') ⟨ho,ho',?_⟩))
 exact Ĥ h
def yU{a:Addr}{us:List Value}{ts:List (List Int)}{n:Nat}{P:PySem.Fin->Shared->Prop}(ho:s.heap.get? a=some (seqObj "list" us.toArray n))(hp:Paired (jq s.heap) us ts)(hna:∀u∈us,u≠.ref a)(hu:A.units<cLine)(hn:∀t∈ts,iH t)(h64:us.length<64)(h:∀p:List Nat,p.Perm (Ý us.length)->(∀i j,i<=j->j<us.length->aU 40 (ts.getD (p.getD i 0) [])<=aU 40 (ts.getD (p.getD j 0) [])) ->
   P (.done (.ret .none)) { s with heap:=sortedHeap s.heap a us (p.map λi=>us.getD i ĕ).toArray }) :
  wpAny (model prog w) A (Builtin.«list.sort» ⟨[.ref a],[]⟩) P E s:=by
 have hlen:=hp.length
 have h24:=ï
 rw[list_sort_plain]
 have ha:a<s.heap.objs.size:=Î ho
 refine Ã (listItems_at ho rfl ?_)
 refine Ã (listUpdate_at ho rfl ?_ (by rw[Í,ï];omega) (ú _))
 obtain⟨e1,ho1⟩:∃e1,(s.heap.update a (Ü λ_=>(#[]:Array Value))).get? a=some (seqObj "list" #[] e1):=⟨_,get?_update_seq ho (λ_=>#[])⟩
 refine Ã (seqEpoch_at ho1 rfl ?_)
 refine Ã (wpAny_newTuple ?_ (by show us.length<=_;rw[ï];omega))
 refine Ã (wpAny_newList ?_ (ú _))
 refine Ē ?_
 have ho6:(((s.heap.update a (Ü λ_=>(#[]:Array Value))).push (seqObj "tuple" us.toArray 0)).push (seqObj "list" #[] 0)).get? a=some (seqObj "list" #[] e1):=by
  rw[Ę _ _ _ (by rw[size_push',Ė];exact ß (ā ha)),Ę _ _ _ (by rw[Ė];exact ß ha)]
  exact ho1
 have kept:∀b o,s.heap.get? b=some o->b≠a->(((s.heap.update a (Ü λ_=>(#[]:Array Value))).push (seqObj "tuple" us.toArray 0)).push (seqObj "list" #[] 0)).get? b=some o:=λb o q hne=>by
  have hlt:b<s.heap.objs.size:=Î q
  rw[Ę _ _ _ (by rw[size_push',Ė];exact ß (ā hlt)),Ę _ _ _ (by rw[Ė];exact ß hlt),Heap.get?_update_ne _ _ _ _ hne]
  exact q
 show wpAny (model prog w) A _ P E { s with heap:=((s.heap.update a (Ü λ_=>(#[]:Array Value))).push (seqObj "tuple" us.toArray 0)).push (seqObj "list" #[] 0) }
 dsimp only
 have hsz:us.toArray.size=us.length:=by simp
 have hp6:Paired (jq (((s.heap.update a (Ü λ_=>(#[]:Array Value))).push (seqObj "tuple" us.toArray 0)).push (seqObj "list" #[] 0))) us ts:=R4 hp λu t hm x=>x.keep λb o ub q=>kept b o q λz=>hna u hm (by rw[ub,z])
 by_cases h2:us.toArray.size<2
 ·rw[if_pos h2,if_pos h2]
  refine Ã (Ô ?_)
  rw[StateT.run_pure]
  refine Ã (Ô ?_)
  dsimp only
  have eout:(arrOf (SortSt.mk' general' (us.toArray.zip us.toArray) #[] 7 none)).map (·.2)=((Ý us.length).map λi=>us.getD i ĕ).toArray:=by
   rw[cY]
   show(us.toArray.zip us.toArray).map (·.2)=us.toArray
   apply Array.toList_inj.mp
   simp
   exact Om us
  rw[eout]
  refine Ã (seqEpoch_at ho6 rfl ?_)
  refine Ã (listUpdate_at ho6 rfl ?_ (ú _) (by rw[Í,À,ŗ,ï];omega))
  simp only[bne_self_eq_false,Ħ,if_false]
  refine Ô (h _ (List.Perm.refl _) λi j hij hj=>?_)
  have:i=j:=by omega
  subst this
  exact Ą _
 ·rw[if_neg h2,if_neg h2]
  have h2':2<=us.length:=by omega
  refine Ã (W.kas_kind (T:=.type "list") h2' (λv hv=>zY (s:={ s with heap:=((s.heap.update a (Ü λ_=>(#[]:Array Value))).push (seqObj "tuple" us.toArray 0)).push (seqObj "list" #[] 0) }) hp6 v hv) rfl rfl ?_)
  have hcmp:∀i j C,i<us.length->j<us.length->C (decide (aU 40 (ts.getD i [])<aU 40 (ts.getD j []))) { s with heap:=((s.heap.update a (Ü λ_=>(#[]:Array Value))).push (seqObj "tuple" us.toArray 0)).push (seqObj "list" #[] 0) } ->
    W.kas_cmp prog w A (oneType') (us.toArray.zip us.toArray) i j C { s with heap:=((s.heap.update a (Ü λ_=>(#[]:Array Value))).push (seqObj "tuple" us.toArray 0)).push (seqObj "list" #[] 0) }:=λi j C hi hj hC=>by
   unfold W.kas_cmp
   rw[W.kat_item rfl,W.kat_item rfl]
   have key:∀k,k<us.length->jq (((s.heap.update a (Ü λ_=>(#[]:Array Value))).push (seqObj "tuple" us.toArray 0)).push (seqObj "list" #[] 0)) (us.getD k ĕ) (ts.getD k [])/\iH (ts.getD k []):=λk hk=>by
    have hk':k<ts.length:=by omega
    have ek:ts.getD k []=ts[k]:=by simp[hk']
    obtain⟨u,eu,pu⟩:=Oz hp6 (i:=k) (b:=ts[k]) (by simp[hk'])
    have eu':us.getD k ĕ=u:=by rw[Ï,eu];rfl
    rw[ek,eu']
    exact⟨pu,hn _ (Ĩ hk')⟩
   exact Il hu (key i hi).1 (key j hj).1 (key i hi).2 (key j hj).2 hC
  have G:=W.kas_runs (prog:=prog) (w:=w) (A:=A) (E:=E) (κ:=oneType') (it:=us.toArray.zip us.toArray) (n:=us.length) (s:={ s with heap:=((s.heap.update a (Ü λ_=>(#[]:Array Value))).push (seqObj "tuple" us.toArray 0)).push (seqObj "list" #[] 0) })
   (Q:=λ_ st' s'=>∃p:Array Nat,s'={ s with heap:=((s.heap.update a (Ü λ_=>(#[]:Array Value))).push (seqObj "tuple" us.toArray 0)).push (seqObj "list" #[] 0) }/\arrOf st'=p.map (W.kas_item (us.toArray.zip us.toArray))/\failedOf st'=none/\NfSort.Pm us.length p/\NfSort.Up (λi=>aU 40 (ts.getD i [])) p us.length)
   (G:=λp s'=>s'={ s with heap:=((s.heap.update a (Ü λ_=>(#[]:Array Value))).push (seqObj "tuple" us.toArray 0)).push (seqObj "list" #[] 0) }/\NfSort.Pm us.length p/\NfSort.Up (λi=>aU 40 (ts.getD i [])) p us.length) h2' h64 (λp' st' s' a1 a2 a3 a4=>⟨p',a4.1,a2,a3,a4.2⟩)
   (NfSort.qw hcmp (NfSort.bI (λp hp=>⟨rfl,hp⟩) (NfSort.Bk (by omega))))
  have est:SortSt.mk' (oneType') (us.toArray.zip us.toArray) #[] 7 none=W.kas_st (oneType') (us.toArray.zip us.toArray) (ŀ (Ý us.length)):=by
   have e:=W.kas_range (us.toArray.zip us.toArray)
   rw[show(us.toArray.zip us.toArray).size=us.length by simp] at e
   show SortSt.mk' (oneType') (us.toArray.zip us.toArray) #[] 7 none=SortSt.mk' (oneType') ((ŀ (Ý us.length)).map (W.kas_item (us.toArray.zip us.toArray))) #[] 7 none
   rw[e]
  rw[est]
  refine Ã (ń G ?_ λ_ _ e=>e)
  rintro⟨⟨⟩,st'⟩ s' ⟨p,rfl,har,hf,hpm,hup⟩
  dsimp only
  have hout:=W.kat_snds (ks:=us) (vs:=us) rfl har
  rw[hout]
  have hsz2:p.size=us.length:=hpm.size
  refine Ã (seqEpoch_at ho6 rfl ?_)
  refine Ã (listUpdate_at ho6 rfl ?_ (ú _) (by rw[Í,À,ķ,hsz2,ï];omega))
  rw[hf]
  simp only[bne_self_eq_false,Ħ,if_false]
  refine Ô (h p.toList ?_ λi j hij hj=>?_)
  ·have:=Array.perm_iff_toList_perm.mp hpm
   simpa using this
  ·have q:=hup i j hij hj
   unfold NfSort.kk at q
   have eg:∀k,p.toList.getD k 0=p.getD k 0:=λk=>by
    rw[NfSort.getD_eq,Ï]
    simp
   rw[eg,eg]
   exact q
def uT{l:Addr}{us:List Value}{ts:List (List Int)}{Q:Value->Shared->Prop}(hl:s.heap.IsList l us.toArray\/IsTup s.heap l us.toArray)(hu:A.units+8<cLine)(hp:Paired (jq s.heap) us ts)(hn:∀t∈ts,iH t)(h64:us.length<64)(h:∀p:List Nat,p.Perm (Ý us.length)->(∀i j,i<=j->j<us.length->aU 40 (ts.getD (p.getD i 0) [])<=aU 40 (ts.getD (p.getD j 0) [])) ->
   Q (.ref (s.heap.objs.size+1)) { s with heap:=sortedAll s.heap us (p.map λi=>us.getD i ĕ).toArray }) :
  wpAny (model prog w) A (call (.builtin "sorted") [.ref l]) Q E s:=by
 have h24:=ï
 refine Calls.call_function_entry kind_sorted plain_sorted entry_sorted (args_sorted1 _) ?_
 unfold Builtin.«sorted»
 refine Ã (m:=checkCount "sorted" 1 1 _) (Ô ?_)
 have hsz:((s.heap.push (seqObj "list" #[] 0)).update s.heap.objs.size (Ü (·++us.toArray))).objs.size=s.heap.objs.size+1:=by
  rw[Ė,size_push']
 have hoL:(((s.heap.push (seqObj "list" #[] 0)).update s.heap.objs.size (Ü (·++us.toArray))).push (seqObj "list" us.toArray 0)).get? (s.heap.objs.size+1)=some (seqObj "list" us.toArray 0):=by
  rw[←hsz];exact á _ rfl
 have keep:∀b o,s.heap.get? b=some o->(((s.heap.push (seqObj "list" #[] 0)).update s.heap.objs.size (Ü (·++us.toArray))).push (seqObj "list" us.toArray 0)).get? b=some o:=λb o q=>by
  have hlt:b<s.heap.objs.size:=Î q
  rw[Ę _ _ _ (by rw[hsz];exact ß (ā hlt)),Heap.get?_update_ne _ _ _ _ (ß hlt),Ę _ _ _ (ß hlt)]
  exact q
 have go:∀{Q':List Value->Shared->Prop},Q' us { s with heap:=(s.heap.push (seqObj "list" #[] 0)).update s.heap.objs.size (Ü (·++us.toArray)) }->wpAny (model prog w) A.in1 (collect (.ref l)) Q' (λe s'=>E e s') s:=λ{Q'} hq=>by
  rcases hl with hl|hl
  ·exact collect_list hl hq (by omega)
  ·exact jV hl hq (by omega)
 refine Ã (go ?_)
 refine Ã (wpAny_newList ?_ (by omega))
 show wpAny _ _ _ _ _ { s with heap:=((s.heap.push (seqObj "list" #[] 0)).update s.heap.objs.size (Ü (·++us.toArray))).push (seqObj "list" us.toArray 0) }
 rw[hsz]
 refine Ã (Ē (wpAny_call_entry slot_list_sort ⟨_,hoL,rfl⟩ entry_list_sort (yU hoL (Paired.DQ hp λu t x=>x.keep λa o _ e=>keep a o e) (λu hm=>Im hp hm) (by simp only[Around.in1_units];omega) hn h64 λp a1 a2=>⟨_,rfl,?_⟩) (args_list_sort _)))
 exact Ô ⟨_,rfl,h p a1 a2⟩
end
section
variable {X:Cx}
def uQ{ts:List (List Int)}{p:List Nat}(hp:p.Perm (Ý ts.length))(h:∀i j,i<=j->j<ts.length->aU 40 (ts.getD (p.getD i 0) [])<=aU 40 (ts.getD (p.getD j 0) [])) :
  (p.map λi=>ts.getD i []).Perm ts/\(p.map λi=>ts.getD i []).Pairwise (λa b=>aU 40 a<=aU 40 b):=by
 refine⟨?_,?_⟩
 ·have q:=hp.map λi=>ts.getD i []
  rw[cY] at q
  exact q
 ·have hl:p.length=ts.length:=by simpa using hp.length_eq
  rw[œ]
  intro i j hi hj hij
  rw[À] at hi hj
  have q:=h i j (by omega) (by omega)
  have ei:p.getD i 0=p[i]:=by simp[hi]
  have ej:p.getD j 0=p[j]:=by simp[hj]
  rw[ei,ej] at q
  simpa using q
def wF(hu:X.A.units+64<cLine):bK X (.builtin "sorted") (λxs H Q=>∃(p:Addr) (vs:List V) (ts:List (List Int)) (F:V->List Int->Prop),xs=[.ref p]/\SqL X.K H p vs/\Paired F vs ts/\(∀v l,F v l->∃a,v=.ref a/\H a=some (.lst (l.map V.int)))/\(∀t∈ts,iH t)/\ts.length<64 /\
  ∀l ws us,H l=none->Paired F ws us->us.Perm ts->us.Pairwise (λa b=>aU 40 a<=aU 40 b)->Q (.ref l) (upd H l (.lst ws))):=by
 intro pins s σ H xs us Q I r h
 obtain⟨p,vs,ts,F,rfl,hp,hpr,hF,hn,h64,q⟩:=h
 obtain⟨u,rfl,rx⟩:=vals1 r
 cases rx
 have h24:=ï
 have lists:∀{vs:List V}{ts:List (List Int)}{us:List Value},Paired F vs ts->Vals vs us->Paired (jq s.heap) us ts:=by
  intro vs ts us h
  induction h generalizing us with
  |nil=>intro r;cases r;exact .nil
  |cons x t ih =>
   intro r
   cases r with
   |cons r1 r2 =>
    refine .cons ?_ (ih r2)
    obtain⟨a,rfl,ha⟩:=hF _ _ x
    cases r1
    obtain⟨its,rv,pl,hz⟩:=I.list (SqL.of ha)
    obtain⟨o,ho,hc,n,hd⟩:=pl.isList
    exact⟨a,o,its.toArray,n,rfl,ho,hc,hd,intsAre_of rv⟩
 obtain⟨its,rv,pl,hz⟩:=I.list hp
 have hpv:=lists hpr rv
 have hlen:=hpr.length
 have hlen2:=rv.length
 refine uT (.inl pl.isList) (by omega) hpv hn (by omega) λpp hpp hord=>?_
 have eits:its.length=ts.length:=by omega
 rw[eits] at hpp hord
 obtain⟨hperm,hpw⟩:=uQ hpp hord
 have hlt:∀i∈pp,i<ts.length:=λi hi=>ĥ.mp (hpp.mem_iff.mp hi)
 have hw:=xG hpr V.non [] pp hlt
 have hvv:Vals (pp.map λi=>vs.getD i V.non) (pp.map λi=>its.getD i ĕ):=xG rv V.non ĕ pp λi hi=>by have:=hlt i hi;omega
 obtain⟨e,he⟩:=sortedAll_at s.heap its (pp.map λi=>its.getD i ĕ).toArray
 refine⟨.ref (s.heap.objs.size+1),upd H (s.heap.objs.size+1) (.lst (pp.map λi=>vs.getD i V.non)),I.laid (t':=s.toks) (λb o eb=>sortedAll_old eb) (ĳ _) ?_,rfl,q _ _ _ (I.hok.fresh (ĳ _)) hw hperm hpw⟩
 refine⟨?_,_,e,hvv,he⟩
 have hl3:pp.length=ts.length:=by simpa using hpp.length_eq
 rw[À]
 omega
end
end L2
namespace Dl
open PySem L2 PyProof.Rows
section
variable {X:Cx}{pos:Pos}{a:Expr}{t:DA} [Gr]
def vV:GC:=λks P=>match ks with
 |[(k,.list ds)]=>∃ls:List (List Int),ds=ls.map iD/\ls.length<64/\(∀l∈ls,iH l)/\∀out:List (List Int),out.Perm ls->out.Pairwise (λa b=>aU 40 a<=aU 40 b)->P (k.join .new) (.list (out.map iD))
 |_=>False
def w6{ok:Addr->Prop}{H:Hp}:∀{vs:List V}{ls:List (List Int)},Rps ok H vs (ls.map iD)->Paired (λv l=>Rp ok H v (iD l)) vs ls
 |[],[],_=>.nil
 |_,l::ls,.cons h r=>.cons h (w6 r)
def xO{ok:Addr->Prop}{H:Hp}:∀{vs:List V}{ls:List (List Int)},Paired (λv l=>Rp ok H v (iD l)) vs ls->Rps ok H vs (ls.map iD)
 |_,_,.nil=>.nil
 |_,_,.cons h r=>.cons h (xO r)
def qR{ps:Pos}(hu:X.A.units+64<cLine)(hm:X.mg "sorted"=none)(ha:PDA X [a] t)(hg:Gl X "sorted":=by rfl)(he:zS X a []:=by rfl)(hpl:zP X pos []:=by rfl):PD X (.Call (.Name "sorted" ps) [a] [] pos) (tCl vV t) :=
 cN (wF hu) (by
  intro p H0 own Hb H vs ks P Q A r t q
  unfold vV at t
  split at t
  ·rename_i k ds
   obtain⟨ls,rfl,hl,hn,t⟩:=t
   obtain⟨v,rfl,r'⟩:=fG r
   obtain⟨x,xs,e1,o1,h1,rs1⟩:=Rp.bO r'
   subst e1
   refine⟨x,xs,ls,λv l=>Rp (okK p H0 own Hb k) H v (iD l),rfl,SqL.of h1,w6 rs1,λv l h=>?_,hn,hl,λl ws us hl' hw hp hs=>?_⟩
   ·obtain⟨b,zs,rfl,_,hb,rz⟩:=Rp.bO h
    have e:=Rps.ints rz
    subst e
    exact⟨b,rfl,hb⟩
   ·obtain⟨k2,i2,nw⟩:=A.new hl' (.lst ws)
    have j:=eF k .new
    exact q _ _ _ _ (t us hp hs) k2 i2 (.lst (bZ A j.2 nw) aq ((cj A k2 (xO hw)).mono (λa o=>bZ A j.1 o) (λ_ _ _ e=>e) λ_ _ e=>e))
  ·exact t.elim) hg hm boot_sorted ha (by decide) (by decide) he hpl
end
end Dl
namespace L2
open PySem PySem.Spec PyProof.Rows
section
variable {prog:Program}{w:World}{A:Around}{E:Value->Shared->Prop}{s:Shared}
end
section
variable {X:Cx}
end
end L2
namespace Dl
open PySem L2 PyProof.Rows
section
variable {X:Cx}{pos:Pos}{a e:Expr}{t:DA} [Gr]
end
end Dl
namespace L2
open PySem PySem.Spec PyProof.Rows
open AutoSeq1 in
section
variable {X:Cx}
end
end L2
namespace Dl
open PySem L2 PyProof.Rows
variable [Gr]
section
variable {X:Cx}{st:Stmt}{te:DE}{pos:Pos}{ta:DA}
end
end Dl
namespace Wr
open PySem L2 PyProof.Rows Dl
section
variable [Gr] {X:Cx}{pos:Pos}{a:Expr}{ta t:DA}{te:DE}
def qR{ps:Pos}(hu:X.A.units+64<cLine)(hm:X.mg "sorted"=none)(ha:WDA X [a] t)(hg:Gl X "sorted":=by rfl)(he:zS X a []:=by rfl)(hpl:zP X pos []:=by rfl):WD X (.Call (.Name "sorted" ps) [a] [] pos) (tCl vV t):=⟨Dl.qR hu hm ha.h hg he hpl⟩
end
end Wr
namespace Dl
open PySem L2 PyProof.Rows
variable [Gr]
section
variable {X:Cx}{st st2:Stmt}{rest:List Stmt}{tj te1 te2:DE}{tt:DT}{t:DS}{K:Ú}
end
end Dl
namespace Wr
open PySem L2 PyProof.Rows Dl
section
variable [Gr] {X:Cx}{tj te1 te2:DE}
end
end Wr
namespace L2
open PySem PySem.Spec PyProof.Rows
structure LamScope(ps ys:List Str)(sc:Scope)(cl:List (Str×Addr)):Prop where
 kind:sc.kind=.function
 co:sc.isCoroutine=false
 gen:sc.isGenerator=false
 nd:(ps++ys).Nodup
 par:∀x∈ps,sc.names.lookup x=some .local
 fre:∀y∈ys,sc.names.lookup y=some .free
 nocell:∀x∈sc.names,x.2≠.cell
 all:∀x,sc.names.lookup x=some .free->∃c,cl.lookup x=some c
 inj:∀x y c,cl.lookup x=some c->cl.lookup y=some c->x=y
def cxL(CX:CXT)(P:Program)(w:World)(K:Ú)(mg:Str->Option Value)(base:Heap)(N:List Str)(qual:Str)(scope:Scope)(f:Addr)(cd:Value)(cl:List (Str×Addr))(A:Around)(outer:List Env)(s:Shared)(H:Hp)(E:XK):Cx where
 prog:=P
 w:=w
 K:=K
 mg:=mg
 base:=base
 A:=A.deeper (W.envX qual scope s.heap.objs.size f cd cl)
 N:=N
 s₀:=s
 H₀:=H
 env:=W.envX qual scope s.heap.objs.size f cd cl
 outer:=outer
 stack:=W.envX qual scope s.heap.objs.size f cd cl::outer
 ex:=[]
 calm:=true
 fn:=λ_=>false
 pn:=[]
 xe:=λe s'=>wpAny (model P w) (A.deeper (W.envX qual scope s.heap.objs.size f cd cl)) (leaving (W.envX qual scope s.heap.objs.size f cd cl) e) (λ_ s''=>CX outer H s E e s'') (λe' s''=>CX outer H s E e' s'') s'
structure Caps(base:Heap)(cl:List (Str×Addr))(ys:List Str)(cvs:List V):Prop where
 len:cvs.length=ys.length
 cells:∀x c,cl.lookup x=some c->∃v,base.IsCell c v
 val:∀(j:Nat) (y:Str) (v:V),ys[j]?=some y->cvs[j]?=some v->∃c u,cl.lookup y=some c/\base.IsCell c (some u)/\RelV v u
def Ad{CX:CXT}{P:Program}{w:World}{K:Ú}{mg:Str->Option Value}{base:Heap}{ps ys:List Str}{qual:Str}{scope:Scope}{f:Addr}{cd:Value}{cl:List (Str×Addr)}{A:Around}{outer:List Env}{s:Shared}{h1:Heap}{tk:Nat}{H:Hp}{E:XK}{us:List Value}{vs cvs:List V}(S:LamScope ps ys scope cl)(hd:A.handled=none)(e0:Env0 P w K mg base A outer s H)(hl:vs.length=ps.length)(r:Vals vs us)(C:Caps base cl ys cvs)(hn:h1.Ns s.heap.objs.size (λx=>(ps.zip us).reverse.lookup x))(hk:∀b o,s.heap.get? b=some o->h1.get? b=some o) :
  Inv (cxL CX P w K mg base (ps++ys) qual scope f cd cl A outer s H E) [] (start (ps++ys) (vs++cvs)) H { s with heap:=h1,toks:=tk }:=by
 have noA:∀b:Addr,b∉(cxL CX P w K mg base (ps++ys) qual scope f cd cl A outer s H E).ex:=λb z=>absurd (show b∈([]:List Addr) from z) (by simp)
 have bk:∀b o,base.get? b=some o->h1.get? b=some o:=λb o e=>hk b o (e0.bs b o e).1
 have cne:∀x c,cl.lookup x=some c->H c=none:=λx c e=>by
  obtain⟨v,o,ho,_⟩:=C.cells x c e
  exact(e0.bs c o ho).2
 refine⟨⟨e0.mod,S.kind,rfl,rfl,Ë _,S.inj,λy hy=>?_,(λy c z _=>(nomatch z)),λ_=>hd,Around.frames_deeper e0.frames,.inr ⟨rfl,rfl⟩,λb z=>absurd z (noA b),e0.bs,e0.bsz,λb _ _=>noA b,λb z=>absurd z (noA b),e0.kW,e0.frf,λq z=>nomatch (show q∈([]:List (Addr×Obj×HO)) from z)⟩,
  rfl,e0.bare,Un.kept hk,⟨_,hn,λi y v h1 h2 h3=>?_⟩,λy c h=>?_,e0.hok.fresh (Ë _),λy c h=>cne y c h,λp hp=>absurd (show p∈([]:List (Addr×Obj)) from hp) (by simp),e0.hok.kept hk,?_⟩
 ·have hy:scope.names.lookup y=some .cell\/scope.names.lookup y=some .free:=hy
  rcases hy with hy|hy
  ·exact absurd rfl (S.nocell _ (û hy))
  ·exact S.all y hy
 ·have ha:(vs++cvs)[i]?=some v:=by
   unfold start at h2
   by_cases hi:i<(vs++cvs).length
   ·rw[ó (by simpa using hi),Þ] at h2
    cases e:(vs++cvs)[i]? with
    |none=>rw[e] at h2;cases h2
    |some a=>rw[e] at h2;cases h2;rfl
   ·rw[è (by simpa using hi)] at h2
    rw[ŋ] at h2
    split at h2 <;> cases h2
  have h1:(ps++ys)[i]?=some y:=h1
  by_cases hi:i<ps.length
  ·rw[ó (by omega)] at h1 ha
   obtain⟨u,hu,rv⟩:=r.get ha
   have ndP:ps.Nodup:=(List.nodup_append.mp S.nd).1
   refine⟨u,rv,.inl ⟨S.par y (Ò h1),?_⟩⟩
   have rl:∀(l:List (Str×Value)) (x:Str) (u:Value),(l.map (·.1)).Nodup->(x,u)∈l->l.lookup x=some u:=λl x u=>by
    induction l with
    |nil=>intro _ z;cases z
    |cons p l ih =>
     intro nd z
     obtain⟨a,b⟩:=p
     rw[æ,List.nodup_cons] at nd
     rcases Ð.mp z with z|z
     ·cases z;rw[ÿ];simp
     ·have:x≠a:=λe=>nd.1 (by rw[←e];exact ç.mpr ⟨(x,u),z,rfl⟩)
      rw[ÿ,show(x == a)=false by simpa using this]
      exact ih nd.2 z
   refine rl _ _ _ ?_ (List.mem_reverse.mpr ?_)
   ·rw[List.map_reverse,List.map_fst_zip (by rw[←r.length,hl];exact Ë _)]
    exact List.pairwise_reverse.mpr (ndP.imp λh e=>h e.symm)
   ·exact Ò (i:=i) (by rw[List.getElem?_zip_eq_some];exact⟨h1,hu⟩)
  ·rw[è (by omega)] at h1 ha
   rw[hl] at ha
   obtain⟨c,u,e,hc,rv⟩:=C.val _ _ _ h1 ha
   exact⟨u,rv,.inr ⟨.inr (S.fre y (Ò h1)),c,e,hc.keeps bk⟩⟩
 ·obtain⟨v,hc⟩:=C.cells y c h
  exact⟨v,hc.keeps bk⟩
 ·unfold start
  show _=(ps++ys).length
  rw[È,À,Ġ,È,È,C.len,hl]
  omega
def T6(x:Obj)(qual:Str):Prop:=∃vs t,x.data=.fields vs/\vs[1]?=some (.str qual t)
def pU(H:Hp)(c':Addr)(qual:Str):Prop:=∃x φ,H c'=some (.frz x (.ext φ))/\T6 x qual
def Jh{CX:CXT}{P:Program}{w:World}{K:Ú}{mg:Str->Option Value}{base:Heap}{k:Nat}{f c':Addr}{name qual:Str}{params:Arguments}{body:Expr}{scope:Scope}{pm ctv:Value}{cl:List (Str×Addr)}{ps ys:List Str}{cvs:List V}{sp:Sp}(lk:base.get? f=some (Ŭ name qual params body scope cl pm c' ctv))(hcd:∀vs H Q E,sp vs H Q E->pU H c' qual)(S:LamScope ps ys scope cl)(C:Caps base cl ys cvs)(len:∀vs H Q E,sp vs H Q E->vs.length=ps.length)(hbody:∀(A:Around) (outer:List Env) (s:Shared) (H:Hp) (vs:List V) (Q:VK) (E:XK),Room k (A.deeper (W.envX qual scope s.heap.objs.size f (.ref c') cl))->sp vs H Q E ->
   ∃t,PE (cxL CX P w K mg base (ps++ys) qual scope f (.ref c') cl A outer s H E) body t/\t (start (ps++ys) (vs++cvs)) H Q) :
  FnOk P w K mg base CX (k+1) f (W.kla_fn name qual params body scope cl pm (.ref c') ctv) ps sp:=by
 refine⟨len,λA outer s H args us vs Q E hr e0 hb r hsp=>?_⟩
 have hl:=len _ _ _ _ hsp
 have bk:∀b o,base.get? b=some o->s.heap.get? b=some o:=λb o e=>(e0.bs b o e).1
 have lim:s.heap.NoLimit:=e0.mod.nolimit.keeps bk
 have hcd':s.heap.CodeRec (.ref c') qual:=by
  obtain⟨x,φ,e,vs,t,h1,h2⟩:=hcd _ _ _ _ hsp
  exact⟨c',x,vs,t,rfl,(e0.hok _ _ e).1,h1,h2⟩
 refine W.kla_callFunE hr.depth (bk _ _ lk) rfl S.co S.gen rfl hcd' (hb _ _ _ _ ?_)
 have hloc:∀y∈ps.zip us,scope.names.lookup y.1=some .local:=λ⟨n,v⟩ hy=>S.par n (List.of_mem_zip hy).1
 refine wpAny_newFunctionEnv S.nocell hloc (λh₁ hns hsb=>?_) S.kind
 have hk₁:∀b o,s.heap.get? b=some o->h₁.get? b=some o:=λb o e=>hsb.extBut b o (ß (Î e)) (Ñ _ e)
 refine⟨lim.keeps hk₁,?_⟩
 show codeAny _ _ (.expr body (W.envX qual scope s.heap.objs.size f (.ref c') cl)) _ _
 obtain⟨t,ht,hq⟩:=hbody A outer s H vs Q E (hr.deeper _) hsp
 have I:Inv (cxL CX P w K mg base (ps++ys) qual scope f (.ref c') cl A outer s H E) [] (start (ps++ys) (vs++cvs)) H { s with heap:=h₁,toks:=s.toks+(ps.zip us).length }:=Ad S hr.hd e0 hl r C hns hk₁
 refine W.kla_codeExpr (ń (ht [] _ _ H _ I hq) (λu s' hs=>?_) λe s' hs=>hs)
 obtain⟨v,H',J,rv,q⟩:=hs
 exact⟨v,H',J.os,J.bare,J.base,J.hok,rv,q⟩
def reb(base h:Heap)(L:List Addr):Heap:=W.hideAll h ((Ý h.objs.size).filter λb=>(base.get? b).isNone&&!decide (b∈L))
def uZ{base h:Heap}{L:List Addr}{b:Addr}:b∉((Ý h.objs.size).filter λb=>(base.get? b).isNone&&!decide (b∈L))↔(h.objs.size<=b\/(∃o,base.get? b=some o)\/b∈L):=by
 rw[ă,ĥ,Ù,Option.isNone_iff_eq_none,Bool.not_eq_true',decide_eq_false_iff_not]
 constructor
 ·intro z
  by_cases h1:b<h.objs.size
  ·cases e:base.get? b with
   |some o=>exact .inr (.inl ⟨o,rfl⟩)
   |none =>
    by_cases h2:b∈L
    ·exact .inr (.inr h2)
    ·exact absurd ⟨h1,e,h2⟩ z
  ·exact .inl (Nat.le_of_not_lt h1)
 ·rintro(z|⟨o,z⟩|z) ⟨a,b,c⟩
  ·exact absurd a (Nat.not_lt.mpr z)
  ·rw[z] at b;cases b
  ·exact c z
def u5{base h:Heap}{L:List Addr}{b:Addr}{o:Obj}(e:h.get? b=some o)(m:b∈L):(reb base h L).get? b=some o:=W.hideAll_get _ e (uZ.mpr (.inr (.inr m)))
def Gn{base h:Heap}{L:List Addr}(bk:∀b o,base.get? b=some o->h.get? b=some o):∀b o,base.get? b=some o->(reb base h L).get? b=some o:=λb o e=>W.hideAll_get _ (bk b o e) (uZ.mpr (.inr (.inl ⟨o,e⟩)))
def HX{base h:Heap}{L:List Addr}{b:Addr}{o:Obj}(e:(reb base h L).get? b=some o):h.get? b=some o/\((∃o,base.get? b=some o)\/b∈L):=by
 have e1:=W.of_hideAll _ e
 refine⟨e1,?_⟩
 have n:b∉((Ý h.objs.size).filter λb=>(base.get? b).isNone&&!decide (b∈L)):=λz=>by
  have:=W.hideAll_none (h:=h) _ z
  rw[show(W.hideAll h ((Ý h.objs.size).filter λb=>(base.get? b).isNone&&!decide (b∈L))).get? b=some o from e] at this
  cases this
 exact(uZ.mp n).resolve_left (λz=>absurd (Î e1) (Nat.not_lt.mpr z))
def Mod.reb{K:Ú}{mg:Str->Option Value}{base h:Heap}{L:List Addr}(m:Mod K mg base)(bk:∀b o,base.get? b=some o->h.get? b=some o):Mod K mg (reb base h L):=by
 have k:=Gn (L:=L) bk
 obtain⟨mb,hb,hx⟩:=m.blt
 exact⟨m.kin.keeps k,m.glob.keeps k,⟨mb,hb.keeps k,hx⟩,m.nolimit.keeps k⟩
def Env0.reb{P:Program}{w:World}{K:Ú}{mg:Str->Option Value}{base:Heap}{A:Around}{outer:List Env}{s:Shared}{H:Hp}{L:List Addr}(e:Env0 P w K mg base A outer s H)(hL:∀b∈L,H b=none)(hf:∀b∈L,b∉frs outer):Env0 P w K mg (reb base s.heap L) A outer s H:=by
 have bk:∀b o,base.get? b=some o->s.heap.get? b=some o:=λb o z=>(e.bs b o z).1
 refine⟨e.frames,e.mod.reb bk,λb o z=>?_,?_,?_,e.frf,e.hok,e.bare⟩
 ·obtain⟨h1,h2⟩:=HX z
  refine⟨h1,?_⟩
  rcases h2 with ⟨o',h2⟩|h2
  ·exact(e.bs b o' h2).2
  ·exact hL b h2
 ·unfold L2.reb
  rw[W.hideAll_size]
  exact Ë _
 ·have all:∀l:List Env,(∀b∈L,b∉frs l)->s.heap.FunFrames base l->s.heap.FunFrames (L2.reb base s.heap L) l:=by
   intro l
   induction l with
   |nil=>intro _ _;trivial
   |cons env r ih =>
    intro hs hl
    obtain⟨hk,⟨F,o,hf,hn,ho,hd⟩,hr⟩:=hl
    refine⟨hk,⟨F,o,hf,?_,ho,hd⟩,ih (λb hb z=>hs b hb ?_) hr⟩
    ·cases q:(L2.reb base s.heap L).get? F with
     |none=>rfl
     |some u =>
      obtain⟨_,h2⟩:=HX q
      rcases h2 with ⟨o',h2⟩|h2
      ·rw[hn] at h2;cases h2
      ·exact absurd (by unfold frs;rw[Ż,hf];exact Å) (hs F h2)
    ·unfold frs at z ⊢
     rw[Ż,hf]
     exact Ä _ z
  exact all outer hf e.kW
def Ga(i:Nat)(f:Addr)(sp:Sp)(E:XK)(t:TA):TE:=λσ H Q=>σ[i]?=some (some (.ref f))/\t σ H λvs H1=>sp vs H1 Q E
section
variable {X:Cx}{CX:CXT}{k i:Nat}{f:Addr}{fd:FuncData}{ps:List Str}{sp:Sp}{E:XK}{x:Str}{p pos:Pos}{e:Expr}{es:List Expr}{t:TA}
def G3(F:FnOk X.prog X.w X.K X.mg X.base CX k f fd ps sp)(hf:W.FnAt f X.base)(hr:Room k X.A)(hb:Binds X.K fd ps [])(hx:Passes CX X E)(hv:PE X (.Name x p) (dJ i))(ha:PA X (e::es) t)(he:zS X e es:=by rfl)(hpl:zP X pos es:=by rfl) :
  PE X (.Call (.Name x p) (e::es) [] pos) (Ga i f sp E t):=by
 intro pins s σ H Q I ⟨hi,h⟩
 have fk:∀{σ':St}{H':Hp}{s':Shared},Inv X pins σ' H' s'->W.FnAt f s'.heap:=λ{σ' H' s'} I'=>by
  obtain⟨oc,od,fd,sl,e⟩:=hf
  exact⟨oc,od,fd,sl,I'.bk _ _ e⟩
 refine Ņ (thn (hv pins s σ H (λv H'=>v=.ref f/\H'=H) I ⟨_,hi,rfl,rfl⟩) λu s1 ⟨v,H1,I1,rv,ev,eH⟩=>?_)
 subst ev
 subst eH
 obtain rfl:u=Ň f:=rv
 refine W.callWith_F (fk I1) (thn (ha pos pins s1 σ H1 _ I1 h) λus s2 ⟨vs,H2,I2,r,q⟩=>⟨fk I2,?_⟩) he hpl
 exact Gj (dvs:=[]) (ds:=[]) F hr hb .nil hx I2 r (by rw[ê];exact q)
end
def lK(P:Addr)(pos:Pos)(qual:Str)(H:Hp):Prop:=∃ps,H P=some (.tbl ps)/\(ps=#[]\/∃c',ps=#[rawInt pos.line,rawInt pos.col,.ref c']/\pU H c' qual)
def T8{h h':Heap}{L:Addr}{m:Str->Option Value}(x:h.Ns L m)(k:∀o,h.get? L=some o->h'.get? L=some o):h'.Ns L m:=by
 obtain⟨o,es,ep,ho,r⟩:=x
 exact⟨o,es,ep,k o ho,r⟩
section
variable {X:Cx}{pins:List (Addr×Obj)}{σ:St}{H:Hp}{s:Shared}{c P:Addr}{pos:Pos}{qual:Str}{params:Arguments}{body:Expr}{scope:Scope}{cl:List (Str×Addr)}{Q:Value->Shared->Prop}{E:Value->Shared->Prop}
def ud(I:Inv X pins σ H s)(hq:X.env.qual++"<lambda>"=qual)(hdef:defaultsOf params X.env=([],[]))(hcl:closureFor scope X.env=pure cl)(hcode:X.env.code=.ref c)(hC:X.K.In X.base->W.CodeHd X.base c P)(hB:X.K.In X.base->X.base.BuiltinsAt X.mg P)(T:lK P pos qual H)(h:∀f c' ctv pm s' H',Inv X pins σ H' s'->lK P pos qual H'->pU H' c' qual->H' f=none->s'.heap.get? f=some (Ŭ "<lambda>" qual params body scope cl pm c' ctv)->f∉frs X.stack->(∀b o,H b=some o->b≠P->H' b=some o) ->
   (∀b o,s.heap.get? b=some o->H b=none->s'.heap.get? b=some o/\H' b=none)->Q (.ref f) s') :
  wpAny (model X.prog X.w) X.A (eval (.Lambda params body scope pos) X.env) Q E s:=by
 have hC:=hC I.ok.mod.kin
 have hB:=hB I.ok.mod.kin
 obtain⟨ps,hP,hps⟩:=T
 have hPh:s.heap.get? P=some (W.tabObj ps):=I.hok P _ hP
 have neP:∀b,H b=none->b≠P:=λb e z=>by rw[z,hP] at e;cases e
 have hgs:s.heap.Ns mainGlobals X.mg:=I.mod.glob.keeps I.bk
 have hgP:mainGlobals≠P:=by
  obtain⟨o,_,_,ho,_⟩:=I.mod.glob
  exact neP _ (I.bs _ _ ho).2
 have hB':s.heap.BuiltinsAt X.mg P:=by
  obtain⟨bm,o,h1,h2,h3,h4,h5,r⟩:=hB
  exact⟨bm,o,h1,h2,h3,h4,I.bk _ _ h5,r⟩
 have fsz:∀b,s.heap.objs.size<=b->b∉frs X.stack:=λb hb z=>by
  obtain⟨_,o,ho,_⟩:=I.stack.mem z
  exact absurd (Î ho) (Nat.not_lt.mpr hb)
 refine W.kla_eval hdef ?_
 rw[hq]
 rcases hps with rfl|⟨c',rfl,kn⟩
 ·refine W.kla_makeFunction (mg:=X.mg) hcl I.ok.glob hgs hcode (hC.keeps I.bk) hPh (by trivial) (by rfl) hgP hB' λc' ctv h' tk hx hge hlt hrec htb=>?_
  obtain⟨c₂,oc,vs,t,e2,hoc,hd,hv⟩:=hrec
  cases e2
  have keep:∀b o,b≠P->s.heap.get? b=some o->(h'.push (Ŭ "<lambda>" qual params body scope cl ((X.mg "__name__").getD .none) c' ctv)).get? b=some o:=λb o n e=>Ñ _ (hx b o n e)
  have hc0:H c'=none:=I.hok.fresh hge
  have cP:c'≠P:=neP c' hc0
  have cS:∀b o,s.heap.get? b=some o->b≠c':=λb o e z=>by subst z;exact absurd (Î e) (Nat.not_lt.mpr hge)
  have htb':(h'.push (Ŭ "<lambda>" qual params body scope cl ((X.mg "__name__").getD .none) c' ctv)).get? P=some (W.tabObj (#[]++#[rawInt pos.line,rawInt pos.col,.ref c'])):=Ñ _ htb
  have hoc':=Ñ (Ŭ "<lambda>" qual params body scope cl ((X.mg "__name__").getD .none) c' ctv) hoc
  let H':Hp:=upd (upd H P (.tbl #[rawInt pos.line,rawInt pos.col,.ref c'])) c' (.frz oc (.ext λ_=>True))
  have u0:∀b,b≠P->b≠c'->H' b=H b:=λb h1 h2=>by show upd _ _ _ b=_;rw[au h2,au h1]
  have uP:H' P=some (.tbl #[rawInt pos.line,rawInt pos.col,.ref c']):=by show upd _ _ _ P=_;rw[au (ė cP),aq]
  have uc:H' c'=some (.frz oc (.ext λ_=>True)):=aq
  have nc:∀b o,H b=some o->b≠c':=λb o e z=>by rw[z,hc0] at e;cases e
  have kn:pU H' c' qual:=⟨oc,_,uc,vs,t,hd,hv⟩
  have J:Inv X pins σ H' { s with heap:=h'.push (Ŭ "<lambda>" qual params body scope cl ((X.mg "__name__").getD .none) c' ctv),toks:=tk }:=by
   refine I.step (g':=s.gens) (d':=s.drawn) (ch:=[]) (λ_ z=>nomatch z) (λb o _ _ _ e n=>keep b o (neP b n) e) (λb o _ _ _ e n=>⟨o.slots,keep b o (neP b n) e⟩) (λb o _ e n=>by rw[u0 b (neP b n) (cS b o e)];exact n) (λb o _ e=>?_) (λb xs e=>?_) (λb o u e=>?_) (λb ps e=>?_) (λm hm=>T8 hm λo e=>keep _ o (neP _ I.free) e) (λa o e=>?_) I.bare
   ·by_cases z:b=P
    ·subst z;exact⟨_,htb'⟩
    ·exact⟨o,keep b o z e⟩
   ·rw[u0 b (λz=>by rw[z,hP] at e;cases e) (nc b _ e)];exact e
   ·rw[u0 b (λz=>by rw[z,hP] at e;cases e) (nc b _ e)];exact e
   ·by_cases z:b=P
    ·subst z
     rw[hP] at e
     cases e
     exact⟨#[rawInt pos.line,rawInt pos.col,.ref c'],by rw[uP];simp⟩
    ·exact⟨#[],by rw[u0 b z (nc b _ e),e];simp⟩
   ·by_cases z:a=c'
    ·subst z
     rw[uc] at e
     cases e
     exact⟨hoc',trivial,⟨_,hoc'⟩,λ_ _ _ _=>trivial⟩
    ·by_cases z2:a=P
     ·subst z2
      rw[uP] at e
      cases e
      exact htb'
     ·rw[u0 a z2 z] at e
      have ow:∀b,H b=some (.own a)->b≠P:=λb q y=>by rw[y,hP] at q;cases q
      exact(I.hok a o e).stay (λb u hb q=>keep b u (hb.elim (λy=>y ▸ z2) (ow b)) q) (λb q=>by rw[u0 b (ow b q) (nc b _ q)];exact q) λb xs q=>by rw[u0 b (λy=>by rw[y,hP] at q;cases q) (nc b _ q)];exact q
  have hsz:s.heap.objs.size<=h'.objs.size:=Nat.le_of_lt (Nat.lt_of_le_of_lt hge hlt)
  have fP:h'.objs.size≠P:=λz=>absurd (Î hPh) (Nat.not_lt.mpr (z ▸ hsz))
  refine h h'.objs.size c' ctv _ _ H' J ⟨_,uP,.inr ⟨c',rfl,kn⟩⟩ kn (by rw[u0 _ fP (ŷ hlt)];exact I.hok.fresh hsz) (á _ rfl) (fsz _ hsz) (λb o e n=>by rw[u0 b n (nc b _ e)];exact e) λb o e n=>⟨keep b o (neP b n) e,by rw[u0 b (neP b n) (cS b o e)];exact n⟩
 ·refine W.kla_makeFunctionHit (mg:=X.mg) (cv:=.ref c') hcl I.ok.glob hgs hcode (hC.keeps I.bk) hPh (by trivial) (codeAmong_snoc (pos:=pos) (c:=.ref c') [] trivial rfl) hB' λctv h' tk hk hsz=>?_
  have keep:∀b o,s.heap.get? b=some o->(h'.push { cls:=.type "function",data:=.func (W.kla_fn "<lambda>" qual params body scope cl ((X.mg "__name__").getD .none) (.ref c') ctv) }).get? b=some o:=λb o e=>Ñ _ (hk b o e)
  exact h h'.objs.size c' ctv _ _ H (I.kept (t':=tk) keep) ⟨_,hP,.inr ⟨c',rfl,kn⟩⟩ kn (I.hok.fresh hsz) (á _ rfl) (fsz _ hsz) (λb o e _=>e) λb o e n=>⟨keep b o e,n⟩
end
structure LamAt(base:Heap)(f c':Addr)(qual:Str)(params:Arguments)(body:Expr)(scope:Scope)(cl:List (Str×Addr))(ys:List Str)(cvs:List V)(H:Hp):Prop where
 fn:∃pm ctv,base.get? f=some (Ŭ "<lambda>" qual params body scope cl pm c' ctv)
 caps:Caps base cl ys cvs
 kn:pU H c' qual
def Us(N:List Str)(P:Addr)(lpos:Pos)(qual:Str)(params:Arguments)(body:Expr)(scope:Scope)(cl:List (Str×Addr))(ys:List Str)(sp:Heap->Sp)(te:TE):TE:=λσ H Q=>te σ H λv H1=>lK P lpos qual H1 /\
 ∃cvs:List V,cvs.length=ys.length/\(∀(j:Nat) (y:Str) (v:V),ys[j]?=some y->cvs[j]?=some v->∃i:Nat,N[i]?=some y/\σ[i]?=some (some v)) /\
  ∀base' f c' H',LamAt base' f c' qual params body scope cl ys cvs H'->lK P lpos qual H'->(∀b o,H1 b=some o->b≠P->H' b=some o)->sp base' [v,.ref f] H' Q E0
section
variable {X:Cx}{k:Nat}{fh c P:Addr}{fdh:FuncData}{ps ys:List Str}{sp:Heap->Sp}{x:Str}{p pos lpos:Pos}{e:Expr}{te:TE}{qual:Str}{params:Arguments}{body:Expr}{scope:Scope}{cl:List (Str×Addr)}
def zx(F:∀base,FnOk X.prog X.w X.K X.mg base CX0 k fh fdh ps (sp base))(hr:Room k X.A)(hg:Gl X x)(hm:X.mg x=some (.ref fh))(hk:W.keepIn X.K (.ref fh)=true)(hb:Binds X.K fdh ps [])(ha:PE X e te)(hq:X.env.qual++"<lambda>"=qual)(hdef:defaultsOf params X.env=([],[]))(hcl:closureFor scope X.env=pure cl)(hcode:X.env.code=.ref c)(hC:X.K.In X.base->W.CodeHd X.base c P)(hB:X.K.In X.base->X.base.BuiltinsAt X.mg P)(hfn:∀x,X.fn x=true)(hsub:∀x c,cl.lookup x=some c->X.env.cells.lookup x=some c)(hys:∀y∈ys,X.env.scope.names.lookup y=some .cell/\∃c,cl.lookup y=some c)(hdb:zB x:=by decide)(he:starEach [e,.Lambda params body scope lpos] X.env=(false,eval e X.env)::(false,eval (.Lambda params body scope lpos) X.env)::[]:=by rfl)(hpl:(backTo pos (starEach [.Lambda params body scope lpos] X.env)).any (·.1)=false:=by rfl)(he1:starEach [e,.Lambda params body scope lpos] X.env=(false,eval e X.env)::starEach [.Lambda params body scope lpos] X.env:=by rfl) :
  PE X (.Call (.Name x p) [e,.Lambda params body scope lpos] [] pos) (Us X.N P lpos qual params body scope cl ys sp te):=by
 intro pins s σ H Q I h
 refine Ņ (BR I hg hm ?_ hdb)
 refine W.callWith_K (h₀:=X.base) I.ok.mod.kin hk ?_ he1 hpl
 rw[he]
 show wpAny _ _ (spliced ((false,eval e X.env)::(false,eval (.Lambda params body scope lpos) X.env)::[])) _ _ s
 refine Calls.spliced_cons (thn (ha pins s σ H _ I h) λu s1 ⟨v,H1,I1,r1,T1,cvs,cl1,hcv,q1⟩=>?_)
 refine Calls.spliced_cons ?_
 refine ud I1 hq hdef hcl hcode hC hB T1 λf c' ctv pm s2 H2 J T2 kn fn hfo nfs kp kb=>?_
 refine Calls.spliced_nil ⟨J.kIn,?_⟩
 have ncell:∀y c,X.env.cells.lookup y=some c->c∉frs X.stack:=λy c e z=>by
  rcases Ð.mp (J.qH c z) with z|z
  ·exact J.cne y c e z
  ·obtain⟨_,o,ho,_⟩:=J.ok.kW.mem z
   exact absurd (Î ho) (Nat.not_lt.mpr (J.ok.cab y c (hfn y) e))
 have inL:∀y c,cl.lookup y=some c->c∈f::cl.filterMap λq=>cl.lookup q.1:=λy c e=>Ä _ (Ŏ.mpr ⟨(y,c),û e,e⟩)
 have hL:∀b∈f::cl.filterMap (λq=>cl.lookup q.1),(H2 b=none/\b∉frs X.stack):=λb hb=>by
  rcases Ð.mp hb with rfl|hb
  ·exact⟨fn,nfs⟩
  ·obtain⟨⟨y,c1⟩,_,e1⟩:=Ŏ.mp hb
   have e2:=hsub y b e1
   exact⟨J.freeC y b e2,ncell y b e2⟩
 have e0:=J.env0.reb (L:=f::cl.filterMap λq=>cl.lookup q.1) (λb hb=>(hL b hb).1) λb hb=>(hL b hb).2
 have cellB:∀y c w,cl.lookup y=some c->s2.heap.IsCell c w->(reb X.base s2.heap (f::cl.filterMap λq=>cl.lookup q.1)).IsCell c w:=λy c w e ⟨o,ho,hd⟩=>⟨o,u5 ho (inL y c e),hd⟩
 have lam:LamAt (reb X.base s2.heap (f::cl.filterMap λq=>cl.lookup q.1)) f c' qual params body scope cl ys cvs H2:=by
  refine⟨⟨pm,ctv,u5 hfo Å⟩,⟨cl1,λy c e=>?_,λj y w h1 h2=>?_⟩,kn⟩
  ·obtain⟨w,hw⟩:=J.cell y c (hsub y c e)
   exact⟨w,cellB y c w e hw⟩
  ·obtain⟨i,n1,n2⟩:=hcv j y w h1 h2
   obtain⟨k1,c,e⟩:=hys y (Ò h1)
   obtain⟨m,_,hl⟩:=J.loc
   obtain⟨u',rv,l⟩:=hl i y w n1 n2 (.inr (.inl k1))
   rcases l with ⟨k2,_⟩|⟨_,c2,e2,hc⟩
   ·have k2:X.env.scope.names.lookup y=some .local:=k2
    rw[k1] at k2;cases k2
   ·rw[hsub y c e] at e2
    cases e2
    exact⟨c,u',e,cellB y c _ e hc,rv⟩
 have hsp:=q1 _ f c' H2 lam T2 kp
 have FF:=F (reb X.base s2.heap (f::cl.filterMap λq=>cl.lookup q.1))
 have hl:[u,Ň f].length=ps.length:=FF.len _ _ _ _ hsp
 refine wpAny_call (codeAny_mono (FF.run X.A X.stack s2 H2 ⟨[u,.ref f],[]⟩ [u,.ref f] [v,.ref f] Q E0 hr e0 ?_ (.cons r1 (.cons rfl .nil)) hsp) λr s' hq=>?_)
 ·have:=hb s2 [u,.ref f] J.kIn (by rw[ê];exact hl)
  rw[ê] at this
  exact this
 ·cases r with
  |error e=>exact hq.elim
  |ok fl =>
   cases fl with
   |ret u=>exact J.after hq
   |next=>exact Į hq
   |brk=>exact Į hq
   |cont=>exact Į hq
end
end L2
namespace Dl
open PySem L2 PyProof.Rows
def oR(P:Addr)(pos:Pos)(qual:Str):Pn where
 fp:=λb=>b=P
 PI:=lK P pos qual
 pv:=.non
 mono:=λH H' ⟨ps,h,r⟩ k=>⟨ps,k _ _ (.inl rfl) h,r.imp id λ⟨c',e,x,φ,hc,cx⟩=>⟨c',e,x,φ,k _ _ (.inr ⟨x,φ,rfl⟩) hc,cx⟩⟩
 is:=λH b ⟨ps,h,_⟩ hb=>by
  subst hb
  exact⟨_,h,(λxs z=>(nomatch z)),λ⟨_,_,z⟩=>(nomatch z)⟩
def spT(T:Pn)(f:List D->(D->Prop)->Prop):Sp:=λvs H Q _=>∃ds P,T.PI H/\Rps (λa=>¬T.fp a) H vs ds/\f ds P/\∀d v H',P d->Kp T H H'->T.PI H'->Rp (λa=>H a=none) H' v d->Q v H'
def vL{T:Pn}{f:List D->(D->Prop)->Prop}{n:Nat}(hn:∀ds P,f ds P->ds.length=n:=by intro _ _ h;repeat (first|(obtain⟨rfl,_⟩:=h;rfl)|obtain⟨_,h⟩:=h)):∀vs H Q E,spT T f vs H Q E->vs.length=n:=λvs H Q E ⟨ds,P,_,r,t,_⟩=>by
 rw[r.length]
 exact hn ds P t
def Pn.plus(p T:Pn):Pn where
 fp:=λb=>p.fp b\/T.fp b
 PI:=λH=>p.PI H/\T.PI H
 pv:=p.pv
 mono:=λH H' h k=>⟨p.mono H H' h.1 λb o z e=>k b o (z.imp .inl id) e,T.mono H H' h.2 λb o z e=>k b o (z.imp .inr id) e⟩
 is:=λH b h z=>z.elim (p.is H b h.1) (T.is H b h.2)
def Apart(p T:Pn):Prop:=∀H,p.PI H->T.PI H->∀b,p.fp b->¬T.fp b
def Ie{p:Pn}{H:Hp}{b:Addr}{o:HO}(h:p.PI H)(e:H b=some o)(c:Fxd o):¬p.fp b:=λz=>by
 obtain⟨o',e',n⟩:=p.is H b h z
 rw[e] at e'
 cases e'
 exact n.2 c
section
variable [Gr] {X:Cx}{k j:Nat}{x:Str}{ps:List Str}{e:Expr}{es:List Expr}{t:DA}{p pos:Pos}{C:Pn->Prop}{T:Pn}{i:Nat}{f:List D->(D->Prop)->Prop}
end
def grZ(Z:Hp->Prop):Gr:=⟨λp H0=>p=dB/\Z H0⟩
def spZ(Z:Hp->Prop)(g:List D->(D->Prop)->Prop):Sp:=λvs H Q E=>Z H/\spD g vs H Q E
def Oh(i:Nat)(f:Addr)(g:List D->(D->Prop)->Prop)(t:DA):DE:=λρ P=>(∃b,ρ[i]?=some (.scr (.ref f) b))/\t ρ λks=>g (ks.map (·.2)) λd=>P (norm .new d) d
section
variable {X:Cx}{k j:Nat}{x:Str}{ps:List Str}{e:Expr}{es:List Expr}{t:DA}{p pos:Pos}{Z:Hp->Prop}{i:Nat}{f:Addr}{fd:FuncData}{g:List D->(D->Prop)->Prop}
def Ip(hZ:∀H H',Z H->Same H H'->Z H'):∀σ H Q,@bD (grZ Z) (Oh i f g t) σ H Q->Ga i f (spZ Z g) E0 (@dN (grZ Z) t) σ H Q:=by
 letI:=grZ Z
 rintro σ H Q ⟨q,H0,own,ρ,P,E,⟨⟨b,hi⟩,t⟩,k⟩
 obtain⟨rfl,z⟩:=E.gr
 refine⟨(E.slot i _ hi).1,dB,H0,own,ρ,_,E,t,λks vs H1 h A r=>?_⟩
 have sm:Same H0 H1:=λb o e=>A.kp b o (E.k0 b o e λz=>z) λz=>z
 refine⟨hZ _ _ z sm,ks.map (·.2),_,(RpK.rps A r).mono (λ_ _=>trivial) (λ_ _ _ e=>e) (λ_ _ e=>e),h,λd v H' h2 s r2=>?_⟩
 exact k _ d v H' h2 (A.go (Kp.of s) trivial) (aX (r2.mono (λa o=>A.free o) (λ_ _ _ e=>e) λ_ _ e=>e))
def dcV(hZ:∀H H',Z H->Same H H'->Z H')(F:FnOk X.prog X.w X.K X.mg X.base CX0 k f fd ps (spZ Z g))(hf:W.FnAt f X.base)(hr:Room j X.A)(hb:Binds X.K fd ps [])(hv:PE X (.Name x p) (dJ i))(ha:@PDA (grZ Z) X (e::es) t)(hk:k<=j)(he:zS X e es:=by rfl)(hpl:zP X pos es:=by rfl) :
  @PD (grZ Z) X (.Call (.Name x p) (e::es) [] pos) (Oh i f g t):=PE.wk (G3 F hf (hr.mono hk) hb Mv hv ha he hpl) (Ip hZ)
def QD{N:List Str}{H:Hp}{n:Int}{m:Nat}(z:Z H)(hN:N.length=m+2):@EnvD (grZ Z) dB H (λ_=>none) (L2.start N [.int n,.ref f]) H (.im (.int n)::.scr (.ref f) false::Æ m .any):=by
 letI:=grZ Z
 refine⟨λ_ _ e _=>e,trivial,(λ_ _ e=>(nomatch e)),λq s e=>?_,?_,⟨rfl,z⟩⟩
 ·match q,e with
  |0,e=>cases e;exact⟨.int n,rfl,.int n⟩
  |1,e=>cases e;exact⟨rfl,λz=>(nomatch z)⟩
  |q+2,e =>
   have e:(Æ m Sl.any)[q]?=some s:=e
   have:=(Ľ.mp (Ò e)).2
   subst this
   trivial
 ·unfold L2.start
  simp[hN]
end
def Hand(P:Program)(w:World)(K:Ú)(mg:Str->Option Value)(base:Heap)(kl:Nat)(f:Addr)(ps:List Str)(Z:Hp->Prop)(g:List D->(D->Prop)->Prop):Prop:=∃fd,FnOk P w K mg base CX0 kl f fd ps (spZ Z g)/\W.FnAt f base/\Binds K fd ps []/\∀H H',Z H->Same H H'->Z H'
def spF(P:Program)(w:World)(K:Ú)(mg:Str->Option Value)(base:Heap)(kl:Nat)(ps:List Str)(t:(List D->(D->Prop)->Prop)->Int->(D->Prop)->Prop):Sp:=λvs H Q _=>∃(n:Int) (f:Addr) (Z:Hp->Prop) (g:List D->(D->Prop)->Prop) (Pd:D->Prop),vs=[.int n,.ref f]/\Hand P w K mg base kl f ps Z g/\Z H/\t g n Pd /\
 ∀d v H',Pd d->Same H H'->Rp (λa=>H a=none) H' v d->Q v H'
def QJ{Z:Hp->Prop}{T:DS}{N:List Str}{H:Hp}{Q:VK}{f:Addr}{n:Int}{m:Nat}{Pd:D->Prop}(z:Z H)(k:∀d v H',Pd d->Same H H'->Rp (λa=>H a=none) H' v d->Q v H')(hN:N.length=m+2)(body:T { nx:=λ_=>Pd .none,rt:=Pd } (.im (.int n)::.scr (.ref f) false::Æ m .any)):@jM (grZ Z) T { nx:=λ_ H'=>Q .non H',rt:=Q } (L2.start N [.int n,.ref f]) H:=by
 letI:=grZ Z
 have sm:∀H',(∀b o,H b=some o->¬dB.fp b->H' b=some o)->Same H H':=λH' k b o e=>k b o e λz=>z
 exact⟨dB,H,λ_=>none,_,_,QD z hN,body,⟨λo s h' r' e' _ n=>k _ _ h' n (sm h' e'.k0) .non,λd v h' n w=>k d v h' n (sm h' w.k0) (w.rp.mono (λ_ o=>o.1) (λ_ _ _ e=>e) λ_ _ e=>e),λ_ _ _ _ _ _ n=>n.elim,λ_ _ _ _ _ _ n=>n.elim⟩⟩
end Dl
namespace Wr
open PySem L2 PyProof.Rows Dl
variable {X:Cx}{k j:Nat}{x:Str}{ps:List Str}{e:Expr}{es:List Expr}{t:DA}{p pos:Pos}{Z:Hp->Prop}{i:Nat}{f:Addr}{fd:FuncData}{g:List D->(D->Prop)->Prop}
def dcV(hZ:∀H H',Z H->Same H H'->Z H')(F:FnOk X.prog X.w X.K X.mg X.base CX0 k f fd ps (spZ Z g))(hf:W.FnAt f X.base)(hr:Room j X.A)(hb:Binds X.K fd ps [])(hv:WV X (.Name x p) i)(ha:@WDA (grZ Z) X (e::es) t)(hk:k<=j:=by decide)(he:zS X e es:=by rfl)(hpl:zP X pos es:=by rfl) :
  @WD (grZ Z) X (.Call (.Name x p) (e::es) [] pos) (Oh i f g t):=@WD.mk (grZ Z) _ _ _ (Dl.dcV hZ F hf hr hb hv.h (@WDA.h (grZ Z) _ _ _ ha) hk he hpl)
end Wr
namespace Dl
open PySem L2 PyProof.Rows
section
variable [Gr] {X:Cx}{st:Stmt}{i k a b:Nat}{f:List D->(D->Prop)->Prop}
def NP(i k a b:Nat)(f:List D->(D->Prop)->Prop):DS:=λP ρ=>∃(r:Nat) (ds:List D) (ws:List Int) (n m:Int),ρ[i]?=some (.sp r true ds)/\ρ[k]?=some (.sh (iD ws))/\ρ[a]?=some (.im (.int n))/\ρ[b]?=some (.im (.int m))/\(∃x y tl,ds=.tuple [x,y]::tl)/\ds.length<1000 /\
 f [iD ws,.list ds,.int n,.int m] λd=>∃(t:Int) (L:List Int),d=.tuple [.int t,iD L]/\L.length≠ws.length/\P.nx ((forget r ρ).set i (.sp r true (ds++[d])))
def wA(h:PS X st (jh (tBM X.K "list" d7 (dJ i) (qF (tG (spR f) [] E0 (qF (dJ k) (qF (dJ i) (qF (dJ a) (qF (dJ b) Ob))))) Ob)))):PDS X st (NP i k a b f):=PS.wk' h (by
 rintro Q σ H ⟨p,H0,own,ρ,P,E,⟨r,ds,ws,n,m,hi,hk,ha,hb,⟨x,y,tl,hds⟩,hlen,hf⟩,w⟩
 obtain⟨l,vs,hv,o,ho,rs⟩:=E.slot i _ hi
 obtain⟨vw,hkσ,rw⟩:=E.slot k _ hk
 obtain⟨va,haσ,ra⟩:=E.slot a _ ha
 obtain⟨vb,hbσ,rb⟩:=E.slot b _ hb
 have ea:=ra.int'
 have eb:=rb.int'
 subst ea eb
 obtain⟨wl,wvs,rfl,okw,hw,rws⟩:=Rp.bO rw
 have ew:=Rps.ints rws
 subst ew
 refine⟨.ref l,hv,.inl ⟨rfl,vs,SqL.of ho⟩,.ref wl,hkσ,.ref l,hv,.int n,haσ,.int m,hbσ,?_⟩
 show spR f ([.ref wl,.ref l,.int n,.int m]++[]) H _ E0
 rw[ê]
 have A:=E.at
 refine⟨λc=>okS p H0 own true c\/c=l\/c=wl,[iD ws,.list ds,.int n,.int m],_,.cons (.lst (.inr (.inr rfl)) hw (Rps.ofMap (λx=>.int x) ws)) (.cons (.lst (.inr (.inl rfl)) ho (rs.mono (λ_ o=>.inl o) (λ_ _ _ e=>e) λ_ _ e=>e)) (.cons (.int n) (.cons (.int m) .nil))),hf,λd v H' ⟨t,L,ed,hL,hn⟩ sm rp=>?_⟩
 subst ed
 obtain⟨ta,tvs,rfl,hta,rt⟩:=Rp.fu rp
 obtain⟨v1,v2,rfl,r1,r2⟩:=rt.two
 have e1:=r1.int'
 subst e1
 obtain⟨bb,bvs,rfl,okb,hbb,rbb⟩:=Rp.bO r2
 have e2:=Rps.ints rbb
 subst e2
 have nl:bb≠l:=λz=>by
  rw[z,sm l _ ho] at hbb
  subst hds
  cases rs with
  |cons h t =>
   obtain⟨c,cvs,rfl,_⟩:=Rp.fu h
   cases L with
   |nil=>cases hbb
   |cons q L=>cases hbb
 have nw:bb≠wl:=λz=>by
  rw[z,sm wl _ hw] at hbb
  have e:=congrArg List.length (HO.lst.inj (à hbb))
  rw[À,À] at e
  exact hL e.symm
 have okb2:okS p H0 own true bb:=by
  rcases okb with (z|z|z)|z
  ·exact z
  ·exact absurd z nl
  ·exact absurd z nw
  ·exact⟨λ_=>A.h0 z,A.nfp z,A.Kv z⟩
 have A2:At p H0 own H H':=A.go (Kp.of sm) (p.mono H H' E.pen λb o _ e=>sm b o e)
 have E1:=E.go A2.kp A2.pen
 have h1:H' l=some (.lst vs):=sm l _ ho
 have rs1:Rps (okS p H0 own true) H' vs ds:=rs.mono (λ_ o=>o) (λc u n e=>sm c u e) λ_ _ e=>sm _ _ e
 have rv:Rp (okS p H0 own true) H' (.ref ta) (.tuple [.int t,iD L]):=.tup hta (.cons (.int t) (.cons (.lst okb2 hbb (Rps.ofMap (λx=>.int x) L)) .nil))
 have hln:=rs.length
 have h24:=ï
 refine⟨l,vs,.ref ta,rfl,rfl,h1,by omega,?_⟩
 obtain⟨E2,F2⟩:=E1.Kc (b:=true) hv o h1 (rs1.snoc rv)
 exact w.nx _ σ _ _ E2 (A2.frs.trans F2) hn)
end
end Dl
namespace Wr
open PySem L2 PyProof.Rows Dl
section
variable [Gr] {X:Cx}{i k a b lv j:Nat}{f:List D->(D->Prop)->Prop}{x g y z1 z2:Str}{ps:List Str}{apos cpos np pos gp gpos py px pa pb:Pos}
def wA(C:Cal X.prog X.w X.K X.mg X.base lv g ps (spR f))(hr:Room j X.A)(hv:WV X (.Name x np) i)(hy:WV X (.Name y py) k)(hx:WV X (.Name x px) i)(h1:WV X (.Name z1 pa) a)(h2:WV X (.Name z2 pb) b)(hk:lv<=j:=by decide)(hg:Gl X g:=by rfl)(hdb:zB g:=by decide)(hbase:attributeBase (.Name x np) "append" X.env (eval (.Name x np) X.env)=eval (.Name x np) X.env:=by rfl)(hfew:((backTo cpos (starEach [.Call (.Name g gp) [.Name y py,.Name x px,.Name z1 pa,.Name z2 pb] [] gpos] X.env)).all (λx=>!x.1)&&(backToKw cpos (keywordEach [] X.env)).all (λx=>x.1.isSome)
  &&decide (([.Call (.Name g gp) [.Name y py,.Name x px,.Name z1 pa,.Name z2 pb] [] gpos]:List Expr).length+([]:List Keyword).length+(if ([]:List Keyword).isEmpty then 0 else 1)<30))=true:=by rfl)(hline:(apos.endLine == cpos.line)=true:=by rfl)(hs:swapsWith (.Call (.Attribute (.Name x np) "append" apos) [.Call (.Name g gp) [.Name y py,.Name x px,.Name z1 pa,.Name z2 pb] [] gpos] [] cpos) none pos.line X.env=pure false:=by rfl) :
  WDS X (.Expr (.Call (.Attribute (.Name x np) "append" apos) [.Call (.Name g gp) [.Name y py,.Name x px,.Name z1 pa,.Name z2 pb] [] gpos] [] cpos) pos) (NP i k a b f) :=
 ⟨Dl.wA (bL (fH í Ĝ ě cT hv.h (cX (pcS C hr (cX hy.h (cX hx.h (cX h1.h (cX h2.h oV)))) hk hg hdb rfl rfl) oV) hbase hfew hline rfl rfl) hs)⟩
end
end Wr
namespace L2
open PySem PySem.Spec PyProof.Rows
def Ec{P:Program}{w:World}{K:Ú}{mg mb:Str->Option Value}{k:Nat}{fa a:Addr}{Ps:List Addr}{fd:FuncData}{x:Str}{sp:Sp}{s₁:Shared}{vs:List Value}{ns:List Int}(KX:K.In s₁.heap)(hKP:∀PT∈Ps,K.lookup PT=none)(hC:∀PT∈Ps,∃c,W.CodeHd s₁.heap c PT)(hPT:∀PT∈Ps,s₁.heap.get? PT=some (W.tabObj #[]))(hns:s₁.heap.Ns mainGlobals mg)(hb:s₁.heap.Ns builtinsNs mb)(hbb:∀x:Str,x≠"__name__"->mb x=bootBuiltins x)(hlim:s₁.heap.NoLimit)(hBm:∀PT∈Ps,s₁.heap.BuiltinsAt mg PT)(hg:s₁.gens=#[])(ha:s₁.heap.get? a=some { cls:=.type "list",data:=.seq vs.toArray })(hi:IntsAre vs ns)(hl:ns.length<=sizeLine)(hr:Room k callerA)(F:∀base:Heap,K.In base->base.Ns mainGlobals mg->(∀PT∈Ps,base.BuiltinsAt mg PT)->(∀(b:Addr) (m:Str->Option Value),s₁.heap.Ns b m->base.Ns b m)->FnOk P w K mg base CX0 k fa fd [x] sp)(hbind:∀(s:Shared) (u:Value),BindsTo s fd ⟨[u],[]⟩ [(x,u)])(hsp:∀H:Hp,SqL K H a (ns.map V.int)->(∀PT∈Ps,H PT=some (.tbl #[]))->sp [.ref a] H (λv _=>v=.bl true) λ_ _ _=>False) :
  codeAny (model P w) callerA (.call (.ref fa) ⟨[.ref a],[]⟩) (λr s'=>r=.ok (.ret (.bool true))/\OldK s₁.heap s'.heap/\s'.os=s₁.os/\AllBare s'.gens) s₁:=by
 have rv:=oE hi
 have lenV:=hi.length
 have aP:a∉Ps:=λz=>by rw[hPT a z] at ha;cases ha
 have core:∀H:Hp,SqL K H a (ns.map V.int)->HOk P w H s₁.heap->(∀PT∈Ps,H PT=some (.tbl #[]))->(∀b u,H b=some u->b∉Ps->b=a/\K.lookup a=none/\∃o u',u=.frz o u') ->
   codeAny (model P w) callerA (.call (.ref fa) ⟨[.ref a],[]⟩) (λr s'=>r=.ok (.ret (.bool true))/\OldK s₁.heap s'.heap/\s'.os=s₁.os/\AllBare s'.gens) s₁:=by
  intro H hS hok hT hA
  have nD:∀{b:Addr}{o:Obj}{es:Array DictEntry}{ep:Nat},s₁.heap.get? b=some o->o.data=.dict es ep->H b=none:=λ{b o es ep} e d=>by
   cases q:H b with
   |none=>rfl
   |some u =>
    by_cases z:b∈Ps
    ·rw[hPT b z] at e;cases e;cases d
    ·have:=(hA b u q z).1
     subst this
     rw[ha] at e;cases e;cases d
  have nsK:∀{b:Addr}{m:Str->Option Value},s₁.heap.Ns b m->(vQ s₁.heap H).Ns b m:=λ{b m} ⟨o,es,ep,e,d,r⟩=>⟨o,es,ep,rO e (nD e d),d,r⟩
  have hKb:K.In (vQ s₁.heap H):=λb o e=>rO (KX b o e) (by
   cases q:H b with
   |none=>rfl
   |some u =>
    by_cases z:b∈Ps
    ·rw[hKP b z] at e;cases e
    ·obtain⟨z1,z2,_⟩:=hA b u q z
     rw[z1,z2] at e;cases e)
  have hM:Mod K mg (vQ s₁.heap H):=⟨hKb,nsK hns,⟨mb,nsK hb,hbb⟩,let ⟨mc,h1,h2⟩:=hlim;⟨mc,nsK h1,h2⟩⟩
  have e0:Env0 P w K mg (vQ s₁.heap H) callerA [] s₁ H:=⟨rfl,hM,λb o e=>KY e,Nat.le_of_eq (Ek _ _),trivial,λb hb=>absurd (show b∈([]:List Addr) from hb) (by simp),hok,.of_eq hg⟩
  have hBb:∀PT∈Ps,(vQ s₁.heap H).BuiltinsAt mg PT:=λPT hP=>by
   obtain⟨bm,o,h1,h2,h3,h4,h5,h6,h7⟩:=hBm PT hP
   refine⟨bm,o,h1,h2,h3,h4,rO h5 ?_,h6,h7⟩
   cases q:H bm with
   |none=>rfl
   |some u =>
    have:=(hA bm u q λz=>by
     have e5:=h5
     rw[hPT bm z] at e5
     cases e5
     have h6:ĕ=Đ "module":=h6
     cases h6).1
    subst this
    rw[ha] at h5;cases h5
    have h6:Đ "list"=Đ "module":=h6
    exact absurd h6 (by decide)
  refine codeAny_mono ((F _ hKb (nsK hns) hBb λb m z=>nsK z).run callerA [] s₁ H ⟨[.ref a],[]⟩ [.ref a] [.ref a] _ _ hr e0 (hbind s₁ (.ref a)) (.cons rfl .nil) (hsp H hS hT)) λr s' h=>?_
  cases r with
  |error e=>exact h.elim
  |ok fl =>
   cases fl with
   |next=>exact Į h
   |brk=>exact Į h
   |cont=>exact Į h
   |ret u =>
    obtain⟨v,H',os,bare,un,hok',r',q⟩:=h
    have q':v=.bl true:=q
    subst q'
    obtain rfl:u=Value.bool true:=r'
    have eTs:∀PT∈Ps,∃more,s'.heap.get? PT=some { cls:=.none,data:=.fields (#[]++more) }:=λPT hP=>by
     obtain⟨more,hT'⟩:=un.tbls PT _ (hT PT hP)
     exact⟨more,hok' PT _ hT'⟩
    have kept:∀b o,s₁.heap.get? b=some o->b∉Ps->s'.heap.get? b=some o:=λb o e nb=>by
     cases q:H b with
     |none=>exact un.keep b o e q (by intro z;exact absurd (show b∈([]:List Addr) from z) (by simp)) (by simp)
     |some u =>
      obtain⟨_,_,ob,u',rfl⟩:=hA b u q nb
      have e1:=(hok b _ q).1
      rw[e] at e1;cases e1
      exact(hok' b _ (un.frzs b _ _ q)).1
    refine⟨rfl,⟨λb o e=>?_,λb o e=>?_⟩,os,bare⟩
    ·by_cases z:b∈Ps
     ·obtain⟨more,eT⟩:=eTs b z
      obtain⟨c,hc⟩:=hC b z
      rw[hPT b z] at e
      cases e
      exact .inr (.inl ⟨(hc.tab (hPT b z)).isCodeTable,rfl,#[],more,rfl,eT⟩)
     ·exact .inl (kept b o e z)
    ·by_cases z:b∈Ps
     ·obtain⟨more,eT⟩:=eTs b z
      exact⟨_,eT⟩
     ·exact⟨o,kept b o e z⟩
 cases hk:K.lookup a with
 |some o =>
  have e:=KX a o hk
  rw[ha] at e
  cases e
  refine core (λb=>if b∈Ps then some (.tbl #[]) else none) (.inr ⟨_,vs.toArray,_,hk,rfl,rfl,rfl,by rw[Í,lenV];exact hl,by simpa using rv⟩) (λb u z=>?_) (λPT hP=>if_pos hP) λb u z nb=>?_
  ·by_cases hb:b∈Ps
   ·have z':=(if_pos hb).symm.trans z
    cases z'
    exact hPT b hb
   ·have z':=(if_neg hb).symm.trans z
    cases z'
  ·have z':=(if_neg nb).symm.trans z
   cases z'
 |none =>
  let H:Hp:=λb=>if b∈Ps then some (.tbl #[]) else if b=a then some (.frz { cls:=.type "list",data:=.seq vs.toArray } (.lst (ns.map V.int))) else none
  have hP1:∀PT∈Ps,H PT=some (.tbl #[]):=λPT hP=>if_pos hP
  have hA1:H a=some (.frz { cls:=.type "list",data:=.seq vs.toArray } (.lst (ns.map V.int))):=(if_neg aP).trans (if_pos rfl)
  have hN1:∀b,b∉Ps->b≠a->H b=none:=λb h1 h2=>(if_neg h1).trans (if_neg h2)
  refine core H (.inl (.inr ⟨_,hA1⟩)) (λb u z=>?_) hP1 λb u z nb=>?_
  ·by_cases hb:b∈Ps
   ·rw[hP1 b hb] at z
    cases z
    exact hPT b hb
   ·by_cases hb2:b=a
    ·subst hb2
     rw[hA1] at z
     cases z
     exact⟨ha,by rw[À];exact hl,vs,_,rv,ha⟩
    ·rw[hN1 b hb hb2] at z;cases z
  ·by_cases hb2:b=a
   ·subst hb2
    rw[hA1] at z
    cases z
    exact⟨rfl,hk,_,_,rfl⟩
   ·rw[hN1 b nb hb2] at z;cases z
def Fx{l:W.OpenLaw}{n k:Nat}{q:Program}{loose:List Str}{XP:(Str->Option Value)->Heap->Prop}{YP:World->Heap->Prop}{d:DefRec}{K:Params->Ú}{x:Str}(hi:importsNone q=true)(hn:l.most=some n)(hn2:n<=sizeLine)(hdf:d.params.defaults=[])(hr:Room k callerA)(hY:∀(w:World) (h:Heap),YP w h->(K w.params).In h)(F:∀(w:World) (mg:Str->Option Value) (fa:Addr) (h:Heap),(K w.params).In h->h.Ns mainGlobals mg->mg d.name=some (.ref fa) ->
   ∃(K':Ú) (Ps:List Addr) (fd:FuncData) (sp:Sp),K'.In h/\(∀PT∈Ps,K'.lookup PT=none)/\(∀PT∈Ps,∃c,W.CodeHd h c PT)/\(∀PT∈Ps,h.get? PT=some (W.tabObj #[]))/\(∀(s:Shared) (u:Value),BindsTo s fd ⟨[u],[]⟩ [(x,u)]) /\
    (∀base:Heap,K'.In base->base.Ns mainGlobals mg->(∀PT∈Ps,base.BuiltinsAt mg PT)->(∃o,base.get? sysModules=some o)->FnOk l.prog w K' mg base CX0 k fa fd [x] sp)/\∀(H:Hp) (a:Addr) (ns:List Int),SqL K' H a (ns.map V.int)->(∀PT∈Ps,H PT=some (.tbl #[]))->sp [.ref a] H (λv _=>v=.bl true) λ_ _ _=>False) :
  W.WalkO q loose XP YP l.row.toRowW d [] (λf vs=>PySem.call f vs):=by
 refine Att.yN hn hdf λw s₀ s₁ mg mb fa o pm cd doc a vs ns G Y ho hd hcd hmg hobj hints hlen hg=>?_
 obtain⟨K',Ps,fd,sp,k1,k2,k3,k4,hb,hF,hsp⟩:=F w mg fa _ (hY w _ Y) G.T.g hmg
 have hBm:∀PT∈Ps,s₁.heap.BuiltinsAt mg PT:=λPT hP=>by
  obtain⟨bm,ob,b1,b2,b3,b4,b5,b6⟩:=G.T.bmain
  have n1:bm≠PT:=λz=>by rw[z,k4 PT hP] at b3;cases b3;cases b4
  have n2:bm≠mainGlobals:=λz=>by
   obtain⟨o,es,ep,e,hd,_⟩:=G.T.g
   rw[z,e] at b3;cases b3;rw[hd] at b6;cases b6
  exact⟨bm,ob,b1,b2,n2,n1,b3,b4,b5,b6⟩
 obtain⟨mm,hm,_⟩:=(G.T.seer hi).mods
 exact Ec k1 k2 k3 k4 G.T.g G.T.b G.T.builtins G.T.nolimit hBm hg hobj hints (õ hlen hn2) hr (λbase h1 h2 h3 h4=>hF base h1 h2 h3 (let ⟨o,_,_,e,_⟩:=h4 _ _ hm;⟨o,e⟩)) hb λH hS hT=>hsp H a ns hS hT
def JV{K:Ú}{Ps:List Addr}{h:Heap}(X:W.Frag.In ((Ps.map λa=>(a,W.tabObj #[]))++K) h)(n:∀PT∈Ps,K.lookup PT=none):K.In h/\∀PT∈Ps,h.get? PT=some (W.tabObj #[]):=by
 have look:∀(Ps:List Addr) (a:Addr),a∉Ps->List.lookup a ((Ps.map λa=>(a,W.tabObj #[]))++K)=K.lookup a:=λPs a h=>by
  induction Ps with
  |nil=>rfl
  |cons p Ps ih =>
   rw[æ,List.cons_append,ÿ,show(a == p)=false by simpa using λz:a=p=>h (by rw[z];exact Å)]
   exact ih λz=>h (Ä _ z)
 have lookP:∀(Ps:List Addr) (a:Addr),a∈Ps->List.lookup a ((Ps.map λa=>(a,W.tabObj #[]))++K)=some (W.tabObj #[]):=λPs a h=>by
  induction Ps with
  |nil=>cases h
  |cons p Ps ih =>
   rw[æ,List.cons_append,ÿ]
   by_cases z:a=p
   ·rw[z,beq_self_eq_true]
   ·rw[show(a == p)=false by simpa using z]
    exact ih ((Ð.mp h).resolve_left z)
 refine⟨λa o e=>X a o ?_,λPT hP=>X PT _ (lookP Ps PT hP)⟩
 rw[look Ps a λz=>by rw[n a z] at e;cases e]
 exact e
end L2
set_option autoImplicit true
namespace Dl
open PySem L2 PyProof.Rows
class Tb where
 T:Pn
instance (priority:=low) noTb:Tb:=⟨dB⟩
def sW[Tb](a:Addr)(n:Nat):Pn where
 fp:=λb=>b=a\/Tb.T.fp b
 PI:=λH=>(∃x y c:Int,H a=some (.lst [.int x,.int y,.int c])/\0<=c/\c+(n:Int)<=1152921504606846976)/\Tb.T.PI H/\¬Tb.T.fp a
 pv:=.ref a
 mono:=λH H' ⟨⟨x,y,c,h,r⟩,t,na⟩ k=>⟨⟨x,y,c,k _ _ (.inl (.inl rfl)) h,r⟩,Tb.T.mono H H' t λb o z e=>k b o (z.imp .inr id) e,na⟩
 is:=λH b ⟨⟨x,y,z,h,_⟩,t,_⟩ hb=>hb.elim (λhb=>by
  subst hb
  exact⟨_,h,(λxs z=>(nomatch z)),λ⟨_,_,z⟩=>(nomatch z)⟩) (Tb.T.is H b t)
def TP:Pn->Prop:=λ_=>True
def Uu:Sl->Sl
 |.pen _=>.pen TP
 |s=>s
def stp(ρ:List Sl):List Sl:=ρ.map Uu
section
variable [Tb] {X:Cx}{a:Addr}{n m m1 m2 m3:Nat}{H0 Hb H H1 H':Hp}{own:Addr->Option Nat}{σ:L2.St}{ρ:List Sl}
structure EnvB(a:Addr)(n m:Nat)(H0:Hp)(own:Addr->Option Nat)(σ:L2.St)(H:Hp)(ρ:List Sl):Prop where
 st:stp ρ=ρ
 pi:(sW a (n+m)).PI H
 env:EnvD (sW a n) H0 own σ H ρ
def Qe(m:Nat)(t:DE):TE:=λσ H Q=>∃a n H0 own ρ P,EnvB a n m H0 own σ H ρ/\t ρ P/\∀k d v H',P k d->At (sW a n) H0 own H H'->Rp (okK (sW a n) H0 own H k) H' v d->Q v H'
def Qf(m:Nat)(t:DA):TA:=λσ H Q=>∃a n H0 own ρ P,EnvB a n m H0 own σ H ρ/\t ρ P/\∀ks vs H',P ks->At (sW a n) H0 own H H'->RpK (sW a n) H0 own H H' vs ks->Q vs H'
def zZ(m:Nat)(t:DT):TT:=λσ H Q=>∃a n H0 own ρ P,EnvB a n m H0 own σ H ρ/\t ρ P/\∀b H',P b->At (sW a n) H0 own H H'->Q b H'
def Qd(m:Nat)(t:DI):TI:=λσ H R=>∃a n H0 own ρ P,EnvB a n m H0 own σ H ρ/\t ρ P/\∀k ds J H1 Ok,P k ds->At (sW a n) H0 own H H1->Wlk Ok J ds (okA (sW a n) H0 own H k H1)->Ok H1->R J H1
def Iz(m:Nat)(t:DS):TS:=λQ σ H=>∃a n H0 own ρ P,EnvB a n m H0 own σ H ρ/\t P ρ/\Wish (sW a n) H0 own H P Q
end
end Dl
namespace Wb
open PySem L2 PyProof.Rows Dl Wr
section
variable [Tb]
structure BE(X:Cx)(m:Nat)(e:Expr)(t:DE):Prop where
 h:PE X e (Qe m t)
structure BA(X:Cx)(m:Nat)(e:List Expr)(t:DA):Prop where
 h:PA X e (Qf m t)
structure BT(X:Cx)(m:Nat)(e:Expr)(t:DT):Prop where
 h:PT X e (zZ m t)
structure BW(X:Cx)(m:Nat)(e:Expr)(t:DT):Prop where
 h:PW X e (zZ m t)
structure BTs(X:Cx)(m:Nat)(e:List Expr)(t:DT):Prop where
 h:PTs X e (zZ m t)
structure BI(X:Cx)(m:Nat)(tg e:Expr)(t:DI):Prop where
 h:PI X tg e (Qd m t)
structure BS(X:Cx)(m:Nat)(s:Stmt)(t:DS):Prop where
 h:PS X s (Iz m t)
structure BSs(X:Cx)(m:Nat)(s:List Stmt)(t:DS):Prop where
 h:PSs X s (Iz m t)
end
section
variable [Tb] {X:Cx}{n m m1 m2 m3:Nat}{H0 Hb H H1 H':Hp}{own:Addr->Option Nat}{σ:L2.St}{ρ:List Sl}{pos:Pos}{a b e:Expr}{es:List Expr}{ta tb te:DE}{t:DA}
section
variable {rest:List Expr}{t u:DT}
end
end
end Wb
namespace Dl
open PySem L2 PyProof.Rows
section
variable [Tb]
end
end Dl
namespace Wb
open PySem L2 PyProof.Rows Dl Wr
section
variable [Tb]
end
section
variable [Tb] {X:Cx}{n m m1 m2 m3:Nat}{H0 Hb H H1 H':Hp}{own:Addr->Option Nat}{σ:L2.St}{ρ:List Sl}{pos:Pos}{a b e:Expr}{es:List Expr}{ta tb te:DE}
def Eo(t u:DS):DS:=λP ρ=>t { nx:=λr=>u P (stp r),rt:=P.rt,bk:=λr=>P.bk (stp r),ct:=λr=>P.ct (stp r) } ρ
section
variable {st:Stmt}{rest:List Stmt}{t u:DS}
end
end
variable {X:Cx}{K:Ú}{sc:Addr}{ns:List Int}{pre:List D->Prop}
end Wb
namespace Wr
open PySem L2 PyProof.Rows Dl
variable [Gr] {X:Cx}{pos:Pos}{a b:Expr}{ta tb:DE}
def Ku(ha:WD X a ta)(hb:WD X b tb):WD X (.BinOp a .BitAnd b pos) (t2 (gI0 λi j=>.int (Builtin.bitAnd i j)) ta tb):=⟨Dl.kZ Pb (xW λi j _=>.int _) ha.h hb.h⟩
end Wr
namespace L2
open PySem PySem.Spec PyProof.Rows
open PySem.AutoSeq1 (wpAny_loadPart')
open PySem.MeetsSeq PySem.MeetsSeq3
section
variable {X:Cx}
end
end L2
namespace Dl
open PySem L2 PyProof.Rows
variable [Gr] {X:Cx}{a b:Expr}{ta tb:DE}{pos:Pos}
end Dl
namespace Wr
open PySem L2 PyProof.Rows Dl
variable [Gr] {X:Cx}{a b:Expr}{ta tb:DE}{pos:Pos}
end Wr
namespace Cut
def mg(es:List Int)(X:Int->Bool):Nat:=es.countP X
structure Prp(n:Nat)(X:Int->Bool):Prop where
 ins:∃v:Int,(0<=v/\v<n)/\X v=true
 out:∃v:Int,(0<=v/\v<n)/\X v=false
def kh(e:Int)(es:List Int)(X:Int->Bool):mg (e::es) X=mg es X+(X e).toNat:=by
 unfold mg
 rw[List.countP_cons]
 cases X e <;> rfl
def oX{es:List Int}{X:Int->Bool}{a:Int}(h:a∈es)(hX:X a=true):1<=mg es X:=List.countP_pos_iff.mpr ⟨a,h,hX⟩
def Hj(es:List Int)(X Y:Int->Bool):mg es (λv=>X v || Y v)+mg es (λv=>X v&&Y v)=mg es X+mg es Y:=by
 induction es with
 |nil=>rfl
 |cons e es ih =>
  simp only[kh]
  cases X e <;> cases Y e <;> simp_all <;> omega
def Ib(es:List Int)(X:Int->Bool):mg es X+mg es (λv=>!X v)=es.length:=by
 induction es with
 |nil=>rfl
 |cons e es ih =>
  simp only[kh,ì]
  cases X e <;> simp <;> omega
section
variable {n k:Nat}{us:List (Int×Int)}{es:List Int}
def Prp.not{X:Int->Bool}(h:Prp n X):Prp n λv=>!X v :=
 ⟨let ⟨v,a,b⟩:=h.out;⟨v,a,by rw[b];rfl⟩,let ⟨v,a,b⟩:=h.ins;⟨v,a,by rw[b];rfl⟩⟩
def Prp.sub{X Y:Int->Bool}(h:Prp n X){v:Int}(hr:0<=v/\v<n)(hv:Y v=true)(hs:∀v,Y v=true->X v=true):Prp n Y :=
 ⟨⟨v,hr,hv⟩,let ⟨u,a,b⟩:=h.out;⟨u,a,by
  cases c:Y u with
  |false=>rfl
  |true=>rw[hs u c] at b;cases b⟩⟩
end
abbrev Dj(n:Nat)(X Y:Int->Bool):Prop:=∀v:Int,0<=v/\v<n->X v=true->Y v=false
def Ia{α:Type}{R:α->α->Prop}:∀{l:List α},¬l.Pairwise R->∃x y r,l.Perm (x::y::r)/\¬R x y
 |[],h=>absurd .nil h
 |x::l,h=>by
  by_cases c:∀y∈l,R x y
  ·have hl:¬l.Pairwise R:=λz=>h (.cons c z)
   obtain⟨a,b,r,p,q⟩:=Ia hl
   exact⟨a,b,x::r,(p.cons x).trans ((List.Perm.swap a x (b::r)).trans ((List.Perm.swap b x r).cons a)),q⟩
  ·have ⟨y,hy⟩:=Classical.not_forall.mp c
   have ⟨hm,hR⟩:=Classical.not_imp.mp hy
   obtain⟨s,t,rfl⟩:=List.append_of_mem hm
   exact⟨x,y,s++t,List.perm_middle.cons x,hR⟩
section
variable {n k:Nat}{us:List (Int×Int)}{es:List Int}
def sum_add{α:Type}(l:List α)(f g:α->Nat):(l.map λx=>f x+g x).sum=(l.map f).sum+(l.map g).sum:=by
 induction l with
 |nil=>rfl
 |cons x l ih=>simp only[æ,ċ,ih];omega
def Ph{Gs:List (Int->Bool)}(h:Gs.Pairwise (Dj n)){e:Int}(hr:0<=e/\e<(n:Int)):(Gs.map λX=>(X e).toNat).sum<=1/\((∃X∈Gs,X e=true)->(Gs.map λX=>(X e).toNat).sum=1):=by
 induction h with
 |nil=>exact⟨ú _,λ⟨_,h,_⟩=>(nomatch h)⟩
 |@cons X l hX hl ih =>
  rw[æ,ċ]
  cases c:X e with
  |true =>
   have:(l.map λX=>(X e).toNat).sum=0:=by
    have:∀m:List (Int->Bool),(∀Y∈m,Y e=false)->(m.map λX=>(X e).toNat).sum=0:=λm=>by
     induction m with
     |nil=>intro _;rfl
     |cons Y m ih=>intro h;rw[æ,ċ,h Y Å,ih λZ hZ=>h Z (Ä _ hZ)];rfl
    exact this l λY hY=>hX Y hY e hr c
   rw[this]
   exact⟨Ë _,λ_=>rfl⟩
  |false =>
   refine⟨by have:=ih.1;simp;exact this,λ⟨Y,hY,q⟩=>?_⟩
   rcases Ð.mp hY with rfl|hY
   ·rw[q] at c;cases c
   ·have:=ih.2 ⟨Y,hY,q⟩
    simp
    exact this
def Gb(rng:∀e∈es,0<=e/\e<(n:Int)){Gs:List (Int->Bool)}(h:Gs.Pairwise (Dj n)):(Gs.map λX=>mg es X).sum<=es.length/\((∀e∈es,∃X∈Gs,X e=true)->(Gs.map λX=>mg es X).sum=es.length):=by
 induction es with
 |nil =>
  have:∀m:List (Int->Bool),(m.map λX=>mg [] X).sum=0:=λm=>by
   induction m with
   |nil=>rfl
   |cons Y m ih=>rw[æ,ċ,ih];rfl
  rw[this]
  exact⟨Ë _,λ_=>rfl⟩
 |cons e es ih =>
  obtain⟨i1,i2⟩:=ih λx hx=>rng x (Ä _ hx)
  obtain⟨o1,o2⟩:=Ph h (rng e Å)
  have:(Gs.map λX=>mg (e::es) X).sum=(Gs.map λX=>mg es X).sum+(Gs.map λX=>(X e).toNat).sum:=by
   rw[←sum_add]
   congr 1
   exact Ğ λX _=>kh e es X
  rw[this,ì]
  refine⟨by omega,λhc=>?_⟩
  rw[i2 λx hx=>hc x (Ä _ hx),o2 (hc e Å)]
end
end Cut
namespace Cut
def di(us:List (Int×Int))(X:Int->Bool):Nat:=us.countP λt=>!X t.1&&X t.2
def dO(us:List (Int×Int))(X:Int->Bool):Nat:=us.countP λt=>X t.1&&!X t.2
def qC(t:Int×Int)(us:List (Int×Int))(X:Int->Bool):di (t::us) X=di us X+(!X t.1&&X t.2).toNat:=by
 unfold di
 rw[List.countP_cons]
 cases !X t.1&&X t.2 <;> rfl
def qD(t:Int×Int)(us:List (Int×Int))(X:Int->Bool):dO (t::us) X=dO us X+(X t.1&&!X t.2).toNat:=by
 unfold dO
 rw[List.countP_cons]
 cases X t.1&&!X t.2 <;> rfl
def Jx(us:List (Int×Int))(X:Int->Bool):dO us (λv=>!X v)=di us X:=by
 unfold dO di
 refine List.countP_congr λt _=>?_
 cases h1:X t.1 <;> cases h2:X t.2 <;> simp[h1,h2]
def Am(us:List (Int×Int))(X:Int->Bool):di us (λv=>!X v)=dO us X:=by
 unfold dO di
 refine List.countP_congr λt _=>?_
 cases h1:X t.1 <;> cases h2:X t.2 <;> simp[h1,h2]
def bi2:∀x y x' y':Bool,(!(x&&y)&&(x'&&y')).toNat+(!(x || y)&&(x' || y')).toNat<=(!x&&x').toNat+(!y&&y').toNat:=by decide
def bo2:∀x y x' y':Bool,((x&&y)&&!(x'&&y')).toNat+((x || y)&&!(x' || y')).toNat<=(x&&!x').toNat+(y&&!y').toNat:=by decide
def bm2:∀x y x' y':Bool,(!(x&&!y)&&(x'&&!y')).toNat+((y&&!x)&&!(y'&&!x')).toNat<=(!x&&x').toNat+(y&&!y').toNat:=by decide
def Ju(us:List (Int×Int))(X Y:Int->Bool):di us (λv=>X v&&Y v)+di us (λv=>X v || Y v)<=di us X+di us Y:=by
 induction us with
 |nil=>exact Ë _
 |cons t us ih =>
  simp only[qC]
  have:=bi2 (X t.1) (Y t.1) (X t.2) (Y t.2)
  omega
def Jw(us:List (Int×Int))(X Y:Int->Bool):dO us (λv=>X v&&Y v)+dO us (λv=>X v || Y v)<=dO us X+dO us Y:=by
 induction us with
 |nil=>exact Ë _
 |cons t us ih =>
  simp only[qD]
  have:=bo2 (X t.1) (Y t.1) (X t.2) (Y t.2)
  omega
def QK(us:List (Int×Int))(X Y:Int->Bool):di us (λv=>X v&&!Y v)+dO us (λv=>Y v&&!X v)<=di us X+dO us Y:=by
 induction us with
 |nil=>exact Ë _
 |cons t us ih =>
  simp only[qC,qD]
  have:=bm2 (X t.1) (Y t.1) (X t.2) (Y t.2)
  omega
def jK{es:List Int}{X:Int->Bool}(h:∀e∈es,X e=true):mg es X=es.length:=List.countP_eq_length.mpr h
def Rr(es:List Int)(X Y:Int->Bool):mg es (λv=>X v&&!Y v)+mg es (λv=>X v&&Y v)=mg es X:=by
 induction es with
 |nil=>rfl
 |cons e es ih =>
  simp only[kh]
  cases X e <;> cases Y e <;> simp_all <;> omega
section
variable {n k:Nat}{us:List (Int×Int)}{H T:List Int}{a:Int}
structure Fit(n k:Nat)(us:List (Int×Int))(H T:List Int):Prop where
 rH:∀e∈H,0<=e/\e<(n:Int)
 rT:∀e∈T,0<=e/\e<(n:Int)
 len:H.length=T.length
 c1:∀X,Prp n X->k<=di us X+mg H X
 c2:∀X,Prp n X->k<=dO us X+mg T X
def Fit.f1(F:Fit n k us H T){X:Int->Bool}(p:Prp n X)(t:di us X+mg H X<=k):mg H X+mg T X<=H.length:=by
 have:=F.c2 _ p.not
 rw[Jx] at this
 have:=Ib T X
 have:=F.len
 omega
def Fit.f2(F:Fit n k us H T){X:Int->Bool}(p:Prp n X)(t:dO us X+mg T X<=k):mg H X+mg T X<=H.length:=by
 have:=F.c1 _ p.not
 rw[Am] at this
 have:=Ib H X
 omega
def Ti(n k:Nat)(us:List (Int×Int))(H:List Int)(a:Int)(X:Int->Bool):Prop:=Prp n X/\X a=true/\di us X+mg H X<=k
def To(n k:Nat)(us:List (Int×Int))(T:List Int)(a:Int)(X:Int->Bool):Prop:=Prp n X/\X a=true/\dO us X+mg T X<=k
def zJ{X Y:Int->Bool}(hX:Prp n X)(hY:Prp n Y):Prp n (λv=>X v || Y v)\/∀v:Int,0<=v/\v<n->(X v || Y v)=true:=by
 by_cases c:∃v:Int,(0<=v/\v<n)/\(X v || Y v)=false
 ·obtain⟨v,a,b⟩:=hX.ins
  exact .inl ⟨⟨v,a,by show(X v || Y v)=true;rw[b];rfl⟩,c⟩
 ·refine .inr λv hv=>?_
  cases d:X v || Y v with
  |true=>rfl
  |false=>exact absurd ⟨v,hv,d⟩ c
def wK{X Y:Int->Bool}(hX:Prp n X){v:Int}(hv:0<=v/\v<n)(h1:X v=true)(h2:Y v=true):Prp n (λv=>X v&&Y v) :=
 hX.sub hv (by show(X v&&Y v)=true;rw[h1,h2];rfl) λu h=>by
  cases d:X u with
  |true=>rfl
  |false=>rw[show(X u&&Y u)=false by rw[d];rfl] at h;cases h
def Fit.Rb(F:Fit n k us H T)(ha:a∈T){X Y:Int->Bool}(hX:Ti n k us H a X)(hY:Ti n k us H a Y):Ti n k us H a λv=>X v || Y v:=by
 obtain⟨x1,x2,x3⟩:=hX
 obtain⟨y1,y2,y3⟩:=hY
 have ra:=F.rT a ha
 have oH:=Hj H X Y
 have oT:=Hj T X Y
 rcases zJ x1 y1 with p|p
 ·have i:=F.c1 _ (wK x1 ra x2 y2)
  have o:=F.c1 _ p
  have:=Ju us X Y
  exact⟨p,by show(X a || Y a)=true;rw[x2];rfl,by omega⟩
 ·have aH:=jK (X:=λv=>X v || Y v) λe he=>p e (F.rH e he)
  have aT:=jK (X:=λv=>X v || Y v) λe he=>p e (F.rT e he)
  have g1:=F.f1 x1 x3
  have g2:=F.f1 y1 y3
  have:1<=mg T λv=>X v&&Y v:=oX ha (by show(X a&&Y a)=true;rw[x2,y2];rfl)
  have:=F.len
  omega
def Fit.Ra(F:Fit n k us H T)(ha:a∈T){X Y:Int->Bool}(hX:To n k us T a X)(hY:To n k us T a Y):To n k us T a λv=>X v || Y v:=by
 obtain⟨x1,x2,x3⟩:=hX
 obtain⟨y1,y2,y3⟩:=hY
 have ra:=F.rT a ha
 have oH:=Hj H X Y
 have oT:=Hj T X Y
 rcases zJ x1 y1 with p|p
 ·have i:=F.c2 _ (wK x1 ra x2 y2)
  have o:=F.c2 _ p
  have:=Jw us X Y
  exact⟨p,by show(X a || Y a)=true;rw[x2];rfl,by omega⟩
 ·have aH:=jK (X:=λv=>X v || Y v) λe he=>p e (F.rH e he)
  have aT:=jK (X:=λv=>X v || Y v) λe he=>p e (F.rT e he)
  have g1:=F.f2 x1 x3
  have g2:=F.f2 y1 y3
  have:1<=mg T λv=>X v&&Y v:=oX ha (by show(X a&&Y a)=true;rw[x2,y2];rfl)
  have:=F.len
  omega
def Fit.cover(F:Fit n k us H T)(ha:a∈T):∀L:List Int,(∀b∈L,∃X,X b=true/\(Ti n k us H a X\/To n k us T a X))->∃X Y:Int->Bool,(Ti n k us H a X\/X=λ_=>false)/\(To n k us T a Y\/Y=λ_=>false)/\∀b∈L,X b=true\/Y b=true
 |[],_=>⟨_,_,.inr rfl,.inr rfl,λb h=>(nomatch h)⟩
 |b::L,h=>by
  obtain⟨X,Y,hX,hY,hc⟩:=F.cover ha L λx hx=>h x (Ä _ hx)
  obtain⟨Z,zb,hZ⟩:=h b Å
  rcases hZ with hZ|hZ
  ·rcases hX with hX|rfl
   ·refine⟨_,Y,.inl (F.Rb ha hX hZ),hY,λx hx=>?_⟩
    rcases Ð.mp hx with rfl|hx
    ·exact .inl (by show(X x || Z x)=true;rw[zb,Bool.or_true])
    ·exact(hc x hx).imp (λe=>by show(X x || Z x)=true;rw[e];rfl) id
   ·refine⟨Z,Y,.inl hZ,hY,λx hx=>?_⟩
    rcases Ð.mp hx with rfl|hx
    ·exact .inl zb
    ·exact .inr ((hc x hx).elim (λe=>nomatch e) id)
  ·rcases hY with hY|rfl
   ·refine⟨X,_,hX,.inl (F.Ra ha hY hZ),λx hx=>?_⟩
    rcases Ð.mp hx with rfl|hx
    ·exact .inr (by show(Y x || Z x)=true;rw[zb,Bool.or_true])
    ·exact(hc x hx).imp id (λe=>by show(Y x || Z x)=true;rw[e];rfl)
   ·refine⟨X,Z,hX,.inl hZ,λx hx=>?_⟩
    rcases Ð.mp hx with rfl|hx
    ·exact .inr zb
    ·exact .inl ((hc x hx).elim id (λe=>nomatch e))
def Fit.split(F:Fit n k us H T)(ha:a∈T)(hH:∃b∈H,b≠a):∃b∈H,b≠a/\∀X,Prp n X->X a=true->X b=true->k+1<=di us X+mg H X/\k+1<=dO us X+mg T X:=by
 apply ħ
 intro hno
 have ra:=F.rT a ha
 have pT:∀X:Int->Bool,X a=true->1<=mg T X:=λX h=>oX ha h
 have cov:∀b∈H.filter (λb=>decide (b≠a)),∃X,X b=true/\(Ti n k us H a X\/To n k us T a X):=λb hb=>by
  obtain⟨b1,b2⟩:=ă.mp hb
  have b2:=of_decide_eq_true b2
  apply ħ
  intro hn
  refine hno ⟨b,b1,b2,λX h1 h2 h3=>⟨?_,?_⟩⟩
  ·rcases Ś (di us X+mg H X) (k+1) with y|y
   ·exact absurd ⟨X,h3,.inl ⟨h1,h2,by omega⟩⟩ hn
   ·exact y
  ·rcases Ś (dO us X+mg T X) (k+1) with y|y
   ·exact absurd ⟨X,h3,.inr ⟨h1,h2,by omega⟩⟩ hn
   ·exact y
 obtain⟨X,Y,hX,hY,hc⟩:=F.cover ha _ cov
 have all:∀e∈H,e=a\/X e=true\/Y e=true:=λe he=>by
  by_cases z:e=a
  ·exact .inl z
  ·exact .inr (hc e (ă.mpr ⟨he,decide_eq_true z⟩))
 have onlyX:Ti n k us H a X->(∀e∈H,X e=true)->False:=λ⟨x1,x2,x3⟩ h=>by
  have:=F.f1 x1 x3
  have:=jK h
  have:=pT X x2
  omega
 have onlyY:To n k us T a Y->(∀e∈H,Y e=true)->False:=λ⟨x1,x2,x3⟩ h=>by
  have:=F.f2 x1 x3
  have:=jK h
  have:=pT Y x2
  omega
 rcases hX with hX|rfl
 ·rcases hY with hY|rfl
  ·obtain⟨x1,x2,x3⟩:=hX
   obtain⟨y1,y2,y3⟩:=hY
   by_cases A:∃u:Int,(0<=u/\u<n)/\X u=true/\Y u=false
   ·by_cases B:∃u:Int,(0<=u/\u<n)/\Y u=true/\X u=false
    ·obtain⟨u,ur,u1,u2⟩:=A
     obtain⟨w,wr,w1,w2⟩:=B
     have pX:Prp n λv=>X v&&!Y v:=x1.sub ur (by show(X u&&!Y u)=true;rw[u1,u2];rfl) λv h=>by
      cases d:X v with
      |true=>rfl
      |false=>rw[show(X v&&!Y v)=false by rw[d];rfl] at h;cases h
     have pY:Prp n λv=>Y v&&!X v:=y1.sub wr (by show(Y w&&!X w)=true;rw[w1,w2];rfl) λv h=>by
      cases d:Y v with
      |true=>rfl
      |false=>rw[show(Y v&&!X v)=false by rw[d];rfl] at h;cases h
     have h1:=F.c1 _ pX
     have h2:=F.c2 _ pY
     have:=QK us X Y
     have m1:=Rr H X Y
     have m2:=Rr T Y X
     have:1<=mg T λv=>Y v&&X v:=oX ha (by show(Y a&&X a)=true;rw[x2,y2];rfl)
     omega
    ·refine onlyX ⟨x1,x2,x3⟩ λe he=>?_
     rcases all e he with rfl|h|h
     ·exact x2
     ·exact h
     ·cases d:X e with
      |true=>rfl
      |false=>exact absurd ⟨e,F.rH e he,h,d⟩ B
   ·refine onlyY ⟨y1,y2,y3⟩ λe he=>?_
    rcases all e he with rfl|h|h
    ·exact y2
    ·cases d:Y e with
     |true=>rfl
     |false=>exact absurd ⟨e,F.rH e he,h,d⟩ A
    ·exact h
  ·exact onlyX hX λe he=>by
    rcases all e he with rfl|h|h
    ·exact hX.2.1
    ·exact h
    ·cases h
 ·rcases hY with hY|rfl
  ·exact onlyY hY λe he=>by
    rcases all e he with rfl|h|h
    ·exact hY.2.1
    ·cases h
    ·exact h
  ·obtain⟨b,hb,nb⟩:=hH
   rcases all b hb with h|h|h
   ·exact nb h
   ·cases h
   ·cases h
def Tgt(n k:Nat)(us:List (Int×Int))(H T:List Int):Prop:=(∀b∈H,∃X,Prp n X/\X b=true/\di us X+mg H X=k)\/∀b∈T,∃X,Prp n X/\X b=true/\dO us X+mg T X=k
def Fit.other(F:Fit n k us H T)(ha:a∈T)(t:Tgt n k us H T):∃b∈H,b≠a:=by
 apply ħ
 intro hno
 have all:∀b∈H,b=a:=λb hb=>ħ λz=>hno ⟨b,hb,z⟩
 have lT:=List.length_pos_of_mem ha
 have len:=F.len
 rcases t with t|t
 ·obtain⟨b,hb⟩:∃b,b∈H:=by
   match H,len with
   |[],e=>simp at e;omega
   |b::_,_=>exact⟨b,Å⟩
  obtain⟨X,x1,x2,x3⟩:=t b hb
  rw[all b hb] at x2
  have:=F.f1 x1 (by omega)
  have:=jK (X:=X) λe he=>by rw[all e he];exact x2
  have:=oX ha x2
  omega
 ·obtain⟨X,x1,x2,x3⟩:=t a ha
  have:=F.f2 x1 (by omega)
  have p:=oX ha x2
  have nH:=Ib H X
  have:1<=mg H λv=>!X v:=by
   have h:=F.c1 _ x1.not
   rw[Am] at h
   omega
  obtain⟨b,hb,h⟩:=List.countP_pos_iff.mp (show 0<H.countP λv=>!X v from this)
  rw[all b hb,x2] at h
  cases h
def M7{b:Int}(hb:b∈H)(X:Int->Bool):mg (H.erase b) X+(X b).toNat=mg H X:=by
 have:=(List.perm_cons_erase hb).countP_eq X
 unfold mg
 rw[this,List.countP_cons]
 cases X b <;> rfl
def Fit.step{b:Int}{R:List Int}(F:Fit n k us H (a::R))(hb:b∈H)(h:∀X,Prp n X->X a=true->X b=true->k+1<=di us X+mg H X/\k+1<=dO us X+mg (a::R) X)(t:Tgt n k us H (a::R)) :
  Fit n k ((a,b)::us) (H.erase b) R/\Tgt n k ((a,b)::us) (H.erase b) R:=by
 have e1:∀X,di ((a,b)::us) X+mg (H.erase b) X+(X a&&X b).toNat=di us X+mg H X:=λX=>by
  rw[qC,←M7 hb X]
  cases X a <;> cases X b <;> simp <;> omega
 have e2:∀X,dO ((a,b)::us) X+mg R X+(X a&&X b).toNat=dO us X+mg (a::R) X:=λX=>by
  rw[qD,kh]
  cases X a <;> cases X b <;> simp <;> omega
 have cs:∀X:Int->Bool,(X a&&X b)=false\/(X a=true/\X b=true):=λX=>by
  cases X a <;> cases X b <;> simp
 have le:=List.length_erase_of_mem hb
 have lp:=List.length_pos_of_mem hb
 have fl:=F.len
 rw[ì] at fl
 refine⟨⟨λe he=>F.rH e (List.mem_of_mem_erase he),λe he=>F.rT e (Ä _ he),by omega,λX hX=>?_,λX hX=>?_⟩,?_⟩
 ·have g:=e1 X
  have:=F.c1 X hX
  rcases cs X with c|⟨c1,c2⟩
  ·rw[c] at g;simp at g;omega
  ·have:=(h X hX c1 c2).1
   rw[c1,c2] at g
   simp at g
   omega
 ·have g:=e2 X
  have:=F.c2 X hX
  rcases cs X with c|⟨c1,c2⟩
  ·rw[c] at g;simp at g;omega
  ·have:=(h X hX c1 c2).2
   rw[c1,c2] at g
   simp at g
   omega
 ·rcases t with t|t
  ·refine .inl λv hv=>?_
   obtain⟨X,x1,x2,x3⟩:=t v (List.mem_of_mem_erase hv)
   refine⟨X,x1,x2,?_⟩
   have g:=e1 X
   rcases cs X with c|⟨c1,c2⟩
   ·rw[c] at g;simp at g;omega
   ·have:=(h X x1 c1 c2).1
    omega
  ·refine .inr λv hv=>?_
   obtain⟨X,x1,x2,x3⟩:=t v (Ä _ hv)
   refine⟨X,x1,x2,?_⟩
   have g:=e2 X
   rcases cs X with c|⟨c1,c2⟩
   ·rw[c] at g;simp at g;omega
   ·have:=(h X x1 c1 c2).2
    omega
end
section
variable {n k:Nat}{H:List Int}{d e:(Int->Bool)->Nat}
def J1(rng:∀b∈H,0<=b/\b<(n:Int))(hC:∀X,Prp n X->k<=d X+mg H X)(two:∀X Y,d (λv=>X v&&Y v)+d (λv=>X v || Y v)<=d X+d Y)(opp:∀X,e (λv=>!X v)=d X) :
  ∀(N:Nat) (Fs:List (Int->Bool)),Fs.length<=N->(∀X∈Fs,Prp n X/\d X+mg H X=k)->(∀b∈H,∃X∈Fs,X b=true) ->
  ∃Gs:List (Int->Bool),Gs.Pairwise (Dj n)/\(∀X∈Gs,Prp n X)/\(H.length<=(Gs.map λX=>k - d X).sum\/H.length<=(Gs.map λX=>k - e X).sum):=by
 intro N
 induction N with
 |zero =>
  intro Fs hN _ hc
  have:Fs=[]:=List.length_eq_zero_iff.mp (by omega)
  subst this
  refine⟨[],.nil,λX h=>(nomatch h),.inl ?_⟩
  cases H with
  |nil=>exact Ë _
  |cons b H =>
   obtain⟨X,h,_⟩:=hc b Å
   cases h
 |succ N ih =>
  intro Fs hN hT hc
  by_cases c:Fs.Pairwise (Dj n)
  ·refine⟨Fs,c,λX hX=>(hT X hX).1,.inl ?_⟩
   rw[←(Gb rng c).2 hc]
   refine Nat.le_of_eq (congrArg List.sum (Ğ λX hX=>?_))
   have:=(hT X hX).2
   omega
  obtain⟨X,Y,r,pm,hXY⟩:=Ia c
  have tX:=hT X (pm.mem_iff.mpr Å)
  have tY:=hT Y (pm.mem_iff.mpr (Ä _ Å))
  have tr:∀Z∈r,Prp n Z/\d Z+mg H Z=k:=λZ hZ=>hT Z (pm.mem_iff.mpr (Ä _ (Ä _ hZ)))
  have ln:=pm.length_eq
  rw[ì,ì] at ln
  have ⟨v,hv⟩:=Classical.not_forall.mp hXY
  have ⟨vr,hv⟩:=Classical.not_imp.mp hv
  have ⟨vX,hv⟩:=Classical.not_imp.mp hv
  have vY:Y v=true:=by
   cases d:Y v with
   |true=>rfl
   |false=>exact absurd d hv
  have oH:=Hj H X Y
  rcases zJ tX.1 tY.1 with p|p
  ·have i:=hC _ (wK tX.1 vr vX vY)
   have o:=hC _ p
   have tw:=two X Y
   refine ih ((λv=>X v || Y v)::r) (by rw[ì];omega) (λZ hZ=>?_) λb hb=>?_
   ·rcases Ð.mp hZ with rfl|hZ
    ·exact⟨p,by have:=tX.2;have:=tY.2;omega⟩
    ·exact tr Z hZ
   ·obtain⟨Z,hZ,q⟩:=hc b hb
    rcases Ð.mp (pm.mem_iff.mp hZ) with rfl|hZ
    ·exact⟨_,Å,by show(Z b || Y b)=true;rw[q];rfl⟩
    ·rcases Ð.mp hZ with rfl|hZ
     ·exact⟨_,Å,by show(X b || Z b)=true;rw[q,Bool.or_true]⟩
     ·exact⟨Z,Ä _ hZ,q⟩
  ·refine⟨[λv=>!X v,λv=>!Y v],.cons (λZ hZ=>?_) (.cons (λZ h=>(nomatch h)) .nil),λZ hZ=>?_,.inr ?_⟩
   ·rw[Ö.mp hZ]
    intro u hu h
    have h:(!X u)=true:=h
    have:=p u hu
    show(!Y u)=false
    cases e1:X u with
    |true=>rw[e1] at h;cases h
    |false=>rw[e1] at this;simp at this;rw[this];rfl
   ·rcases Ð.mp hZ with rfl|hZ
    ·exact tX.1.not
    ·rw[Ö.mp hZ];exact tY.1.not
   ·have aH:=jK (X:=λv=>X v || Y v) λb hb=>p b (rng b hb)
    have h1:=tX.2
    have h2:=tY.2
    show H.length<=(k - e λv=>!X v)+((k - e λv=>!Y v)+0)
    rw[opp X,opp Y]
    omega
def wZ(rng:∀b∈H,0<=b/\b<(n:Int))(hC:∀X,Prp n X->k<=d X+mg H X)(tg:∀b∈H,∃X,Prp n X/\X b=true/\d X+mg H X=k)(two:∀X Y,d (λv=>X v&&Y v)+d (λv=>X v || Y v)<=d X+d Y)(opp:∀X,e (λv=>!X v)=d X) :
  ∃Gs:List (Int->Bool),Gs.Pairwise (Dj n)/\(∀X∈Gs,Prp n X)/\(H.length<=(Gs.map λX=>k - d X).sum\/H.length<=(Gs.map λX=>k - e X).sum):=by
 have gen:∀l:List Int,(∀b∈l,∃X,Prp n X/\X b=true/\d X+mg H X=k)->∃Fs:List (Int->Bool),(∀X∈Fs,Prp n X/\d X+mg H X=k)/\∀b∈l,∃X∈Fs,X b=true:=λl=>by
  induction l with
  |nil=>intro _;exact⟨[],λX h=>(nomatch h),λb h=>(nomatch h)⟩
  |cons b l ih =>
   intro h
   obtain⟨Fs,f1,f2⟩:=ih λx hx=>h x (Ä _ hx)
   obtain⟨X,x1,x2,x3⟩:=h b Å
   refine⟨X::Fs,λY hY=>?_,λx hx=>?_⟩
   ·rcases Ð.mp hY with rfl|hY
    ·exact⟨x1,x3⟩
    ·exact f1 Y hY
   ·rcases Ð.mp hx with rfl|hx
    ·exact⟨X,Å,x2⟩
    ·obtain⟨Y,y1,y2⟩:=f2 x hx
     exact⟨Y,Ä _ y1,y2⟩
 obtain⟨Fs,f1,f2⟩:=gen H tg
 exact J1 rng hC two opp _ Fs (Ë _) f1 f2
end
end Cut
namespace Dl
open PySem L2 PyProof.Rows
def grU(T:Pn):Gr:=⟨λp _=>p=T⟩
def Oi(f:List D->(D->Prop)->Prop)(t:DA):DE:=λρ P=>t ρ λks=>f (ks.map (·.2)) λd=>P (norm .new d) d
section
variable {X:Cx}{k j:Nat}{x:Str}{ps:List Str}{e:Expr}{es:List Expr}{t:DA}{p pos:Pos}{T:Pn}{f:List D->(D->Prop)->Prop}
def Ir:∀σ H Q,@bD (grU T) (Oi f t) σ H Q->tG (spT T f) [] E0 (@dN (grU T) t) σ H Q:=by
 letI:=grU T
 rintro σ H Q ⟨q,H0,own,ρ,P,E,t,k⟩
 have eq:q=T:=E.gr
 subst eq
 refine⟨_,H0,own,ρ,_,E,t,λks vs H1 h A r=>?_⟩
 show spT q f (vs++[]) H1 Q E0
 rw[ê]
 refine⟨ks.map (·.2),_,A.pen,(RpK.rps A r).mono (λ_ o z=>o z) (λ_ _ _ e=>e) (λ_ _ e=>e),h,λd v H' h2 kp pi' r2=>?_⟩
 exact k _ d v H' h2 (A.go kp pi') (aX (r2.mono (λa o=>A.free o) (λ_ _ _ e=>e) λ_ _ e=>e))
def dcU(CC:Cal X.prog X.w X.K X.mg X.base k x ps (spT T f))(hr:Room j X.A)(ha:@PDA (grU T) X (e::es) t)(hk:k<=j:=by decide)(hg:Gl X x:=by rfl)(hdb:zB x:=by decide)(he:zS X e es:=by rfl)(hpl:zP X pos es:=by rfl) :
  @PD (grU T) X (.Call (.Name x p) (e::es) [] pos) (Oi f t):=PE.wk (pcS CC hr ha hk hg hdb he hpl) Ir
def QF{Tm:DS}{N:List Str}{vs:List V}{H:Hp}{Q:VK}{E:XK}(h:spT T f vs H Q E)(body:∀ds P,f ds P->∃ρ,ds.map bG++Æ (N.length - ds.length) .any=ρ/\Tm { nx:=λ_=>P .none,rt:=P } ρ):@jM (grU T) Tm { nx:=λ_ H'=>Q .non H',rt:=Q } (L2.start N vs) H:=by
 letI:=grU T
 obtain⟨ds,P,pi,r,t,q⟩:=h
 obtain⟨ρ,e,b⟩:=body ds P t
 have E:=eZ (p:=T) (N:=N) rfl pi r
 rw[r.length,e] at E
 exact⟨T,H,λ_=>none,_,_,E,b,⟨λo s h' r' e' _ n=>q _ _ h' n e'.k0 e'.pen .non,λd v h' n w=>q d v h' n w.k0 w.pen (w.rp.mono (λ_ o=>o.1) (λ_ _ _ e=>e) λ_ _ e=>e),λ_ _ _ _ _ _ n=>n.elim,λ_ _ _ _ _ _ n=>n.elim⟩⟩
end
end Dl
namespace Wr
open PySem L2 PyProof.Rows Dl
variable {X:Cx}{k j:Nat}{x:Str}{ps:List Str}{e:Expr}{es:List Expr}{t:DA}{p pos:Pos}{T:Pn}{f:List D->(D->Prop)->Prop}
def dcU(CC:Cal X.prog X.w X.K X.mg X.base k x ps (spT T f))(hr:Room j X.A)(ha:@WDA (grU T) X (e::es) t)(hk:k<=j:=by decide)(hg:Gl X x:=by rfl)(hdb:zB x:=by decide)(he:zS X e es:=by rfl)(hpl:zP X pos es:=by rfl) :
  @WD (grU T) X (.Call (.Name x p) (e::es) [] pos) (Oi f t):=@WD.mk (grU T) _ _ _ (Dl.dcU CC hr (@WDA.h (grU T) _ _ _ ha) hk hg hdb he hpl)
end Wr
namespace Dl
open PySem L2 PyProof.Rows
@[reducible] def grE(a CN:Addr):Gr:=⟨λp H0=>p=dB/\H0 a=some (Vf a (.ref CN))⟩
variable {X:Cx}{pos:Pos}
structure RefK(K:Ú)(mg:Str->Option Value)(xN:Str)(xs:List Str)(CN CF c1 c2 c3 c4 c5 c6 c7 c8 c9:Addr):Prop where
 mF:mg "FallError"=some (.ref CF)
 mN:mg xN=some (.ref CN)
 m1:mg (xs.getD 0 "")=some (.ref c1)
 m2:mg (xs.getD 1 "")=some (.ref c2)
 m3:mg (xs.getD 2 "")=some (.ref c3)
 m4:mg (xs.getD 3 "")=some (.ref c4)
 m5:mg (xs.getD 4 "")=some (.ref c5)
 m6:mg (xs.getD 5 "")=some (.ref c6)
 m7:mg (xs.getD 6 "")=some (.ref c7)
 m8:mg (xs.getD 7 "")=some (.ref c8)
 m9:mg (xs.getD 8 "")=some (.ref c9)
 mV:mg "ValueError"=none
 exm:W.exmOne K (.ref CN) (.ref CF)=some true
 kx:ExcK K CN
 no:∀c∈[Ň c1,.ref c2,.ref c3,.ref c4,.ref c5,.ref c6,.ref c7,.ref c8,.ref c9],Ŷ K (.ref CN) c=some false
 one:Ŷ K (.ref CN) (.ref CN)=some true
 val:Ŷ K (.ref CN) (.type "ValueError")=some true
end Dl
namespace L2
open PySem PySem.Spec PyProof.Rows
variable {X:Cx}{k:Nat}{f CF:Addr}{fd:FuncData}{ps:List Str}{sp:Sp}{x hx n:Str}{p np cpos epos hpos:Pos}{e:Expr}{es:List Expr}{t:TA}{b₀:Stmt}{suite:List Stmt}{ts:TS}{j:Nat}
def RX:V->List V->Hp->VK->Prop:=λx vs H Q=>∃(l:Addr) (ns:List Int) (k:Int) (j:Nat),x=.ref l/\vs=[.int k]/\H l=some (.lst (ns.map V.int))/\ns[j]?=some k/\(∀m,m<j->ns[m]?≠some k)/\Q .non (upd H l (.lst ((ns.eraseIdx j).map V.int)))
def isK(k:Int):Value->Bool
 |.int a _=>a == k
 |_=>false
def yc{α β:Type}(g:α->β):∀(l:List α) (i:Nat),(l.map g).eraseIdx i=(l.eraseIdx i).map g
 |[],_=>rfl
 |_::_,0=>rfl
 |x::l,i+1=>congrArg (g x::·) (yc g l i)
def Dz{X:Cx}:MtM X "list.remove" RX:=by
 intro pins s σ H x vs v us Q I rx rv h
 obtain⟨l,ns,k,j,rfl,rfl,hH,hj,hno,q⟩:=h
 cases rx
 obtain⟨u,rfl,ru⟩:=rv.one
 obtain⟨t,rfl⟩:=ru
 obtain⟨z,its,n,r,hl,e⟩:=I.yd hH
 have at':∀(m:Nat) (a:Int),ns[m]?=some a->∃t',its[m]?=some (ň a t'):=λm a hm=>by
  obtain⟨u,hu,ru⟩:=r.get (i:=m) (x:=V.int a) (by rw[Þ,hm];rfl)
  obtain⟨t',rfl⟩:=ru
  exact⟨t',hu⟩
 have hlen:its.length=ns.length:=by rw[←hl,À]
 obtain⟨t',ht'⟩:=at' j k hj
 have hjl:j<its.length:=(Ê.mp ht').1
 refine call_meets F.slot_list_remove ⟨_,e,rfl⟩ F.entry_list_remove (F.args_list_remove_2 _ _)
  (MeetsSeq.list_remove l its.toArray n (.int k t) (isK k) (λy hy=>?_) j (by rw[Í];exact hjl) ?_ (λm hm hmj=>?_) (by rw[Í];omega)) ⟨e,?_⟩
 ·have hy:y∈its:=by simpa using hy
  obtain⟨m,hm⟩:=Ń hy
  have hml:m<ns.length:=by rw[←hlen];exact(Ê.mp hm).1
  obtain⟨t2,h2⟩:=at' m _ (Ç hml)
  rw[hm] at h2
  cases h2
  exact MeetsSeq.EqGives.int _ _ _ _
 ·show isK k its.toArray[j]=true
  have:its.toArray[j]=ň k t':=by
   rw[List.getElem_toArray]
   exact(Ê.mp ht').2
  rw[this]
  exact beq_self_eq_true k
 ·have hml:m<its.length:=by rw[Í] at hm;exact hm
  obtain⟨t2,h2⟩:=at' m _ (Ç (by rw[←hlen];exact hml))
  have e2:its.toArray[m]=ň ns[m] t2:=by
   rw[List.getElem_toArray]
   exact(Ê.mp h2).2
  rw[e2]
  have:=hno m hmj
  rw[Ç (by rw[←hlen];exact hml)] at this
  exact beq_false_of_ne λz=>this (by rw[z])
 refine⟨.non,_,I.K6 (its':=its.eraseIdx j) hH e ?_ (ys:=(ns.eraseIdx j).map V.int) ?_ ?_,rfl,q⟩
 ·show its.toArray.eraseIdxIfInBounds j=(its.eraseIdx j).toArray
  rw[List.eraseIdxIfInBounds_toArray]
 ·have:=r.eraseIdx j
  rw[yc] at this
  exact this
 ·have:=uh ns j
  rw[À]
  omega
end L2
namespace Dl
open PySem L2 PyProof.Rows
def yw{k:Int}:∀{ns:List Int},k∈ns->∃j:Nat,ns[j]?=some k/\(∀m,m<j->ns[m]?≠some k)/\ns.eraseIdx j=ns.erase k
 |x::ns,h=>by
  by_cases e:x=k
  ·subst e
   exact⟨0,rfl,λm hm=>absurd hm (Nat.not_lt_zero _),by rw[List.erase_cons_head];rfl⟩
  ·have h':k∈ns:=(Ð.mp h).resolve_left λz=>e z.symm
   obtain⟨j,a,b,c⟩:=yw h'
   refine⟨j+1,a,λm hm=>?_,by rw[List.eraseIdx_cons_succ,c,List.erase_cons_tail (by simpa using e)]⟩
   cases m with
   |zero=>exact λz=>e (à z)
   |succ m=>exact b m (by omega)
variable [Gr] {X:Cx}{st:Stmt}{tj:DE}
def TY(i:Nat)(tj:DE):DS:=λP ρ=>∃(r:Nat) (ns:List Int),ρ[i]?=some (.dw r (.list (ns.map Â)))/\tj ρ λ_ dj=>match dj with
 |.int k=>k∈ns/\P.nx ((forget r ρ).set i (.dw r (.list ((ns.erase k).map Â))))
 |_=>False
def pA{i:Nat}(h:PS X st (jh (tBM X.K "list" RX (dJ i) (dN (bR tj fU))))):PDS X st (TY i tj):=PS.wk' h (by
 rintro Q σ H ⟨p,H0,own,ρ,P,E,⟨r,ns,hr,t⟩,w⟩
 obtain⟨v,hv,x⟩:=E.slot i _ hr
 obtain⟨l,vs,rfl,hl,ho,rs⟩:=x.bO
 refine⟨.ref l,hv,.inl ⟨rfl,vs,SqL.of ho⟩,p,H0,own,ρ,_,E,qp t,?_⟩
 rintro ks ws H1 ⟨k,dj,rfl,hh⟩ A rk
 obtain⟨y,rfl,ry⟩:=fG rk
 cases dj with
 |int a =>
  obtain⟨hm,hn⟩:=hh
  have ej:=Rp.int' ry
  have h1:H1 l=some (.lst vs):=A.kp l _ ho (E.ow l r hl).2.1
  have ev:=Rps.ints rs
  subst ev
  obtain⟨j,hj,hno,he⟩:=yw hm
  refine⟨l,ns,a,j,rfl,by rw[ej],h1,hj,hno,?_⟩
  rw[he]
  obtain⟨E2,F2⟩:=E.qL (vs':=(ns.erase a).map V.int) (ds':=(ns.erase a).map Â) A hv hl ho rs λH2 f g=>Rps.ofMap (λi=>.int i) _
  exact w.nx _ σ _ _ E2 F2 hn
 |_=>exact hh.elim)
end Dl
namespace Wr
open PySem L2 PyProof.Rows Dl
variable [Gr] {X:Cx}{pos:Pos}
def pA{i:Nat}{x:Str}{e:Expr}{es:List Expr}{tj:DE}{apos cpos np:Pos}(hv:WV X (.Name x np) i)(ha:WDA X (e::es) (bR tj fU))(hbase:attributeBase (.Name x np) "remove" X.env (eval (.Name x np) X.env)=eval (.Name x np) X.env:=by rfl)(hfew:zW X cpos (e::es):=by rfl)(hline:(apos.endLine == cpos.line)=true:=by rfl)(hst:zS X e es:=by rfl)(hplain:zP X cpos es:=by rfl)(hs:swapsWith (.Call (.Attribute (.Name x np) "remove" apos) (e::es) [] cpos) none pos.line X.env=pure false:=by rfl) :
  WDS X (.Expr (.Call (.Attribute (.Name x np) "remove" apos) (e::es) [] cpos) pos) (TY i tj):=⟨Dl.pA (bL (fH í PySem.F.slot_list_remove PySem.F.type_list_remove Dz hv.h ha.h hbase hfew hline hst hplain) hs)⟩
end Wr
namespace L2
open PySem PySem.Spec PyProof.Rows
section
variable {X:Cx}{tg:Expr}
end
end L2
namespace Dl
open PySem L2 PyProof.Rows
variable [Gr]
section
variable {X:Cx}{tg:Expr}{pos:Pos}{ta:DA}
end
end Dl
namespace Wr
open PySem L2 PyProof.Rows Dl
variable [Gr] {X:Cx}{tg:Expr}{pos:Pos}{ta:DA}
end Wr
namespace Dl
open PySem L2 PyProof.Rows
variable [Gr]
section
variable {X:Cx}{st st2:Stmt}{rest:List Stmt}{te:DE}{t:DS}
end
end Dl
namespace Wr
open PySem L2 PyProof.Rows Dl
section
variable [Gr] {X:Cx}{te:DE}
end
end Wr
set_option maxHeartbeats 4000000
namespace L2
open PySem PySem.Spec PyProof.Rows
section
variable {M:Model}{A:Around}{E:Value->Shared->Prop}{s:Shared}
variable {κ:SortKind}{mem:Keyed->Prop}{key:Keyed->Int}
end
section
variable {key:Keyed->Int}
def Q6(key:Keyed->Int)(l:List Keyed):Prop:=l.Pairwise λx y=>key x<=key y
def Lel(key:Keyed->Int)(l r:List Keyed):Prop:=∀x∈l,∀y∈r,key x<=key y
structure MI(key:Keyed->Int)(T out R S:List Keyed):Prop where
 pm:(out++(R++S)).Perm T
 so:Q6 key out
 sr:Q6 key R
 ss:Q6 key S
 le:Lel key out (R++S)
end
structure Alk(st st':SortSt):Prop where
 a:arrOf st'=arrOf st
 k:kindOf st'=kindOf st
 p:pendingOf st'=pendingOf st
 f:failedOf st'=failedOf st
section
variable {key:Keyed->Int}{a b out:Array Keyed}{ia ib k:Nat}
end
section
variable {M:Model}{A:Around}{E:Value->Shared->Prop}{s:Shared}{κ:SortKind}{mem:Keyed->Prop}{key:Keyed->Int}
def ga(xs:Array Keyed)(i:Nat):Keyed:=(xs[i]?).getD (.none,.none)
end
section
variable {key:Keyed->Int}{a b out:Array Keyed}{na nb k:Nat}
def tk(a:Array Keyed)(n:Nat):List Keyed:=(a.toList.take n).reverse
end
section
variable {M:Model}{A:Around}{E:Value->Shared->Prop}{s:Shared}{κ:SortKind}{mem:Keyed->Prop}{key:Keyed->Int}
end
section
variable {key:Keyed->Int}{xs ys l:Array Keyed}{off i j:Nat}
end
section
variable {key:Keyed->Int}
end
structure Kep(a₀:Array Keyed)(κ:SortKind)(st:SortSt):Prop where
 perm:(arrOf st).toList.Perm a₀.toList
 kind:kindOf st=κ
 fail:failedOf st=none
section
variable {M:Model}{A:Around}{E:Value->Shared->Prop}{s:Shared}{κ:SortKind}{key:Keyed->Int}{a₀:Array Keyed}
end
structure Rn(a₀:Array Keyed)(κ:SortKind)(P:Array (Nat×Nat×Nat))(X:Array Keyed)(lo hi:Nat)(st:SortSt):Prop where
 k:Kep a₀ κ st
 p:pendingOf st=P
 o:∀j,j<lo\/hi<=j->ga (arrOf st) j=ga X j
section
variable {M:Model}{A:Around}{E:Value->Shared->Prop}{s:Shared}{κ:SortKind}{key:Keyed->Int}{a₀ X:Array Keyed}{P:Array (Nat×Nat×Nat)}{lo hi:Nat}
end
section
variable {key:Keyed->Int}{xs ys:Array Keyed}
def rl(p:Array (Nat×Nat×Nat)):List (Nat×Nat):=p.toList.map λt=>(t.1,t.2.1)
end
section
variable {M:Model}{A:Around}{E:Value->Shared->Prop}{s:Shared}{κ:SortKind}{key:Keyed->Int}{a₀:Array Keyed}
end
section
variable {X:Cx}{pins:List (Addr×Obj)}{σ:St}{H:Hp}{s:Shared}{it:Addr}
structure Mine(X:Cx)(pins:List (Addr×Obj))(H:Hp)(it:Addr):Prop where
 h0:H it=none
 h1:it≠X.env.locals
 h2:X.s₀.heap.objs.size<=it
 h3:∀x c,X.env.cells.lookup x=some c->c≠it
 h4:∀p∈X.pn++pins,p.1≠it
 h5:it∉frs X.stack
def Inv.mine(I:Inv X pins σ H s)(h:s.heap.objs.size<=it):Mine X pins H it :=
 have no:∀o,s.heap.get? it≠some o:=λo e=>absurd (Î e) (Nat.not_lt.mpr h)
 ⟨I.hok.fresh h,ŷ (ã I.lt h),õ I.sz h,λx c e z=>by
  obtain⟨v,o,ho,_⟩:=I.cell x c e
  exact no o (z ▸ ho),λp hp z=>no p.2 (z ▸ (I.pin p hp).1),λz=>by
  obtain⟨_,o,ho,_⟩:=I.stack.mem z
  exact no o ho⟩
def Inv.uf{h':Heap}{t':Nat}(I:Inv X pins σ H s)(m:Mine X pins H it)(k:∀b o,b≠it->s.heap.get? b=some o->h'.get? b=some o):Inv X pins σ H { s with heap:=h',toks:=t' }:=I.turned k m.h0 m.h1 (.inr m.h2) m.h3 m.h4
structure Gro(X:Cx)(ex:List Addr)(H:Hp)(h:Heap)(H1:Hp)(h1:Heap):Prop where
 sm:∀b o,H b=some o->H1 b=some o
 kp:∀b o,h.get? b=some o->H b=none->b≠X.env.locals->b∉frs X.stack->b∉ex->h1.get? b=some o/\H1 b=none
def Gro.trans{ex:List Addr}{H1 H2:Hp}{h h1 h2:Heap}(a:Gro X ex H h H1 h1)(b:Gro X ex H1 h1 H2 h2):Gro X ex H h H2 h2 :=
 ⟨λc o e=>b.sm c o (a.sm c o e),λc o e n l f x=>by
  obtain⟨e1,n1⟩:=a.kp c o e n l f x
  exact b.kp c o e1 n1 l f x⟩
def Gro.more{ex ex':List Addr}{H1:Hp}{h h1:Heap}(a:Gro X ex H h H1 h1)(k:∀b∈ex,b∈ex'):Gro X ex' H h H1 h1:=⟨a.sm,λc o e n l f x=>a.kp c o e n l f λz=>x (k c z)⟩
def Gro.mine{H1:Hp}{h h1:Heap}{o:Obj}(a:Gro X [] H h H1 h1)(m:Mine X pins H it)(e:h.get? it=some o):Mine X pins H1 it/\h1.get? it=some o:=by
 obtain⟨e1,n1⟩:=a.kp it o e m.h0 m.h1 m.h5 (λz=>nomatch z)
 exact⟨⟨n1,m.h1,m.h2,m.h3,m.h4,m.h5⟩,e1⟩
end
section
variable {X:Cx}{pins:List (Addr×Obj)}{σ:St}{H:Hp}{s:Shared}{A:Around}{a kS:Addr}{its:List Value}{vs:List V}{kz:List Int}{e e1:Nat}{P:PySem.Fin->Shared->Prop}{E:Value->Shared->Prop}{keys:Array Value}
def Gro.own{H1:Hp}{h h1 h2:Heap}{b:Addr}(g:Gro X [a,kS] H h H1 h1)(hb:b=a\/b=kS)(k:∀c o,c≠b->h1.get? c=some o->h2.get? c=some o):Gro X [a,kS] H h H1 h2:=⟨g.sm,λc o e n l f x=>by
 obtain⟨e1,n1⟩:=g.kp c o e n l f x
 refine⟨k c o (λz=>x ?_) e1,n1⟩
 rcases hb with rfl|rfl
 ·rw[z];exact Å
 ·rw[z];exact Ä _ (Ö.mpr rfl)⟩
end
def Ed(f:Addr)(cl:List (Str×Addr)):List Addr:=f::cl.filterMap λq=>cl.lookup q.1
section
variable {X:Cx}{pins:List (Addr×Obj)}{σ:St}{H:Hp}{s:Shared}{f c':Addr}{qual:Str}{params:Arguments}{body:Expr}{scope:Scope}{cl:List (Str×Addr)}{ys:List Str}{cvs:List V}{pm ctv:Value}
def Lg(J:Inv X pins σ H s)(hfo:s.heap.get? f=some (Ŭ "<lambda>" qual params body scope cl pm c' ctv))(fn:H f=none)(nfs:f∉frs X.stack)(hfn:∀x,X.fn x=true)(hsub:∀x c,cl.lookup x=some c->X.env.cells.lookup x=some c)(hys:∀y∈ys,X.env.scope.names.lookup y=some .cell/\∃c,cl.lookup y=some c)(cl1:cvs.length=ys.length)(hcv:∀(j:Nat) (y:Str) (v:V),ys[j]?=some y->cvs[j]?=some v->∃i:Nat,X.N[i]?=some y/\σ[i]?=some (some v)) :
  Env0 X.prog X.w X.K X.mg (reb X.base s.heap (Ed f cl)) X.A X.stack s H/\(reb X.base s.heap (Ed f cl)).get? f=some (Ŭ "<lambda>" qual params body scope cl pm c' ctv)/\Caps (reb X.base s.heap (Ed f cl)) cl ys cvs:=by
 have ncell:∀y c,X.env.cells.lookup y=some c->c∉frs X.stack:=λy c e z=>by
  rcases Ð.mp (J.qH c z) with z|z
  ·exact J.cne y c e z
  ·obtain⟨_,o,ho,_⟩:=J.ok.kW.mem z
   exact absurd (Î ho) (Nat.not_lt.mpr (J.ok.cab y c (hfn y) e))
 have inL:∀y c,cl.lookup y=some c->c∈Ed f cl:=λy c e=>Ä _ (Ŏ.mpr ⟨(y,c),û e,e⟩)
 have hL:∀b∈Ed f cl,(H b=none/\b∉frs X.stack):=λb hb=>by
  rcases Ð.mp hb with rfl|hb
  ·exact⟨fn,nfs⟩
  ·obtain⟨⟨y,c1⟩,_,e1⟩:=Ŏ.mp hb
   have e2:=hsub y b e1
   exact⟨J.freeC y b e2,ncell y b e2⟩
 have cellB:∀y c w,cl.lookup y=some c->s.heap.IsCell c w->(reb X.base s.heap (Ed f cl)).IsCell c w:=λy c w e ⟨o,ho,hd⟩=>⟨o,u5 ho (inL y c e),hd⟩
 refine⟨J.env0.reb (λb hb=>(hL b hb).1) λb hb=>(hL b hb).2,u5 hfo Å,⟨cl1,λy c e=>?_,λj y w h1 h2=>?_⟩⟩
 ·obtain⟨w,hw⟩:=J.cell y c (hsub y c e)
  exact⟨w,cellB y c w e hw⟩
 ·obtain⟨i,n1,n2⟩:=hcv j y w h1 h2
  obtain⟨k1,c,e⟩:=hys y (Ò h1)
  obtain⟨m,_,hl⟩:=J.loc
  obtain⟨u',rv,l⟩:=hl i y w n1 n2 (.inr (.inl k1))
  rcases l with ⟨k2,_⟩|⟨_,c2,e2,hc⟩
  ·have k2:X.env.scope.names.lookup y=some .local:=k2
   rw[k1] at k2;cases k2
  ·rw[hsub y c e] at e2
   cases e2
   exact⟨c,u',e,cellB y c _ e hc,rv⟩
end
section
variable {X:Cx}{k:Nat}{c P:Addr}{ps ys:List Str}{spL:List V->Addr->Sp}{p pos lpos kp:Pos}{e:Expr}{te:TE}{qual:Str}{params:Arguments}{body:Expr}{scope:Scope}{cl:List (Str×Addr)}
end
end L2
namespace Dl
open PySem L2 PyProof.Rows
section
variable {K:Ú}{N:List Str}{P:Addr}{lpos:Pos}{qual y:Str}{i:Nat}{gk:D->D->Int->Prop}{te:DE}
end
end Dl
namespace L2
open PySem PySem.Spec PyProof.Rows
def Fi(a v:Value):argsOk "max" ⟨[a],[(å "key",v)]⟩:=by unfold argsOk;kernel_rfl
def jQ(kz:List Int):Nat:=argBest (λi j=>decide (kz.getD i 0 > kz.getD j 0)) (kz.length - 1)
def wC{prog:Program}{w:World}{A:Around}{E:Value->Shared->Prop}{s:Shared}{id:String}{b:Builtin}{args:List Value}{kw:List (Str×Value)}{Q:Value->Shared->Prop}(hk:builtinKind id=none)(hp:plainId id=true)(hb:entryFor table id=some b)(ha:argsOk id ⟨args,kw⟩)(hc:wpAny (model prog w) A.in1 (b ⟨args,kw⟩) (λfin s'=>match fin with
   |.done f=>(match (Except.ok f:Result) with|.ok (.ret v)=>Q v s'|.ok _=>False|.error e=>E e s')
   |.again c'=>c'.quiet=true/\codeAny (model prog w) A c' (λr s'=>match r with|.ok (.ret v)=>Q v s'|.ok _=>False|.error e=>E e s') s') E s) :
  wpAny (model prog w) A (call (.builtin id) args kw) Q E s:=by
 refine wpAny_call (codeAny_call_builtin hp hb ?_)
 simp only[checkBuiltinCall,hk]
 cases hsig:Manifest.signature? id with
 |none=>exact Ô hc
 |some sig =>
  have ha':Bind.checkArgs id sig ⟨args,kw⟩=pure ():=by simpa only[argsOk,hsig] using ha
  simp only[ha']
  exact Ô hc
section
variable {X:Cx}{pins:List (Addr×Obj)}{σ:St}{H:Hp}{s:Shared}{A:Around}{l I S:Addr}{vs:List V}{kz:List Int}{f:Value}{R:Result->Shared->Prop}
def SqL.mono{K:Ú}{H H':Hp}{a:Addr}{xs:List V}(h:SqL K H a xs)(s:∀b o,H b=some o->H' b=some o):SqL K H' a xs:=by
 rcases h with (h|⟨o,h⟩)|h
 ·exact .inl (.inl (s _ _ h))
 ·exact .inl (.inr ⟨o,s _ _ h⟩)
 ·exact .inr h
structure MxK(X:Cx)(pins:List (Addr×Obj))(σ:St)(H:Hp)(h:Heap)(l I S:Addr)(j:Nat)(H1:Hp)(s1:Shared):Prop where
 inv:Inv X pins σ H1 s1
 g:Gro X [I,S] H h H1 s1.heap
 mi:Mine X pins H1 I
 ms:Mine X pins H1 S
 it:s1.heap.IsListIter I l j
abbrev N7(X:Cx)(pins:List (Addr×Obj))(σ:St)(H:Hp)(h:Heap)(I S:Addr)(A:Around)(f:Value)(vs:List V)(kz:List Int):Prop:=∀(i:Nat) (v:V) (u:Value) (k:Int) (H1:Hp) (s1:Shared),vs[i]?=some v->kz[i]?=some k->RelV v u->Inv X pins σ H1 s1->Gro X [I,S] H h H1 s1.heap->wpAny (model X.prog X.w) A.in1 (call f [u]) (λr s2=>(∃t,r=ň k t)/\∃H2,Inv X pins σ H2 s2/\Gro X [] H1 s1.heap H2 s2.heap) (λ_ _=>False) s1
def K1{fa:Addr}(hh:A.in1.handled=none)(hl:SqL X.K H l vs)(lI:l≠I)(lS:l≠S)(IS:I≠S)(hlen:kz.length=vs.length)(turn:N7 X pins σ H s.heap I S A (.ref fa) vs kz)(hR:∀(H2:Hp) (s2:Shared) (v:V) (u:Value),vs[jQ kz]?=some v->RelV v u->Inv X pins σ H2 s2->Gro X [I,S] H s.heap H2 s2.heap->R (.ok (.ret u)) s2) :
  ∀(d j:Nat) (H1:Hp) (s1:Shared) (vb:Value) (v0:V) (k0:Int) (t:Tok) (c:Nat),vs.length - (j+1)=d->j+1<=vs.length->MxK X pins σ H s.heap l I S (j+1) H1 s1->vs[argBest (λi j=>decide (kz.getD i 0 > kz.getD j 0)) j]?=some v0->kz[argBest (λi j=>decide (kz.getD i 0 > kz.getD j 0)) j]?=some k0->RelV v0 vb ->
   s1.heap.get? S=some (seqObj "list" #[vb,.int k0 t] c)->codeAny (model X.prog X.w) A (.builtin "max.loop" ⟨[.ref I,.ref fa,.ref S],[]⟩) R s1:=by
 have hname:(toString "max"++toString ".loop":String)="max.loop":=by decide
 intro d
 induction d with
 |zero =>
  intro j H1 s1 vb v0 k0 t c hd hj M hv hk rv hS
  obtain⟨its,rvs,pl,hz⟩:=M.inv.list (hl.mono M.g.sm)
  have li:=rvs.length
  refine ō F.entry_max_loop ?_
  rw[Ŀ š _]
  show wpAny _ A.in1 (seqItems? (.ref S) >>= _) _ _ s1
  refine Ã (wpAny_seqItems hS rfl ?_)
  show wpAny _ A.in1 (tryCatch (pyNext (.ref I)) _ >>= _) _ _ s1
  have W:=Walks.list (prog:=X.prog) (w:=X.w) hh I l lI its.toArray
  refine Ã (wpAny_tryCatch (W.done s1 _ _ ⟨by rw[Í,←li,show vs.length=j+1 by omega];exact M.it,pl.isList⟩ λh' tk hk'=>?_))
  have hS':=hk' S _ (by simp[IS.symm]) hS
  show wpAny _ A.in1 (updateSeq S (λ_=>#[]) >>= _) _ _ _
  refine Ã (Ů hS' rfl (Ã (wpAny_letGo (Ô ?_))))
  have u2:=Heap.SameBut.update h' S (Ü λ_=>(#[]:Array Value))
  have k1:∀b o,b≠I->s1.heap.get? b=some o->h'.get? b=some o:=λb o n e=>hk' b o (by simp[n]) e
  have ej:j=kz.length - 1:=by omega
  have I1:=M.inv.uf (t':=tk) M.mi k1
  have I2:=I1.uf (t':=tk) M.ms λb o n e=>(u2.2 b n).trans e
  rw[ej] at hv
  exact hR H1 _ v0 vb hv rv I2 ((M.g.own (.inl rfl) k1).own (.inr rfl) λb o n e=>(u2.2 b n).trans e)
 |succ d ih =>
  intro j H1 s1 vb v0 k0 t c hd hj M hv hk rv hS
  obtain⟨its,rvs,pl,hz⟩:=M.inv.list (hl.mono M.g.sm)
  have li:=rvs.length
  have hlt:j+1<vs.length:=by omega
  refine ō F.entry_max_loop ?_
  rw[Ŀ š _]
  show wpAny _ A.in1 (seqItems? (.ref S) >>= _) _ _ s1
  refine Ã (wpAny_seqItems hS rfl ?_)
  show wpAny _ A.in1 (tryCatch (pyNext (.ref I)) _ >>= _) _ _ s1
  have W:=Walks.list (prog:=X.prog) (w:=X.w) hh I l lI its.toArray
  refine Ã (wpAny_tryCatch (W.item (j+1) s1 _ _ (by rw[Í];omega) ⟨M.it,pl.isList⟩ λx h' tk hx st' hk'=>?_))
  have hS':=hk' S _ (by simp[IS.symm]) hS
  have k1:∀b o,b≠I->s1.heap.get? b=some o->h'.get? b=some o:=λb o n e=>hk' b o (by simp[n]) e
  have I1:=M.inv.uf (t':=tk) M.mi k1
  have g1:=M.g.own (.inl rfl) k1
  have hvj:vs[j+1]?=some vs[j+1]:=Ç hlt
  have hkj:kz[j+1]?=some (kz[j+1]'(by omega)):=Ç (by omega)
  obtain⟨x',ex,rx⟩:=rvs.get hvj
  have hx:its[j+1]?=some x:=by simpa using hx
  rw[hx] at ex
  cases ex
  show wpAny _ A.in1 (tryCatch (holding [x] (call (.ref fa) [x])) _ >>= _) _ _ _
  refine Ã (wpAny_tryCatch (Ē (ń (turn (j+1) _ x _ H1 _ hvj hkj rx I1 g1) (λr s2 he=>?_) λ_ _ hF=>hF.elim)))
  obtain⟨⟨t2,rfl⟩,H2,I2,g2⟩:=he
  obtain⟨oI,hoI,oc,od⟩:=st'.1
  obtain⟨mi2,hI2⟩:=g2.mine M.mi hoI
  obtain⟨ms2,hS2⟩:=g2.mine M.ms hS'
  have G2:=g1.trans (g2.more λb z=>nomatch z)
  show wpAny _ A.in1 (tryCatch (holding [x,.int _ t2] (richCompare .Gt (.int _ t2) (.int k0 t) >>= _)) _ >>= _) _ _ _
  refine Ã (wpAny_tryCatch (Ē (Ã (CmpOf.ints_gt (P:=λi v=>∃t,v=.int (kz.getD i 0) t) (λi=>kz.getD i 0) (λi v h=>h) (j+1) (argBest (λi j=>decide (kz.getD i 0 > kz.getD j 0)) j) _ _ _ _ _ ⟨t2,by rw[Ï,hkj];rfl⟩ ⟨t,by rw[Ï,hk];rfl⟩ ?_))))
  refine Ã (Ē (Ĥ ?_))
  refine Ã (wpAny_letGo (Ô ?_))
  cases hb:decide (kz.getD (j+1) 0 > kz.getD (argBest (λi j=>decide (kz.getD i 0 > kz.getD j 0)) j) 0) with
  |true =>
   have eb:argBest (λi j=>decide (kz.getD i 0 > kz.getD j 0)) (j+1)=j+1:=by simp only[argBest,hb,if_true]
   rw[if_pos hb]
   refine Ã (Ů hS2 rfl (Ã (wpAny_letGo ?_)))
   rw[hname]
   have u2:=Heap.SameBut.update s2.heap S (Ü λ_=>#[x,.int (kz[j+1]'(by omega)) t2])
   exact Ô ⟨Ű š _,ih (j+1) H2 _ x vs[j+1] _ t2 _ (by omega) hlt
    ⟨I2.uf (t':=s2.toks) ms2 λb o n e=>(u2.2 b n).trans e,G2.own (.inr rfl) λb o n e=>(u2.2 b n).trans e,mi2,ms2,⟨oI,(u2.2 I IS).trans hI2,oc,od⟩⟩ (by rw[eb] <;> exact hvj) (by rw[eb] <;> exact hkj) rx (get?_update_seq hS2 _)⟩
  |false =>
   have eb:argBest (λi j=>decide (kz.getD i 0 > kz.getD j 0)) (j+1)=argBest (λi j=>decide (kz.getD i 0 > kz.getD j 0)) j:=by simp only[argBest,hb,Ħ,if_false]
   rw[if_neg (λz=>Ó (hb.symm.trans z))]
   refine Ã (wpAny_letGo ?_)
   rw[hname]
   exact Ô ⟨Ű š _,ih (j+1) H2 _ vb v0 k0 t c (by omega) hlt ⟨I2,G2,mi2,ms2,⟨oI,hI2,oc,od⟩⟩ (by rw[eb] <;> exact hv) (by rw[eb] <;> exact hk) rv hS2⟩
def Ii{fa:Addr}(hh:A.in1.handled=none)(hl:SqL X.K H l vs)(lI:l≠I)(lS:l≠S)(IS:I≠S)(hlen:kz.length=vs.length)(h0:1<=vs.length)(turn:N7 X pins σ H s.heap I S A (.ref fa) vs kz)(hR:∀(H2:Hp) (s2:Shared) (v:V) (u:Value),vs[jQ kz]?=some v->RelV v u->Inv X pins σ H2 s2->Gro X [I,S] H s.heap H2 s2.heap->R (.ok (.ret u)) s2){H1:Hp}{s1:Shared}{c:Nat}(M:MxK X pins σ H s.heap l I S 0 H1 s1)(hS:s1.heap.get? S=some (seqObj "list" #[] c)) :
  codeAny (model X.prog X.w) A (.builtin "max.loop" ⟨[.ref I,.ref fa,.ref S],[]⟩) R s1:=by
 have hname:(toString "max"++toString ".loop":String)="max.loop":=by decide
 obtain⟨its,rvs,pl,hz⟩:=M.inv.list (hl.mono M.g.sm)
 have li:=rvs.length
 refine ō F.entry_max_loop ?_
 rw[Ŀ š _]
 show wpAny _ A.in1 (seqItems? (.ref S) >>= _) _ _ s1
 refine Ã (wpAny_seqItems hS rfl ?_)
 show wpAny _ A.in1 (tryCatch (pyNext (.ref I)) _ >>= _) _ _ s1
 have W:=Walks.list (prog:=X.prog) (w:=X.w) hh I l lI its.toArray
 refine Ã (wpAny_tryCatch (W.item 0 s1 _ _ (by rw[Í];omega) ⟨M.it,pl.isList⟩ λx h' tk hx st' hk'=>?_))
 have hS':=hk' S _ (by simp[IS.symm]) hS
 have k1:∀b o,b≠I->s1.heap.get? b=some o->h'.get? b=some o:=λb o n e=>hk' b o (by simp[n]) e
 have I1:=M.inv.uf (t':=tk) M.mi k1
 have g1:=M.g.own (.inl rfl) k1
 have hvj:vs[0]?=some vs[0]:=Ç (by omega)
 have hkj:kz[0]?=some (kz[0]'(by omega)):=Ç (by omega)
 obtain⟨x',ex,rx⟩:=rvs.get hvj
 have hx:its[0]?=some x:=by simpa using hx
 rw[hx] at ex
 cases ex
 show wpAny _ A.in1 (tryCatch (holding [x] (call (.ref fa) [x])) _ >>= _) _ _ _
 refine Ã (wpAny_tryCatch (Ē (ń (turn 0 _ x _ H1 _ hvj hkj rx I1 g1) (λr s2 he=>?_) λ_ _ hF=>hF.elim)))
 obtain⟨⟨t2,rfl⟩,H2,I2,g2⟩:=he
 obtain⟨oI,hoI,oc,od⟩:=st'.1
 obtain⟨mi2,hI2⟩:=g2.mine M.mi hoI
 obtain⟨ms2,hS2⟩:=g2.mine M.ms hS'
 have G2:=g1.trans (g2.more λb z=>nomatch z)
 show wpAny _ A.in1 (updateSeq S (λ_=>#[x,.int _ t2]) >>= _) _ _ _
 refine Ã (Ů hS2 rfl ?_)
 rw[hname]
 have u2:=Heap.SameBut.update s2.heap S (Ü λ_=>#[x,.int (kz[0]'(by omega)) t2])
 exact Ô ⟨Ű š _,K1 hh hl lI lS IS hlen turn hR _ 0 H2 _ x vs[0] _ t2 _ rfl h0
  ⟨I2.uf (t':=s2.toks) ms2 λb o n e=>(u2.2 b n).trans e,G2.own (.inr rfl) λb o n e=>(u2.2 b n).trans e,mi2,ms2,⟨oI,(u2.2 I IS).trans hI2,oc,od⟩⟩ hvj hkj rx (get?_update_seq hS2 _)⟩
def PX{fa:Addr}{Q:Value->Shared->Prop}{E:Value->Shared->Prop}(hh:A.in1.handled=none)(I0:Inv X pins σ H s)(hl:SqL X.K H l vs)(hlen:kz.length=vs.length)(h0:1<=vs.length)(turn:∀(ex:List Addr) (i:Nat) (v:V) (u:Value) (k:Int) (H1:Hp) (s1:Shared),(∀b∈ex,s.heap.objs.size<=b)->vs[i]?=some v->kz[i]?=some k->RelV v u->Inv X pins σ H1 s1->Gro X ex H s.heap H1 s1.heap->wpAny (model X.prog X.w) A.in1 (call (.ref fa) [u]) (λr s2=>(∃t,r=ň k t)/\∃H2,Inv X pins σ H2 s2/\Gro X [] H1 s1.heap H2 s2.heap) (λ_ _=>False) s1)(h:∀(ex:List Addr) (H2:Hp) (s2:Shared) (v:V) (u:Value),(∀b∈ex,s.heap.objs.size<=b)->vs[jQ kz]?=some v->RelV v u->Inv X pins σ H2 s2->Gro X ex H s.heap H2 s2.heap->Q u s2) :
  wpAny (model X.prog X.w) A (call (.builtin "max") [.ref l] [(å "key",.ref fa)]) Q E s:=by
 have hname:(toString "max"++toString ".loop":String)="max.loop":=by decide
 obtain⟨its,rvs,pl,hz⟩:=I0.list hl
 have hlt:l<s.heap.objs.size:=by obtain⟨o,ho,_⟩:=pl.isList;exact Î ho
 refine wC F.kind_max F.plain_max F.entry_max (Fi _ _) ?_
 show wpAny _ A.in1 (Builtin.Builtins.bindParams "max" ["key","default"] 0 ⟨[],[(å "key",.ref fa)]⟩ >>= _) _ _ s
 refine Ã (wpAny_of_eq (show Builtin.Builtins.bindParams "max" ["key","default"] 0 ⟨[],[(å "key",.ref fa)]⟩=pure [some (.ref fa),none] from rfl) ?_)
 refine Ã (Ô ?_)
 refine Ã (wpAny_pyIter_list pl.isList ?_)
 refine Ã (Ŵ ?_)
 have kp:∀b o,s.heap.get? b=some o->((s.heap.push { cls:=.type "list_iterator",data:=.fields #[.ref l,.int 0 0] }).push { cls:=.type "list",data:=.seq #[] }).get? b=some o:=λb o e=>Ñ _ (Ñ _ e)
 have sz:(s.heap.push { cls:=.type "list_iterator",data:=.fields #[.ref l,.int 0 0] }).objs.size=s.heap.objs.size+1:=size_push' ..
 have I1:Inv X pins σ H { s with heap:=(s.heap.push { cls:=.type "list_iterator",data:=.fields #[.ref l,.int 0 0] }).push { cls:=.type "list",data:=.seq #[] } }:=I0.kept (t':=s.toks) kp
 rw[hname,sz]
 have exs:∀b∈[s.heap.objs.size,s.heap.objs.size+1],s.heap.objs.size<=b:=λb hb=>by
  rcases Ð.mp hb with rfl|hb
  ·exact Ë _
  ·rw[Ö.mp hb];exact ĳ _
 refine Ô ⟨Ű š _,Ii (H:=H) (s:=s) hh hl (ß hlt) (ß (ā hlt)) (ß (ş _)) hlen h0 (λi v u k H1 s1 a1 a2 a3 a4 a5=>turn _ i v u k H1 s1 exs a1 a2 a3 a4 a5) (λH2 s2 v u a1 a2 a3 a4=>h _ H2 s2 v u exs a1 a2 a3 a4)
  ⟨I1,⟨λ_ _ e=>e,λb o e n _ _ _=>⟨kp b o e,n⟩⟩,I0.mine (Ë _),I0.mine (ĳ _),⟨_,Ñ _ (á _ rfl),rfl,rfl⟩⟩ (c:=0) ?_⟩
 exact(congrArg _ sz.symm).trans (á _ rfl)
end
def Bg(K:Ú)(N:List Str)(P:Addr)(lpos:Pos)(qual:Str)(ys:List Str)(spL:List V->Addr->Sp)(te:TE):TE:=λσ H Q=>te σ H λv H1=>lK P lpos qual H1 /\
 ∃(l:Addr) (vs:List V) (kz:List Int) (cvs:List V),v=.ref l/\SqL K H1 l vs/\kz.length=vs.length/\1<=vs.length/\cvs.length=ys.length/\(∀(j:Nat) (y:Str) (v:V),ys[j]?=some y->cvs[j]?=some v->∃i:Nat,N[i]?=some y/\σ[i]?=some (some v)) /\
  ∀c' H2,lK P lpos qual H2->pU H2 c' qual->(∀b o,H1 b=some o->b≠P->H2 b=some o) ->
   (∀(i:Nat) (v:V) (k:Int) (H3:Hp),vs[i]?=some v->kz[i]?=some k->(∀b o,H2 b=some o->H3 b=some o)->spL cvs c' [v] H3 (λr H4=>r=.int k/\∀b o,H3 b=some o->H4 b=some o) E0) /\
   ∀(v:V) (H3:Hp),vs[jQ kz]?=some v->(∀b o,H2 b=some o->H3 b=some o)->Q v H3
section
variable {X:Cx}{k:Nat}{c P:Addr}{ps ys:List Str}{spL:List V->Addr->Sp}{p pos lpos kp:Pos}{e:Expr}{te:TE}{qual:Str}{params:Arguments}{body:Expr}{scope:Scope}{cl:List (Str×Addr)}
def Dr(FL:∀(cvs:List V) (base':Heap) (f c':Addr) (pm ctv:Value),cvs.length=ys.length->base'.get? f=some (Ŭ "<lambda>" qual params body scope cl pm c' ctv)->Caps base' cl ys cvs->∃fd,FnOk X.prog X.w X.K X.mg base' CX0 k f fd ps (spL cvs c')/\Binds X.K fd ps [])(hr:Room k X.A.in1)(hd:X.A.in1.handled=none)(hg:Gl X "max")(hm:X.mg "max"=none)(ha:PE X e te)(hq:X.env.qual++"<lambda>"=qual)(hdef:defaultsOf params X.env=([],[]))(hcl:closureFor scope X.env=pure cl)(hcode:X.env.code=.ref c)(hC:X.K.In X.base->W.CodeHd X.base c P)(hB:X.K.In X.base->X.base.BuiltinsAt X.mg P)(hfn:∀x,X.fn x=true)(hsub:∀x c,cl.lookup x=some c->X.env.cells.lookup x=some c)(hys:∀y∈ys,X.env.scope.names.lookup y=some .cell/\∃c,cl.lookup y=some c)(he:zS X e []:=by rfl) :
  PE X (.Call (.Name "max" p) [e] [⟨some "key",.Lambda params body scope lpos,kp⟩] pos) (Bg X.K X.N P lpos qual ys spL te):=by
 intro pins s σ H Q I h
 have hv:bootBuiltins "max"=some (.builtin "max"):=boot_max
 refine Ņ (jN I hg hm hv ?_ (by decide) (by decide))
 refine callWith_kw ?_ (by rw[he];rfl) (by rw[he];rfl)
 rw[he]
 show wpAny _ _ (spliced [(false,eval e X.env)]) _ _ s
 refine Calls.spliced_cons (thn (ha pins s σ H _ I h) λu s1 ⟨v,H1,I1,r1,T1,l,vs,kz,cvs,ev,hl,hlen,h0,cl1,hcv,q1⟩=>Calls.spliced_nil ?_)
 subst ev
 cases r1
 refine kws_cons (ud I1 hq hdef hcl hcode hC hB T1 λf c' ctv pm s2 H2 J T2 kn fn hfo nfs kp kb=>kws_nil ?_)
 have Q2:=q1 c' H2 T2 kn kp
 have hfs:f<s2.heap.objs.size:=Î hfo
 have hl2:SqL X.K H2 l vs:=by
  obtain⟨ps,hP,_⟩:=T1
  rcases hl with (hl|⟨o,hl⟩)|hl
  ·exact .inl (.inl (kp l _ hl λz=>by rw[z,hP] at hl;cases hl))
  ·exact .inl (.inr ⟨o,kp l _ hl λz=>by rw[z,hP] at hl;cases hl⟩)
  ·exact .inr hl
 refine PX hd J hl2 hlen h0 (λex i v u k H3 s3 hex hv hk ru J3 g=>?_) λex H3 s3 v u hex hv ru J3 g=>?_
 ·obtain⟨ho3,n3⟩:=g.kp f _ hfo fn (λz=>by
   obtain⟨m,⟨o,es,ep,ho,hd,_⟩,_⟩:=J.loc
   rw[←z,hfo] at ho
   cases ho
   cases hd) nfs λz=>absurd (hex f z) (Nat.not_le.mpr hfs)
  obtain⟨e0,lkf,C⟩:=Lg J3 ho3 n3 nfs hfn hsub hys cl1 hcv
  obtain⟨fd,FF,hb⟩:=FL cvs _ f c' pm ctv cl1 lkf C
  have hsp:=Q2.1 i v k H3 hv hk g.sm
  have hl1:[u].length=ps.length:=FF.len _ _ _ _ hsp
  refine wpAny_call (codeAny_mono (FF.run X.A.in1 X.stack s3 H3 ⟨[u],[]⟩ [u] [v] _ E0 hr e0.in1 ?_ (.cons ru .nil) hsp) λr s' hq=>?_)
  ·have:=hb s3 [u] J3.kIn (by rw[ê];exact hl1)
   rw[ê] at this
   exact this
  ·cases r with
   |error e=>exact hq.elim
   |ok fl =>
    cases fl with
    |ret u =>
     obtain⟨v',H4,os,bare,un,hok,rv',e',sm⟩:=hq
     subst e'
     obtain⟨t,rfl⟩:=rv'
     obtain⟨hh,g',d,t',os'⟩:=s'
     obtain rfl:os'=s3.os:=os
     exact⟨⟨t,rfl⟩,H4,J3.call (h':=hh) (g':=g') (d':=d) (t':=t') (ch:=[]) un hok bare (λb z=>absurd z (by simp)),⟨sm,λb o e n _ nf _=>⟨un.keep b o e n nf (by simp),un.free b o e n (by simp)⟩⟩⟩
    |next=>exact Į hq
    |brk=>exact Į hq
    |cont=>exact Į hq
 ·exact⟨v,H3,J3,ru,Q2.2 v H3 hv g.sm⟩
end
def lJ{x:Str}{c:Addr}{l:List (Str×Addr)}:List.lookup x ((x,c)::l)=some c:=by rw[ÿ,beq_self_eq_true]
def pN{x y:Str}{c:Addr}{l:List (Str×Addr)}(h:(x == y)=false):List.lookup x ((y,c)::l)=List.lookup x l:=by rw[ÿ,h]
def Qc{x:Str}{cl:List (Str×Addr)}(h:x∈cl.map (·.1)):∃c,cl.lookup x=some c:=by
 induction cl with
 |nil=>cases h
 |cons p l ih =>
  obtain⟨y,c⟩:=p
  rw[ÿ]
  cases e:x == y with
  |true=>exact⟨c,rfl⟩
  |false =>
   rw[æ] at h
   rcases Ð.mp h with h|h
   ·rw[h] at e;simp at e
   ·exact ih h
def I9{α:Type}{l:List α}(h:l.Nodup):∀{i j:Nat}{x:α},l[i]?=some x->l[j]?=some x->i=j:=λ{i j x} a b=>by
 have la:=(Ê.mp a)
 have lb:=(Ê.mp b)
 rcases Nat.lt_trichotomy i j with z|z|z
 ·exact absurd (la.2.trans lb.2.symm) (œ.mp h i j la.1 lb.1 z)
 ·exact z
 ·exact absurd (lb.2.trans la.2.symm) (œ.mp h j i lb.1 la.1 z)
def LamScope.of{ps ys:List Str}{sc:Scope}{cl:List (Str×Addr)}(kind:sc.kind=.function)(co:sc.isCoroutine=false)(gen:sc.isGenerator=false)(nd:(ps++ys).Nodup)(par:∀x∈ps,sc.names.lookup x=some .local)(fre:∀y∈ys,sc.names.lookup y=some .free)(nocell:∀x∈sc.names,x.2≠.cell)(all:∀y∈sc.names,y.2=.free->y.1∈cl.map (·.1))(inj:(cl.map (·.2)).Nodup):LamScope ps ys sc cl :=
 ⟨kind,co,gen,nd,par,fre,nocell,λx h=>Qc (all _ (û h) rfl),λx y c h1 h2=>by
  obtain⟨i,hi⟩:=Ń (û h1)
  obtain⟨j,hj⟩:=Ń (û h2)
  have a:(cl.map (·.2))[i]?=some c:=by rw[Þ,hi];rfl
  have b:(cl.map (·.2))[j]?=some c:=by rw[Þ,hj];rfl
  have li:=(Ê.mp a)
  have lj:=(Ê.mp b)
  have e:i=j:=I9 inj a b
  subst e
  rw[hi] at hj
  cases hj
  rfl⟩
def Gd{cl cs:List (Str×Addr)}(h:∀p∈cl,cs.lookup p.1=some p.2):∀x c,cl.lookup x=some c->cs.lookup x=some c:=λx c e=>h (x,c) (û e)
end L2
namespace Dl
open PySem L2 PyProof.Rows
def Ge{T1 T2:Pn}(ap:Apart T1 T2){f:List D->(D->Prop)->Prop}:∀vs H Q E,spT (T1.plus T2) f vs H Q E->spT T1 f vs H Q E:=by
 rintro vs H Q E ⟨ds,P,pi,r,t,k⟩
 refine⟨ds,P,pi.1,r.mono (λa o z=>o (.inl z)) (λ_ _ _ e=>e) (λ_ _ e=>e),t,λd v H' hP kp pi' rp=>k d v H' hP (λb o e n=>kp b o e λz=>n (.inl z)) ⟨pi',T2.mono H H' pi.2 λb o z e=>kp b o e λy=>?_⟩ rp⟩
 rcases z with z|z
 ·exact ap H pi.1 pi.2 b y z
 ·exact Ie pi.1 e z y
def Cal.R5{P:Program}{w:World}{K:Ú}{mg:Str->Option Value}{base:Heap}{k:Nat}{x:Str}{ps:List Str}{T1 T2:Pn}(ap:Apart T1 T2){f:List D->(D->Prop)->Prop}(c:Cal P w K mg base k x ps (spT T1 f)):Cal P w K mg base k x ps (spT (T1.plus T2) f):=by
 obtain⟨g,fd,F,r⟩:=c.ex
 exact⟨g,fd,F.imp (Ge ap),r⟩
def sI{P1 P2:Addr}{q1 q2:Pos}{u1 u2:Str}(h:P1≠P2):Apart (oR P1 q1 u1) (oR P2 q2 u2):=λH _ _ b h1 h2=>by
 have h1:b=P1:=h1
 have h2:b=P2:=h2
 exact h (h1.symm.trans h2)
def Ol(qual:Str)(gk:List D->D->Int->Prop):List V->Addr->Sp:=λcvs c' vs H Q _=>pU H c' qual/\∃(v1:V) (dcs:List D) (dx:D) (k:Int),vs=[v1]/\Rps (λ_=>False) H cvs dcs/\Rp (λ_=>True) H v1 dx/\gk dcs dx k/\∀H',(∀b o,H b=some o->H' b=some o)->Q (.int k) H'
def tMX(is:List Nat)(gk:List D->D->Int->Prop)(te:DE):DE:=λρ P=>te ρ λk d=>∃(ds:List D) (kz:List Int) (dcs:List D),d=.list ds/\is.map (λi=>ρ[i]?)=dcs.map (λdc=>some (.im dc))/\kz.length=ds.length/\1<=ds.length /\
 (∀(j:Nat) (x:D) (c:Int),ds[j]?=some x->kz[j]?=some c->gk dcs x c)/\∀x,ds[jQ kz]?=some x->P k x
def CK[Gr]{p:Pn}{H0 H:Hp}{own:Addr->Option Nat}{σ:L2.St}{ρ:List Sl}(E:EnvD p H0 own σ H ρ):∀(is:List Nat) (dcs:List D),is.map (λi=>ρ[i]?)=dcs.map (λdc=>some (Sl.im dc))->∃cvs:List V,cvs.length=is.length/\Rps (λ_=>False) H cvs dcs/\∀(j i:Nat) (v:V),is[j]?=some i->cvs[j]?=some v->σ[i]?=some (some v)
 |[],[],_=>⟨[],rfl,.nil,λj i v h=>(nomatch h)⟩
 |i::is,dc::dcs,h=>by
  injection h with h1 h2
  obtain⟨cvs,a,b,c⟩:=CK E is dcs h2
  obtain⟨v,e,r⟩:=E.slot i _ h1
  refine⟨v::cvs,by rw[ì,ì,a],.cons r b,λj i' v' e1 e2=>?_⟩
  cases j with
  |zero=>cases e1;cases e2;exact e
  |succ j=>exact c j i' v' e1 e2
 |[],_::_,h=>by cases h
 |_::_,[],h=>by cases h
section
variable {K:Ú}{N:List Str}{P:Addr}{lpos:Pos}{qual:Str}{ys:List Str}{is:List Nat}{gk:List D->D->Int->Prop}{te:DE}{T1:Pn}
def La(ap:Apart T1 (oR P lpos qual))(hy:is.map (λi=>N[i]?)=ys.map some):∀σ H Q,@bD (grU (T1.plus (oR P lpos qual))) (tMX is gk te) σ H Q->Bg K N P lpos qual ys (Ol qual gk) (@bD (grU (T1.plus (oR P lpos qual))) te) σ H Q:=by
 letI:=grU (T1.plus (oR P lpos qual))
 rintro σ H Q ⟨q,H0,own,ρ,P',E,t,kq⟩
 have eq:q=T1.plus (oR P lpos qual):=E.gr
 subst eq
 refine⟨_,H0,own,ρ,_,E,t,λk d v H1 hd A r=>?_⟩
 obtain⟨ds,kz,dcs,rfl,hi,hlen,h0,hk,hP⟩:=hd
 obtain⟨c,vs,rfl,o,hc,rs⟩:=r.bO
 have T1':lK P lpos qual H1:=A.pen.2
 have ntup:∀{H:Hp},lK P lpos qual H->∀a xs,H a=some (.tup xs)->a≠P:=λ{H} T a xs e z=>by
  obtain⟨ps,hp,_⟩:=T
  rw[z,hp] at e
  cases e
 obtain⟨cvs,c1,c2,c3⟩:=CK E is dcs hi
 have ll:=rs.length
 have ly:is.length=ys.length:=by have:=congrArg List.length hy;rwa [À,À] at this
 refine⟨T1',c,vs,kz,cvs,rfl,SqL.of hc,by omega,by omega,c1.trans ly,λj y v h1 h2=>?_,λc' H2 T2 kn kp=>⟨λj v k' H3 hv hkz sm=>?_,λv H3 hv sm=>?_⟩⟩
 ·have e1:(is.map λi=>N[i]?)[j]?=some (some y):=by rw[hy,Þ,h1];rfl
  rw[Þ] at e1
  obtain⟨i,ei,en⟩:=Option.map_eq_some_iff.mp e1
  exact⟨i,en,c3 j i v ei h2⟩
 ·obtain⟨x,φ,kx,cx⟩:=kn
  have hj:j<ds.length:=by rw[←ll];exact(Ê.mp hv).1
  obtain⟨v1,e1,r1⟩:=rs.getD (Ç hj)
  rw[hv] at e1
  cases e1
  refine⟨⟨x,φ,sm _ _ kx,cx⟩,v,dcs,ds[j],k',rfl,?_,?_,hk j _ _ (Ç hj) hkz,λH' sm'=>⟨rfl,sm'⟩⟩
  ·exact c2.mono (λ_ o=>o) (λ_ _ o=>o.elim) λa xs e=>sm _ _ (kp _ _ (gA E.at A.kp a xs e) (ntup T1' a xs (gA E.at A.kp a xs e)))
  ·exact r1.mono (λ_ _=>trivial) (λa o n e=>sm _ _ (kp _ _ e λz=>j8 A n (.inr z))) λa xs e=>sm _ _ (kp _ _ e (ntup T1' a xs e))
 ·have k13:Kp (T1.plus (oR P lpos qual)) H1 H3:=λb o e n=>sm _ _ (kp _ _ e λz=>n (.inr z))
  have i3:(T1.plus (oR P lpos qual)).PI H3:=by
   refine⟨T1.mono H1 H3 A.pen.1 λb o z e=>sm _ _ (kp _ _ e ?_),(oR P lpos qual).mono H2 H3 T2 λb o _ e=>sm b o e⟩
   rcases z with z|z
   ·exact λy=>ap H1 A.pen.1 A.pen.2 b z y
   ·exact Ie (p:=oR P lpos qual) A.pen.2 e z
  have hj:jQ kz<ds.length:=by rw[←ll];exact(Ê.mp hv).1
  obtain⟨v1,e1,r1⟩:=(cj A k13 rs).getD (Ç hj)
  rw[hv] at e1
  cases e1
  exact kq _ _ _ _ (hP _ (Ç hj)) (A.go k13 i3) r1
end
def Vl(v:V)(H:Hp):Prop:=∃t l m x,v=.ref t/\H t=some (.tup [.ref l,x,.ref m])/\l≠m
def Dg(T:Pn)(f:List D->(D->Prop)->Prop):Sp:=λvs H Q _=>∃ds P,T.PI H/\Rps (λa=>¬T.fp a) H vs ds/\f ds P/\∀d v H',P d->Kp T H H'->T.PI H'->Rp (λa=>H a=none) H' v d->Vl v H'->Q v H'
def IK{T:Pn}{f:List D->(D->Prop)->Prop}{n:Nat}(hn:∀ds P,f ds P->ds.length=n:=by intro _ _ h;repeat (first|(obtain⟨rfl,_⟩:=h;rfl)|obtain⟨_,h⟩:=h)):∀vs H Q E,Dg T f vs H Q E->vs.length=n:=λvs H Q E ⟨ds,P,_,r,t,_⟩=>by
 rw[r.length]
 exact hn ds P t
def J0{T:Pn}{f:List D->(D->Prop)->Prop}:∀vs H Q E,spT T f vs H Q E->Dg T f vs H Q E:=λvs H Q E ⟨ds,P,pi,r,t,k⟩=>⟨ds,P,pi,r,t,λd v H' h1 h2 h3 h4 _=>k d v H' h1 h2 h3 h4⟩
def Cal.of3{P:Program}{w:World}{K:Ú}{mg:Str->Option Value}{base:Heap}{k:Nat}{x:Str}{ps:List Str}{T:Pn}{f:List D->(D->Prop)->Prop}(c:Cal P w K mg base k x ps (Dg T f)):Cal P w K mg base k x ps (spT T f):=by
 obtain⟨g,fd,F,r⟩:=c.ex
 exact⟨g,fd,F.imp J0,r⟩
section
variable [Gr] {p:Pn}{H0:Hp}{Q:Ends}
abbrev pM(M:List Sl->Prop):DEnds:={ nx:=M,rt:=λ_=>False }
def yE{t u:DS}{tU:TS}{M:List Sl->Prop}(h:∀own σ H ρ,EnvD p H0 own σ H ρ->u (pM M) ρ->tU Q σ H):∀own σ H ρ,EnvD p H0 own σ H ρ->Eo t u (pM M) ρ->sS (jM t) tU Q σ H:=λown σ H ρ E r =>
 ⟨p,H0,own,ρ,_,E,r,⟨λo s h' r' e _ n=>h o s h' r' e n,λ_ _ _ n=>n.elim,λ_ _ _ _ _ _ n=>n.elim,λ_ _ _ _ _ _ n=>n.elim⟩⟩
def LC{tc:DT}{ta tb tU:TS}{own:Addr->Option Nat}{σ:L2.St}{H:Hp}{ρ:List Sl}(E:EnvD p H0 own σ H ρ)(hc:tc ρ λb=>b=false)(k:∀H',At p H0 own H H'->sS FZ tU Q σ H')(hb:tb=FZ):sS (Rm (liftT tc) ta tb) tU Q σ H:=by
 subst hb
 refine⟨p,H0,own,ρ,_,E,hc,λb H' h A=>?_⟩
 have h:b=false:=h
 subst h
 exact aM (k H' A)
def Ru{te:DE}{tU:TS}{i:Nat}{d0:D}{own:Addr->Option Nat}{σ:L2.St}{H:Hp}{ρ:List Sl}(E:EnvD p H0 own σ H ρ)(he:te ρ λk d=>norm k d=.imm/\d=d0)(k:∀v H',At p H0 own H H'->EnvD p H0 own (σ.set i (some v)) H' (ρ.set i (.im d0))->tU Q (σ.set i (some v)) H'):sS (sU (bD te) (iw i)) tU Q σ H:=by
 refine⟨p,H0,own,ρ,_,E,he,λkd d v H' h A r=>?_⟩
 obtain⟨h1,rfl⟩:=h
 have r:=aX r
 rw[h1] at r
 exact k v H' A ((E.go A.kp A.pen).set λhl=>⟨v,ë hl,r⟩)
def EnvD.told{i q:Nat}{own:Addr->Option Nat}{σ:L2.St}{H H1:Hp}{ρ:List Sl}{v:V}{d:D}(E:EnvD p H0 own σ H ρ)(A:At p H0 own H H1)(hf:gb q ρ i=true)(hl:i<σ.length)(r:Rp (λa=>H a=none) H1 v d):∃own',EnvD p H0 own' (σ.set i (some v)) H1 (ρ.set i (.dw q d)):=by
 have E2:EnvD p H0 (aQ q own) σ H (ρ.set i .any):=(E.drop (i:=i)).clear hf
 have A2:At p H0 (aQ q own) H H1:=⟨A.k0,A.kp,A.penb,A.pen,E2.ow⟩
 have E3:=E2.adopt q A2
 have r2:Rp (okK p H0 (aQ q own) H .new) H1 v d:=r
 have E4:EnvD p H0 (cL q H H1 (aQ q own)) (σ.set i (some v)) H1 ((ρ.set i .any).set i (.dw q d)):=E3.set λ_=>⟨v,ë hl,yO (k:=.new) rfl A2 r2⟩
 rw[List.set_set] at E4
 exact⟨_,E4⟩
end
section
variable [Gr] {X:Cx}{st0 st st2:Stmt}{rest:List Stmt}
def JW(i j i2:Nat)(te2 te:DE)(t:DS):TS:=λQ σ H=>∃p H0 own ρ P r ds ds2 l l2,EnvD p H0 own σ H ρ/\(ρ[i]?=some (.dw r (.list ds))/\ρ[i2]?=some (.dw r (.list ds2))/\σ[i]?=some (some (.ref l))/\σ[i2]?=some (some (.ref l2))/\l≠l2) /\
 (j<ρ.length/\i≠j/\ds.length<=100/\(∀d∈ds,∃es,d=.list es/\es.length<=800)/\ds2.length<=800)/\(te2 ρ λ_ _=>te ((forget r ρ).set j .any) λ_ _=>t P ((forget r ρ).set j .any))/\Wish p H0 own H P Q
def zj{i j i2:Nat}{te te2:DE}{t:DS}{c:D}(hc:iu c=true)(h0:PS X st0 (jh (tBM X.K "list" d7 (dJ i2) (dN (bR te2 fU)))))(h1:PS X st (Og (Qp X.K (dJ i)) (iw j) (jh (tBM X.K "list" d7 (dJ j) (dN (bR (tK c) fU))))))(h2:PS X st2 (jh (tBM X.K "list" d7 (dJ i) (dN (bR te fU)))))(h3:iG X rest t):PSs X (st0::st::st2::rest) (JW i j i2 te2 te t):=PSs.wk' (gJ h0 (gJ h1 (gJ h2 h3))) (by
 rintro Q σ H ⟨p,H0,own,ρ,P,r,ds,ds2,l,l2,E,⟨hr,hr2,hv,hv2,hll⟩,⟨hjl,hij,len,few,len2⟩,nx,w⟩
 obtain⟨v,hv',x⟩:=E.slot i _ hr
 rw[hv] at hv'
 cases hv'
 obtain⟨l',vs,el,ol,hl,rs⟩:=Rp.bO x
 cases el
 have lv:=rs.length
 obtain⟨v2,hv2',xx2⟩:=E.slot i2 _ hr2
 rw[hv2] at hv2'
 cases hv2'
 obtain⟨l2',ws20,el,ol2,hl2,rs2⟩:=Rp.bO xx2
 cases el
 have lv2:=rs2.length
 have h24:=ï
 refine⟨.ref l2,hv2,.inl ⟨rfl,ws20,SqL.of hl2⟩,p,H0,own,_,_,E,qp nx,?_⟩
 rintro ks us Ha ⟨k2,d2,rfl,q2⟩ Aa rka
 obtain⟨y0,rfl,ry0⟩:=fG rka
 have Ea:=E.go Aa.kp Aa.pen
 have hl2a:Ha l2=some (.lst ws20):=Aa.kp l2 _ hl2 (E.ow l2 r ol2).2.1
 refine⟨l2,ws20,y0,rfl,rfl,hl2a,by omega,?_⟩
 have Eb:=(Ea.write (o':=.lst (ws20++[y0])) ol2 hl2a (λxs z=>nomatch z)).drop (i:=j)
 have Fb:FrS p own H own (upd Ha l2 (.lst (ws20++[y0]))):=Aa.frs.trans (gF ol2 hl2a λxs z=>nomatch z)
 have hlb:upd Ha l2 (.lst (ws20++[y0])) l=some (.lst vs):=by rw[au hll];exact Aa.kp l _ hl (E.ow l r ol).2.1
 have allb:∀v∈vs,∃a ws,v=.ref a/\a≠l/\own a=some r/\upd Ha l2 (.lst (ws20++[y0])) a=some (.lst ws)/\ws.length<=801:=λv hv=>by
  obtain⟨k,hk⟩:=Ń hv
  obtain⟨d,hd,rd⟩:=rs.get hk
  have md:=Ò hd
  obtain⟨es,rfl,le⟩:=few d md
  obtain⟨a,ws,rfl,⟨oa,al⟩,ha,rw'⟩:=Rp.bO (Rp.avoid x rd (gG md))
  by_cases z:a=l2
  ·subst z
   exact⟨a,_,rfl,al,oa,aq,by rw[È,Õ];omega⟩
  ·exact⟨a,ws,rfl,al,oa,by rw[au z];exact Aa.kp a _ ha (E.ow a r oa).2.1,by rw[rw'.length];omega⟩
 generalize upd Ha l2 (.lst (ws20++[y0]))=Hb at Eb Fb hlb allb
 show sS (Og (Qp X.K (dJ i)) (iw j) (jh (tBM X.K "list" d7 (dJ j) (dN (bR (tK c) fU))))) (sS (jh (tBM X.K "list" d7 (dJ i) (dN (bR te fU)))) (jM t)) Q σ Hb
 refine⟨.ref l,hv,l,rfl,.inl ⟨⟨vs,SqL.of hlb⟩,?_⟩⟩
 refine⟨λn m σ' H'=>m=vs.length - n/\n<=vs.length/\EnvD p H0 own σ' H' ((forget r ρ).set j .any)/\FrS p own H own H'/\σ'[i]?=some (some (.ref l))/\H' l=some (.lst vs)/\∀v∈vs,∃a ws,v=.ref a/\a≠l/\own a=some r/\H' a=some (.lst ws)/\ws.length<=801+n,⟨_,rfl,ú _,Eb,Fb,hv,hlb,allb⟩,?_⟩
 rintro n m σ' H' ⟨rfl,hn,E',F',hi',ht',all⟩
 by_cases hlt:n<vs.length
 ·refine .inr ⟨⟨vs,vs[n],SqL.of ht',Ç hlt⟩,λσ2 H2=>n+1<=vs.length/\EnvD p H0 own σ2 H2 ((forget r ρ).set j .any)/\FrS p own H own H2/\σ2[i]?=some (some (.ref l))/\H2 l=some (.lst vs)/\∀v∈vs,∃a ws,v=.ref a/\a≠l/\own a=some r/\H2 a=some (.lst ws)/\ws.length<=801+(n+1),λσ2 H2 h=>⟨_,by omega,rfl,h⟩,λx H2 y=>?_⟩
  obtain⟨rfl,y⟩:=y
  have y:=y vs (SqL.of ht')
  obtain⟨a,ws,rfl,al,oa,ha,lw⟩:=all x (Ò y)
  have E2:EnvD p H0 own (σ'.set j (some (.ref a))) H2 ((forget r ρ).set j .any):=by
   have:=E'.set (i:=j) (v:=.ref a) (s:=.any) λ_=>trivial
   rwa [List.set_set] at this
  have hj:j<σ'.length:=by
   have:=E'.len
   rw[Ť] at this
   unfold forget at this
   rw[À] at this
   omega
  refine⟨.ref a,ë hj,.inl ⟨rfl,ws,SqL.of ha⟩,p,H0,own,_,λks=>ks=[(.imm,c)],E2,rfl,?_⟩
  rintro ks us H3 rfl A3 rk
  obtain⟨y',rfl,ry⟩:=fG rk
  have ha3:H3 a=some (.lst ws):=A3.kp a _ ha (E2.ow a r oa).2.1
  refine⟨a,ws,y',rfl,rfl,ha3,by omega,?_⟩
  have E4:=(E2.go A3.kp A3.pen).write (o':=.lst (ws++[y'])) oa ha3 (λxs z=>nomatch z)
  rw[rQ] at E4
  refine⟨hlt,E4,(F'.trans A3.frs).trans (gF oa ha3 λxs z=>nomatch z),?_,?_,λv hv=>?_⟩
  ·rw[ď (ė hij)];exact hi'
  ·rw[au (ė al)];exact A3.kp l _ ht' (E2.ow l r ol).2.1
  ·obtain⟨b,us,e,bl,ob,hb,lb⟩:=all v hv
   by_cases z:b=a
   ·subst z
    exact⟨b,_,e,bl,ob,aq,by rw[È,Õ];omega⟩
   ·refine⟨b,us,e,bl,ob,?_,by omega⟩
    rw[au z]
    exact A3.kp b _ hb (E2.ow b r ob).2.1
 ·have e:n=vs.length:=by omega
  subst e
  refine .inl ⟨⟨vs,SqL.of ht',Ë _⟩,?_⟩
  show sS (jh (tBM X.K "list" d7 (dJ i) (dN (bR te fU)))) (jM t) Q σ' H'
  refine⟨.ref l,hi',.inl ⟨rfl,vs,SqL.of ht'⟩,p,H0,own,_,_,E',qp q2,?_⟩
  rintro ks us H4 ⟨k2,d2,rfl,q3⟩ A4 rk2
  obtain⟨y2,rfl,ry2⟩:=fG rk2
  have E4:=E'.go A4.kp A4.pen
  have hl4:H4 l=some (.lst vs):=A4.kp l _ ht' (E'.ow l r ol).2.1
  refine⟨l,vs,y2,rfl,rfl,hl4,by omega,?_⟩
  have E5:=E4.write (o':=.lst (vs++[y2])) ol hl4 (λxs z=>nomatch z)
  rw[rQ] at E5
  exact⟨p,H0,own,_,P,E5,q3,w.go ((F'.trans A4.frs).trans (gF ol hl4 λxs z=>nomatch z))⟩)
end
variable [Gr]
variable {X:Cx}{st:Stmt}{te tj:DE}
def Nz(i:Nat)(te tj:DE):DS:=λP ρ=>te ρ λk d=>∃(r:Nat) (ds:List D),ρ[i]?=some (.dw r (.list ds))/\iu d=true/\tj ρ λ_ dj=>match dj with
 |.int j=>∃m,ixN ds.length j=some m/\P.nx ((forget r ρ).set i (.dw r (.list (ds.set m d))))
 |_=>False
def wz{i:Nat}(h:PS X st (sU (bD te) (Te (dJ i) (bD tj) Ml))):PDS X st (Nz i te tj):=PS.wk' h (by
 rintro Q σ H ⟨p,H0,own,ρ,P,E,t,w⟩
 refine⟨p,H0,own,ρ,_,E,t,λk d v H1 ⟨r,ds,hr,im,h⟩ A rv=>?_⟩
 obtain⟨u,hv,x⟩:=E.slot i _ hr
 obtain⟨l,vs,rfl,hl,ho,rs⟩:=x.bO
 have E1:=E.go A.kp A.pen
 refine⟨.ref l,hv,p,H0,own,ρ,_,E1,h,λk2 dj vj H2 h2 A2 r2=>?_⟩
 cases dj with
 |int j =>
  obtain⟨m,hm,hn⟩:=h2
  have ej:=Rp.int' r2
  have A12:=A.base A2
  have h1:H2 l=some (.lst vs):=A12.kp l _ ho (E.ow l r hl).2.1
  refine⟨l,vs,j,m,rfl,ej,h1,by rw[rs.length];exact hm,?_⟩
  obtain⟨E2,F2⟩:=E.qL (vs':=vs.set m v) (ds':=ds.set m d) A12 hv hl ho rs λH3 f g=>Rps.set (g (((rv.imm im).mono (λ_ o=>o) (λ_ _ o=>o.elim) (gA A A2.kp)).mono (λ_ o=>o.elim) (λ_ _ o=>o.elim) λ_ _ e=>e)) m (mJ f rs λd hd=>gG hd)
  exact w.nx _ σ _ _ E2 F2 hn
 |_=>exact h2.elim)
end Dl
namespace Wr
open PySem L2 PyProof.Rows Dl
variable [Gr] {X:Cx}
def wz{i:Nat}{x:Str}{te tj:DE}{ej e:Expr}{np p1 pos:Pos}(hv:WV X (.Name x np) i)(hj:WD X ej tj)(he:WD X e te)(ha:∀v,assign (.Subscript (.Name x np) ej p1) X.env v=(do
   let ov ←holding [v] (eval (.Name x np) X.env)
   let iv ←holding [v,ov] (eval ej X.env)
   standAt p1
   holding [v,ov,iv] (setItem ov iv v)
   release [v,ov,iv] []):=by intro _;rfl)(hs:swapsWithSole [.Subscript (.Name x np) ej p1] e pos.line X.env=pure false:=by rfl)(hw:swappedStores [.Subscript (.Name x np) ej p1] e X.env=pure none:=by rfl)(h1:(assignEach [.Subscript (.Name x np) ej p1] X.env).map (·.2)=[assign (.Subscript (.Name x np) ej p1) X.env]:=by rfl) :
  WDS X (.Assign [.Subscript (.Name x np) ej p1] e pos) (Nz i te tj):=⟨Dl.wz (qO he.h (u9 hv.h hj.h set_list ha) hs hw h1)⟩
end Wr
open Wr renaming aj → Á,ak → É,dv → Ì,aF → Û,aJ → ä,aO → ò,aK → ý,G8 → Ć,bF → ĉ,bw → Ď,cQ → ğ,cM → ġ,rZ → Ĵ,dh → ĸ,gB → Ĺ,jT → ĺ,vd → ľ,cB → Ō,d9 → ŏ,fX → Ő,fY → ŧ,dc → Ũ,oU → Ū,dF → Ÿ
open Dl renaming Cal → Ā,Ld → ĭ,any_ints → ĵ,Bn → Ļ,DX → Œ,Ei → ű
open L2 renaming gJ → č,Qu → đ,GQ → ē,cX → Ĕ,Bw → Ĭ,zm → ņ,oV → Š,au → ų,u6 → ŵ
open Wr.WDSs renaming h → Ģ
open L2.V renaming int → ř
namespace Nf
open PySem PySem.W PyProof.Rows
def qj(tb:String->Option Builtin)(p:Program)(w:World)(m:Nat)(ann:Option Value):Nat->SharedT->Thread->Option SharedT
 |0,_,_=>none
 |n+1,s,t=>match through t with
  |true=>some s
  |false=>match stepOk m ann t with
   |false=>none
   |true=>match stepT (denote tb) p w s t with
    |none=>none
    |some r=>qj tb p w m ann n r.1 r.2
def tE{tb:String->Option Builtin}{p:Program}{w:World}{m:Nat}{ann:Option Value}:∀{n:Nat}{s s':SharedT}{t:Thread},qj tb p w m ann n s t=some s'->topRun tb p w m ann n s.abs t=some s'.abs
 |0,_,_,_,h=>by cases h
 |n+1,s,s',t,h=>by
  unfold qj at h
  unfold topRun
  cases he:through t with
  |true=>rw[he] at h;cases h;rfl
  |false =>
   rw[he] at h
   cases hk:stepOk m ann t with
   |false=>rw[hk] at h;cases h
   |true =>
    rw[hk] at h
    cases hs:stepT (denote tb) p w s t with
    |none=>rw[hs] at h;cases h
    |some r=>obtain⟨s2,t2⟩:=r;rw[hs] at h;rw[stepT_spec hs];exact tE h
def rY(P:Params):List DictEntry:=match (Ž P).data with|.dict es _=>es.toList|_=>[]
def iB(P:Params)(i:Nat):List DictEntry:=((rY P).drop i).take 16
def b0(P:Params):List DictEntry:=by
 refine(?f:(l:List DictEntry)->l=iB P 0->List DictEntry) ?l ?h
 case f=>exact λl _=>l
 case h=>unfold iB rY Ž;dsimp only[List.drop,Ŧ];exact rfl
def b1(P:Params):List DictEntry:=by
 refine(?f:(l:List DictEntry)->l=iB P 16->List DictEntry) ?l ?h
 case f=>exact λl _=>l
 case h=>unfold iB rY Ž;dsimp only[List.drop,Ŧ];exact rfl
def b2(P:Params):List DictEntry:=by
 refine(?f:(l:List DictEntry)->l=iB P 32->List DictEntry) ?l ?h
 case f=>exact λl _=>l
 case h=>unfold iB rY Ž;dsimp only[List.drop,Ŧ];exact rfl
def b3(P:Params):List DictEntry:=by
 refine(?f:(l:List DictEntry)->l=iB P 48->List DictEntry) ?l ?h
 case f=>exact λl _=>l
 case h=>unfold iB rY Ž;dsimp only[List.drop,Ŧ];exact rfl
def b4(P:Params):List DictEntry:=by
 refine(?f:(l:List DictEntry)->l=iB P 64->List DictEntry) ?l ?h
 case f=>exact λl _=>l
 case h=>unfold iB rY Ž;dsimp only[List.drop,Ŧ];exact rfl
def b5(P:Params):List DictEntry:=by
 refine(?f:(l:List DictEntry)->l=iB P 80->List DictEntry) ?l ?h
 case f=>exact λl _=>l
 case h=>unfold iB rY Ž;dsimp only[List.drop,Ŧ];exact rfl
def b6(P:Params):List DictEntry:=by
 refine(?f:(l:List DictEntry)->l=iB P 96->List DictEntry) ?l ?h
 case f=>exact λl _=>l
 case h=>unfold iB rY Ž;dsimp only[List.drop,Ŧ];exact rfl
def b7(P:Params):List DictEntry:=by
 refine(?f:(l:List DictEntry)->l=iB P 112->List DictEntry) ?l ?h
 case f=>exact λl _=>l
 case h=>unfold iB rY Ž;dsimp only[List.drop,Ŧ];exact rfl
def b8(P:Params):List DictEntry:=by
 refine(?f:(l:List DictEntry)->l=iB P 128->List DictEntry) ?l ?h
 case f=>exact λl _=>l
 case h=>unfold iB rY Ž;dsimp only[List.drop,Ŧ];exact rfl
def b9(P:Params):List DictEntry:=by
 refine(?f:(l:List DictEntry)->l=iB P 144->List DictEntry) ?l ?h
 case f=>exact λl _=>l
 case h=>unfold iB rY Ž;dsimp only[List.drop,Ŧ];exact rfl
def bo0(P:Params):Obj:={ cls:=.type "dict",data:=.dict ⟨b0 P++(b1 P++(b2 P++(b3 P++(b4 P++(b5 P++(b6 P++(b7 P++(b8 P++(b9 P)))))))))⟩ 159 }
def QX:Ž=bo0:=by funext P;kernel_rfl
def JD(P:Params):Heap:={ objs:=⟨[bo0 P,boot_o_1 P,boot_o_2 P,boot_o_3 P,boot_o_4 P,boot_o_5 P,boot_o_6 P,boot_o_7 P,boot_o_8 P,boot_o_9 P,boot_o_10 P]⟩ }
def yL:ś=JD:=by
 funext P
 show Heap.mk ⟨Ž P::_⟩ _=_
 rw[QX]
 rfl
def yK(P:Params):BT:=((((((((((BT.nil.ins 0 (bo0 P)).ins 1 (boot_o_1 P)).ins 2 (boot_o_2 P)).ins 3 (boot_o_3 P)).ins 4 (boot_o_4 P)).ins 5 (boot_o_5 P)).ins 6 (boot_o_6 P)).ins 7 (boot_o_7 P)).ins 8 (boot_o_8 P)).ins 9 (boot_o_9 P)).ins 10 (boot_o_10 P)
def Nh:Life:={}
def Fd(P:Params):absHeap (yK P) 11 Nh=ś P:=by rw[yL];kernel_rfl
def yS(w:World)(os:OsState):SharedT:=⟨yK w.params,11,Nh,#[],boot_drawn,boot_toks,os⟩
def Dd(w:World)(os:OsState):(yS w os).abs=⟨ś w.params,#[],boot_drawn,boot_toks,os⟩:=by
 unfold yS SharedT.abs
 dsimp only
 rw[Fd]
def Bm(P:Params):=((ś P).isNs mainGlobals,(ś P).objs.size,(ś P).nsMap mainGlobals "__annotations__")
def yV:Bm=Bm:=rfl
end Nf
name_quick sizeQ for Nf.Bm by Nf.yV
namespace Nf
open PySem PySem.W PyProof.Rows
def Fe(w:World):((ś w.params).isNs mainGlobals,(ś w.params).objs.size,(ś w.params).nsMap mainGlobals "__annotations__")=(true,11,some (.ref 6)):=by
 show Bm w.params=_
 rw[W.Fast.sizeQ_eq]
 kernel_rfl
def Dk(p:Program)(N:Nat)(w:World)(os:OsState):=qj treeTable p w 11 (some (.ref 6)) N (yS w os) (topStub p)
def Gh(p q:Program)(Xt:Shared->Bool)(w:World)(s:Shared) :=
 (staticsOk (importedModules p.main.body) (JD w.params) s.heap&&namesBound p s.heap&&gensDone s&&laidKept (JD w.params) s.heap,openSeen q [] (importedModules p.main.body) Xt true s)
def Lf{p q:Program}{Xt:Shared->Bool}{β:Type}{Yf:Shared->List β}{Ya:World->List β}{N:Nat}(k:Nat)(open_:∀w:World,(fencedOpening treeTable p w N).map (λs=>(s.heap,s.gens,s.drawn,s.toks))=some (ś w.params,Array.mk [],boot_drawn,boot_toks))(look:∀(w:World) (os:OsState),(Dk p N w os).map (λs=>Gh p q Xt w s.abs)=some (true,openGood q []))(front:∀(w:World) (os:OsState),(Dk p N w os).map (λs=>(Yf s.abs).take k)=some ((Ya w).take k))(back:∀(w:World) (os:OsState),(Dk p N w os).map (λs=>(Yf s.abs).drop k)=some ((Ya w).drop k)):LeftO p q [] Xt Yf Ya N:=λw=>by
 obtain⟨⟨h,gs,d,j,os⟩,e,e'⟩:=Option.map_eq_some_iff.mp (open_ w)
 obtain⟨rfl,rfl,rfl,rfl⟩:h=ś w.params/\gs=#[]/\d=boot_drawn/\j=boot_toks:=by simpa using e'
 obtain⟨z1,z2,z3⟩:_/\_/\_:=by simpa only[Prod.mk.injEq] using Fe w
 obtain⟨s,hs,l⟩:=Option.map_eq_some_iff.mp (look w os)
 have l4:(Yf s.abs).take k=(Ya w).take k:=by
  have:=front w os
  rw[hs] at this
  exact à this
 have l5:(Yf s.abs).drop k=(Ya w).drop k:=by
  have:=back w os
  rw[hs] at this
  exact à this
 have l3:Yf s.abs=Ya w:=by rw[←List.take_append_drop k (Yf s.abs),l4,l5,List.take_append_drop]
 unfold Gh at l
 rw[←yL] at l
 obtain⟨l1,l2⟩:=Prod.mk.inj l
 have r:=tE hs
 rw[Dd] at r
 have t:topFrom treeTable p w N ⟨ś w.params,#[],boot_drawn,boot_toks,os⟩=some s.abs:=by
  unfold topFrom
  dsimp only
  rw[z1,z2,z3,r]
  show(match staticsOk (importedModules p.main.body) (ś w.params) s.abs.heap&&namesBound p s.abs.heap&&gensDone s.abs&&laidKept (ś w.params) s.abs.heap with|true=>_|false=>_)=_
  rw[l1]
 unfold openEnds
 rw[e]
 show(topFrom treeTable p w N _).map _=_
 rw[t]
 exact congrArg some (Prod.ext l2 l3)
end Nf
namespace Nf
open PySem L2 PyProof.Rows Dl
def top(i:Nat):Stmt:=PySem.Challenge.pw_nofall_k51_ties_put_in.main.body.getD i (.Pass ⟨0,0,0,0⟩)
structure Proper(n:Int)(l:List Int):Prop where
 one:1<=l.length
 few:(l.length:Int)<n
 rng:∀x∈l,0<=x/\x<n
 rise:l.Pairwise (·<·)
 n16:n<=16
def Nu(ds:List D)(P:D->Prop):Prop:=∃l:List Int,ds=[.list (l.map Â)]/\l.length<=400/\P (.list ((l.dropLast.zip (l.drop 1)).map pD))
def toI:D->Int
 |.int i=>i
 |_=>0
def tO(l:List Int):Bool:=(l.dropLast.zip (l.drop 1)).all λt=>decide (t.1<t.2)
def Ka(m:Int):D->Bool
 |.list es=>es.all (dX m)&&tO (es.map toI)
 |_=>false
def S7(n:Int):D->Bool
 |.list es=>decide ((1:Int)<=(es.length:Nat))&&decide (((es.length:Nat):Int)<n)
 |_=>false
def cu(n:Int)(d:D):Bool:=Ka n d&&S7 n d
def Few(d:D):Prop:=∀es,d=.list es->es.length<=400
def Cp(ds:List D)(P:D->Prop):Prop:=∃m d,ds=[.int m,d]/\Few d/\P (.bool (Ka m d))
def vZ(ds:List D)(P:D->Prop):Prop:=∃n d,ds=[.int n,d]/\Few d/\P (.bool (cu n d))
def Jo(ds:List D)(P:D->Prop):Prop:=∃n us l,ds=[aG n us,.list (l.map Â)]/\Proper n l/\P .none
def lv(l:List Int)(t:Tie):Bool:=decide (t.1∈l) != decide (t.2∈l)
def Qy(ds:List D)(P:D->Prop):Prop:=∃n us l,ds=[aG n us,.list (l.map Â)]/\Proper n l/\us.length<=100/\P (.list ((us.filter (lv l)).map pD))
def Ej{l:List Int}(h:l.Pairwise (·<·)):∀t∈l.dropLast.zip (l.drop 1),t.1<t.2:=by
 intro t ht
 obtain⟨i,hi,e⟩:=List.mem_iff_getElem.mp ht
 have h1:i<l.length - 1:=by
  rw[List.length_zip,Ĳ,Ĉ] at hi
  omega
 rw[List.getElem_zip] at e
 have e1:l.dropLast[i]'(by rw[Ĳ];exact h1)=l[i]:=List.getElem_dropLast _
 have e2:(l.drop 1)[i]'(by rw[Ĉ];exact h1)=l[1+i]:=List.getElem_drop
 rw[←e]
 simp only[e1,e2]
 exact(œ.mp h) i (1+i) (by omega) (by omega) (by omega)
def Fg{n:Int}{d:D}(h:dX n d=true):∃i:Int,d=.int i:=by
 cases d with
 |int i=>exact⟨i,rfl⟩
 |_=>cases h
def wJ(d:D):bG d=.im d\/bG d=.sh d:=by
 unfold bG
 by_cases h:iu d=true
 ·rw[if_pos h];exact .inl rfl
 ·rw[if_neg h];exact .inr rfl
def ints_of{n:Int}:∀{es:List D},es.all (dX n)=true->es=(es.map toI).map Â
 |[],_=>rfl
 |d::es,h=>by
  rw[List.all_cons,Ù] at h
  obtain⟨i,rfl⟩:=Fg h.1
  have:=ints_of h.2
  rw[æ,æ,←this]
  rfl
def uL(l:List Int):(l.map Â).map toI=l:=by rw[ô];exact List.map_id' l
def qP{n:Int}{l:List Int}(h:Proper n l):cu n (.list (l.map Â))=true:=by
 have h1:=h.one
 have h2:=h.few
 have e1:(l.map Â).all (dX n)=true:=ĝ.mpr λd hd=>by
  obtain⟨x,hx,rfl⟩:=ç.mp hd
  exact decide_eq_true (h.rng x hx)
 have e2:tO l=true:=ĝ.mpr λt ht=>decide_eq_true (Ej h.rise t ht)
 show(((l.map Â).all (dX n)&&tO ((l.map Â).map toI))&&(decide ((1:Int)<=((l.map Â).length:Nat))&&decide ((((l.map Â).length:Nat):Int)<n)))=true
 rw[e1,uL,e2,À,decide_eq_true (show(1:Int)<=(l.length:Nat) by omega),decide_eq_true h2]
 rfl
def Jj{l:List Int}(h:l.length<=400):Few (.list (l.map Â)):=λes e=>by
 injection e with e
 rw[←e,À]
 exact h
def gj{α:Type}(l:List α):fQ l none (some (-1))=l.dropLast:=by
 unfold fQ
 have e1:HT.sIx l.length 0 none=0:=rfl
 have e2:HT.sIx l.length l.length (some (-1))=l.length - 1:=by
  have e:HT.sIx l.length l.length (some (-1))=((-1:Int)+(l.length:Int)).toNat:=rfl
  rw[e]
  omega
 rw[e1,e2,List.drop_zero,Nat.sub_zero,List.dropLast_eq_take]
def su{α:Type}(l:List α):fQ l (some 1) none=l.drop 1:=by
 unfold fQ
 have e1:HT.sIx l.length l.length none=l.length:=rfl
 have e2:HT.sIx l.length 0 (some 1)=min 1 l.length:=HT.uW l.length 0 1
 rw[e1,e2]
 rw[List.take_of_length_le (by rw[Ĉ];omega)]
 by_cases h:1<=l.length
 ·rw[Nat.min_eq_left h]
 ·have:l=[]:=List.length_eq_zero_iff.mp (by omega)
  subst this
  rfl
def wO(a b:List Int):((a.map Â).zip (b.map Â)).map prD=(a.zip b).map pD:=by
 rw[List.zip_map,ô]
 rfl
section
variable {P:Program}{w:World}{K:Ú}{mg:Str->Option Value}{base:Heap}{f:Addr}{fd:FuncData}
def sc4:FnScope ["thing"] ["thing"] (ao (top 4)):=zC
def Hx(F:Fun K "is_whole" "is_whole" (top 4) f fd)(B:Ļ mg):FnOk P w K mg base CX0 1 f fd ["thing"] (spD Jl):=by
 refine F.ok sc4 ĭ (λcdv A outer s H vs Q E hr h=>?_)
 refine⟨_,aK (bw (iT (dF BX B.isinstance (dv 0) (mW (v:=.ty "int") rfl B.int boot_int rfl)) (jD (vg (dF yj B.isinstance (dv 0) (mW (v:=.ty "bool") rfl B.bool boot_bool rfl)))))),wj h ?_⟩
 rintro ds P ⟨d,rfl,q⟩
 unfold Aq Bh tIs
 refine FQ (d:=d) rfl λk=>?_
 cases d <;> exact⟨rfl,q⟩
def sc5:FnScope ["limit","thing"] ["limit","thing"] (ao (top 5)):=zC
def HD(F:Fun K "is_below" "is_below" (top 5) f fd)(W:Ā P w K mg base 1 "is_whole" ["thing"] (spD Jl)):FnOk P w K mg base CX0 2 f fd ["limit","thing"] (spD Jp):=by
 refine F.ok sc5 ĭ (λcdv A outer s H vs Q E hr h=>?_)
 refine⟨_,aK (bw (iT (dc W hr (aj (dv 1) ak)) (jD (mZ aF (dv 1) (dv 0))))),wj h ?_⟩
 rintro ds P ⟨m,d,rfl,q⟩
 unfold Aq Bh tFn bR
 refine FQ (d:=d) rfl λk=>⟨d,rfl,?_⟩
 cases d with
 |int i =>
  have e:P (.bool (decide (0<=i/\i<m))):=q
  by_cases h0:(0:Int)<=i
  ·show if decide ((0:Int)<=i)=true then _ else _
   rw[decide_eq_true h0]
   refine aN (B:=True) ⟨rfl,?_⟩
   have e2:decide (0<=i/\i<m)=decide (i<m):=by simp[h0]
   rw[e2] at e
   exact e
  ·show if decide ((0:Int)<=i)=true then _ else _
   rw[decide_eq_false h0]
   refine aM (A:=True) ⟨rfl,?_⟩
   have e2:decide (0<=i/\i<m)=false:=by simp[h0]
   rw[e2] at e
   exact e
 |_=>exact⟨rfl,q⟩
def sc7:FnScope ["places"] ["places"] (ao (top 7)):=zC
def KQ(F:Fun K "hops" "hops" (top 7) f fd)(B:Ļ mg)(mz:mg "zip"=none):FnOk P w K mg base CX0 1 f fd ["places"] (spD Nu):=by
 refine F.ok sc7 ĭ (λcdv A outer s H vs Q E hr h=>?_)
 refine⟨_,aK (bw (zH rfl B.list mz (aj (zE (dv 0) wB (eN (lQ aF))) (aj (zE (dv 0) (eN aF) wB) ak)))),wj h ?_⟩
 rintro ds P ⟨l,rfl,hl,q⟩
 refine .inl ⟨?_,.inl ⟨?_,?_,.inl ⟨?_,rfl,?_⟩⟩⟩
 ·show dR (fQ (l.map Â) none (some (-1)))=true
  rw[gj,←List.map_dropLast]
  exact cZ _
 ·show dR (fQ (l.map Â) (some 1) none)=true
  rw[su,←List.map_drop]
  exact cZ _
 ·show(fQ (l.map Â) none (some (-1))).length<=1000
  rw[gj,Ĳ,À]
  omega
 ·show dR _=true
  rw[gj,su,←List.map_dropLast,←List.map_drop,wO]
  exact eY _
 ·show P _
  rw[gj,su,←List.map_dropLast,←List.map_drop,wO]
  exact q
end
section
variable {P:Program}{w:World}{K:Ú}{mg:Str->Option Value}{base:Heap}{f:Addr}{fd:FuncData}
def sc9:FnScope ["limit","thing"] ["limit","thing"] (ao (top 9)):=zC
def U8:(["number","limit","thing"]:List Str).Nodup:=by decide +kernel
def U7:(["hop","limit","thing"]:List Str).Nodup:=by decide +kernel
def Dv(F:Fun K "is_rising" "is_rising" (top 9) f fd)(B:Ļ mg)(W:Ā P w K mg base 2 "is_below" ["limit","thing"] (spD Jp))(HO:Ā P w K mg base 1 "hops" ["places"] (spD Nu)):FnOk P w K mg base CX0 3 f fd ["limit","thing"] (spD Cp):=by
 refine F.ok sc9 ĭ (λcdv A outer s H vs Q E hr h=>?_)
 refine⟨_,aJ (dz (PDW.pt (dU (fX (d9 (dF jP B.isinstance (dv 1) (mW (v:=.ty "list") rfl B.list boot_list rfl)))) (d8 (fX (d9 (iU rfl B.all Dl.boot_all (aj (fY ["number"] rfl (cQ (dv 1)) (λc=>aO (Ĭ (i:=0) U8 rfl (þ rfl))) (λc=>dh) (λc=>dc W hr (aj (dv 1) (aj (dv 0) ak)))) ak))))))) (aK (bw fZ)) gB)
  (aK (bw (iU rfl B.all Dl.boot_all (aj (fY ["hop"] rfl (cQ (dc HO hr (aj (dv 1) ak))) (λc=>aO (Ĭ (i:=0) U7 rfl (þ rfl))) (λc=>dh) (λc=>R8 (jE (dv 0) aF (λ_ _=>rfl)) (jE (dv 0) aF (λ_ _=>rfl)))) ak)))),aW h ?_⟩
 rintro ds P ⟨n,d,rfl,hf,q⟩
 refine⟨[.im (.int n),bG d],rfl,?_⟩
 cases d with
 |list es =>
  have hl:=hf es rfl
  have q:P (.bool (es.all (dX n)&&tO (es.map toI))):=q
  refine aM (A:=True) ⟨by omega,.imm,λi ys=>ys=(es.take i).map λd=>PyData.bool (dX n d),rfl,λi d ys hd hy=>?_,λys hy=>?_⟩
  ·subst hy
   by_cases hi:iu d=true
   ·have en:∀k,norm k d=.imm:=λk=>gU hi
    unfold gNm
    simp only[en]
    exact aN (B:=True) ⟨n,d,rfl,rfl,(lY _ hd).symm⟩
   ·have en:∀k,norm k d=k:=λk=>nj hi
    unfold gNm
    simp only[en]
    exact aN (B:=True) ⟨n,d,rfl,rfl,(lY _ hd).symm⟩
  ·dsimp only at hy
   rw[ć] at hy
   refine⟨es.map (dX n),by rw[hy,ô];rfl,?_⟩
   rw[List.all_map]
   show if (!es.all (dX n))=true then _ else _
   cases ha:es.all (dX n) with
   |false =>
    rw[ha] at q
    exact⟨rfl,q⟩
   |true =>
    rw[ha] at q
    have q:P (.bool (tO (es.map toI))):=q
    have ei:=ints_of ha
    generalize hm:es.map toI=l at q ei
    have hll:l.length<=400:=by rw[←hm,À];exact hl
    subst ei
    -- rising
    refine⟨l,rfl,hll,?_,.imm,λi ys=>ys=((l.dropLast.zip (l.drop 1)).take i).map λt=>PyData.bool (decide (t.1<t.2)),rfl,?_,?_⟩
    ·rw[À,List.length_zip,Ĳ]
     omega
    ·rintro i d ys hd rfl
     obtain⟨t,ht,rfl⟩:=cD hd
     exact aN (B:=True) ⟨.int t.1,rfl,.int t.2,rfl,rfl,(lY _ ht).symm⟩
    rintro ys rfl
    refine⟨(l.dropLast.zip (l.drop 1)).map λt=>decide (t.1<t.2),?_,rfl,?_⟩
    ·rw[À,ć,ô]
     rfl
    ·rw[List.all_map]
     rw[uL] at q
     exact q
 |tuple es=>rcases wJ (.tuple es) with e|e <;> rw[e] <;> exact aN (B:=True) ⟨rfl,q⟩
 |_=>exact aN (B:=True) ⟨rfl,q⟩
def Ux:FnScope ["n","thing"] ["n","thing"] (ao (top 10)):=zC
def Dw(F:Fun K "is_proper_set" "is_proper_set" (top 10) f fd)(B:Ļ mg)(R:Ā P w K mg base 3 "is_rising" ["limit","thing"] (spD Cp)):FnOk P w K mg base CX0 4 f fd ["n","thing"] (spD vZ):=by
 refine F.ok Ux ĭ (λcdv A outer s H vs Q E hr h=>?_)
 refine⟨_,aK (bw (iT (dc R hr (aj (dv 0) (aj (dv 1) ak))) (jD (mZ aF (bB B.len (aj (dv 1) ak)) (dv 0))))),aW h ?_⟩
 rintro ds P ⟨n,d,rfl,hf,q⟩
 refine⟨[.im (.int n),bG d],rfl,?_⟩
 have q:P (.bool (Ka n d&&S7 n d)):=q
 cases d with
 |list es =>
  refine⟨n,.list es,rfl,hf,g8 (λc=>?_) (λc=>?_)⟩
  ·rw[c] at q
   have q:P (.bool (decide ((1:Int)<=(es.length:Nat))&&decide (((es.length:Nat):Int)<n))):=q
   show if decide ((1:Int)<=(es.length:Nat))=true then _ else _
   refine g8 (λc1=>⟨rfl,?_⟩) (λc1=>⟨rfl,?_⟩)
   ·rw[c1] at q
    exact q
   ·have c1:decide ((1:Int)<=(es.length:Nat))=false:=by simpa using c1
    rw[c1] at q
    exact q
  ·have c:Ka n (.list es)=false:=by simpa using c
   rw[c] at q
   exact⟨rfl,q⟩
 |tuple es=>rcases wJ (.tuple es) with e|e <;> rw[e] <;> exact⟨n,.tuple es,rfl,hf,aM (A:=True) ⟨rfl,q⟩⟩
 |_=>exact⟨n,_,rfl,hf,aM (A:=True) ⟨rfl,q⟩⟩
def Uz:FnScope ["web","thing"] ["web","thing"] (ao (top 11)):=zC
def xV(F:Fun K "check_set" "check_set" (top 11) f fd)(PS:Ā P w K mg base 4 "is_proper_set" ["n","thing"] (spD vZ)):FnOk P w K mg base CX0 5 f fd ["web","thing"] (spD Jo):=by
 refine F.ok Uz ĭ (λcdv A outer s H vs Q E hr h=>?_)
 refine⟨_,aK (dz (fX (d9 (dc PS hr (aj (jE (dv 0) aF (λ_ _=>rfl)) (aj (dv 1) ak))))) (aK nW) gB),aW h ?_⟩
 rintro ds P ⟨n,us,l,rfl,hP,q⟩
 refine⟨[.im (aG n us),.sh (.list (l.map Â))],?_,?_⟩
 ·show [bG (aG n us),bG (.list (l.map Â))]=_
  rw[cH]
  rfl
 refine⟨.int n,rfl,n,_,rfl,Jj (by have:=hP.few;have:=hP.n16;omega),?_⟩
 show if (!cu n (.list (l.map Â)))=true then _ else _
 rw[qP hP]
 exact aM (A:=False) q
def RM:FnScope ["tie","some"] ["tie","some"] (ao (top 14)):=zC
def fLv(ds:List D)(P:D->Prop):Prop:=∃t l,ds=[pD t,.list (l.map Â)]/\P (.bool (lv l t))
def Dy(F:Fun K "leaves" "leaves" (top 14) f fd):FnOk P w K mg base CX0 1 f fd ["tie","some"] (spD fLv):=by
 refine F.ok RM ĭ (λcdv A outer s H vs Q E hr h=>?_)
 refine⟨_,aK (bw (R7 (Mu hr.units (jE (dv 0) aF (λ_ _=>rfl)) (dv 1)) (Mu hr.units (jE (dv 0) aF (λ_ _=>rfl)) (dv 1)))),aW h ?_⟩
 rintro ds P ⟨t,l,rfl,q⟩
 refine⟨[.im (pD t),.sh (.list (l.map Â))],rfl,?_⟩
 refine⟨.int t.1,rfl,rfl,bM l,.int t.2,rfl,rfl,bM l,rfl,?_⟩
 show P (.bool (!decide ((((l.map Â).any λe=>ñ e (.int t.1)):Bool)=((l.map Â).any λe=>ñ e (.int t.2)))))
 rw[ĵ,ĵ]
 have e:(!decide ((decide (t.1∈l):Bool)=decide (t.2∈l)))=lv l t:=by
  unfold lv
  cases decide (t.1∈l) <;> cases decide (t.2∈l) <;> rfl
 rw[e]
 exact q
def Uy:FnScope ["web","some"] ["web","some"] (ao (top 15)):=zC
def U9:(["tie","web","some"]:List Str).Nodup:=by decide +kernel
def Pj(F:Fun K "ties_that_leave" "ties_that_leave" (top 15) f fd)(CH:Ā P w K mg base 5 "check_set" ["web","thing"] (spD Jo))(LV:Ā P w K mg base 1 "leaves" ["tie","some"] (spD fLv)):FnOk P w K mg base CX0 6 f fd ["web","some"] (spD Qy):=by
 refine F.ok Uy ĭ (λcdv A outer s H vs Q E hr h=>?_)
 refine⟨_,aJ (qz (dc CH hr (aj (dv 0) (aj (dv 1) ak)))) (aK (bw (fY ["tie"] rfl (cQ (jE (dv 0) aF (λ_ _=>rfl))) (λc=>aO (Ĭ (i:=0) U9 rfl (þ rfl)))
  (λc=>cG (d9 (dc LV hr (aj (dv 0) (aj (dv 2) ak))))) (λc=>dv 0)))),aW h ?_⟩
 rintro ds P ⟨n,us,l,rfl,hP,hl,q⟩
 refine⟨[.im (aG n us),.sh (.list (l.map Â))],?_,n,us,l,rfl,hP,?_⟩
 ·show [bG (aG n us),bG (.list (l.map Â))]=_
  rw[cH]
  rfl
 refine⟨.tuple (us.map pD),rfl,by rw[À];omega,.imm,λi ys=>ys=((us.take i).filter (lv l)).map pD,rfl,?_,?_⟩
 ·rintro i d ys hd rfl
  obtain⟨t,ht,rfl⟩:=cD hd
  refine⟨t,l,rfl,?_⟩
  show if lv l t=true then _ else _
  have sn:=qx (lv l) pD ht
  cases hb:lv l t with
  |true =>
   rw[hb,if_pos rfl] at sn
   exact aN (B:=True) ⟨rfl,sn.symm⟩
  |false =>
   rw[hb,if_neg Ó,ê] at sn
   exact aM (A:=True) sn.symm
 ·rintro ys rfl
  refine⟨rfl,?_⟩
  rw[take_all us (by rw[À];exact Ë _)]
  exact q
end
def iK:D->List Int
 |.list es=>es.map toI
 |_=>[]
def zO(l:List Int):Bool:=decide ((once l).length=l.length)
def Tp(n:Int):D->Bool
 |.list es=>es.all (cu n)&&zO (es.flatMap iK)
 |_=>false
def Vk(d:D):Prop:=∀es,d=.list es->es.length<=60/\∀e∈es,Few e
def TJ(ds:List D)(P:D->Prop):Prop:=∃n d,ds=[.int n,d]/\Vk d/\n<=16/\P (.bool (Tp n d))
def xu{n:Int}{d:D}(n16:n<=16)(h:cu n d=true):∃l:List Int,d=.list (l.map Â)/\iK d=l/\l.length<=15:=by
 unfold cu at h
 rw[Ù] at h
 cases d with
 |list es =>
  have h1:(es.all (dX n)&&tO (es.map toI))=true:=h.1
  rw[Ù] at h1
  have h2:(decide ((1:Int)<=(es.length:Nat))&&decide (((es.length:Nat):Int)<n))=true:=h.2
  rw[Ù,decide_eq_true_eq,decide_eq_true_eq] at h2
  exact⟨es.map toI,congrArg _ (ints_of h1.1),rfl,by rw[À];omega⟩
 |_=>cases h.1
section
variable {P:Program}{w:World}{K:Ú}{mg:Str->Option Value}{base:Heap}{f:Addr}{fd:FuncData}
def RD:FnScope ["n","thing","places","some"] ["n","thing"] (ao (top 17)):=zC
def U6:(["some","n","thing","places",""]:List Str).Nodup:=by decide +kernel
def Px(F:Fun K "is_family" "is_family" (top 17) f fd)(B:Ļ mg)(ms:mg "set"=none)(PS:Ā P w K mg base 4 "is_proper_set" ["n","thing"] (spD vZ)):FnOk P w K mg base CX0 5 f fd ["n","thing"] (spD TJ):=by
 refine F.ok RD ĭ (λcdv A outer s H vs Q E hr h=>?_)
 have nd:=RD.nd
 refine⟨_,aJ (dz (PDW.pt (dU (fX (d9 (dF jP B.isinstance (dv 1) (mW (v:=.ty "list") rfl B.list boot_list rfl)))) (d8 (fX (d9 (iU rfl B.all Dl.boot_all (aj (qU ["some"] ["n","thing","places",""] rfl (cQ (dv 1)) (λc=>aO (Ĭ (i:=0) U6 rfl (þ rfl))) (λc=>dh) (λc=>dc PS hr (aj (dv 1) (aj (dv 0) ak))) (hk:=rfl)) ak))))))) (aK (bw fZ)) gB)
  (aJ (bF (some 0) (ņ (i:=2) nd rfl (þ rfl) (cB ak)))
  (aJ (cO ù rfl (cQ (dv 1)) (aO (Ĭ (i:=3) nd rfl (þ rfl)))
   (aK (cV (i:=2) (bL (fH í Ŗ ŕ gZ (pv 2) (aj (dv 3) ak))))))
  (aK (bw (R9 (j7 rfl ms B.len (aj (dv 2) ak)) (bB B.len (aj (dv 2) ak))))))),aW h ?_⟩
 rintro ds P ⟨n,d,rfl,hf,n16,q⟩
 refine⟨[.im (.int n),bG d,.any,.any],rfl,?_⟩
 cases d with
 |list es =>
  obtain⟨hl,hfe⟩:=hf es rfl
  have q:P (.bool (es.all (cu n)&&zO (es.flatMap iK))):=q
  refine aM (A:=True) ⟨by omega,.imm,λi ys=>ys=(es.take i).map λd=>PyData.bool (cu n d),rfl,λi d ys hd hy=>?_,λys hy=>?_⟩
  ·subst hy
   have hfd:=hfe d (Ò hd)
   by_cases hi:iu d=true
   ·have en:∀k,norm k d=.imm:=λk=>gU hi
    unfold gNm
    simp only[en]
    exact aN (B:=True) ⟨n,d,rfl,hfd,rfl,(lY _ hd).symm⟩
   ·have en:∀k,norm k d=k:=λk=>nj hi
    unfold gNm
    simp only[en]
    exact aN (B:=True) ⟨n,d,rfl,hfd,rfl,(lY _ hd).symm⟩
  ·dsimp only at hy
   rw[ć] at hy
   refine⟨es.map (cu n),by rw[hy,ô];rfl,?_⟩
   rw[List.all_map]
   show if (!es.all (cu n))=true then _ else _
   cases ha:es.all (cu n) with
   |false =>
    rw[ha] at q
    exact⟨rfl,q⟩
   |true =>
    rw[ha] at q
    have q:P (.bool (zO (es.flatMap iK))):=q
    have pr:∀e∈es,∃l:List Int,e=.list (l.map Â)/\iK e=l/\l.length<=15:=λe he=>xu n16 (ĝ.mp ha e he)
    refine aM (A:=True) ⟨by decide,rfl,λ(i:Nat) ρ=>∃(l:List Int) (s3:Sl),s3.region=none/\ρ=[.im (.int n),.sh (.list es),.dw 0 (.list (l.map Â)),s3]/\l=(es.take i).flatMap iK/\l.length<=15 * i,⟨[],.any,rfl,rfl,rfl,Ë _⟩,?_,?_⟩
    ·rintro i d ρ hd ⟨l,s3,h3,rfl,rfl,hl2⟩
     obtain⟨m,rfl,em,hm⟩:=pr d (Ò hd)
     have hi:=(Ê.mp hd).1
     have lm:(((es.take i).flatMap iK).map Â).length=((es.take i).flatMap iK).length:=À ..
     have lm2:(m.map Â).length=m.length:=À ..
     refine⟨by show(_ || dR (m.map Â))=true;rw[cZ,Bool.or_true],by omega,(es.take i).flatMap iK++m,.sh (.list (m.map Â)),rfl,?_,?_,?_⟩
     ·rw[Ø]
      rfl
     ·rw[Ŋ,hd,List.flatMap_append]
      show _=_++([Ī (m.map Â)].flatMap iK)
      rw[List.flatMap_cons,List.flatMap_nil,ê,em]
     ·rw[È];omega
    ·rintro ρ ⟨l,s3,h3,rfl,rfl,hl2⟩
     rw[ć] at hl2 ⊢
     refine⟨_,_,rfl,by omega,rfl,?_⟩
     show P (.bool (decide ((((once (es.flatMap iK)).length:Nat):Int)=(((es.flatMap iK).map Â).length:Nat))))
     have e:decide ((((once (es.flatMap iK)).length:Nat):Int)=(((es.flatMap iK).map Â).length:Nat))=zO (es.flatMap iK):=by
      unfold zO
      rw[À,Č,decide_eq_true_eq,decide_eq_true_eq]
      omega
     rw[e]
     exact q
 |tuple es=>rcases wJ (.tuple es) with e|e <;> rw[e] <;> exact aN (B:=True) ⟨rfl,q⟩
 |_=>exact aN (B:=True) ⟨rfl,q⟩
end
def uJ(p:Addr)(H:Hp):Prop:=∃a b c:Int,H p=some (.lst [.int a,.int b,.int c])
def xH(p:Addr):Pn where
 fp:=λb=>b=p
 PI:=uJ p
 pv:=.ref p
 mono:=λH H' ⟨a,b,c,h⟩ k=>⟨a,b,c,k _ _ (.inl rfl) h⟩
 is:=λH b ⟨x,y,z,h⟩ hb=>by
  subst hb
  exact⟨_,h,(λxs z=>(nomatch z)),λ⟨_,_,z⟩=>(nomatch z)⟩
def CP(q:Pn):Prop:=∃p,q=xH p
def rW(ds:List D)(P:D->Prop):Prop:=∃m:Int,ds=[.int m]/\0<m/\m<1073741824/\∀r:Int,0<=r->r<m->P (.int r)
def jc{C:Pn->Prop}{f:List D->(D->Prop)->Prop}{n:Nat}(hn:∀ds P,f ds P->ds.length=n:=by intro _ _ h;repeat (first|(obtain⟨rfl,_⟩:=h;rfl)|obtain⟨_,h⟩:=h)):∀vs H Q E,spP C f vs H Q E->vs.length=n+1:=λvs H Q E h=>by
 obtain⟨p,vs',ds,P,_,rfl,_,r,t,_⟩:=h
 rw[ì,r.length,hn ds P t]
def DP{x m:Int}(hm:0<m)(hb:m<=2 ^ 32):-(2 ^ 64)<x % m/\x % m<2 ^ 64:=by
 have h1:=Int.emod_nonneg x (b:=m) (by omega)
 have h2:=Int.emod_lt_of_pos x hm
 omega
def PSs.wk{X:Cx}{ss:List Stmt}{t t':TS}(h:PSs X ss t)(w:∀D σ H,t' D σ H->t D σ H):PSs X ss t':=λpins s σ H D I q=>h pins s σ H D I (w D σ H q)
def tDr(p:Addr):TS:=λD σ H=>∃(a2 a3:Option V) (m a b c:Int),σ=[some (.ref p),some (.int m),a2,a3]/\0<m/\m<1073741824/\H p=some (.lst [.int a,.int b,.int c])/\∀r' x,0<=r'->r'<m->D.rt (.int r') (upd H p (.lst [.int x,.int b,.int c]))
section
variable {P:Program}{w:World}{K:Ú}{mg:Str->Option Value}{base:Heap}{f:Addr}{fd:FuncData}
def RL:FnScope ["_law_pen_here","_law_many","_law_drawn","_law_number"] ["_law_pen_here","_law_many"] (ao (top 41)):=zC
def KR(F:Fun K "_law_draw" "_law_draw" (top 41) f fd)(B:Ļ mg):FnOk P w K mg base CX0 1 f fd ["_law_pen_here","_law_many"] (spP CP rW):=by
 refine F.ok RL jc (λcdv A outer s H vs Q E hr h=>?_)
 obtain⟨_,vs',ds,P,⟨p,rfl⟩,rfl,⟨a,b,c,hp⟩,rp,⟨m,rfl,m0,m30,hP⟩,q⟩:=h
 obtain rfl:vs'=[.int m]:=by
  cases rp with
  |cons h1 t=>cases h1;cases t;rfl
 have nd:=RL.nd
 refine⟨_,č (jA (iQ tR (dY cF (pv 0) ē (λ_ _=>rfl)) ē (bT _))
   (č (ņ (i:=2) nd rfl (þ rfl) (bW iW (dY cF (pv 0) ē (λ_ _=>rfl)) (pv 1)))
   (č (qO (bW vB (dY cF (pv 0) ē (λ_ _=>rfl)) (pv 1)) (u9 (pv 0) ē set_list))
   (ŵ (gq (pv 2))))) dG)
  (č (qO (bW iY (dY cF (pv 0) ē (λ_ _=>rfl)) ē) (u9 (pv 0) ē set_list))
  (PSs.wk (t':=tDr p) (č (ņ (i:=3) nd rfl (þ rfl) (bW iW (bW lV (bW iY (bW iY (dY cF (pv 0) ē (λ_ _=>rfl)) (bW lV ē (dY cF (pv 0) ē (λ_ _=>rfl)))) ē) ē) ē))
  (č (ņ (i:=3) nd rfl (þ rfl) (bW iW (bW lV (pv 3) (bW iY (bW iY (bW iW (pv 3) ē) ē) (dY cF (pv 0) ē (λ_ _=>rfl)))) ē))
  (č (qO (pv 3) (u9 (pv 0) ē set_list))
  (ŵ (gq (bW iW (bW vB (pv 3) ē) (pv 1))))))) ?dr)),?_⟩
 case dr =>
  rintro D σ H' ⟨a2,a3,m,a,b,c,rfl,m0,m30,hp,hq⟩
  have md:∀x:Int,0<=x % m/\x % m<m:=λx=>⟨Int.emod_nonneg _ (by omega),Int.emod_lt_of_pos _ m0⟩
  refine⟨_,rfl,p,_,_,_,rfl,rfl,SqL.of hp,rfl,_,rfl,p,_,_,_,rfl,rfl,SqL.of hp,rfl,_,_,rfl,rfl,.inl ⟨by decide,by decide⟩,_,_,rfl,rfl,_,_,rfl,rfl,_,_,rfl,rfl,.inr ⟨by decide,by decide⟩,_,_,rfl,rfl,(by show(0:Int)<2147483629;decide),?_⟩
  refine⟨_,rfl,_,rfl,_,_,rfl,rfl,(by show(0:Int)<65521;decide),_,_,rfl,rfl,_,rfl,p,_,_,_,rfl,rfl,SqL.of hp,rfl,_,_,rfl,rfl,_,_,rfl,rfl,.inl (DP (by decide) (by decide)),_,_,rfl,rfl,(by show(0:Int)<2147483587;decide),?_⟩
  refine⟨_,rfl,_,rfl,p,_,_,_,rfl,rfl,hp,rfl,?_⟩
  exact⟨_,rfl,_,_,rfl,rfl,⟨by decide,by decide⟩,_,rfl,_,_,rfl,rfl,m0,hq _ _ (md _).1 (md _).2⟩
 have md:∀x:Int,0<=x % m/\x % m<m:=λx=>⟨Int.emod_nonneg _ (by omega),Int.emod_lt_of_pos _ m0⟩
 have fin:∀(H':Hp) (r:Int),0<=r->r<m->(∀b o,H b=some o->b≠p->H' b=some o)->uJ p H'->Q (.int r) H':=λH' r h1 h2 k e =>
  q _ _ _ (hP r h1 h2) (λb o e n=>k b o e λz=>n z) e (.int r)
 have kU:∀(H1:Hp) (o:HO),(∀b o,H b=some o->b≠p->H1 b=some o)->∀b u,H b=some u->b≠p->upd H1 p o b=some u:=λH1 o k b u e n=>by rw[ų n];exact k b u e n
 refine⟨_,rfl,p,_,_,_,rfl,rfl,SqL.of hp,rfl,rfl,_,rfl,g8 (λc1=>?_) (λc1=>?_)⟩
 ·exact⟨_,rfl,p,_,_,_,rfl,rfl,SqL.of hp,rfl,_,rfl,_,_,rfl,rfl,m0,_,rfl,p,_,_,_,rfl,rfl,SqL.of hp,rfl,_,rfl,_,_,rfl,rfl,⟨m0,m30⟩,_,rfl,p,_,_,_,rfl,rfl,hp,rfl,_,rfl,fin _ _ (md _).1 (md _).2 (kU _ _ λb o e _=>e) ⟨_,_,_,aq⟩⟩
 ·refine⟨_,rfl,p,_,_,_,rfl,rfl,SqL.of hp,rfl,_,_,rfl,rfl,_,rfl,p,_,_,_,rfl,rfl,hp,rfl,?_⟩
  exact⟨_,_,m,a,b,c+1,rfl,m0,m30,aq,λr' x h1 h2=>fin _ _ h1 h2 (kU _ _ (kU _ _ λb o e _=>e)) ⟨_,_,_,aq⟩⟩
end
structure IsOrd(n:Int)(l:List Int):Prop where
 len:(l.length:Int)=n
 rng:∀x∈l,0<=x/\x<n
 nd:l.Nodup
def Aj(ds:List D)(P:D->Prop):Prop:=∃n:Int,ds=[.int n]/\0<=n/\n<=16/\∀l,IsOrd n l->P (.list (l.map Â))
def IsOrd.ins{k:Nat}{l:List Int}(h:IsOrd k l)(j:Nat):IsOrd ((k+1:Nat):Int) (l.take j++((k:Nat):Int)::l.drop j):=by
 have p:(l.take j++((k:Nat):Int)::l.drop j).Perm (((k:Nat):Int)::l):=by
  refine List.perm_middle.trans ?_
  rw[List.take_append_drop]
 refine⟨?_,λx hx=>?_,?_⟩
 ·rw[p.length_eq,ì]
  have:=h.len
  omega
 ·rcases Ð.mp (p.mem_iff.mp hx) with z|z
  ·omega
  ·have:=h.rng x z
   omega
 ·refine p.symm.nodup ?_
  refine List.nodup_cons.mpr ⟨λz=>?_,h.nd⟩
  have:=h.rng _ z
  omega
section
variable {P:Program}{w:World}{K:Ú}{mg:Str->Option Value}{base:Heap}{f:Addr}{fd:FuncData}
def RK:FnScope ["_law_pen_here","_law_n","_law_found","_law_place"] ["_law_pen_here","_law_n"] (ao (top 42)):=zC
abbrev wM(P:Program)(w:World)(K:Ú)(mg:Str->Option Value)(base:Heap)(k:Nat)(x:Str)(ps:List Str)(g:List D->(D->Prop)->Prop):Prop:=Ā P w K mg base k x ps (spP CP g)
def Hz(F:Fun K "_law_order" "_law_order" (top 42) f fd)(B:Ļ mg)(T:wM P w K mg base 1 "_law_draw" ["_law_pen_here","_law_many"] rW):FnOk P w K mg base CX0 2 f fd ["_law_pen_here","_law_n"] (spP CP Aj):=by
 refine F.ok RK jc (λcdv A outer s H vs Q E hr h=>?_)
 have nd:=RK.nd
 refine⟨_,aJ (bF (some 0) (ņ (i:=2) nd rfl (þ rfl) (cB ak)))
  (aJ (cO ù rfl (aV B.range (aj (dv 1) ak)) (aO (Ĭ (i:=3) nd rfl (þ rfl)))
   (aK (El (i:=2) (bL (fH í PySem.F.slot_list_insert PySem.F.type_list_insert DN (pv 2) (aj (dcP T hr (pv 0) (aj (jF (dv 3) aF) ak)) (aj (dv 3) ak)))))))
  (aK (bw (dv 2)))),enterQ h ?_⟩
 rintro ds P ⟨n,rfl,n0,n16,q⟩
 refine⟨[.im (.int n),.any,.any],rfl,?_⟩
 refine⟨by decide,⟨by omega,by omega⟩,rfl,λ(i:Nat) ρ=>∃(l:List Int) (s:Sl),IsOrd i l/\s.region=none/\ρ=[.pen CP,.im (.int n),.dw 0 (.list (l.map Â)),s],⟨[],.any,⟨rfl,λx hx=>(nomatch hx),.nil⟩,rfl,rfl⟩,?_,?_⟩
 ·rintro i d ρ hd ⟨l,s,hl,hs,rfl⟩
  obtain⟨hi,rfl⟩:=ű hd
  have hlen:=hl.len
  refine⟨rfl,_,rfl,by omega,by omega,λr r0 r1=>⟨rfl,r0,?_,?_,?_⟩⟩
  ·rw[À];omega
  ·rw[À];omega
  ·refine⟨l.take r.toNat++((i:Nat):Int)::l.drop r.toNat,.im (.int (0+((i:Nat):Int))),hl.ins r.toNat,rfl,?_⟩
   show [Sl.pen CP,Sl.im (.int n),Sl.dw 0 (.list ((l.map Â).take r.toNat++Â (0+((i:Nat):Int))::(l.map Â).drop r.toNat)),Sl.im _]=_
   rw[Ø,æ,List.map_take,List.map_drop,Int.zero_add]
 ·rintro ρ ⟨l,s,hl,hs,rfl⟩
  rw[Œ] at hl
  have e:((n.toNat:Nat):Int)=n:=by omega
  rw[e] at hl
  exact⟨rfl,q l hl⟩
end
def bJ(n:Int)(ts:List Tie):Prop:=∀t∈ts,(0<=t.1/\t.1<n)/\0<=t.2/\t.2<n
def bJ.app{n:Int}{a b:List Tie}(h:bJ n a)(h':bJ n b):bJ n (a++b):=λt ht=>(â.mp ht).elim (h t) (h' t)
def bJ.one{n:Int}{t:Tie}(h:(0<=t.1/\t.1<n)/\0<=t.2/\t.2<n):bJ n [t]:=λu hu=>by rw[Ö.mp hu];exact h
abbrev Nr(s:Sl):Prop:=s.region=none
def fgN{s:Sl}{r:Nat}(h:Nr s):(if s.region=some r then Sl.any else s)=s:=by rw[h];rfl
def iG.wk{X:Cx}{ss:List Stmt}{t t':DS}(h:iG X ss t)(w:∀P ρ,t' P ρ->t P ρ):iG X ss t':=PSs.wk' h (by
 rintro Q σ H ⟨p,H0,own,ρ,P,E,t,wi⟩
 exact⟨p,H0,own,ρ,P,E,w P ρ t,wi⟩)
def app1(ts:List Tie)(a b:Int):ts.map pD++[PyData.tuple [.int a,.int b]]=(ts++[((a,b):Tie)]).map pD:=by
 rw[Ø]
 rfl
def kJ{P:DEnds}{ρ:List Sl}{rg:Option Nat}{i:Nat}{k:Kd}{d:D}{s:Sl}(e:stK rg ρ i (norm k d) d=some s)(h:P.nx (ρ.set i s)):(match stK rg ρ i (norm k d) d with
 |some s=>P.nx (ρ.set i s)
 |none=>False):=by
 rw[e]
 exact h
def xg{ok:Addr->Prop}{H:Hp}:∀ns:List Int,Rps ok H (ns.map ř) (ns.map Â)
 |[]=>.nil
 |n::ns=>.cons (.int n) (xg ns)
structure Near(H0 H:Hp)(st:Addr)(as:List Addr)(L:Nat->List Int):Prop where
 top:H st=some (.lst (as.map V.ref))
 nd:as.Nodup
 out:∀a∈as,a≠st
 new:∀a∈as,H0 a=none
 row:∀(j:Nat) (a:Addr),as[j]?=some a->H a=some (.lst ((L j).map ř))
def Near.app{H0 H:Hp}{st:Addr}{as:List Addr}{L:Nat->List Int}(h:Near H0 H st as L){j0:Nat}(hj:j0<as.length)(x:Int) :
  Near H0 (upd H as[j0] (.lst ((L j0).map ř++[.int x]))) st as λj=>if j=j0 then L j++[x] else L j:=by
 refine⟨?_,h.nd,h.out,h.new,λj a e=>?_⟩
 ·rw[ų (ė (h.out _ (Ĩ hj)))]
  exact h.top
 ·by_cases ej:j=j0
  ·subst ej
   rw[Ç hj] at e
   have e:=à e
   subst e
   show _=some (HO.lst ((if j=j then L j++[x] else L j).map ř))
   rw[aq,if_pos rfl,Ø]
   rfl
  ·show _=some (HO.lst ((if j=j0 then L j++[x] else L j).map ř))
   rw[if_neg ej,ų ?_]
   ·exact h.row j a e
   ·intro z
    have hl:=(Ê.mp e).1
    have hz:as[j]=as[j0]:=by rw[(Ê.mp e).2];exact z
    exact ej ((List.getElem_inj h.nd).mp hz)
def lD(l:List Int):D:=.list (l.map Â)
def w5{ok:Addr->Prop}{H:Hp}:∀(as:List Addr) (L:Nat->List Int),(∀a∈as,ok a)->(∀(j:Nat) (a:Addr),as[j]?=some a->H a=some (.lst ((L j).map ř)))->Rps ok H (as.map V.ref) ((Ý as.length).map λj=>lD (L j))
 |[],_,_,_=>.nil
 |a::as,L,h,r=>by
  rw[ì,List.range_succ_eq_map,æ,æ,ô]
  exact .cons (.lst (h a Å) (r 0 a rfl) (xg (L 0))) (w5 as (λj=>L (j+1)) (λb hb=>h b (Ä _ hb)) λj b e=>r (j+1) b e)
def IsOrd.at{n:Int}{l:List Int}(h:IsOrd n l){a:Int}(h0:0<=a)(h1:a<n):∃x:Int,atI (l.map Â) a=some (.int x)/\0<=x/\x<n:=by
 have hl:=h.len
 have hk:a.toNat<l.length:=by omega
 have ek:a=((a.toNat:Nat):Int):=by omega
 have z:atI (l.map Â) ((a.toNat:Nat):Int)=some (.int l[a.toNat]):=eX (by rw[Þ,Ç hk];rfl)
 rw[←ek] at z
 exact⟨_,z,h.rng _ (Ĩ hk)⟩
def qJ{H:Hp}{p:Addr}(h:H p=none)(o:HO):Same H (upd H p o):=λb u q=>by rw[ų (aB q h)];exact q
def Jm(ds:List D)(P:D->Prop):Prop:=∃n:Int,ds=[.int n]/\2<=n/\n<=16/\∀a b:Int,0<=a->a<n->0<=b->b<n->a≠b->P (pD (a,b))
def PL{a r n:Int}(a0:0<=a)(a1:a<n)(r0:0<=r)(r1:r<n - 1):a≠(a+1+r) % n:=λe=>by
 by_cases h:a+1+r<n
 ·rw[Int.emod_eq_of_lt (by omega) h] at e
  omega
 ·have e2:(a+1+r) % n=a+1+r - n:=by
   rw[←Int.sub_emod_right,Int.emod_eq_of_lt (by omega) (by omega)]
  omega
section
variable {P:Program}{w:World}{K:Ú}{mg:Str->Option Value}{base:Heap}{f:Addr}{fd:FuncData}
def Gi:FnScope ["_law_pen_here","_law_n","_law_a"] ["_law_pen_here","_law_n"] (ao (top 43)):=zC
def KJ(F:Fun K "_law_pair" "_law_pair" (top 43) f fd)(T:wM P w K mg base 1 "_law_draw" ["_law_pen_here","_law_many"] rW):FnOk P w K mg base CX0 2 f fd ["_law_pen_here","_law_n"] (spP CP Jm):=by
 refine F.ok Gi jc (λcdv A outer s H vs Q E hr h=>?_)
 have nd:=Gi.nd
 refine⟨_,aJ (bF none (ņ (i:=2) nd rfl (þ rfl) (dcP T hr (pv 0) (aj (dv 1) ak))))
  (aK (bw (cM (aj (dv 2) (aj (O7 (jF (jF (dv 2) aF) (dcP T hr (pv 0) (aj (oU (dv 1) aF) ak))) (dv 1)) ak))))),enterQ h ?_⟩
 rintro ds P ⟨n,rfl,n2,n16,q⟩
 refine⟨[.im (.int n),.any],rfl,rfl,n,rfl,by omega,by omega,λa a0 a1=>⟨rfl,n - 1,rfl,by omega,by omega,λr r0 r1=>⟨(show(0:Int)<n by omega),zK,rfl,?_⟩⟩⟩
 exact q a _ a0 a1 (Int.emod_nonneg _ (by omega)) (Int.emod_lt_of_pos _ (by omega)) (PL a0 a1 r0 r1)
end
def Near.fresh{H0 H:Hp}{st c:Addr}{as:List Addr}{L:Nat->List Int}(h:Near H0 H st as L)(hc:H c=none)(hc0:H0 c=none) :
  Near H0 (upd (upd H c (.lst [])) st (.lst (as.map V.ref++[.ref c]))) st (as++[c]) λj=>if j=as.length then [] else L j:=by
 have cst:c≠st:=λe=>by rw[e,h.top] at hc;cases hc
 have ca:∀a∈as,a≠c:=λa ha e=>by
  obtain⟨j,hj,ej⟩:=List.mem_iff_getElem.mp ha
  have:=h.row j a (by rw[Ç hj,ej])
  rw[e,hc] at this
  cases this
 refine⟨?_,?_,λa ha=>?_,λa ha=>?_,λj a e=>?_⟩
 ·rw[aq,Ø]
  rfl
 ·rw[List.nodup_append]
  exact⟨h.nd,by simp,λa ha b hb e=>by rw[Ö.mp hb] at e;exact ca a ha e⟩
 ·rcases â.mp ha with z|z
  ·exact h.out a z
  ·rw[Ö.mp z];exact cst
 ·rcases â.mp ha with z|z
  ·exact h.new a z
  ·rw[Ö.mp z];exact hc0
 ·by_cases hj:j<as.length
  ·rw[ó hj] at e
   have ha:=Ò e
   rw[ų (h.out a ha),ų (ca a ha)]
   show _=some (HO.lst ((if j=as.length then [] else L j).map ř))
   rw[if_neg (by omega)]
   exact h.row j a e
  ·have hl:=(Ê.mp e).1
   rw[È,Õ] at hl
   have ej:j=as.length:=by omega
   subst ej
   rw[è (Ë _),Nat.sub_self] at e
   have e:=à e
   subst e
   rw[ų cst,aq]
   show _=some (HO.lst ((if as.length=as.length then [] else L as.length).map ř))
   rw[if_pos rfl]
   rfl
def Near.keep{H0 H H':Hp}{st p:Addr}{as:List Addr}{L:Nat->List Int}(h:Near H0 H st as L)(hp:p≠st)(hpa:∀a∈as,a≠p)(k:∀b o,H b=some o->b≠p->H' b=some o):Near H0 H' st as L :=
 ⟨k _ _ h.top (ė hp),h.nd,h.out,h.new,λj a e=>k _ _ (h.row j a e) (hpa a (Ò e))⟩
structure RowsOk(n:Int)(i:Nat)(m:Nat)(L:Nat->List Int):Prop where
 one:1<=m
 few:m<=i+1
 ne:∀j,j<m->L j≠[]
 len:∀j,j<m->(L j).length<=i+1
 rng:∀j,j<m->∀x∈L j,0<=x/\x<n
def gH(m:Nat)(L:Nat->List Int):List D:=(Ý m).map λj=>lD (L j)
def fGr(ds:List D)(P:D->Prop):Prop:=∃n:Int,ds=[.int n]/\2<=n/\n<=8/\∀ts:List Tie,ts.length<=80->bJ n ts->P (.list (ts.map pD))
def dGr:DS:=λP ρ=>∃(n:Int) (m:Nat) (L:Nat->List Int) (s3:Sl),Nr s3/\ρ=[.pen CP,.im (.int n),.sn (.list (gH m L)),s3,.any,.any,.any,.any,.any,.any,.any]/\2<=n/\n<=8/\RowsOk n 7 m L/\∀ts:List Tie,ts.length<=80->bJ n ts->P.rt (.list (ts.map pD))
def J7{m:Nat}{L:Nat->List Int}{i:Int}(h0:0<=i)(h1:i<m):atI (gH m L) i=some (lD (L i.toNat)):=by
 have ek:i=((i.toNat:Nat):Int):=by omega
 have z:atI (gH m L) ((i.toNat:Nat):Int)=some (lD (L i.toNat)):=eX (by unfold gH;rw[Þ,List.getElem?_range (by omega)];rfl)
 rw[←ek] at z
 exact z
def int_at{l:List Int}{i:Int}(h0:0<=i)(h1:i<l.length):∃x,atI (l.map Â) i=some (.int x)/\x∈l:=by
 have ek:i=((i.toNat:Nat):Int):=by omega
 have hk:i.toNat<l.length:=by omega
 have z:atI (l.map Â) ((i.toNat:Nat):Int)=some (.int l[i.toNat]):=eX (by rw[Þ,Ç hk];rfl)
 rw[←ek] at z
 exact⟨_,z,Ĩ hk⟩
def Cd{l:List Int}{i:Int}(h0:-1<=i)(h1:i<l.length)(hl:l≠[]):∃x,atI (l.map Â) i=some (.int x)/\x∈l:=by
 by_cases h:0<=i
 ·exact int_at h h1
 ·have e:i=-1:=by omega
  subst e
  have hd:=List.dropLast_concat_getLast hl
  have z:=n6 (l.dropLast.map Â) (Â (l.getLast hl))
  have e2:l.dropLast.map Â++[Â (l.getLast hl)]=l.map Â:=by rw[show [Â (l.getLast hl)]=[l.getLast hl].map Â from rfl,←Ø,hd]
  rw[e2] at z
  exact⟨_,z,List.getLast_mem hl⟩
section
variable {P:Program}{w:World}{K:Ú}{mg:Str->Option Value}{base:Heap}{f:Addr}{fd:FuncData}
abbrev NGr:List Str:=["_law_pen_here","_law_n","_law_some","_law_place","_law_ties_here","_law_places","_law_k","_law_i","_law_j","_law_a","_law_b"]
def RB:FnScope NGr ["_law_pen_here","_law_n"] (ao (top 44)):=zC
def U5:(["_law_k","_law_pen_here","_law_n","_law_some","_law_place","_law_ties_here","_law_places","","_law_i","_law_j","_law_a","_law_b"]:List Str).Nodup:=by decide +kernel
abbrev RGr(n:Int)(m:Nat)(L:Nat->List Int)(ts:List Tie)(s3 s5 s6 s7 s8 s9 s10:Sl):List Sl:=[.pen CP,.im (.int n),.sn (.list (gH m L)),s3,.dw 0 (.list (ts.map pD)),s5,s6,s7,s8,s9,s10]
def N6{n:Int}{m:Nat}{L:Nat->List Int}{ts ts':List Tie}{s3 s5 s6 s7 s8 s9 s10:Sl}(h3:Nr s3)(h5:Nr s5)(h6:Nr s6)(h7:Nr s7)(h8:Nr s8)(h9:Nr s9)(h10:Nr s10) :
  (forget 0 (RGr n m L ts s3 s5 s6 s7 s8 s9 s10)).set 4 (.dw 0 (.list (ts'.map pD)))=RGr n m L ts' s3 s5 s6 s7 s8 s9 s10:=by
 show [Sl.pen CP,Sl.im (.int n),Sl.sn (.list (gH m L)),(if s3.region=some 0 then Sl.any else s3),Sl.dw 0 (.list (ts'.map pD)),(if s5.region=some 0 then Sl.any else s5),(if s6.region=some 0 then Sl.any else s6),(if s7.region=some 0 then Sl.any else s7),(if s8.region=some 0 then Sl.any else s8),(if s9.region=some 0 then Sl.any else s9),(if s10.region=some 0 then Sl.any else s10)]=_
 rw[fgN h3,fgN h5,fgN h6,fgN h7,fgN h8,fgN h9,fgN h10]
def Sv(F:Fun K "_law_grouped" "_law_grouped" (top 44) f fd)(B:Ļ mg)(T:wM P w K mg base 1 "_law_draw" ["_law_pen_here","_law_many"] rW):FnOk P w K mg base CX0 2 f fd ["_law_pen_here","_law_n"] (spP CP fGr):=by
 refine F.ok RB jc (λcdv A outer s H vs Q E hr h=>?_)
 obtain⟨_,vs',ds,P',⟨p,rfl⟩,rfl,hp0,rp,⟨n,rfl,n2,n8,hP⟩,q⟩:=h
 obtain rfl:vs'=[.int n]:=by
  cases rp with
  |cons h1 t=>cases h1;cases t;rfl
 have nd:=RB.nd
 have h24:=ï
 refine⟨_,č (ņ (i:=2) nd rfl (þ rfl) (jC (Ĕ (jC (Ĕ ē Š)) Š)))
  (č (qN ù rfl (Dq rfl B.range (Ĕ ē (Ĕ (pv 1) Š))) (Ĭ (i:=3) nd rfl (þ rfl))
   (č (jA (iQ tR (pcS T hr (Ĕ (pv 0) (Ĕ ē Š)) (by decide) rfl (by decide) rfl rfl) ē (bT _)) (ŵ (bL (fH í Ĝ ě cT (pv 2) (Ĕ (jC Š) Š)))) dG)
   (ŵ (bL (fH í Ĝ ě cT (dY cF (pv 2) (Mt Fz ē) (λ_ _=>rfl)) (Ĕ (pv 3) Š))))))
  (iG.wk (t':=dGr) (aJ (bF (some 0) (ņ (i:=4) nd rfl (þ rfl) (cB ak)))
   (aJ (cO ù rfl (cQ (dv 2)) (aO (Ĭ (i:=5) nd rfl (Or.inr rfl)))
    (aK (cV (i:=4) (bL (fH í Ŗ ŕ gZ (pv 4) (aj (qU ["_law_k"] ["_law_pen_here","_law_n","_law_some","_law_place","_law_ties_here","_law_places","","_law_i","_law_j","_law_a","_law_b"] rfl (aV B.range (aj (bB B.len (aj (dv 5) ak)) ak)) (λc=>aO (Ĭ (i:=0) U5 rfl (þ rfl))) (λc=>cG (lO (bB B.len (aj (dv 6) ak)) aF)) (λc=>cM (aj (gw (dv 6) (oU (dv 0) aF) (λ_ _=>rfl)) (aj (gw (dv 6) (dv 0) (λ_ _=>rfl)) ak))) (hk:=rfl)) ak))))))
   (aJ (cO ù rfl (aV B.range (aj (dcP T hr (pv 0) (aj (jF (G7 aF (bB B.len (aj (dv 2) ak))) aF) ak)) ak)) (aO (Ĭ (i:=6) nd rfl (þ rfl)))
    (aJ (bF none (ņ (i:=7) nd rfl (þ rfl) (dcP T hr (pv 0) (aj (bB B.len (aj (dv 2) ak)) ak))))
    (aJ (bF none (ņ (i:=8) nd rfl (þ rfl) (dcP T hr (pv 0) (aj (bB B.len (aj (dv 2) ak)) ak))))
    (aJ (bF none (ņ (i:=9) nd rfl (þ rfl) (gw (gw (dv 2) (BJ rfl B.min (aj (dv 7) (aj (dv 8) ak))) (λ_ _=>rfl)) (dcP T hr (pv 0) (aj (bB B.len (aj (gw (dv 2) (BJ rfl B.min (aj (dv 7) (aj (dv 8) ak))) (λ_ _=>rfl)) ak)) ak)) (λ_ _=>rfl))))
    (aJ (bF none (ņ (i:=10) nd rfl (þ rfl) (gw (gw (dv 2) (j6 rfl B.max (aj (dv 7) (aj (dv 8) ak))) (λ_ _=>rfl)) (dcP T hr (pv 0) (aj (bB B.len (aj (gw (dv 2) (j6 rfl B.max (aj (dv 7) (aj (dv 8) ak))) (λ_ _=>rfl)) ak)) ak)) (λ_ _=>rfl))))
    (aK (dz (G5 (dv 7) (dv 8)) (aK (kO (i:=4) (bL (fH í Ĝ ě cT (pv 4) (aj (cM (aj (dv 9) (aj (dv 10) ak))) ak))))) gB)))))))
   (aK (bw (dv 4)))))) ?rest)),?_⟩
 case rest =>
  rintro P ρ ⟨n,m,L,s3,h3,rfl,n2,n8,ok,q⟩
  have lr:(gH m L).length=m:=by unfold gH;rw[À,ŗ]
  have m8:=ok.few
  refine⟨by decide,?_⟩
  refine kJ (s:=.dw 0 (.list [])) ?_ ?_
  ·show(if gb 0 [Sl.pen CP,.im (.int n),.sn (.list (gH m L)),s3,.any,.any,.any,.any,.any,.any,.any] 4=true then some (Sl.dw 0 (.list [])) else none)=_
   have e:gb 0 [Sl.pen CP,.im (.int n),.sn (.list (gH m L)),s3,.any,.any,.any,.any,.any,.any,.any] 4=true:=by
    show(s3.region != some 0&&true)=true
    rw[h3]
    rfl
   rw[if_pos e]
  refine⟨rfl,λ(i:Nat) ρ=>∃(ts:List Tie) (s5:Sl),Nr s5/\ρ=RGr n m L ts s3 s5 .any .any .any .any .any/\ts.length<=8 * i/\bJ n ts,⟨[],.any,rfl,rfl,Ë _,λt ht=>nomatch ht⟩,?_,?_⟩
  ·rintro i d ρ hd ⟨ts,s5,h5,rfl,hl,okt⟩
   obtain⟨j,hj,rfl⟩:=cD hd
   have hj2:=(Ê.mp hj).2
   have hj1:=(Ê.mp hj).1
   rw[ŗ] at hj1
   have ej:j=i:=by rw[←hj2,List.getElem_range]
   subst ej
   have rl:=ok.len j hj1
   have rn:=ok.ne j hj1
   have rr:=ok.rng j hj1
   generalize hL:L j=l at rl rn rr
   have ll:(l.map Â).length=l.length:=À ..
   refine⟨⟨by omega,by omega⟩,by rw[Œ];omega,.imm,λi ys=>∃us:List Tie,ys=us.map pD/\us.length<=i/\bJ n us,⟨[],rfl,Ë _,λt ht=>nomatch ht⟩,?_,?_⟩
   ·rintro k d ys hd ⟨us,rfl,hu,oku⟩
    obtain⟨hk,rfl⟩:=ű hd
    refine g8 (λc=>?_) (λc=>⟨us,rfl,by omega,oku⟩)
    obtain⟨x,ex,hx⟩:=Cd (l:=l) (i:=0+((k:Nat):Int) - 1) (by omega) (by omega) rn
    obtain⟨y,ey,hy⟩:=Cd (l:=l) (i:=0+((k:Nat):Int)) (by omega) (by omega) rn
    exact⟨.int x,ex,.int y,ey,zK,rfl,us++[(x,y)],app1 _ _ _,by rw[È,Õ];omega,oku.app (bJ.one ⟨rr x hx,rr y hy⟩)⟩
   ·rintro ys ⟨us,rfl,hu,oku⟩
    rw[Œ] at hu
    have lm:(ts.map pD).length=ts.length:=À ..
    have lu:(us.map pD).length=us.length:=À ..
    refine⟨rfl,by omega,ts++us,.sn (lD l),rfl,?_,by rw[È];omega,okt.app oku⟩
    rw[←Ø]
    exact N6 (ts:=ts) h3 rfl rfl rfl rfl rfl rfl
  ·rintro ρ ⟨ts,s5,h5,rfl,hl,okt⟩
   rw[lr] at hl
   refine⟨rfl,.inl ⟨by decide,by decide⟩,2 * (((gH m L).length:Nat):Int)+1,rfl,by omega,by omega,λc c0 c1=>⟨⟨by omega,by omega⟩,rfl,λ(i:Nat) ρ=>∃(ts:List Tie) (s6 s7 s8 s9 s10:Sl),Nr s6/\Nr s7/\Nr s8/\Nr s9/\Nr s10/\ρ=RGr n m L ts s3 s5 s6 s7 s8 s9 s10/\ts.length<=64+i/\bJ n ts,
    ⟨ts,.any,.any,.any,.any,.any,rfl,rfl,rfl,rfl,rfl,rfl,by omega,okt⟩,?_,?_⟩⟩
   ·rintro i d ρ hd ⟨ts,s6,s7,s8,s9,s10,h6,h7,h8,h9,h10,rfl,hl,okt⟩
    obtain⟨hi,rfl⟩:=ű hd
    have lm:(ts.map pD).length=ts.length:=À ..
    have m1:=ok.one
    refine⟨rfl,_,rfl,by omega,by omega,λa a0 a1=>⟨rfl,_,rfl,by omega,by omega,λb b0 b1=>?_⟩⟩
    rw[lr] at a1 b1
    have row:∀x:Int,0<=x->x<m->atI (gH m L) x=some (lD (L x.toNat))/\L x.toNat≠[]/\(L x.toNat).length<=8/\∀y∈L x.toNat,0<=y/\y<n:=λx x0 x1=>⟨J7 x0 x1,ok.ne _ (by omega),ok.len _ (by omega),ok.rng _ (by omega)⟩
    obtain⟨e1,ne1,le1,rg1⟩:=row (if b<a then b else a) (by split <;> omega) (by split <;> omega)
    obtain⟨e2,ne2,le2,rg2⟩:=row (if b > a then b else a) (by split <;> omega) (by split <;> omega)
    generalize L (if b<a then b else a).toNat=l1 at e1 ne1 le1 rg1
    generalize L (if b > a then b else a).toNat=l2 at e2 ne2 le2 rg2
    have ll1:(l1.map Â).length=l1.length:=À ..
    have ll2:(l2.map Â).length=l2.length:=À ..
    have p1:=ź.mpr ne1
    have p2:=ź.mpr ne2
    refine⟨_,e1,rfl,_,e1,_,rfl,by omega,by omega,λr r0 r1=>?_⟩
    obtain⟨x,ex,hx⟩:=int_at (l:=l1) r0 (by omega)
    refine⟨_,ex,_,e2,rfl,_,e2,_,rfl,by omega,by omega,λr' r0' r1'=>?_⟩
    obtain⟨y,ey,hy⟩:=int_at (l:=l2) r0' (by omega)
    refine⟨_,ey,g8 (λc=>⟨zK,rfl,by omega,ts++[(x,y)],.im (.int (0+((i:Nat):Int))),.im (.int a),.im (.int b),.im (.int x),.im (.int y),rfl,rfl,rfl,rfl,rfl,?_,by rw[È,Õ];omega,okt.app (bJ.one ⟨rg1 x hx,rg2 y hy⟩)⟩) (λc=>⟨ts,.im (.int (0+((i:Nat):Int))),.im (.int a),.im (.int b),.im (.int x),.im (.int y),rfl,rfl,rfl,rfl,rfl,rfl,by omega,okt⟩)⟩
    have z:=N6 (n:=n) (m:=m) (L:=L) (ts:=ts) (ts':=ts++[(x,y)]) (s3:=s3) (s5:=s5) (s6:=.im (.int (0+((i:Nat):Int)))) (s7:=.im (.int a)) (s8:=.im (.int b)) (s9:=.im (.int x)) (s10:=.im (.int y)) h3 h5 rfl rfl rfl rfl rfl
    rw[←app1] at z
    exact z
   ·rintro ρ ⟨ts,s6,s7,s8,s9,s10,h6,h7,h8,h9,h10,rfl,hl,okt⟩
    rw[Œ] at hl
    exact⟨rfl,q ts (by omega) okt⟩
 -- the rows are made
 have hHp:∃o,H p=some o:=let ⟨a,b,c,e⟩:=hp0;⟨_,e⟩
 have newp:∀a,H a=none->a≠p:=λa e z=>by obtain⟨o,eo⟩:=hHp;rw[z,eo] at e;cases e
 refine⟨by show 1<=sizeLine;decide,λr0 hr0=>⟨by show 1<=sizeLine;decide,λst hst=>?_⟩⟩
 have rst:r0≠st:=λe=>by rw[←e,aq] at hst;cases hst
 have hst0:H st=none:=by rw[ų (ė rst)] at hst;exact hst
 have b1:=qJ hr0 (.lst [ř 0])
 have b2:=qJ hst (.lst [V.ref r0])
 have hpst:=newp st hst0
 refine⟨_,rfl,1,n,rfl,by omega,o9 (lo:=1) (n:=(n - 1).toNat) (λi σ H2=>∃(a3:Option V) (as:List Addr) (L:Nat->List Int),σ=[some (.ref p),some (.int n),some (.ref st),a3,none,none,none,none,none,none,none]/\Near H H2 st as L/\RowsOk n i as.length L/\(∀b o,H b=some o->b≠p->H2 b=some o)/\uJ p H2)
  ⟨none,[r0],λ_=>[0],rfl,⟨aq,by simp,λa h=>by rw[Ö.mp h];exact rst,λa h=>by rw[Ö.mp h];exact hr0,λj a e=>?_⟩,⟨Ë _,Ë _,λ_ _=>by simp,λ_ _=>Ë _,λ_ _ x hx=>by rw[Ö.mp hx];omega⟩,λb o e _=>b2 _ _ (b1 _ _ e),?_⟩ ?_ ?_⟩
 ·have hl:=(Ê.mp e).1
  have ej:j=0:=by simpa using hl
  subst ej
  cases e
  rw[ų rst,aq]
  rfl
 ·obtain⟨a,b,c,e⟩:=hp0
  exact⟨a,b,c,b2 _ _ (b1 _ _ e)⟩
 ·rintro i σ H2 hi ⟨a3,as,L,rfl,NE,ok,k2,pi2⟩
  have asp:∀a∈as,a≠p:=λa ha=>newp a (NE.new a ha)
  have m1:=ok.one
  have mf:=ok.few
  refine⟨_,rfl,xH p,[.int 3],[.int 3],(λd=>∃r:Int,d=.int r/\0<=r/\r<3),⟨p,rfl⟩,rfl,pi2,.cons (.int 3) .nil,⟨3,rfl,by decide,by decide,λr a b=>⟨r,rfl,a,b⟩⟩,?_⟩
  rintro d v H3 ⟨r,rfl,_,_⟩ k3 pi3 rv
  obtain rfl:=rv.int'
  have NE3:=NE.keep (ė hpst) asp k3
  have kk:∀b o,H b=some o->b≠p->H3 b=some o:=λb o e hb=>k3 b o (k2 b o e hb) hb
  refine⟨rfl,_,rfl,g8 (λc=>?_) (λc=>?_)⟩
  ·refine⟨_,rfl,.inl ⟨rfl,_,SqL.of NE3.top⟩,by show 0<=sizeLine;decide,λz hz=>?_⟩
   have hz0:H z=none:=by
    cases e:H z with
    |none=>rfl
    |some o =>
     have zp:z≠p:=λy=>by
      obtain⟨a,b,c,e⟩:=pi3
      rw[y,e] at hz
      cases hz
     rw[kk z o e zp] at hz
     cases hz
   have NF:=NE3.fresh hz hz0
   have zst:st≠z:=λy=>by rw[←y,NE3.top] at hz;cases hz
   refine⟨st,_,_,rfl,rfl,by rw[ų zst];exact NE3.top,by rw[À];omega,?_⟩
   have rowz:=NF.row as.length z (by rw[è (Ë _),Nat.sub_self];rfl)
   have la:as.length<(as++[z]).length:=by rw[È,Õ];omega
   have NG:=NF.app la (1+(i:Int))
   have ez:(as++[z])[as.length]=z:=by rw[List.getElem_append_right (Ë _)];simp
   rw[ez] at NG
   first|dsimp only at rowz|skip
   first|dsimp only at NG|skip
   rw[if_pos rfl] at rowz NG
   have lstz:atI ((as++[z]).map V.ref) (-1)=some (.ref z):=by rw[Ø];exact n6 _ _
   refine⟨_,rfl,1,rfl,st,_,_,_,rfl,rfl,SqL.of NF.top,lstz,.inl ⟨rfl,_,SqL.of rowz⟩,_,rfl,z,_,_,rfl,rfl,rowz,by show 0<sizeLine;omega,?_⟩
   refine⟨_,as++[z],_,rfl,NG,⟨?_,?_,λj hj=>?_,λj hj=>?_,λj hj x hx=>?_⟩,λb o e hb=>?_,?_⟩
   ·rw[È];omega
   ·rw[È,Õ];omega
   ·first|dsimp only|skip
    by_cases ej:j=as.length
    ·rw[if_pos ej];simp
    ·rw[È,Õ] at hj
     rw[if_neg ej,if_neg ej];exact ok.ne j (by omega)
   ·first|dsimp only|skip
    by_cases ej:j=as.length
    ·rw[if_pos ej,if_pos ej];show 1<=_;omega
    ·rw[È,Õ] at hj
     rw[if_neg ej,if_neg ej];have:=ok.len j (by omega);omega
   ·first|dsimp only at hx|skip
    by_cases ej:j=as.length
    ·rw[if_pos ej,if_pos ej] at hx
     rw[Ö.mp hx]
     omega
    ·rw[È,Õ] at hj
     rw[if_neg ej,if_neg ej] at hx;exact ok.rng j (by omega) x hx
   ·have e3:=kk b o e hb
    have bz:b≠z:=aB e3 hz
    have bs:b≠st:=aB e hst0
    rw[ų bz,ų bs,ų bz]
    exact e3
   ·obtain⟨a,b,c,e⟩:=pi3
    have pz:p≠z:=aB e hz
    exact⟨a,b,c,by rw[ų pz,ų (ė hpst),ų pz];exact e⟩
  ·have la:as.length - 1<as.length:=by omega
   have NG:=NE3.app la (1+(i:Int))
   have rowz:=NE3.row _ _ (Ç la)
   have hlen:=ok.len _ la
   have as0:H as[as.length - 1]=none:=NE3.new _ (Ĩ la)
   have lst:atI (as.map V.ref) (-1)=some (.ref as[as.length - 1]):=by
    have hne:as≠[]:=λe=>by rw[e] at m1;exact absurd m1 (by decide)
    have e1:=List.dropLast_concat_getLast hne
    have e2:as.getLast hne=as[as.length - 1]:=List.getLast_eq_getElem hne
    have z:=n6 (as.dropLast.map V.ref) (V.ref (as.getLast hne))
    rw[show [V.ref (as.getLast hne)]=[as.getLast hne].map V.ref from rfl,←Ø,e1,e2] at z
    exact z
   refine⟨_,rfl,1,rfl,st,_,_,_,rfl,rfl,SqL.of NE3.top,lst,.inl ⟨rfl,_,SqL.of rowz⟩,_,rfl,as[as.length - 1],_,_,rfl,rfl,rowz,by rw[À];omega,?_⟩
   refine⟨_,as,_,rfl,NG,⟨m1,by omega,λj hj=>?_,λj hj=>?_,λj hj x hx=>?_⟩,λb o e hb=>?_,?_⟩
   ·split
    ·simp
    ·exact ok.ne j hj
   ·have:=ok.len j hj
    split
    ·rw[È,Õ];omega
    ·omega
   ·have hr:=ok.rng j hj
    split at hx
    ·rcases â.mp hx with z|z
     ·exact hr x z
     ·rw[Ö.mp z];omega
    ·exact hr x hx
   ·rw[ų (aB e as0)]
    exact kk b o e hb
   ·obtain⟨a,b,c,e⟩:=pi3
    exact⟨a,b,c,by rw[ų (ė (asp _ (Ĩ la)))];exact e⟩
 ·rintro σ H2 ⟨a3,as,L,rfl,NE,ok,k2,pi2⟩
  have asp:∀a∈as,a≠p:=λa ha=>newp a (NE.new a ha)
  refine⟨xH p,H,λ_=>none,[.pen CP,.im (.int n),.sn (.list (gH as.length L)),.any,.any,.any,.any,.any,.any,.any,.any],{ nx:=λ_=>False,rt:=P' },?_,⟨n,as.length,L,.any,rfl,rfl,n2,n8,⟨ok.one,by have:=ok.few;omega,ok.ne,λj hj=>by have:=ok.len j hj;omega,ok.rng⟩,hP⟩,?_⟩
  ·refine⟨λb o e hb=>k2 b o e hb,pi2,λa r e=>(nomatch e),λj s' e=>?_,rfl,trivial⟩
   rcases j with _|_|_|j
   ·cases e
    exact⟨rfl,p,rfl⟩
   ·cases e
    exact⟨.int n,rfl,.int n⟩
   ·cases e
    refine⟨.ref st,rfl,.lst ⟨hst0,hpst,rfl⟩ NE.top ?_⟩
    exact w5 (ok:=λa=>H a=none/\¬(xH p).fp a/\(none:Option Nat)=none) (H:=H2) as L (λa h=>⟨NE.new a h,asp a h,rfl⟩) NE.row
   ·have hm:s'∈Æ 8 Sl.any:=Ò (i:=j) e
    have e2:=(Ľ.mp hm).2
    subst e2
    trivial
  ·exact⟨λ_ _ _ _ _ _ n=>n.elim,λd v h' n w=>q d v h' n w.k0 w.pen (w.rp.mono (λ_ o=>o.1) (λ_ _ _ e=>e) λ_ _ e=>e),λ_ _ _ _ _ _ n=>n.elim,λ_ _ _ _ _ _ n=>n.elim⟩
end
def yD{α:Type}(l:List α)(m:Nat):fQ l none (some (m:Int))=l.take m:=by
 unfold fQ
 have e1:HT.sIx l.length 0 none=0:=rfl
 have e2:HT.sIx l.length l.length (some (m:Int))=min m l.length:=HT.uW _ _ _
 rw[e1,e2,List.drop_zero,Nat.sub_zero]
 by_cases h:m<=l.length
 ·rw[Nat.min_eq_left h]
 ·rw[Nat.min_eq_right (by omega),ć,List.take_of_length_le (by omega)]
def uY{α β:Type}(f:α->β)(l:List α):∀m:Nat,(Æ m (l.map f)).flatten=(Æ m l).flatten.map f
 |0=>rfl
 |m+1=>by rw[ą,ą,ę,ę,Ø,uY f l m]
def Br{α:Type}(l:List α):∀m:Nat,(Æ m l).flatten.length=l.length * m
 |0=>rfl
 |m+1=>by rw[ą,ę,È,Br l m,Nat.mul_succ,Nat.add_comm]
def bJ.rep{n:Int}{l:List Tie}(h:bJ n l):∀m:Nat,bJ n (Æ m l).flatten
 |0=>λt ht=>nomatch ht
 |m+1=>by rw[ą,ę];exact h.app (bJ.rep h m)
def QL{P:DEnds}{ρ:List Sl}{rg:Option Nat}{i:Nat}{k:Kd}{d:D}{s:Sl}(e:stK rg ρ i (norm k d) d=some s)(h:P.nx (ρ.set i s)):Em i rg (λ_ P=>P k d) P ρ:=kJ e h
def Np(ds:List D)(P:D->Prop):Prop:=∃n:Int,ds=[.int n]/\1<=n/\n<=8/\∀ts:List Tie,ts.length<=40->bJ n ts->P (.list (ts.map pD))
def Tw(ds:List D)(P:D->Prop):Prop:=∃m:Int,ds=[.int m]/\1<=m/\m<=8/\∀(n:Int) (us:List Tie),1<=n->n<=8->us.length<=60->bJ n us->P (aG n us)
abbrev RT(n k:Int)(ts:List Tie)(s4:Sl):List Sl:=[.pen CP,.im (.int n),.im (.int k),.dw 0 (.list (ts.map pD)),s4]
def Ud{n k:Int}{ts:List Tie}{ds':List D}{s4:Sl}(h4:Nr s4):(forget 0 (RT n k ts s4)).set 3 (.dw 0 (.list ds'))=[.pen CP,.im (.int n),.im (.int k),.dw 0 (.list ds'),s4]:=by
 show [Sl.pen CP,Sl.im (.int n),Sl.im (.int k),Sl.dw 0 (.list ds'),(if s4.region=some 0 then Sl.any else s4)]=_
 rw[fgN h4]
def Nk{n k:Int}{ts:List Tie}{s4:Sl}(h4:Nr s4):gb 0 (RT n k ts s4) 3=true:=by
 show(s4.region != some 0&&true)=true
 rw[h4]
 rfl
def pB(L:Nat):DS:=λP ρ=>∃(n k:Int) (ts:List Tie) (s4:Sl),1<=n/\n<=8/\Nr s4/\ρ=RT n k ts s4/\ts.length<=L/\bJ n ts/\∀us:List Tie,us.length<=40->bJ n us->P.rt (.list (us.map pD))
def pB.on{L:Nat}{P:DEnds}{n k:Int}{ts:List Tie}{s4:Sl}(n1:1<=n)(n8:n<=8)(h4:Nr s4)(hl:ts.length<=L)(ok:bJ n ts)(q:∀us:List Tie,us.length<=40->bJ n us->P.rt (.list (us.map pD))):pB L P (RT n k ts s4) :=
 ⟨n,k,ts,s4,n1,n8,h4,rfl,hl,ok,q⟩
section
variable {P:Program}{w:World}{K:Ú}{mg:Str->Option Value}{base:Heap}{f:Addr}{fd:FuncData}
abbrev N18:List Str:=["_law_pen_here","_law_n","_law_kind","_law_ties_here","_law_a"]
def RJ:FnScope N18 ["_law_pen_here","_law_n"] (ao (top 45)):=zC
def M6:(["_law_k","_law_pen_here","_law_n","_law_kind","_law_ties_here","_law_a"]:List Str).Nodup:=by decide +kernel
def SX:(["_law_b","_law_pen_here","_law_n","_law_kind","_law_ties_here","_law_a"]:List Str).Nodup:=by decide +kernel
def KD(F:Fun K "_law_ties" "_law_ties" (top 45) f fd)(B:Ļ mg)(T:wM P w K mg base 1 "_law_draw" ["_law_pen_here","_law_many"] rW)(PR:wM P w K mg base 2 "_law_pair" ["_law_pen_here","_law_n"] Jm)(GR:wM P w K mg base 2 "_law_grouped" ["_law_pen_here","_law_n"] fGr):FnOk P w K mg base CX0 3 f fd ["_law_pen_here","_law_n"] (spP CP Np):=by
 refine F.ok RJ jc (λcdv A outer s H vs Q E hr h=>?_)
 have nd:=RJ.nd
 refine⟨_,aJ (bF none (ņ (i:=2) nd rfl (þ rfl) (dcP T hr (pv 0) (aj aF ak))))
  (aJ (bF (some 0) (ņ (i:=3) nd rfl (þ rfl) (cB ak)))
  (aJ (dz (PDW.pt (iR (lO (dv 1) aF) (fJ (gM (qM lg lg aF (dv 2) aF) qu))))
   (aJ (bF (some 0) (ņ (i:=3) nd rfl (þ rfl) (O6 (dcP GR hr (pv 0) (aj (dv 1) ak)) (jF aF (Ks (dv 2) aF)))))
   (aK (cV (i:=3) (bL (fH í Ŗ ŕ gZ (pv 3) (aj (fY ["_law_k"] rfl (aV B.range (aj (dcP T hr (pv 0) (aj aF ak)) ak)) (λc=>aO (Ĭ (i:=0) M6 rfl (þ rfl))) (λc=>dh) (λc=>dcP PR hr (pv 1) (aj (dv 2) ak))) ak)))))) gB)
  (iG.wk (t':=pB 170) (aJ (dz (PDW.pt (iR (lO (dv 1) aF) (fJ (dD hr.units (dv 2) (cM (aj aF (aj aF ak)))))))
   (aK (bF (some 0) (PS.wk' (Mr ["_law_k"] (i:=3) rfl nd rfl (þ rfl) (aV B.range (aj (dcP T hr (pv 0) (aj (jF (G7 aF (dv 1)) aF) ak)) ak)) (λc=>aO (Ĭ (i:=0) M6 rfl (þ rfl))) (λc=>dh) (λc=>dcP PR hr (pv 1) (aj (dv 2) ak))) (λD σ H q=>qt σ H _ q)))) gB)
  (iG.wk (t':=pB 170) (aJ (dz (G6 (dv 2) aF)
   (aK (cO ù rfl (aV B.range (aj (dv 1) ak)) (aO (Ĭ (i:=4) nd rfl (Or.inr rfl)))
    (aK (cV (i:=3) (bL (fH í Ŗ ŕ gZ (pv 3) (aj (fY ["_law_b"] rfl (aV B.range (aj (dv 1) ak)) (λc=>aO (Ĭ (i:=0) SX rfl (þ rfl))) (λc=>cG (G5 (dv 5) (dv 0))) (λc=>cM (aj (dv 5) (aj (dv 0) ak)))) ak))))))) gB)
  (aK (bw (zE (dv 3) wB (eN aF))))) ?m2)) ?m1))),enterQ h ?_⟩
 case m1 =>
  rintro P ρ ⟨n,k,ts,s4,n1,n8,h4,rfl,hl,ok,q⟩
  refine g8 (λc1=>⟨by decide,rfl,rfl,g8 (λc2=>?_) (λc2=>pB.on n1 n8 h4 hl ok q)⟩) (λc1=>aM (pB.on n1 n8 h4 hl ok q))
  have c1:1<n:=of_decide_eq_true c1
  refine⟨rfl,.inl ⟨by decide,by decide⟩,_,rfl,by omega,by omega,λr r0 r1=>⟨⟨by omega,by omega⟩,by rw[Œ];omega,.imm,λi ys=>∃us:List Tie,ys=us.map pD/\us.length=i/\bJ n us,⟨[],rfl,rfl,λt ht=>nomatch ht⟩,?_,?_⟩⟩
  ·rintro i d ys hd ⟨us,rfl,hu,oku⟩
   obtain⟨hi,rfl⟩:=ű hd
   exact aN (B:=True) ⟨rfl,n,rfl,by omega,by omega,λa b a0 a1 b0 b1 _=>⟨rfl,us++[(a,b)],app1 _ _ _,by rw[È,Õ,hu],oku.app (bJ.one ⟨⟨a0,a1⟩,b0,b1⟩)⟩⟩
  ·rintro ys ⟨us,rfl,hu,oku⟩
   rw[Œ] at hu
   refine kJ (s:=.dw 0 (.list (us.map pD))) ?_ (pB.on n1 n8 h4 (by omega) oku q)
   show(if gb 0 (RT n k ts s4) 3=true then some (Sl.dw 0 (.list (us.map pD))) else none)=_
   rw[if_pos (Nk h4)]
 case m2 =>
  rintro P ρ ⟨n,k,ts,s4,n1,n8,h4,rfl,hl,ok,q⟩
  -- what is told
  have fin:∀(ts:List Tie) (s4:Sl),bJ n ts->Aq (Rf (tV 3) (MK) (HY (tK (.int 40)))) P (RT n k ts s4):=λts s4 ok=>by
   refine .inl ⟨?_,rfl,?_⟩
   ·show dR (fQ (ts.map pD) none (some ((40:Nat):Int)))=true
    rw[yD,←List.map_take]
    exact eY _
   ·show P.rt (.list (fQ (ts.map pD) none (some ((40:Nat):Int))))
    rw[yD,←List.map_take]
    exact q _ (by rw[İ];omega) λt ht=>ok t (List.mem_of_mem_take ht)
  refine g8 (λc=>⟨⟨by omega,by omega⟩,rfl,λ(i:Nat) ρ=>∃(ts:List Tie) (s4:Sl),Nr s4/\ρ=RT n k ts s4/\ts.length<=170+8 * i/\bJ n ts,⟨ts,s4,h4,rfl,hl,ok⟩,?_,?_⟩) (λc=>fin ts s4 ok)
  ·rintro i d ρ hd ⟨ts,s4,h4,rfl,hl,ok⟩
   obtain⟨hi,rfl⟩:=ű hd
   refine⟨⟨by omega,by omega⟩,by rw[Œ];omega,.imm,λi ys=>∃us:List Tie,ys=us.map pD/\us.length<=i/\bJ n us,⟨[],rfl,Ë _,λt ht=>nomatch ht⟩,?_,?_⟩
   ·rintro j d ys hd ⟨us,rfl,hu,oku⟩
    obtain⟨hj,rfl⟩:=ű hd
    refine g8 (λc=>⟨zK,rfl,us++[(0+((i:Nat):Int),0+((j:Nat):Int))],app1 _ _ _,by rw[È,Õ];omega,oku.app (bJ.one ⟨⟨by omega,by omega⟩,by omega,by omega⟩)⟩) (λc=>⟨us,rfl,by omega,oku⟩)
   ·rintro ys ⟨us,rfl,hu,oku⟩
    rw[Œ] at hu
    have lm:(ts.map pD).length=ts.length:=À ..
    have lu:(us.map pD).length=us.length:=À ..
    refine⟨rfl,by omega,ts++us,.im (.int (0+((i:Nat):Int))),rfl,?_,by rw[È];omega,ok.app oku⟩
    rw[←Ø]
    exact Ud (s4:=.im (.int (0+((i:Nat):Int)))) rfl
  ·rintro ρ ⟨ts,s4,h4,rfl,hl,ok⟩
   exact fin ts s4 ok
 rintro ds P ⟨n,rfl,n1,n8,q⟩
 refine⟨[.im (.int n),.any,.any,.any],rfl,rfl,8,rfl,by decide,by decide,λk k0 k1=>⟨by decide,?_⟩⟩
 refine g8 (λc1=>?_) (λc1=>aM (pB.on (ts:=[]) n1 n8 rfl (by decide) (λt ht=>nomatch ht) q))
 have c1:1<n:=of_decide_eq_true c1
 show if decide ((0:Int)<k)=true then _ else _
 refine g8 (λc2=>?_) (λc2=>aM (pB.on (ts:=[]) n1 n8 rfl (by decide) (λt ht=>nomatch ht) q))
 show if decide (k<(5:Int))=true then _ else _
 refine g8 (λc3=>?_) (λc3=>pB.on (ts:=[]) n1 n8 rfl (by decide) (λt ht=>nomatch ht) q)
 refine⟨rfl,n,rfl,by omega,n8,λts lt ok=>⟨⟨by decide,by decide⟩,?_⟩⟩
 have k4:0<=k / 4/\k / 4<=1:=by omega
 have e4:(1+k / 4).toNat<=2:=by omega
 have lm:(ts.map pD).length=ts.length:=À ..
 have lr:ts.length * (1+k / 4).toNat<=160:=by
  have:=Ų lt e4
  omega
 refine⟨by omega,by omega,by rw[lm];omega,.inl ⟨?_,?_⟩⟩
 ·rw[uY];exact eY _
 rw[uY]
 have hl2:=Br ts (1+k / 4).toNat
 have ok2:=ok.rep (1+k / 4).toNat
 generalize (Æ (1+k / 4).toNat ts).flatten=ts2 at hl2 ok2
 show Em 3 (some 0) (λ_ P=>P .new (.list (ts2.map pD))) _ (RT n k [] .any)
 refine QL (s:=.dw 0 (.list (ts2.map pD))) ?_ ?_
 ·show(if gb 0 (RT n k [] .any) 3=true then some (Sl.dw 0 (.list (ts2.map pD))) else none)=_
  rw[if_pos (Nk rfl)]
 refine⟨rfl,3,rfl,by decide,by decide,λr r0 r1=>⟨⟨by omega,by omega⟩,by rw[Œ];omega,.imm,λi ys=>∃us:List Tie,ys=us.map pD/\us.length=i/\bJ n us,⟨[],rfl,rfl,λt ht=>nomatch ht⟩,?_,?_⟩⟩
 ·rintro i d ys hd ⟨us,rfl,hu,oku⟩
  obtain⟨hi,rfl⟩:=ű hd
  exact aN (B:=True) ⟨rfl,n,rfl,by omega,by omega,λa b a0 a1 b0 b1 _=>⟨rfl,us++[(a,b)],app1 _ _ _,by rw[È,Õ,hu],oku.app (bJ.one ⟨⟨a0,a1⟩,b0,b1⟩)⟩⟩
 ·rintro ys ⟨us,rfl,hu,oku⟩
  rw[Œ] at hu
  have lm:(ts2.map pD).length=ts2.length:=À ..
  have lu:(us.map pD).length=us.length:=À ..
  refine⟨rfl,by omega,?_⟩
  have z:=Ud (n:=n) (k:=k) (ts:=ts2) (ds':=ts2.map pD++us.map pD) (s4:=.any) rfl
  show pB 170 _ ((forget 0 (RT n k ts2 .any)).set 3 _)
  rw[z,←Ø]
  exact pB.on n1 n8 rfl (by rw[È];omega) (ok2.app oku) q
def RG:FnScope ["_law_pen_here","_law_most","_law_n","_law_order_here"] ["_law_pen_here","_law_most"] (ao (top 46)):=zC
def M5:(["_law_a","_law_b","_law_pen_here","_law_most","_law_n","_law_order_here"]:List Str).Nodup:=by decide +kernel
def KC(F:Fun K "_law_web" "_law_web" (top 46) f fd)(B:Ļ mg)(T:wM P w K mg base 1 "_law_draw" ["_law_pen_here","_law_many"] rW)(OR:wM P w K mg base 2 "_law_order" ["_law_pen_here","_law_n"] Aj)(TI:wM P w K mg base 3 "_law_ties" ["_law_pen_here","_law_n"] Np):FnOk P w K mg base CX0 4 f fd ["_law_pen_here","_law_most"] (spP CP Tw):=by
 refine F.ok RG jc (λcdv A outer s H vs Q E hr h=>?_)
 have nd:=RG.nd
 refine⟨_,aJ (bF none (ņ (i:=2) nd rfl (þ rfl) (jF aF (dcP T hr (pv 0) (aj (dv 1) ak)))))
  (aJ (bF none (ņ (i:=3) nd rfl (Or.inr rfl) (dcP OR hr (pv 0) (aj (dv 2) ak))))
  (aK (bw (cM (aj (dv 2) (aj (mY B.tuple (aj (gP B.sorted (aj (fY ["_law_a","_law_b"] rfl (cQ (dcP TI hr (pv 0) (aj (dv 2) ak))) (λc=>gC (n:=2) rfl (jT (aO (Ĭ (i:=0) M5 rfl (þ rfl))) (jT (aO (Ĭ (i:=1) M5 rfl (þ rfl))) dH))) (λc=>dh) (λc=>cM (aj (gw (dv 5) (dv 0) (λ_ _=>rfl)) (aj (gw (dv 5) (dv 1) (λ_ _=>rfl)) ak)))) ak)) ak)) ak)))))),enterQ h ?_⟩
 rintro ds P ⟨m,rfl,m1,m8,q⟩
 refine⟨[.im (.int m),.any,.any],rfl,?_⟩
 refine⟨rfl,m,rfl,by omega,by omega,λr r0 r1=>⟨rfl,1+r,rfl,by omega,by omega,λl hl=>⟨rfl,1+r,rfl,by omega,by omega,λts lt ok=>?_⟩⟩⟩
 have lm:(ts.map pD).length=ts.length:=À ..
 refine⟨by omega,.imm,λi ys=>∃us:List Tie,ys=us.map pD/\us.length=i/\bJ (1+r) us,⟨[],rfl,rfl,λt ht=>nomatch ht⟩,?_,?_⟩
 ·rintro i d ys hd ⟨us,rfl,hu,oku⟩
  obtain⟨t,ht,rfl⟩:=cD hd
  obtain⟨⟨a0,a1⟩,b0,b1⟩:=ok t (Ò ht)
  obtain⟨x,ex,x0,x1⟩:=hl.at a0 a1
  obtain⟨y,ey,y0,y1⟩:=hl.at b0 b1
  exact⟨rfl,aN (B:=True) ⟨.int x,ex,.int y,ey,zK,rfl,us++[(x,y)],app1 _ _ _,by rw[È,Õ,hu],oku.app (bJ.one ⟨⟨x0,x1⟩,y0,y1⟩)⟩⟩
 rintro ys ⟨vs,rfl,hv,okv⟩
 refine⟨vs,.inl rfl,by omega,λt ht=>⟨(okv t ht).2.1,by have:=(okv t ht).2.2;omega⟩,λus' hp _=>⟨zK,?_,q (1+r) us' (by omega) (by omega) (by rw[hp.length_eq];omega) λt ht=>okv t (hp.mem_iff.mp ht)⟩⟩
 have e:=jd (1+r) us'
 show(norm _ (aG (1+r) us')).le .n0=true
 rw[gU e]
 rfl
end
def subs:Nat->List (List Int)
 |0=>[[]]
 |k+1=>subs k++(subs k).map λl=>l++[0+((k:Nat):Int)]
def bC:∀k,(subs k).length=2 ^ k
 |0=>rfl
 |k+1=>by
  show(subs k++(subs k).map _).length=_
  rw[È,À,bC k,Ţ]
  omega
def oG:∀k,∃r,subs k=[]::r/\∀l∈r,l≠[]
 |0=>⟨[],rfl,λl h=>nomatch h⟩
 |k+1=>by
  obtain⟨r,e,h⟩:=oG k
  refine⟨r++(subs k).map λl=>l++[0+((k:Nat):Int)],?_,λl hl=>?_⟩
  ·have h2:∀M:List (List Int),subs k++M=[]::(r++M):=λM=>by rw[e];rfl
   exact h2 _
  ·rcases â.mp hl with z|z
   ·exact h l z
   ·obtain⟨a,_,rfl⟩:=ç.mp z
    simp
def fV:∀k (l:List Int),l∈subs k->l.Pairwise (·<·)/\(∀x∈l,0<=x/\x<k)/\l.length<=k
 |0,l,h=>by
  rw[Ö.mp h]
  exact⟨.nil,λx h=>(nomatch h),Ë _⟩
 |k+1,l,h=>by
  rcases â.mp h with z|z
  ·obtain⟨h1,h2,h3⟩:=fV k l z
   exact⟨h1,λx hx=>by have:=h2 x hx;omega,by omega⟩
  ·obtain⟨a,ha,rfl⟩:=ç.mp z
   obtain⟨h1,h2,h3⟩:=fV k a ha
   refine⟨List.pairwise_append.mpr ⟨h1,by simp,λx hx y hy=>?_⟩,λx hx=>?_,by rw[È,Õ];omega⟩
   ·rw[Ö.mp hy]
    have:=h2 x hx
    omega
   ·rcases â.mp hx with z|z
    ·have:=h2 x z;omega
    ·rw[Ö.mp z];omega
def lM(k:Nat):List Int:=(Ý k).map λi=>0+((i:Nat):Int)
def vW(p:Int->Bool):∀k,(lM k).filter p∈subs k
 |0=>Ö.mpr rfl
 |k+1=>by
  have e:lM (k+1)=lM k++[0+((k:Nat):Int)]:=by
   unfold lM
   rw[List.range_succ,Ø]
   rfl
  rw[e,List.filter_append]
  cases hp:p (0+((k:Nat):Int)) with
  |true =>
   rw[List.filter_cons_of_pos hp]
   exact î _ (ç.mpr ⟨_,vW p k,rfl⟩)
  |false =>
   rw[List.filter_cons_of_neg (by rw[hp];exact Ó)]
   rw[List.filter_nil,ê]
   exact ł _ (vW p k)
def jL{k:Nat}{x:Int}:x∈lM k↔0<=x/\x<k:=by
 unfold lM
 rw[ç]
 constructor
 ·rintro⟨i,hi,rfl⟩
  have:=ĥ.mp hi
  omega
 ·rintro⟨h0,h1⟩
  exact⟨x.toNat,ĥ.mpr (by omega),by omega⟩
def fSB(ds:List D)(P:D->Prop):Prop:=∃c:Int,ds=[.int c]/\0<=c/\c<=8/\P (.list ((subs c.toNat).map lD))
def wW:∀k,∃r full,subs k=r++[full]/\full.length=k/\∀l∈r,l.length<k
 |0=>⟨[],[],rfl,rfl,λl h=>nomatch h⟩
 |k+1=>by
  obtain⟨r,full,e,hf,h⟩:=wW k
  refine⟨subs k++r.map λl=>l++[0+((k:Nat):Int)],full++[0+((k:Nat):Int)],?_,by rw[È,hf];rfl,λl hl=>?_⟩
  ·show subs k++(subs k).map _=_
   rw[Ř]
   congr 1
   rw[e,Ø]
   rfl
  ·rcases â.mp hl with z|z
   ·have:=(fV k l z).2.2;omega
   ·obtain⟨a,ha,rfl⟩:=ç.mp z
    have:=h a ha
    rw[È,Õ];omega
def pss(k:Nat):List (List Int):=(subs k).filter λl=>decide (0<l.length)&&decide (l.length<k)
def Kh{k:Nat}(hk:1<=k):((subs k).drop 1).dropLast=pss k:=by
 obtain⟨r,e,hr⟩:=oG k
 obtain⟨r',full,e',hf,hr'⟩:=wW k
 have l2:=bC k
 have p2:2 ^ 1<=2 ^ k:=ð (by decide) hk
 cases r' with
 |nil=>rw[e'] at l2;simp at l2;omega
 |cons a m =>
  have ea:a=[]/\r=m++[full]:=by
   rw[e] at e'
   simpa[eq_comm] using e'
  have em:subs k=[]::(m++[full]):=by rw[e,ea.2]
  unfold pss
  rw[em]
  show(m++[full]).dropLast=_
  rw[List.dropLast_concat]
  have f0:(decide (0<([]:List Int).length)&&decide (([]:List Int).length<k))=false:=rfl
  have f1:(decide (0<full.length)&&decide (full.length<k))=false:=by rw[hf,decide_eq_false (Ă k),Bool.and_false]
  rw[List.filter_cons_of_neg (by rw[f0];exact Ó),List.filter_append,List.filter_cons_of_neg (by rw[f1];exact Ó),List.filter_nil,ê]
  symm
  rw[List.filter_eq_self]
  intro l hl
  have h1:l≠[]:=hr l (by rw[ea.2];exact ł _ hl)
  have h2:=hr' l (Ä _ hl)
  rw[decide_eq_true (ź.mpr h1),decide_eq_true h2]
  rfl
def Le(k:Nat):(pss k).length<=2 ^ k:=by
 rw[←bC k]
 exact List.length_filter_le _ _
def vP(l:List Int)(t:Tie):Bool:=!decide (t.1∈l)&&decide (t.2∈l)
def Hi(l:List Int)(t:Tie):Bool:=decide (t.1∈l)&&!decide (t.2∈l)
def inN(us:List Tie)(l:List Int):Nat:=(us.filter (vP l)).length
def Ds(us:List Tie)(l:List Int):Nat:=(us.filter (Hi l)).length
def S8(us:List Tie)(l:List Int):(us.filter (lv l)).filter (λt=>decide (t.2∈l))=us.filter (vP l):=by
 rw[List.filter_filter]
 congr 1
 funext t
 unfold lv vP
 cases decide (t.1∈l) <;> cases decide (t.2∈l) <;> rfl
def O8(us:List Tie)(l:List Int):(us.filter (lv l)).filter (λt=>decide (t.1∈l))=us.filter (Hi l):=by
 rw[List.filter_filter]
 congr 1
 funext t
 unfold lv Hi
 cases decide (t.1∈l) <;> cases decide (t.2∈l) <;> rfl
def TF(ds:List D)(P:D->Prop):Prop:=∃n us l,ds=[aG n us,.list (l.map Â)]/\Proper n l/\us.length<=100/\P (.int (inN us l:Nat))
def Nq(ds:List D)(P:D->Prop):Prop:=∃n us l,ds=[aG n us,.list (l.map Â)]/\Proper n l/\us.length<=100/\P (.int (Ds us l:Nat))
def byS(us:List Tie)(s:Str)(l:List Int):Nat:=if s="in" then inN us l else Ds us l
def fTB(ds:List D)(P:D->Prop):Prop:=∃n us s l,ds=[aG n us,.str s,.list (l.map Â)]/\Proper n l/\us.length<=100/\P (.int (byS us s l:Nat))
def nd1(fa:Int)(m:Nat):Int:=if 0 > fa+1 - (m:Int) then 0 else fa+1 - (m:Int)
def fON(ds:List D)(P:D->Prop):Prop:=∃n us fa s l,ds=[aG n us,.int fa,.str s,.list (l.map Â)]/\Proper n l/\us.length<=100/\P (.int (nd1 fa (byS us s l)))
section
variable {P:Program}{w:World}{K:Ú}{mg:Str->Option Value}{base:Heap}{f:Addr}{fd:FuncData}
def Mj:FnScope ["count","told","place"] ["count"] (ao (top 12)):=zC
def S5:(["some","count","told","place"]:List Str).Nodup:=by decide +kernel
def Sq(F:Fun K "sets_below" "sets_below" (top 12) f fd)(B:Ļ mg):FnOk P w K mg base CX0 1 f fd ["count"] (spD fSB):=by
 refine F.ok Mj ĭ (λcdv A outer s H vs Q E hr h=>?_)
 have nd:=Mj.nd
 refine⟨_,aJ (bF none (ņ (i:=1) nd rfl (þ rfl) (cB (aj (cB ak) ak))))
  (aJ (cO ù rfl (aV B.range (aj (dv 0) ak)) (aO (Ĭ (i:=2) nd rfl (Or.inr rfl)))
   (aK (bF none (ņ (i:=1) nd rfl (þ rfl) (vp (dv 1) (fY ["some"] rfl (cQ (dv 1)) (λc=>aO (Ĭ (i:=0) S5 rfl (þ rfl))) (λc=>dh) (λc=>vp (dv 0) (cB (aj (dv 3) ak)))))))))
  (aK (bw (dv 1)))),aW h ?_⟩
 rintro ds P ⟨c,rfl,c0,c8,q⟩
 refine⟨[.im (.int c),.any,.any],rfl,zK,zK,⟨by omega,by omega⟩,rfl,λ(i:Nat) ρ=>∃s2,ρ=[.im (.int c),.sn (.list ((subs i).map lD)),s2],⟨_,rfl⟩,?_,?_⟩
 ·rintro i d ρ hd ⟨s2,rfl⟩
  obtain⟨hi,rfl⟩:=ű hd
  have ls:((subs i).map lD).length<=128:=by
   rw[À,bC]
   exact ð (by decide) (show i<=7 by omega)
  refine⟨by omega,.new,λj ys=>ys=((subs i).take j).map λl=>lD (l++[0+((i:Nat):Int)]),rfl,?_,?_⟩
  ·rintro j d ys hd rfl
   obtain⟨l,hl,rfl⟩:=cD hd
   have hok:=fV i l (Ò hl)
   have im:=cZ (l++[0+((i:Nat):Int)])
   rw[Ø] at im
   refine aN (B:=True) ⟨zK,?_,.inl ⟨im,rfl,?_⟩⟩
   ·show(l.map Â).length+1<=1000
    rw[À]
    omega
   ·dsimp only
    rw[lY _ hl]
    show _++[Ī (l.map Â++[.int (0+((i:Nat):Int))])]=_++[Ī ((l++[0+((i:Nat):Int)]).map Â)]
    rw[Ø]
    rfl
  ·rintro ys rfl
   refine⟨?_,.inr ⟨.im (.int (0+((i:Nat):Int))),?_⟩⟩
   ·rw[À (as:=Ŧ _ _),İ]
    rw[À] at ls ⊢
    omega
   ·have e:(subs i).map lD++(((subs i).take ((subs i).map lD).length).map λl=>lD (l++[0+((i:Nat):Int)]))=(subs (i+1)).map lD:=by
     rw[À,ć]
     show _=(subs i++(subs i).map _).map lD
     rw[Ø,ô]
     rfl
    rw[e]
    rfl
 ·rintro ρ ⟨s2,rfl⟩
  rw[Œ]
  exact⟨rfl,q⟩
def scI:FnScope ["one","some"] ["one","some"] (ao (top 23)):=zC
def ndI:(["tie","one","some"]:List Str).Nodup:=by decide +kernel
def Pu(F:Fun K "ins" "ins" (top 23) f fd)(B:Ļ mg)(TL:Ā P w K mg base 6 "ties_that_leave" ["web","some"] (spD Qy)):FnOk P w K mg base CX0 7 f fd ["one","some"] (spD TF):=by
 refine F.ok scI ĭ (λcdv A outer s H vs Q E hr h=>?_)
 refine⟨_,aK (bw (bB B.len (aj (fY ["tie"] rfl (cQ (dc TL hr (aj (dv 0) (aj (dv 1) ak)))) (λc=>aO (Ĭ (i:=0) ndI rfl (þ rfl))) (λc=>cG (dD hr.units (jE (dv 0) aF (λ_ _=>rfl)) (dv 2))) (λc=>dv 0)) ak))),aW h ?_⟩
 rintro ds P ⟨n,us,l,rfl,hP,hl,q⟩
 refine⟨[.im (aG n us),.sh (.list (l.map Â))],?_,n,us,l,rfl,hP,hl,?_⟩
 ·show [bG (aG n us),bG (.list (l.map Â))]=_
  rw[cH]
  rfl
 have lf:((us.filter (lv l)).map pD).length<=us.length:=by rw[À];exact List.length_filter_le _ _
 refine⟨by omega,.imm,λi ys=>ys=(((us.filter (lv l)).take i).filter (λt=>decide (t.2∈l))).map pD,rfl,?_,?_⟩
 ·rintro i d ys hd rfl
  obtain⟨t,ht,rfl⟩:=cD hd
  refine⟨.int t.2,rfl,rfl,bM l,?_⟩
  show if ((l.map Â).any λe=>ñ e (.int t.2))=true then _ else _
  rw[ĵ]
  have sn:=qx (λt:Tie=>decide (t.2∈l)) pD ht
  cases hb:decide (t.2∈l) with
  |true =>
   rw[hb,if_pos rfl] at sn
   exact aN (B:=True) ⟨rfl,sn.symm⟩
  |false =>
   rw[hb,if_neg Ó,ê] at sn
   exact aM (A:=True) sn.symm
 ·rintro ys rfl
  refine⟨rfl,?_⟩
  show P (.int ((((((us.filter (lv l)).take ((us.filter (lv l)).map pD).length).filter (λt=>decide (t.2∈l))).map pD).length:Nat):Int))
  rw[À (as:=us.filter (lv l)),ć,S8,À]
  exact q
def scO:FnScope ["one","some"] ["one","some"] (ao (top 24)):=zC
def KN(F:Fun K "outs" "outs" (top 24) f fd)(B:Ļ mg)(TL:Ā P w K mg base 6 "ties_that_leave" ["web","some"] (spD Qy)):FnOk P w K mg base CX0 7 f fd ["one","some"] (spD Nq):=by
 refine F.ok scO ĭ (λcdv A outer s H vs Q E hr h=>?_)
 refine⟨_,aK (bw (bB B.len (aj (fY ["tie"] rfl (cQ (dc TL hr (aj (dv 0) (aj (dv 1) ak)))) (λc=>aO (Ĭ (i:=0) ndI rfl (þ rfl))) (λc=>cG (dD hr.units (jE (dv 0) aF (λ_ _=>rfl)) (dv 2))) (λc=>dv 0)) ak))),aW h ?_⟩
 rintro ds P ⟨n,us,l,rfl,hP,hl,q⟩
 refine⟨[.im (aG n us),.sh (.list (l.map Â))],?_,n,us,l,rfl,hP,hl,?_⟩
 ·show [bG (aG n us),bG (.list (l.map Â))]=_
  rw[cH]
  rfl
 have lf:((us.filter (lv l)).map pD).length<=us.length:=by rw[À];exact List.length_filter_le _ _
 refine⟨by omega,.imm,λi ys=>ys=(((us.filter (lv l)).take i).filter (λt=>decide (t.1∈l))).map pD,rfl,?_,?_⟩
 ·rintro i d ys hd rfl
  obtain⟨t,ht,rfl⟩:=cD hd
  refine⟨.int t.1,rfl,rfl,bM l,?_⟩
  show if ((l.map Â).any λe=>ñ e (.int t.1))=true then _ else _
  rw[ĵ]
  have sn:=qx (λt:Tie=>decide (t.1∈l)) pD ht
  cases hb:decide (t.1∈l) with
  |true =>
   rw[hb,if_pos rfl] at sn
   exact aN (B:=True) ⟨rfl,sn.symm⟩
  |false =>
   rw[hb,if_neg Ó,ê] at sn
   exact aM (A:=True) sn.symm
 ·rintro ys rfl
  refine⟨rfl,?_⟩
  show P (.int ((((((us.filter (lv l)).take ((us.filter (lv l)).map pD).length).filter (λt=>decide (t.1∈l))).map pD).length:Nat):Int))
  rw[À (as:=us.filter (lv l)),ć,O8,À]
  exact q
def Uv:FnScope ["one","side","some"] ["one","side","some"] (ao (top 25)):=zC
def Sg(F:Fun K "ties_by" "ties_by" (top 25) f fd)(IN:Ā P w K mg base 7 "ins" ["one","some"] (spD TF))(OU:Ā P w K mg base 7 "outs" ["one","some"] (spD Nq)):FnOk P w K mg base CX0 8 f fd ["one","side","some"] (spD fTB):=by
 refine F.ok Uv ĭ (λcdv A outer s H vs Q E hr h=>?_)
 refine⟨_,aK (bw (gR (G6 (dv 1) fK) (dc IN hr (aj (dv 0) (aj (dv 2) ak))) (dc OU hr (aj (dv 0) (aj (dv 2) ak))))),aW h ?_⟩
 rintro ds P ⟨n,us,s,l,rfl,hP,hl,q⟩
 refine⟨[.im (aG n us),.im (.str s),.sh (.list (l.map Â))],?_,?_⟩
 ·show [bG (aG n us),bG (.str s),bG (.list (l.map Â))]=_
  rw[cH]
  rfl
 unfold byS at q
 refine g8 (λc=>⟨n,us,l,rfl,hP,hl,rfl,?_⟩) (λc=>⟨n,us,l,rfl,hP,hl,rfl,?_⟩)
 ·rw[if_pos (of_decide_eq_true c)] at q
  exact q
 ·rw[if_neg (λz=>c (decide_eq_true z))] at q
  exact q
def Uw:FnScope ["one","falls","side","some"] ["one","falls","side","some"] (ao (top 26)):=zC
def Ss(F:Fun K "one_need" "one_need" (top 26) f fd)(B:Ļ mg)(TB:Ā P w K mg base 8 "ties_by" ["one","side","some"] (spD fTB)):FnOk P w K mg base CX0 9 f fd ["one","falls","side","some"] (spD fON):=by
 refine F.ok Uw ĭ (λcdv A outer s H vs Q E hr h=>?_)
 refine⟨_,aK (bw (j6 rfl B.max (aj (oU (jF (dv 1) aF) (dc TB hr (aj (dv 0) (aj (dv 2) (aj (dv 3) ak))))) (aj aF ak)))),aW h ?_⟩
 rintro ds P ⟨n,us,fa,s,l,rfl,hP,hl,q⟩
 refine⟨[.im (aG n us),.im (.int fa),.im (.str s),.sh (.list (l.map Â))],?_,n,us,s,l,rfl,hP,hl,rfl,q⟩
 show [bG (aG n us),bG (.int fa),bG (.str s),bG (.list (l.map Â))]=_
 rw[cH]
 rfl
end
def rng(n:Int):List Int:=(Ý n.toNat).map λi=>0+((i:Nat):Int)
def oth(n:Int)(l:List Int):List Int:=(rng n).filter λx=>!decide (x∈l)
def Lz{i:Int}{ns:List Int}(h:(0:Int)<((ns.map ř).length:Nat)):∃v:Int,atI (ns.map ř) (i % (((ns.map ř).length:Nat):Int))=some (.int v):=by
 rw[À] at h ⊢
 have h1:=Int.emod_nonneg i (b:=(ns.length:Int)) (by omega)
 have h2:=Int.emod_lt_of_pos i h
 have hk:(i % (ns.length:Int)).toNat<ns.length:=by omega
 have ek:i % (ns.length:Int)=(((i % (ns.length:Int)).toNat:Nat):Int):=by omega
 have q:atI (ns.map ř) (((i % (ns.length:Int)).toNat:Nat):Int)=some (.int ns[(i % (ns.length:Int)).toNat]):=eX (by rw[Þ,Ç hk];rfl)
 rw[←ek] at q
 exact⟨_,q⟩
def Rt(K:Ú):Sp:=λvs H Q _=>∃(a:Addr) (ns:List Int),vs=[.ref a]/\SqL K H a (ns.map ř)/\∀H',Q (.bl true) H'
def Mg(K:Ú):Sp:=λvs H Q _=>∃(sc:Addr) (ns:List Int) (k:Int),vs=[.ref sc,.int k]/\0<=k/\k<1000/\SqL K H sc (ns.map ř)/\∀p H',Same H H'->H p=none->uJ p H'->Q (.ref p) H'
def Ul{k:Int}{ns:List Int}(h0:0<=k)(h:k<((ns.map ř).length:Nat)):∃v:Int,atI (ns.map ř) k=some (.int v):=by
 rw[À] at h
 have hk:k.toNat<ns.length:=by omega
 have ek:k=((k.toNat:Nat):Int):=by omega
 have q:atI (ns.map ř) ((k.toNat:Nat):Int)=some (.int ns[k.toNat]):=eX (by rw[Þ,Ç hk];rfl)
 rw[←ek] at q
 exact⟨_,q⟩
def Rh:TS:=λD σ H=>∃(a0:Option V) (k cell:Int),σ=[a0,some (.int k),some (.int cell)]/\∀l a b c,H l=none->D.rt (.ref l) (upd H l (.lst [.int a,.int b,.int c]))
section
variable {P:Program}{w:World}{K:Ú}{mg:Str->Option Value}{base:Heap}{f:Addr}{fd:FuncData}
def Rx:FnScope ["_law_script","_law_k","_law_cell"] ["_law_script","_law_k"] (ao (top 40)):=zC
def Pk(F:Fun K "_law_pen" "_law_pen" (top 40) f fd)(B:Ļ mg):FnOk P w K mg base CX0 1 f fd ["_law_script","_law_k"] (Mg K):=by
 refine F.ok Rx (λvs H Q E h=>?_) (λcdv A outer s H vs Q E hr h=>?_)
 ·obtain⟨sc,ns,k,rfl,_⟩:=h
  rfl
 obtain⟨sc,ns,k,rfl,k0,k9,hS,q⟩:=h
 have nd:=Rx.nd
 refine⟨_,č (ņ (i:=2) nd rfl (þ rfl) (bW iY (bW lV ē (pv 1)) ē))
  (č (jA (iQ lg (pv 1) (dM eU rfl B.len PySem.boot_len (Ĕ (pv 0) Š)) (bT _))
   (ŵ (ņ (i:=2) nd rfl (þ rfl) (dY cF (pv 0) (pv 1) (λ_ _=>rfl))))
   (ŵ (jA (iQ Hs (dM eU rfl B.len PySem.boot_len (Ĕ (pv 0) Š)) ē (bT _))
    (ŵ (ņ (i:=2) nd rfl (þ rfl) (bW iY (bW iW (dY cF (pv 0) (bW iW (pv 1) (dM eU rfl B.len PySem.boot_len (Ĕ (pv 0) Š))) (λ_ _=>rfl)) (bW Ho ē ē)) (bW lV ē (pv 1))))) dG)))
  (PSs.wk (t':=Rh) (č (jA (iQ Ht (dM yI rfl B.abs Dl.boot_abs (Ĕ (pv 2) Š)) (bW Ho ē ē) (bT _))
   (ŵ (gq (jC (Ĕ (dM yI rfl B.abs Dl.boot_abs (Ĕ (pv 2) Š)) (Ĕ ē (Ĕ ē Š)))))) dG)
  (ŵ (gq (jC (Ĕ (bW iW (pv 2) ē) (Ĕ ē (Ĕ (pv 1) Š))))))) ?pen)),?_⟩
 case pen =>
  rintro D σ H' ⟨a0,k,cell,rfl,hq⟩
  refine⟨_,rfl,cell,rfl,_,_,rfl,rfl,⟨by decide,by decide,by decide⟩,_,_,rfl,rfl,_,rfl,g8 (λc1=>?_) (λc1=>?_)⟩
  ·exact⟨_,rfl,cell,rfl,by show 3<=sizeLine;decide,λl hl=>hq l _ _ _ hl⟩
  ·exact⟨_,rfl,_,_,rfl,rfl,(by show(0:Int)<2147483587;decide),_,rfl,by show 3<=sizeLine;decide,λl hl=>hq l _ _ _ hl⟩
 have fin:∀cell:Int,Rh { nx:=λ_ H'=>Q .non H',rt:=Q } [some (.ref sc),some (.int k),some (.int cell)] H:=λcell=>⟨_,k,cell,rfl,λl a b c hl=>q l _ (qJ hl _) hl ⟨a,b,c,aq⟩⟩
 refine⟨_,rfl,_,_,rfl,rfl,.inl ⟨by decide,by decide⟩,_,_,rfl,rfl,?_⟩
 refine⟨_,rfl,_,rfl,sc,_,rfl,.inl hS,_,_,rfl,rfl,_,rfl,g8 (λc1=>?_) (λc1=>?_)⟩
 ·obtain⟨v,hv⟩:=Ul k0 (of_decide_eq_true c1)
  exact⟨_,rfl,_,rfl,sc,_,_,_,rfl,rfl,hS,hv,fin v⟩
 ·refine⟨_,rfl,sc,_,rfl,.inl hS,_,_,rfl,rfl,_,rfl,g8 (λc2=>?_) (λc2=>fin _)⟩
  have c2:=of_decide_eq_true c2
  obtain⟨v,hv⟩:=Lz (i:=k) c2
  exact⟨_,rfl,_,rfl,_,rfl,sc,_,rfl,.inl hS,_,_,rfl,rfl,c2,sc,_,_,_,rfl,rfl,hS,hv,_,_,rfl,rfl,⟨by decide,by decide,by decide⟩,_,_,rfl,rfl,(by show(0:Int)<10 ^ 15;decide),_,rfl,_,_,rfl,rfl,.inl ⟨by decide,by decide⟩,_,_,rfl,rfl,fin _⟩
end
def allB(n:Nat)(p:Nat->Bool):Bool:=(Ý n).all p
def allB_iff{n:Nat}{p:Nat->Bool}(h:allB n p=true):∀i,i<n->p i=true:=λi hi=>ĝ.mp h i (ĥ.mpr hi)
def inB(s r:Nat):Bool:=(s &&& r) == s
def chn:Nat->Nat->Nat->List Nat
 |0,_,_=>[]
 |f+1,r,s=>s::(if s=0 then [] else chn f r ((s - 1) &&& r))
def Lw:allB 128 (λr=>chn 129 r r == (Ý (r+1)).reverse.filter (λs=>inB s r))=true:=by decide +kernel
def Tt:allB 128 (λr=>allB (r+1) λs=>!inB s r || (((r - s) &&& s == 0)&&inB (r - s) r))=true:=by decide +kernel
def Tr:allB 8 (λj=>allB (2 ^ j) λr=>allB (r+1) λs=>!inB s r || inB (s+2 ^ j) (r+2 ^ j))=true:=by decide +kernel
def Tv:allB 8 (λj=>allB (2 ^ j) λk=>allB (2 ^ j) λs=>(k &&& (s+2 ^ j)) == (k &&& s))=true:=by decide +kernel
def Ve:allB 8 (λj=>allB (2 ^ j) λr=>allB (2 ^ (j+1)) λm=>!inB m (r+2 ^ j) || (if m<2 ^ j then inB m r else inB (m - 2 ^ j) r))=true:=by decide +kernel
def Nm:allB 9 (λn=>allB (2 ^ n) λa=>(subs n).getD a [] == ((Ý n).filter (λi=>a.testBit i)).map λi:Nat=>0+((i:Nat):Int))=true:=by decide +kernel
def eG{s r:Nat}:inB s r=true↔s &&& r=s:=beq_iff_eq
def cJ{s r:Nat}(h:inB s r=true):s<=r:=by
 have:=eG.mp h
 rw[←this]
 exact Nat.and_le_right
def NT{r s:Nat}(hr:r<128)(h:inB s r=true):((r - s) &&& s)=0/\inB (r - s) r=true:=by
 have a:=allB_iff (allB_iff Tt r hr) s (by have:=cJ h;omega)
 rw[h] at a
 simp only[Bool.not_true,Bool.false_or,Ù,beq_iff_eq] at a
 exact a
def Ub{j r s:Nat}(hj:j<8)(hr:r<2 ^ j)(h:inB s r=true):inB (s+2 ^ j) (r+2 ^ j)=true:=by
 have a:=allB_iff (allB_iff (allB_iff Tr j hj) r hr) s (by have:=cJ h;omega)
 rw[h] at a
 simpa using a
def NZ{j k s:Nat}(hj:j<8)(hk:k<2 ^ j)(hs:s<2 ^ j):k &&& (s+2 ^ j)=k &&& s:=beq_iff_eq.mp (allB_iff (allB_iff (allB_iff Tv j hj) k hk) s hs)
def T9{j r m:Nat}(hj:j<8)(hr:r<2 ^ j)(hm:m<2 ^ (j+1))(h:inB m (r+2 ^ j)=true):(m<2 ^ j/\inB m r=true)\/(2 ^ j<=m/\inB (m - 2 ^ j) r=true):=by
 have a:=allB_iff (allB_iff (allB_iff Ve j hj) r hr) m hm
 rw[h] at a
 by_cases c:m<2 ^ j
 ·rw[if_pos c] at a
  exact .inl ⟨c,by simpa using a⟩
 ·rw[if_neg c] at a
  exact .inr ⟨by omega,by simpa using a⟩
def nZ{r:Nat}(hr:r<128):∀s,s∈chn 129 r r↔inB s r=true:=λs=>by
 rw[beq_iff_eq.mp (allB_iff Lw r hr),ă,List.mem_reverse,ĥ]
 exact⟨λh=>h.2,λh=>⟨by have:=cJ h;omega,h⟩⟩
def Dm{j:Nat}(h:j<8):2 ^ j<=128:=õ (ð (n:=2) (by decide) (show j<=7 by omega)) (by decide)
abbrev En:=Int×List Int
def sO(ws ks:List Int):Int:=(ks.map λk=>ws.getD k.toNat 0).sum
def FN(ws ks:List Int)(k:Int):sO ws (ks++[k])=sO ws ks+ws.getD k.toNat 0:=by
 unfold sO
 rw[Ø,List.sum_append]
 simp
structure BE(ws:List Int)(n m:Nat)(e:En):Prop where
 sum:e.1=sO ws e.2
 mem:∀k∈e.2,0<k/\inB k.toNat m=true/\k.toNat+1<2 ^ n
 apart:e.2.Pairwise λa b=>a.toNat &&& b.toNat=0
 top:∀s,inB s m=true->ws.getD s 0<=e.1
 len:∀j,m<2 ^ j->e.2.length<=j
def BE.nil{ws:List Int}{n:Nat}(h:ws.getD 0 0=0):BE ws n 0 (0,[]):=⟨rfl,λk h=>(nomatch h),.nil,λs hs=>by
 have:s=0:=by have:=cJ hs;omega
 rw[this,h]
 exact Ą _,λ_ _=>ú _⟩
def BE.nn{ws:List Int}{n m:Nat}{e:En}(h:BE ws n m e)(h0:ws.getD 0 0=0):0<=e.1:=by
 have:=h.top 0 (eG.mpr (Nat.zero_and m))
 rwa [h0] at this
def BE.zero{ws:List Int}{n:Nat}{e:En}(h:BE ws n 0 e):e=(0,[]):=by
 obtain⟨t,L⟩:=e
 have hL:L=[]:=by
  cases L with
  |nil=>rfl
  |cons k L =>
   obtain⟨h1,h2,_⟩:=h.mem k Å
   have:=cJ h2
   omega
 subst hL
 have:=h.sum
 exact Prod.ext this rfl
def bV(ws:List Int)(bs:List En)(top rest:Nat)(found:En)(sub:Nat):En :=
 if found.1<ws.getD (sub+top) 0+(bs.getD (rest - sub) (0,[])).1 then (ws.getD (sub+top) 0+(bs.getD (rest - sub) (0,[])).1,(bs.getD (rest - sub) (0,[])).2++[((sub+top:Nat):Int)]) else found
structure FE(ws:List Int)(n j rest:Nat)(seen:List Nat)(e:En):Prop where
 sum:e.1=sO ws e.2
 mem:∀k∈e.2,0<k/\inB k.toNat (rest+2 ^ j)=true/\k.toNat+1<2 ^ n
 apart:e.2.Pairwise λa b=>a.toNat &&& b.toNat=0
 low:∀s,inB s rest=true->ws.getD s 0<=e.1
 upp:∀s∈seen,ws.getD (s+2 ^ j) 0<=e.1
 len:e.2.length<=j+1
section
variable {ws:List Int}{n j rest:Nat}{bs:List En} (h0:ws.getD 0 0=0) (h1:ws.getD (2 ^ n - 1) 0=0) (hn:n<=8) (hj:j<n) (hr:rest<2 ^ j) (hb:∀m,m<2 ^ j->BE ws n m (bs.getD m (0,[])))
theorem Ce{k r j:Nat}(hj:j<8)(hr:r<2 ^ j)(h:inB k r=true):inB k (r+2 ^ j)=true:=by
 rw[eG] at h ⊢
 have:=cJ (eG.mpr h)
 rw[NZ hj (by omega) hr]
 exact h
include hn hj hr hb in
theorem FE.start:FE ws n j rest [] (bs.getD rest (0,[])):=by
 have b:=hb rest hr
 exact⟨b.sum,λk hk=>let ⟨x,y,z⟩:=b.mem k hk;⟨x,Ce (by omega) hr y,z⟩,b.apart,b.top,λs h=>(nomatch h),by have:=b.len j hr;omega⟩
include h0 h1 hn hj hr hb in
theorem FE.step{seen:List Nat}{e:En}(f:FE ws n j rest seen e){s:Nat}(hs:inB s rest=true):FE ws n j rest (s::seen) (bV ws bs (2 ^ j) rest e s):=by
 have p8:=Dm (show j<8 by omega)
 have sl:=cJ hs
 obtain⟨q1,q2⟩:=NT (show rest<128 by omega) hs
 have b:=hb (rest - s) (by omega)
 have bn:=b.nn h0
 have en:0<=e.1:=by
  have:=f.low 0 (eG.mpr (Nat.zero_and _))
  rwa [h0] at this
 unfold bV
 by_cases c:e.1<ws.getD (s+2 ^ j) 0+(bs.getD (rest - s) (0,[])).1
 ·rw[if_pos c]
  have kr:∀k,inB k (rest - s)=true->inB k rest=true/\k &&& s=0:=λk hk=>by
   rw[eG] at hk q2 ⊢
   refine⟨?_,?_⟩
   ·rw[←hk,Nat.and_assoc,q2]
   ·rw[←hk,Nat.and_assoc,q1,Nat.and_zero]
  refine⟨?_,λk hk=>?_,?_,λx hx=>?_,λx hx=>?_,?_⟩
  ·show _=sO ws (_++[_])
   rw[FN,←b.sum,é]
   omega
  ·rcases â.mp hk with z|z
   ·obtain⟨x,y,w⟩:=b.mem k z
    exact⟨x,Ce (by omega) hr (kr _ y).1,w⟩
   ·rw[Ö.mp z,é]
    have pj:=ť j
    refine⟨by omega,Ub (by omega) hr hs,?_⟩
    have pn:2 ^ (j+1)<=2 ^ n:=ð (by decide) (by omega)
    rw[Ţ] at pn
    rcases Ś (s+2 ^ j+1) (2 ^ n) with z|z
    ·exact z
    ·have e1:rest - s=0:=by omega
     have e2:s+2 ^ j=2 ^ n - 1:=by omega
     rw[e1] at b c
     rw[e2,h1,b.zero] at c
     exact absurd c (by show ¬e.1<0+0;omega)
  ·refine List.pairwise_append.mpr ⟨b.apart,by simp,λx hx y hy=>?_⟩
   rw[Ö.mp hy,é]
   obtain⟨_,y1,_⟩:=b.mem x hx
   have k1:=kr _ y1
   have:=cJ k1.1
   rw[NZ (by omega) (by omega) (by omega)]
   exact k1.2
  ·have:=f.low x hx
   show _<=_+_
   omega
  ·show _<=ws.getD (s+2 ^ j) 0+_
   rcases Ð.mp hx with rfl|hx
   ·omega
   ·have:=f.upp x hx
    omega
  ·show(_++[_]).length<=_
   rw[È,Õ]
   have:=b.len j (by omega)
   omega
 ·rw[if_neg c]
  refine⟨f.sum,f.mem,f.apart,f.low,λx hx=>?_,f.len⟩
  rcases Ð.mp hx with rfl|hx
  ·omega
  ·exact f.upp x hx
include h0 h1 hn hj hr hb in
theorem FE.walk:∀(l:List Nat) {seen:List Nat}{e:En},FE ws n j rest seen e->(∀s∈l,inB s rest=true)->FE ws n j rest (l.reverse++seen) (l.foldl (bV ws bs (2 ^ j) rest) e)
 |[],_,_,f,_=>f
 |s::l,seen,e,f,h=>by
  have:=FE.walk l (FE.step h0 h1 hn hj hr hb f (h s Å)) λx hx=>h x (Ä _ hx)
  rw[List.reverse_cons,Ř]
  exact this
include hn hj hr in
theorem FE.done{seen:List Nat}{e:En}(f:FE ws n j rest seen e)(h:∀s,inB s rest=true->s∈seen):BE ws n (rest+2 ^ j) e:=by
 refine⟨f.sum,f.mem,f.apart,λs hs=>?_,λi hi=>?_⟩
 ·have sl:=cJ hs
  rcases T9 (by omega) hr (by rw[Ţ];omega) hs with ⟨_,z⟩|⟨c,z⟩
  ·exact f.low s z
  ·have:=f.upp _ (h _ z)
   rwa [show s - 2 ^ j+2 ^ j=s by omega] at this
 ·have:j+1<=i:=by
   rcases Ś j i with z|z
   ·omega
   ·have:=ð (n:=2) (by decide) z
    omega
  exact õ f.len this
end
def bwF(ws:List Int)(bs:List En)(top rest:Nat):En:=(chn 129 rest rest).foldl (bV ws bs top rest) (bs.getD rest (0,[]))
def dg(ws:List Int)(bs:List En)(top:Nat):Nat->List En
 |0=>bs
 |i+1=>dg ws bs top i++[bwF ws (dg ws bs top i) top i]
def grow(ws:List Int):Nat->List En
 |0=>[(0,[])]
 |j+1=>dg ws (grow ws j) (2 ^ j) (2 ^ j)
def JG(ws:List Int)(n:Nat):En:=(grow ws n).getD (2 ^ n - 1) (0,[])
def setOf(n:Nat)(k:Int):List Int:=(subs n).getD k.toNat []
structure HAok(n:Nat)(ws ks:List Int):Prop where
 len:ks.length<=n
 rng:∀k∈ks,0<k/\k<(2 ^ n:Nat) - 1
 apart:ks.Pairwise λa b=>∀x∈setOf n a,x∉setOf n b
 top:∀w∈ws,w<=sO ws ks
 is:ks=(JG ws n).2
 tot:sO ws ks=(JG ws n).1
def BE.ha{n:Nat}{ws:List Int}{e:En}(hn:n<=8)(hl:ws.length=2 ^ n)(b:BE ws n (2 ^ n - 1) e)(he:e=JG ws n):HAok n ws e.2:=by
 have pn:=ť n
 have sb:∀a,a<2 ^ n->(subs n).getD a []=((Ý n).filter (λi=>a.testBit i)).map λi:Nat=>0+((i:Nat):Int):=λa ha=>beq_iff_eq.mp (allB_iff (allB_iff Nm n (by omega)) a ha)
 refine⟨b.len n (by omega),λk hk=>?_,?_,λw hw=>?_,by rw[he],by rw[←b.sum,he]⟩
 ·obtain⟨h1,_,h3⟩:=b.mem k hk
  omega
 ·have key:∀{l:List Int},l.Pairwise (λa b=>a.toNat &&& b.toNat=0)->(∀k∈l,k.toNat<2 ^ n)->l.Pairwise λa b=>∀x∈setOf n a,x∉setOf n b:=λ{l} h m=>by
   induction h with
   |nil=>exact .nil
   |cons h t ih =>
    refine .cons (λy hy x hx hx2=>?_) (ih λk hk=>m k (Ä _ hk))
    unfold setOf at hx hx2
    rw[sb _ (m _ Å)] at hx
    rw[sb _ (m _ (Ä _ hy))] at hx2
    obtain⟨i,hi,rfl⟩:=ç.mp hx
    obtain⟨i2,hi2,e⟩:=ç.mp hx2
    have e:i2=i:=by omega
    subst e
    have z:=congrArg (λv=>Nat.testBit v i2) (h y hy)
    simp only[Nat.testBit_and,Nat.zero_testBit,(ă.mp hi).2,(ă.mp hi2).2] at z
    cases z
  exact key b.apart λk hk=>by have:=(b.mem k hk).2.2;omega
 ·obtain⟨s,hs,rfl⟩:=List.getElem_of_mem hw
  have h2:s<2 ^ n:=by omega
  have:=b.top s (eG.mpr (by rw[Nat.and_two_pow_sub_one_eq_mod,Nat.mod_eq_of_lt h2]))
  rw[Ï,Ç hs] at this
  rw[←b.sum]
  exact this
def fHA(ds:List D)(P:D->Prop):Prop:=∃(n:Nat) (ws:List Int),ds=[iD ws]/\1<=n/\n<=8/\ws.length=2 ^ n/\(∀x∈ws,0<=x)/\ws.head?=some 0/\ws.getLast?=some 0/\∀ks,HAok n ws ks->P (iD ks)
def enD(e:En):D:=.tuple [.int e.1,iD e.2]
def fBW(ds:List D)(P:D->Prop):Prop:=∃(n j rest:Nat) (ws:List Int) (bs:List En),ds=[iD ws,.list (bs.map enD),.int ((2 ^ j:Nat):Int),.int ((rest:Nat):Int)]/\n<=8/\j<n/\rest<2 ^ j/\ws.length=2 ^ n/\bs.length=2 ^ j+rest/\(∀e∈bs,e.2.length<=8)/\P (enD (bwF ws bs (2 ^ j) rest))
def JK(a b:Nat):Builtin.bitAnd ((a:Nat):Int) ((b:Nat):Int)=((a &&& b:Nat):Int):=by
 unfold Builtin.bitAnd
 rw[decide_eq_true (by omega),decide_eq_true (by omega)]
 rfl
def Uc{ws:List Int}{i:Nat}(h:i<ws.length):atI (ws.map Â) ((i:Nat):Int)=some (.int (ws.getD i 0)):=by
 refine eX ?_
 rw[Þ,Ï,Ç h]
 rfl
def N5{bs:List En}{i:Nat}(h:i<bs.length):atI (bs.map enD) ((i:Nat):Int)=some (enD (bs.getD i (0,[]))):=by
 refine eX ?_
 rw[Þ,Ï,Ç h]
 rfl
def IvB(ws:List Int)(bs:List En)(j rest m:Nat)(ρ:List Sl):Prop:=∃(s:Int) (l:List Nat) (e:En) (s4:Sl),ρ=[.sh (iD ws),.sh (.list (bs.map enD)),.im (.int ((2 ^ j:Nat):Int)),.im (.int ((rest:Nat):Int)),s4,.im (.int s),.any]/\(s4=.sh (enD e)\/s4=.sn (enD e))/\((s=-1/\l=[])\/∃f sN:Nat,s=((sN:Nat):Int)/\sN+1<=f/\l=chn f rest sN)/\l.foldl (bV ws bs (2 ^ j) rest) e=bwF ws bs (2 ^ j) rest/\(∀x∈l,inB x rest=true)/\m=l.length
def JB(g r s:Nat):chn (g+1) r s=s::(if s=0 then [] else chn g r ((s - 1) &&& r)):=rfl
def CT{ws:List Int}{bs:List En}{j rest sN g:Nat}{e e':En}{s4:Sl}{t:Int}{Q:DEnds}(hsf:sN+1<=g+1)(h4:s4=.sh (enD e')\/s4=.sn (enD e'))(hf:(chn (g+1) rest sN).foldl (bV ws bs (2 ^ j) rest) e=bwF ws bs (2 ^ j) rest)(he:e'=bV ws bs (2 ^ j) rest e sN)(hin:∀x∈chn (g+1) rest sN,inB x rest=true)(hQ:∀ρ2,(∃m',m'<(chn (g+1) rest sN).length/\IvB ws bs j rest m' ρ2)->Q.nx ρ2) :
  Eo (Em 5 none (Oe (fB (t2 (gI0 λi j=>PyData.bool (decide (j<i))) (tV 5) (tK (Â 0)))) (t2 (gI0 λi j=>Â (Builtin.bitAnd i j)) (t2 (gI0 λi j=>Â (i - j)) (tV 5) (tK (Â 1))) (tV 3)) (Od (tK (Â 1))))) (Ar [6] Cz) Q
   [.sh (iD ws),.sh (.list (bs.map enD)),.im (.int ((2 ^ j:Nat):Int)),.im (.int ((rest:Nat):Int)),s4,.im (.int ((sN:Nat):Int)),.im (.int t)]:=by
 rw[JB] at hf hin hQ
 show if decide ((0:Int)<((sN:Nat):Int))=true then _ else _
 by_cases c:sN=0
 ·subst c
  rw[decide_eq_false (by omega)]
  refine aM (A:=True) ?_
  rw[if_pos rfl] at hf hin hQ
  exact hQ _ ⟨0,by simp,-1,[],e',s4,rfl,h4,.inl ⟨rfl,rfl⟩,by rw[he];exact hf,λx hx=>(nomatch hx),rfl⟩
 ·rw[decide_eq_true (by omega)]
  refine aN (B:=True) ?_
  rw[if_neg c] at hf hin hQ
  have eb:Builtin.bitAnd (((sN:Nat):Int) - 1) ((rest:Nat):Int)=(((sN - 1) &&& rest:Nat):Int):=by
   rw[show((sN:Nat):Int) - 1=((sN - 1:Nat):Int) by omega]
   exact JK _ _
  have hl:((sN - 1) &&& rest)<=sN - 1:=Nat.and_le_left
  exact hQ _ ⟨(chn g rest ((sN - 1) &&& rest)).length,by simp,(((sN - 1) &&& rest:Nat):Int),chn g rest ((sN - 1) &&& rest),e',s4,by rw[←eb];rfl,h4,.inr ⟨g,(sN - 1) &&& rest,rfl,by omega,rfl⟩,by rw[he];exact hf,λx hx=>hin x (Ä _ hx),rfl⟩
section
variable {P:Program}{w:World}{K:Ú}{mg:Str->Option Value}{base:Heap}{f:Addr}{fd:FuncData}{CN:Addr}
def mH:FnScope ["weights","best","top","rest","found","sub","total"] ["weights","best","top","rest"] (ao (top 19)):=zC
def vG(F:Fun K "best_with" "best_with" (top 19) f fd)(B:Ļ mg):FnOk P w K mg base CX0 1 f fd ["weights","best","top","rest"] (spR fBW):=by
 refine F.ok mH vM (λcdv A outer s H vs Q E hr h=>?_)
 have nd:=mH.nd
 refine⟨_,Dl.WR.h (Dl.uX (ĉ none (i:=4) nd rfl zQ (Ć (Ì 1) (Ì 3)))
  (Dl.uX (ĉ none (i:=5) nd rfl zQ (Ì 3))
  (Dl.uX (Wr.nU ù (Wr.zA (Ì 5) Û) (ä (ĉ none (i:=6) nd rfl zQ (ľ (Ć (Ì 0) (ľ (Ì 5) (Ì 2))) (Ć (Ć (Ì 1) (Ū (Ì 3) (Ì 5))) Û)))
  (ä (Wr.dz (Wr.lO (Ì 6) (Ć (Ì 4) Û)) (ý (ĉ none (i:=4) nd rfl zQ (ġ (Á (Ì 6) (Á (ľ (Ć (Ć (Ì 1) (Ū (Ì 3) (Ì 5))) Û) (Ō (Á (ľ (Ì 5) (Ì 2)) É))) É))))) Ĺ)
  (ä (ĉ none (i:=5) nd rfl zQ (Wr.gR (Wr.lO (Ì 5) Û) (Wr.Ku (Ū (Ì 5) Û) (Ì 3)) (Wr.lQ Û))) (Ĵ [6] Ĺ)))))
  (Dl.yX (Ì 4))))),Ak h ?_⟩
 rintro ds P ⟨n,j,rest,ws,bs,rfl,n8,jn,rj,lw,lb,le,q⟩
 refine⟨[.sh (iD ws),.sh (.list (bs.map enD)),.im (.int ((2 ^ j:Nat):Int)),.im (.int ((rest:Nat):Int)),.any,.any,.any],rfl,?_⟩
 have p8:=Dm (show j<8 by omega)
 have pn:2 ^ (j+1)<=2 ^ n:=ð (by decide) (by omega)
 rw[Ţ] at pn
 refine⟨_,N5 (by omega),?_⟩
 refine kJ (rg:=none) (i:=4) (k:=norm .shr (enD (bs.getD rest (0,[])))) (d:=enD (bs.getD rest (0,[]))) (s:=.sh (enD (bs.getD rest (0,[])))) (by rfl) ?_
 show RQ (Ao _ _) (RV (tV 4)) P [.sh (iD ws),.sh (.list (bs.map enD)),.im (.int ((2 ^ j:Nat):Int)),.im (.int ((rest:Nat):Int)),.sh (enD (bs.getD rest (0,[]))),.im (.int ((rest:Nat):Int)),.any]
 refine⟨IvB ws bs j rest,
  ⟨_,_,chn 129 rest rest,bs.getD rest (0,[]),_,rfl,.inl rfl,.inr ⟨129,rest,rfl,by omega,rfl⟩,rfl,λx hx=>(nZ (by omega) x).mp hx,rfl⟩,?_⟩
 rintro m ρ ⟨s,l,e,s4,rfl,h4,hs,hf,hin,rfl⟩
 show if decide ((0:Int)<=s)=true then _ else _
 rcases hs with ⟨rfl,rfl⟩|⟨f,sN,rfl,hsf,rfl⟩
 ·rw[decide_eq_false (by omega)]
  refine aM (A:=True) ?_
  have hf:e=bwF ws bs (2 ^ j) rest:=hf
  rw[←hf] at q
  rcases h4 with rfl|rfl <;> exact q
 ·rw[decide_eq_true (by omega)]
  refine aN (B:=True) ?_
  obtain⟨g,rfl⟩:∃g,f=g+1:=⟨f - 1,by omega⟩
  have hsr:inB sN rest=true:=hin sN Å
  have hsl:=cJ hsr
  have i1:atI (ws.map Â) (((sN:Nat):Int)+((2 ^ j:Nat):Int))=some (.int (ws.getD (sN+2 ^ j) 0)):=by
   rw[show((sN:Nat):Int)+((2 ^ j:Nat):Int)=((sN+2 ^ j:Nat):Int) by omega]
   exact Uc (by omega)
  have i2:atI (bs.map enD) (((rest:Nat):Int) - ((sN:Nat):Int))=some (enD (bs.getD (rest - sN) (0,[]))):=by
   rw[show((rest:Nat):Int) - ((sN:Nat):Int)=((rest - sN:Nat):Int) by omega]
   exact N5 (by omega)
  refine⟨_,i1,_,i2,_,rfl,?_⟩
  refine kJ (rg:=none) (i:=6) (k:=.imm) (d:=.int (ws.getD (sN+2 ^ j) 0+(bs.getD (rest - sN) (0,[])).1)) (s:=.im (.int (ws.getD (sN+2 ^ j) 0+(bs.getD (rest - sN) (0,[])).1))) (by rfl) ?_
  have ln:(bs.getD (rest - sN) (0,[])).2.length<=8:=by
   rw[Ï,Ç (by omega)]
   exact le _ (Ĩ _)
  have h40:∀{R:Prop},(s4=.sh (enD e)->R)->(s4=.sn (enD e)->R)->R:=λa b=>h4.elim a b
  by_cases c:e.1<ws.getD (sN+2 ^ j) 0+(bs.getD (rest - sN) (0,[])).1
  ·have he:(ws.getD (sN+2 ^ j) 0+(bs.getD (rest - sN) (0,[])).1,(bs.getD (rest - sN) (0,[])).2++[((sN+2 ^ j:Nat):Int)])=bV ws bs (2 ^ j) rest e sN:=by
    unfold bV
    rw[if_pos c]
   have ed:(bs.getD (rest - sN) (0,[])).2.map Â++į (λx:Kd×D=>x.snd) [(Kd.imm,Â (((sN:Nat):Int)+((2 ^ j:Nat):Int)))]=((bs.getD (rest - sN) (0,[])).2++[((sN+2 ^ j:Nat):Int)]).map Â:=by
    rw[Ø,show((sN+2 ^ j:Nat):Int)=((sN:Nat):Int)+((2 ^ j:Nat):Int) by omega]
    rfl
   rcases h4 with rfl|rfl
   all_goals
    refine⟨.int e.1,rfl,?_⟩
    show if decide (e.1<_)=true then _ else _
    rw[decide_eq_true c]
    refine aN (B:=True) ⟨_,i2,_,rfl,zK,?_,.inl ⟨?_,zK,?_⟩⟩
    ·rw[À]
     show _+1<=1000
     omega
    ·rw[ed]
     exact cZ _
    ·dsimp only
     rw[ed]
     exact CT (s4:=.sn (enD (ws.getD (sN+2 ^ j) 0+(bs.getD (rest - sN) (0,[])).1,(bs.getD (rest - sN) (0,[])).2++[((sN+2 ^ j:Nat):Int)]))) hsf (.inr rfl) hf he hin λρ2 h=>h
  ·have he:e=bV ws bs (2 ^ j) rest e sN:=by
    unfold bV
    rw[if_neg c]
   rcases h4 with rfl|rfl
   all_goals
    refine⟨.int e.1,rfl,?_⟩
    show if decide (e.1<_)=true then _ else _
    rw[decide_eq_false c]
    refine aM (A:=True) ?_
    exact CT hsf (by first|exact .inl rfl|exact .inr rfl) hf he hin λρ2 h=>h
def fW:FnScope ["weights","best","top","rest"] ["weights"] (ao (top 20)):=zC
def ni(F:Fun K "heaviest_apart" "heaviest_apart" (top 20) f fd)(B:Ļ mg)(C_best_with:Ā P w K mg base 1 "best_with" ["weights","best","top","rest"] (spR fBW)):FnOk P w K mg base CX0 2 f fd ["weights"] (spD fHA):=by
 refine F.ok fW ĭ (λcdv A outer s H vs Q E hr h=>?_)
 have nd:=fW.nd
 refine⟨_,Ģ (ä (Wr.wu 0 true (i:=1) nd rfl zQ (Á (ġ (Á Û (Á (Ō É) É))) É))
  (ä (ĉ none (i:=2) nd rfl zQ Û)
  (ä (Wr.nU ù (Wr.zy (Ì 2) (Wr.bB B.len (Á (Ì 0) É))) (ä (Wr.cO ù rfl (Wr.aV B.range (Á (Ì 2) É)) (ò (i:=3) nd rfl zQ) (ä (Wr.wA C_best_with hr (Wr.wv 1) (Wr.wv 0) (Wr.wv 1) (Wr.wv 2) (Wr.wv 3)) (Ĵ [3] Ĺ)))
  (Ĵ [3] (ä (ĉ none (i:=2) nd rfl zQ (Wr.gO Û (Ì 2))) (Ĵ [3] Ĺ)))))
  (Ĵ [2,3] (ý (Ď (Ć (Ć (Ì 1) (Wr.lQ Û)) Û))))))),aW h ?_⟩
 rintro ds P ⟨n,ws,rfl,n1,n8,lw,w0,hh,hl,q⟩
 refine⟨[.sh (iD ws),.any,.any,.any],rfl,?_⟩
 have pn:=ť n
 have p2:2 ^ n<=256:=ð (n:=2) (by decide) n8
 have h0:ws.getD 0 0=0:=by
  cases ws with
  |nil=>rfl
  |cons x l=>cases hh;rfl
 have h1:ws.getD (2 ^ n - 1) 0=0:=by
  rw[List.getLast?_eq_getElem?,lw] at hl
  rw[Ï,hl]
  rfl
 have el:((iD ws:D)=.list (ws.map Â)):=rfl
 refine⟨zK,zK,zK,rfl,rfl,?_⟩
 refine⟨λm ρ=>∃(j:Nat) (bs:List En),ρ=[.sh (iD ws),.sp 0 true (bs.map enD),.im (.int ((2 ^ j:Nat):Int)),.any]/\j<=n/\bs.length=2 ^ j/\bs=grow ws j/\(∀i,i<2 ^ j->BE ws n i (bs.getD i (0,[])))/\m=n - j,⟨_,0,[(0,[])],rfl,by omega,rfl,rfl,λi hi=>?_,rfl⟩,?_⟩
 ·have:i=0:=by omega
  subst this
  exact .nil h0
 rintro m ρ ⟨j,bs,rfl,jn,lb,eg,hb,rfl⟩
 show if decide (((2 ^ j:Nat):Int)<(((ws.map Â).length:Nat):Int))=true then _ else _
 rw[À,lw]
 by_cases c:j<n
 ·have pj:2 ^ (j+1)<=2 ^ n:=ð (by decide) (by omega)
  have pjj:2 ^ (j+1)=2 ^ j * 2:=Ţ ..
  have pp:=ť j
  rw[decide_eq_true (by omega)]
  refine aN (B:=True) ⟨⟨by omega,by omega⟩,rfl,λ(i:Nat) ρ=>∃bs:List En,ρ=[.sh (iD ws),.sp 0 true (bs.map enD),.im (.int ((2 ^ j:Nat):Int)),.any]/\bs.length=2 ^ j+i/\bs=dg ws (grow ws j) (2 ^ j) i/\∀t,t<2 ^ j+i->BE ws n t (bs.getD t (0,[])),⟨bs,rfl,lb,eg,hb⟩,?_,?_⟩
  ·rintro i d ρ hd ⟨bs,rfl,lb,eg,hb⟩
   obtain⟨hi,rfl⟩:=ű hd
   rw[é] at hi
   have be:=(FE.walk h0 h1 n8 c hi (λm hm=>hb m (by omega)) (chn 129 i i) (FE.start n8 c hi λm hm=>hb m (by omega)) λs hs=>(nZ (by have:=Dm (show j<8 by omega);omega) s).mp hs).done n8 c hi λs hs=>by
    rw[ê,List.mem_reverse]
    exact(nZ (by have:=Dm (show j<8 by omega);omega) s).mpr hs
   have be:BE ws n (i+2 ^ j) (bwF ws bs (2 ^ j) i):=be
   have l8:∀e∈bs,e.2.length<=8:=λe he=>by
    obtain⟨t,ht,rfl⟩:=List.getElem_of_mem he
    have:=(hb t (by omega)).len n (by omega)
    rw[Ï,Ç ht] at this
    exact õ this n8
   have tn:i+2 ^ j<2 ^ n:=by omega
   have ln:=be.len n tn
   have lt:n<2 ^ n:=Nat.lt_two_pow_self
   refine⟨0,bs.map enD,ws,((2 ^ j:Nat):Int),0+((i:Nat):Int),rfl,rfl,rfl,rfl,?_,by rw[À];omega,n,j,i,ws,bs,by rw[Int.zero_add],n8,c,hi,lw,lb,l8,(bwF ws bs (2 ^ j) i).1,(bwF ws bs (2 ^ j) i).2,rfl,by omega,bs++[bwF ws bs (2 ^ j) i],?_,by rw[È,Õ];omega,by rw[eg];rfl,λt ht=>?_⟩
   ·cases bs with
    |nil=>simp at lb;omega
    |cons e tl=>exact⟨_,_,_,rfl⟩
   ·show [_,Sl.sp 0 true (bs.map enD++[enD (bwF ws bs (2 ^ j) i)]),_,_]=[_,Sl.sp 0 true ((bs++[bwF ws bs (2 ^ j) i]).map enD),_,_]
    rw[Ø]
    rfl
   ·rcases Ś t (2 ^ j+i) with z|z
    ·have:=hb t z
     rw[Ï] at this ⊢
     rw[ó (by omega)]
     exact this
    ·have e:t=i+2 ^ j:=by omega
     subst e
     rw[Ï,è (by omega),show i+2 ^ j - bs.length=0 by omega]
     exact be
  ·rintro ρ ⟨bs,rfl,lb,eg,hb⟩
   rw[Œ,é] at lb eg hb
   refine⟨?_,n - (j+1),by omega,j+1,bs,?_,by omega,by omega,eg,λt ht=>hb t (by omega),rfl⟩
   ·exact .inl ⟨by decide,by decide⟩
   ·rw[show((2 ^ (j+1):Nat):Int)=2 * ((2 ^ j:Nat):Int) by omega]
    rfl
 ·have jn:j=n:=by omega
  subst jn
  rw[decide_eq_false (by omega)]
  refine aM (A:=True) ?_
  have be:=hb (2 ^ j - 1) (by omega)
  have e1:atI (bs.map enD) (-1)=some (enD (bs.getD (2 ^ j - 1) (0,[]))):=by
   rcases List.eq_nil_or_concat bs with rfl|⟨B,e,hB⟩
   ·simp at lb;omega
   ·rw[List.concat_eq_append] at hB
    subst hB
    rw[È,Õ] at lb
    rw[Ø,Ï,è (by omega),show 2 ^ j - 1 - B.length=0 by omega]
    exact n6 _ _
  exact⟨_,e1,_,rfl,rfl,q _ (be.ha n8 lw (by rw[eg];rfl))⟩
end
def iI(n:Nat)(W:List Int->Int):List Int:=0::(((subs n).drop 1).dropLast.map W++[0])
def jr(n:Nat)(W:List Int->Int)(out:List (List Int)):Prop:=∃ks,HAok n (iI n W) ks/\out.Perm (ks.map (setOf n))/\out.Pairwise (λa b=>aU 40 a<=aU 40 b)/\∀l∈out,iH l
def fWt(n:Nat)(W:List Int->Int)(ds:List D)(P:D->Prop):Prop:=∃l:List Int,ds=[.list (l.map Â)]/\Proper ((n:Nat):Int) l/\P (.int (W l))
def tHF(g:List D->(D->Prop)->Prop)(m:Int)(Pd:D->Prop):Prop:=∃(n:Nat) (W:List Int->Int),m=((n:Nat):Int)/\1<=n/\n<=8/\g=fWt n W/\(∀l,0<=W l)/\∀out,jr n W out->Pd (.list (out.map iD))
def CG{α:Type}(l:List α)(h:2<=l.length):fQ l (some 1) (some (-1))=(l.drop 1).dropLast:=by
 unfold fQ
 have e1:HT.sIx l.length l.length (some (-1))=l.length - 1:=by
  have e:HT.sIx l.length l.length (some (-1))=((-1:Int)+(l.length:Int)).toNat:=rfl
  rw[e]
  omega
 have e2:HT.sIx l.length 0 (some 1)=min 1 l.length:=HT.uW l.length 0 1
 rw[e1,e2,Nat.min_eq_left (by omega),List.dropLast_eq_take,Ĉ]
def tH:∀k,∃M f,subs k=M++[f]/\∀l∈M,l.length<k
 |0=>⟨[],[],rfl,λl h=>nomatch h⟩
 |k+1=>by
  obtain⟨M,f,e,h⟩:=tH k
  refine⟨subs k++M.map λl=>l++[0+((k:Nat):Int)],f++[0+((k:Nat):Int)],?_,λl hl=>?_⟩
  ·show subs k++(subs k).map _=_
   rw[show(subs k).map (λl=>l++[0+((k:Nat):Int)])=(M++[f]).map (λl=>l++[0+((k:Nat):Int)]) by rw[←e],Ø,Ř]
   rfl
  ·rcases â.mp hl with z|z
   ·have:=(fV k l z).2.2
    omega
   ·obtain⟨a,ha,rfl⟩:=ç.mp z
    have:=h a ha
    rw[È,Õ]
    omega
def iJ{n:Nat}(n1:1<=n)(n8:n<=8):2<=2 ^ n/\2 ^ n<=256:=⟨ð (n:=2) (by decide) n1,ð (n:=2) (by decide) n8⟩
def fL{n:Nat}(n1:1<=n)(n8:n<=8){l:List Int}(h:l∈((subs n).drop 1).dropLast):Proper ((n:Nat):Int) l:=by
 obtain⟨M,f,e,hM⟩:=tH n
 obtain⟨r,e2,hr⟩:=oG n
 have h1:=(List.dropLast_sublist _).mem h
 obtain⟨o1,o2,o3⟩:=fV n l (List.mem_of_mem_drop h1)
 have hne:l≠[]:=by
  rw[e2] at h1
  exact hr l h1
 have p2:=iJ n1 n8
 have hM1:l∈M:=by
  have lm:(subs n).length=M.length+1:=by rw[e];simp
  have:((subs n).drop 1).dropLast=M.drop 1:=by
   rw[e,List.drop_append_of_le_length (by rw[bC] at lm;omega),List.dropLast_concat]
  rw[this] at h
  exact List.mem_of_mem_drop h
 have:=hM l hM1
 exact⟨ź.mpr hne,by omega,o2,o1,by omega⟩
def Fq{n:Nat}{W:List Int->Int}(n1:1<=n)(n8:n<=8)(w0:∀l,0<=W l):(iI n W).length=2 ^ n/\(∀x∈iI n W,0<=x)/\(iI n W).head?=some 0/\(iI n W).getLast?=some 0:=by
 have p2:=iJ n1 n8
 unfold iI
 refine⟨?_,λx hx=>?_,rfl,?_⟩
 ·rw[ì,È,À,Ĳ,Ĉ,bC,Õ]
  omega
 ·rcases Ð.mp hx with rfl|hx
  ·exact Ą _
  ·rcases â.mp hx with z|z
   ·obtain⟨l,_,rfl⟩:=ç.mp z
    exact w0 l
   ·rw[Ö.mp z];exact Ą _
 ·rw[←List.cons_append,List.getLast?_concat]
def uV{n:Nat}{k:Int}(h:k.toNat<2 ^ n):(subs n)[k.toNat]?=some (setOf n k)/\setOf n k∈subs n:=by
 have hl:k.toNat<(subs n).length:=by rw[bC];exact h
 have e:(subs n)[k.toNat]?=some (setOf n k):=by
  unfold setOf
  rw[Ï,Ç hl]
  rfl
 exact⟨e,Ò e⟩
section
variable {P:Program}{w:World}{K:Ú}{mg:Str->Option Value}{base:Heap}{f:Addr}{fd:FuncData}{CN:Addr}
def fD:FnScope ["n","weigh","sets","weights"] ["n","weigh"] (ao (top 21)):=zC
def jJ:(["some","n","weigh","sets","weights"]:List Str).Nodup:=by decide +kernel
def jH:(["number","n","weigh","sets","weights"]:List Str).Nodup:=by decide +kernel
def lW(F:Fun K "heaviest_family" "heaviest_family" (top 21) f fd)(B:Ļ mg)(C_sets_below:Ā P w K mg base 1 "sets_below" ["count"] (spD fSB))(C_heaviest_apart:Ā P w K mg base 2 "heaviest_apart" ["weights"] (spD fHA)):FnOk P w K mg base CX0 11 f fd ["n","weigh"] (spF P w K mg base 10 ["some"] tHF):=by
 refine F.ok fD (λvs H Q E h=>by obtain⟨_,_,_,_,_,rfl,_⟩:=h;rfl) (λcdv A outer s H vs Q E hr h=>?_)
 obtain⟨n,fl,Z,g,Pd,rfl,⟨fdl,FW,FA,BW,hZ⟩,z,ht,k⟩:=h
 have nd:=fD.nd
 letI:=grZ Z
 refine⟨_,Ģ (ä (ĉ none (i:=2) nd rfl zQ (Ũ C_sets_below hr (Á (Ì 0) É)))
  (ä (ĉ none (i:=3) nd rfl zQ (ľ (ľ (Ō (Á Û É)) (ŧ ["some"] rfl (ğ (Wr.Bx (Ì 2) (Wr.eN Û) (Wr.eN (Wr.lQ Û)))) (λc=>(ò (i:=0) jJ rfl zQ)) (λc=>ĸ) (λc=>(Wr.dcV hZ FW FA hr BW (Wr.wv 2) (Á (Ì 0) É))))) (Ō (Á Û É))))
  (ý (Ď (Wr.qR hr.units B.sorted (Á (ŧ ["number"] rfl (ğ (Ũ C_heaviest_apart hr (Á (Ì 3) É))) (λc=>(ò (i:=0) jH rfl zQ)) (λc=>ĸ) (λc=>(Ć (Ì 3) (Ì 0)))) É)))))),QJ z k rfl ?_⟩
 obtain⟨n,W,rfl,n1,n8,rfl,w0,q⟩:=ht
 refine⟨((n:Nat):Int),rfl,by omega,by omega,?_⟩
 rw[é]
 refine kJ (rg:=none) (i:=2) (k:=norm .new (.list ((subs n).map lD))) (d:=.list ((subs n).map lD)) (s:=.sn (.list ((subs n).map lD))) (by rfl) ?_
 have p2:=iJ n1 n8
 have ls:=bC n
 obtain⟨f1,f2,f3,f4⟩:=Fq (W:=W) n1 n8 w0
 refine⟨zK,.inr ?_⟩
 have ec:fQ ((subs n).map lD) (some 1) (some (-1))=(((subs n).drop 1).dropLast).map lD:=by
  rw[CG _ (by rw[À];omega),←List.map_drop,←List.map_dropLast]
 have ml:(((subs n).drop 1).dropLast).length<=256:=by rw[Ĳ,Ĉ];omega
 dsimp only
 rw[ec]
 refine oZ (((subs n).drop 1).dropLast) lD (λl=>.int (W l)) .imm rfl (by omega) (λl hl A B h=>aN (B:=True) ⟨⟨false,rfl⟩,l,rfl,fL n1 n8 hl,rfl,h⟩) ?_
 refine⟨?_,.inr ⟨zK,?_,.inr ?_⟩⟩
 ·show 1+(į _ _).length<=1000
  rw[À]
  omega
 ·show(į _ _++į _ _).length+1<=1000
  rw[È,À,À]
  show 1+_+1<=1000
  omega
 have ew:(į (λx:Kd×D=>x.snd) [(Kd.imm,Â 0)]++(((subs n).drop 1).dropLast).map λl=>Â (W l))++į (λx:Kd×D=>x.snd) [(Kd.imm,Â 0)]=(iI n W).map Â:=by
  show Â 0::((((subs n).drop 1).dropLast).map (λl=>Â (W l))++[Â 0])=Â 0::((((subs n).drop 1).dropLast).map W++[0]).map Â
  rw[Ø,ô]
  rfl
 dsimp only
 rw[ew]
 show Aq (tCl vV (bR (dLC [å "number"].length (iSq (tFn fHA (bR (tV 3) fU))) (gNm 0) (λx P=>P true) (t2 gIx (tV 3) (tV 0))) fU)) { nx:=λx=>Pd PyData.none,rt:=Pd } [.im (.int n),.scr (.ref fl) false,.sn (.list ((subs n).map lD)),.sn (iD (iI n W))]
 refine⟨n,iI n W,rfl,n1,n8,f1,f2,f3,f4,λks hk=>?_⟩
 have kl:=hk.len
 have km:∀k∈ks,k.toNat<2 ^ n/\0<=k:=λk h=>by have:=hk.rng k h;omega
 refine oZ ks Â (λk=>lD (setOf n k)) .snw rfl (by omega) (λk h A B z=>aN (B:=True) ⟨lD (setOf n k),?_,rfl,z⟩) ?_
 ·obtain⟨h1,h2⟩:=km k h
  have:=(uV h1).1
  have ek:((k.toNat:Nat):Int)=k:=by omega
  have:=eX (xs:=(subs n).map lD) (j:=k.toNat) (v:=lD (setOf n k)) (by rw[Þ,this];rfl)
  rw[ek] at this
  exact this
 ·have nic:∀l∈ks.map (setOf n),iH l:=λl hl=>by
   obtain⟨k,hk',rfl⟩:=ç.mp hl
   obtain⟨o1,o2,o3⟩:=fV n _ (uV (km k hk').1).2
   exact⟨by omega,λx hx=>by have:=o2 x hx;omega⟩
  refine⟨ks.map (setOf n),by rw[ô];rfl,by rw[À];omega,nic,λout hp hs=>⟨rfl,q out ⟨ks,hk,hp,hs,λl hl=>nic l (hp.mem_iff.mp hl)⟩⟩⟩
end
abbrev e0:En:=(0,[])
def yJ{ws:List Int}{bs bs':List En}{top rest:Nat}(h:∀m,m<=rest->bs.getD m e0=bs'.getD m e0):bwF ws bs top rest=bwF ws bs' top rest:=by
 have hs:bV ws bs top rest=bV ws bs' top rest:=by
  funext f s
  unfold bV
  rw[h (rest - s) (by omega)]
 unfold bwF
 rw[hs,h rest (Ë _)]
def o8{α:Type}{l m:List α}{i:Nat}{d:α}(h:i<l.length):(l++m).getD i d=l.getD i d:=by
 rw[Ï,Ï,ó h]
def getD_last{α:Type}{l:List α}{x d:α}{i:Nat}(h:i=l.length):(l++[x]).getD i d=x:=by
 subst h
 rw[Ï,è (Ë _),Nat.sub_self]
 rfl
def kj(ws:List Int)(bs:List En)(top:Nat):∀i,(dg ws bs top i).length=bs.length+i
 |0=>rfl
 |i+1=>by
  show(dg ws bs top i++[_]).length=_
  rw[È,kj,Õ]
  omega
def nO(ws:List Int):∀j,(grow ws j).length=2 ^ j
 |0=>rfl
 |j+1=>by
  show(dg ws (grow ws j) (2 ^ j) (2 ^ j)).length=_
  rw[kj,nO,Ţ]
  omega
def o7{ws:List Int}{bs:List En}{top m:Nat}(h:m<bs.length):∀i,(dg ws bs top i).getD m e0=bs.getD m e0
 |0=>rfl
 |i+1=>by
  show(dg ws bs top i++[_]).getD m e0=_
  rw[o8 (by rw[kj];omega),o7 h i]
def yr{ws:List Int}{bs:List En}{top:Nat}(hb:bs.length=top)(h1:1<=top):∀i r,r<i->i<=top->(dg ws bs top i).getD (r+top) e0=bwF ws (dg ws bs top i) top r
 |0,r,h,_=>by omega
 |i+1,r,h,hi=>by
  have ln:=kj ws bs top i
  show(dg ws bs top i++[bwF ws (dg ws bs top i) top i]).getD (r+top) e0=bwF ws (dg ws bs top i++[bwF ws (dg ws bs top i) top i]) top r
  have cg:bwF ws (dg ws bs top i++[bwF ws (dg ws bs top i) top i]) top r=bwF ws (dg ws bs top i) top r:=yJ λm hm=>o8 (by omega)
  rw[cg]
  rcases Ś r i with z|z
  ·rw[o8 (by omega)]
   exact yr hb h1 i r z (by omega)
  ·have:r=i:=by omega
   subst this
   exact getD_last (by omega)
def uw(ws:List Int):∀n,(grow ws n).getD 0 e0=e0
 |0=>rfl
 |n+1=>by
  have:=ť n
  show(dg ws (grow ws n) (2 ^ n) (2 ^ n)).getD 0 e0=e0
  rw[o7 (by rw[nO];exact this)]
  exact uw ws n
def ux(ws:List Int):∀n j r,j<n->r<2 ^ j->(grow ws n).getD (r+2 ^ j) e0=bwF ws (grow ws n) (2 ^ j) r
 |0,j,r,h,_=>by omega
 |n+1,j,r,h,hr=>by
  have p1:=ť n
  have p2:=ť j
  rcases Ś j n with z|z
  ·have pl:2 ^ (j+1)<=2 ^ n:=ð (by decide) (by omega)
   rw[Ţ] at pl
   have pre:∀m,m<2 ^ n->(grow ws (n+1)).getD m e0=(grow ws n).getD m e0:=λm hm=>o7 (by rw[nO];exact hm) _
   rw[pre _ (by omega),yJ (bs:=grow ws (n+1)) (bs':=grow ws n) λm hm=>pre m (by omega)]
   exact ux ws n j r z hr
  ·have:j=n:=by omega
   subst this
   exact yr (nO ws j) p1 (2 ^ j) r hr (Ë _)
def eV(ws:List Int)(n m:Nat):Int:=((grow ws n).getD m e0).1
def rR{ws:List Int}{bs:List En}{top rest:Nat}:∀(l:List Nat) (e:En),e.1<=(l.foldl (bV ws bs top rest) e).1/\(∀s∈l,ws.getD (s+top) 0+(bs.getD (rest - s) e0).1<=(l.foldl (bV ws bs top rest) e).1)/\((l.foldl (bV ws bs top rest) e).1=e.1\/∃s∈l,(l.foldl (bV ws bs top rest) e).1=ws.getD (s+top) 0+(bs.getD (rest - s) e0).1)
 |[],e=>⟨Ą _,λs h=>(nomatch h),.inl rfl⟩
 |s::l,e=>by
  obtain⟨h1,h2,h3⟩:=rR l (bV ws bs top rest e s)
  have k:e.1<=(bV ws bs top rest e s).1/\ws.getD (s+top) 0+(bs.getD (rest - s) e0).1<=(bV ws bs top rest e s).1/\((bV ws bs top rest e s).1=e.1\/(bV ws bs top rest e s).1=ws.getD (s+top) 0+(bs.getD (rest - s) e0).1):=by
   unfold bV
   by_cases c:e.1<ws.getD (s+top) 0+(bs.getD (rest - s) (0,[])).1
   ·rw[if_pos c]
    exact⟨Int.le_of_lt c,Ą _,.inr rfl⟩
   ·rw[if_neg c]
    exact⟨Ą _,by show _+(bs.getD (rest - s) (0,[])).1<=_;omega,.inl rfl⟩
  rw[List.foldl_cons]
  refine⟨Int.le_trans k.1 h1,λx hx=>?_,?_⟩
  ·rcases Ð.mp hx with rfl|hx
   ·exact Int.le_trans k.2.1 h1
   ·exact h2 x hx
  ·rcases h3 with z|⟨x,hx,z⟩
   ·rcases k.2.2 with y|y
    ·exact .inl (z.trans y)
    ·exact .inr ⟨s,Å,z.trans y⟩
   ·exact .inr ⟨x,Ä _ hx,z⟩
section
variable {ws:List Int}{n:Nat}
def tM{m n:Nat}(h0:0<m)(h:m<2 ^ n):∃j r,m=r+2 ^ j/\r<2 ^ j/\j<n:=by
 have a:=Nat.log2_self_le (n:=m) (by omega)
 have b:=Nat.lt_log2_self (n:=m)
 refine⟨m.log2,m - 2 ^ m.log2,by omega,by rw[Ţ] at b;omega,?_⟩
 rcases Ś m.log2 n with z|z
 ·exact z
 ·have:=ð (n:=2) (by decide) z
  omega
def wg(hn:n<=8){j r:Nat}(hj:j<n)(hr:r<2 ^ j):eV ws n r<=eV ws n (r+2 ^ j)/\(∀s,inB s r=true->ws.getD (s+2 ^ j) 0+eV ws n (r - s)<=eV ws n (r+2 ^ j))/\(eV ws n (r+2 ^ j)=eV ws n r\/∃s,inB s r=true/\eV ws n (r+2 ^ j)=ws.getD (s+2 ^ j) 0+eV ws n (r - s)):=by
 have p8:=Dm (show j<8 by omega)
 obtain⟨h1,h2,h3⟩:=rR (ws:=ws) (bs:=grow ws n) (top:=2 ^ j) (rest:=r) (chn 129 r r) ((grow ws n).getD r e0)
 have e:eV ws n (r+2 ^ j)=((chn 129 r r).foldl (bV ws (grow ws n) (2 ^ j) r) ((grow ws n).getD r e0)).1:=by
  unfold eV
  rw[ux ws n j r hj hr]
  rfl
 rw[e]
 refine⟨h1,λs hs=>h2 s ((nZ (by omega) s).mpr hs),?_⟩
 rcases h3 with z|⟨s,hs,z⟩
 ·exact .inl z
 ·exact .inr ⟨s,(nZ (by omega) s).mp hs,z⟩
def Lx:eV ws n 0=0:=by
 unfold eV
 rw[uw]
def Tq:allB 128 (λr=>allB (r+1) λs=>!inB s r || (r - s == r ^^^ s))=true:=by decide +kernel
def NQ{r s:Nat}(hr:r<128)(h:inB s r=true):r - s=r ^^^ s:=by
 have a:=allB_iff (allB_iff Tq r hr) s (by have:=cJ h;omega)
 rw[h] at a
 simpa using a
def pP{s r:Nat}:inB s r=true↔∀i,s.testBit i=true->r.testBit i=true:=by
 rw[eG]
 constructor
 ·intro h i hi
  rw[←h,Nat.testBit_and,Ù] at hi
  exact hi.2
 ·intro h
  refine Nat.eq_of_testBit_eq λi=>?_
  rw[Nat.testBit_and]
  cases c:s.testBit i with
  |false=>rfl
  |true=>rw[h i c];rfl
def Ua{r s t:Nat}(hr:r<128)(hs:inB s r=true)(ht:inB t (r - s)=true):inB t r=true/\inB s (r - t)=true:=by
 have h1:inB t r=true:=pP.mpr λi hi=>pP.mp (NT hr hs).2 i (pP.mp ht i hi)
 refine⟨h1,?_⟩
 rw[NQ hr h1]
 rw[NQ hr hs] at ht
 refine pP.mpr λi hi=>?_
 have a:=pP.mp hs i hi
 rw[Nat.testBit_xor,a]
 cases c:t.testBit i with
 |false=>rfl
 |true =>
  have b:=pP.mp ht i c
  rw[Nat.testBit_xor,a,hi] at b
  cases b
def QB(hn:n<=8)(h0:ws.getD 0 0=0):∀m,m<2 ^ n->∀s,inB s m=true->ws.getD s 0+eV ws n (m - s)<=eV ws n m:=by
 intro m
 induction m using Nat.strongRecOn with
 |_ m ih =>
  intro hm s hs
  by_cases z:m=0
  ·subst z
   have:s=0:=by have:=cJ hs;omega
   subst this
   rw[h0]
   show 0+eV ws n 0<=_
   omega
  ·obtain⟨j,r,rfl,hr,hj⟩:=tM (by omega) hm
   have p8:=Dm (show j<8 by omega)
   have sl:=cJ hs
   obtain⟨r1,r2,r3⟩:=wg (ws:=ws) hn hj hr
   rcases T9 (by omega) hr (by rw[Ţ];omega) hs with ⟨c,z⟩|⟨c,z⟩
   ·have zl:=cJ z
    obtain⟨q1,q2,q3⟩:=wg (ws:=ws) hn hj (show r - s<2 ^ j by omega)
    have em:r+2 ^ j - s=(r - s)+2 ^ j:=by omega
    rw[em]
    rcases q3 with y|⟨t,ht,y⟩
    ·rw[y]
     have:=ih r (by omega) (by omega) s z
     omega
    ·rw[y]
     obtain⟨t1,t2⟩:=Ua (by omega) z ht
     have:=ih (r - t) (by have:=cJ t1;omega) (by omega) s t2
     have:=r2 t t1
     have e:r - s - t=r - t - s:=by omega
     rw[e]
     omega
   ·have:=r2 _ z
    rw[show s - 2 ^ j+2 ^ j=s by omega,show r - (s - 2 ^ j)=r+2 ^ j - s by omega] at this
    exact this
def TQ(hn:n<=8):∀m,m<2 ^ n->0<=eV ws n m:=by
 intro m
 induction m using Nat.strongRecOn with
 |_ m ih =>
  intro hm
  by_cases z:m=0
  ·subst z
   rw[Lx]
   exact Ą _
  ·obtain⟨j,r,rfl,hr,hj⟩:=tM (by omega) hm
   have:=(wg (ws:=ws) hn hj hr).1
   have:=ih r (by omega) (by omega)
   omega
end
def JR(l:List Int):iK (iD l)=l:=uL l
def Ls{n:Int}{L:List (List Int)}(h:∀l∈L,Proper n l)(nd:L.flatten.Nodup):Tp n (.list (L.map iD))=true:=by
 show((L.map iD).all (cu n)&&zO ((L.map iD).flatMap iK))=true
 have e1:(L.map iD).all (cu n)=true:=ĝ.mpr λd hd=>by
  obtain⟨l,hl,rfl⟩:=ç.mp hd
  exact qP (h l hl)
 have e2:(L.map iD).flatMap iK=L.flatten:=by
  rw[List.flatMap_map]
  have:(λl=>iK (iD l))=id:=funext JR
  rw[this,List.flatMap_id]
 rw[e1,e2]
 show zO L.flatten=true
 exact decide_eq_true ((qX _).mpr nd)
def Nx(ds:List D)(P:D->Prop):Prop:=∃(n:Int) (us:List Tie) (L:List (List Int)),ds=[aG n us,.list (L.map iD)]/\n<=16/\L.length<=60/\(∀l∈L,Proper n l)/\L.flatten.Nodup/\P .none
def Bc{N k:Nat}{W:List Int->Int}(k0:0<k)(k1:k+1<2 ^ N):(iI N W).getD k 0=W (setOf N ((k:Nat):Int))/\setOf N ((k:Nat):Int)∈((subs N).drop 1).dropLast:=by
 have e:=(uV (n:=N) (k:=((k:Nat):Int)) (by rw[é];omega)).1
 rw[é] at e
 have em:(((subs N).drop 1).dropLast)[k - 1]?=some (setOf N ((k:Nat):Int)):=by
  rw[List.dropLast_eq_take,List.getElem?_take_of_lt (by rw[Ĉ,bC];omega),List.getElem?_drop,show 1+(k - 1)=k by omega]
  exact e
 refine⟨?_,Ò em⟩
 unfold iI
 rw[Ï,show k=(k - 1)+1 by omega,List.getElem?_cons_succ,ó (by rw[À,Ĳ,Ĉ,bC];omega),Þ,em]
 rw[show k - 1+1=k by omega]
 rfl
def GF{a b:List Int}(h:a.Perm b):a.sum=b.sum:=by
 induction h with
 |nil=>rfl
 |cons x _ ih=>rw[ċ,ċ,ih]
 |swap x y l=>rw[ċ,ċ,ċ,ċ];omega
 |trans _ _ h1 h2=>exact h1.trans h2
def kI{N:Nat}{W:List Int->Int}{out:List (List Int)}(n1:1<=N)(n8:N<=8)(h:jr N W out):(∀l∈out,Proper ((N:Nat):Int) l)/\out.flatten.Nodup/\out.length<=60:=by
 obtain⟨ks,ha,hp,_⟩:=h
 have kr:∀k∈ks,∃q:Nat,k=((q:Nat):Int)/\0<q/\q+1<2 ^ N:=λk hk=>by
  have:=ha.rng k hk
  exact⟨k.toNat,by omega,by omega,by omega⟩
 have mem:∀l∈out,∃q:Nat,l=setOf N ((q:Nat):Int)/\0<q/\q+1<2 ^ N:=λl hl=>by
  obtain⟨k,hk,rfl⟩:=ç.mp (hp.mem_iff.mp hl)
  obtain⟨q,rfl,a,b⟩:=kr k hk
  exact⟨q,rfl,a,b⟩
 have pr:∀l∈out,Proper ((N:Nat):Int) l:=λl hl=>by
  obtain⟨q,rfl,a,b⟩:=mem l hl
  exact fL n1 n8 (Bc (W:=W) a b).2
 have ll:out.length<=60:=by rw[hp.length_eq,À];have:=ha.len;omega
 refine⟨pr,?_,ll⟩
 refine(hp.flatten).nodup_iff.mpr (List.pairwise_flatten.mpr ⟨λl hl=>?_,?_⟩)
 ·have:=(pr l (hp.mem_iff.mpr hl)).rise
  exact this.imp λz=>by omega
 ·exact List.pairwise_map.mpr (ha.apart.imp λz x hx y hy (e:x=y)=>z x hx (by rw[e];exact hy))
def Jk{N:Nat}{W:List Int->Int}{a b:List (List Int)}(ha:jr N W a)(hb:jr N W b):a=b:=by
 obtain⟨k1,h1,p1,s1,n1⟩:=ha
 obtain⟨k2,h2,p2,s2,n2⟩:=hb
 have e:k1=k2:=h1.is.trans h2.is.symm
 subst e
 exact Er (p1.trans p2.symm) s1 s2 n1
def kE{N:Nat}{W:List Int->Int}{out:List (List Int)}(h:jr N W out):(out.map W).sum=eV (iI N W) N (2 ^ N - 1):=by
 obtain⟨ks,ha,hp,_⟩:=h
 have e:(out.map W).sum=sO (iI N W) ks:=by
  rw[GF (hp.map W)]
  unfold sO
  rw[ô]
  congr 1
  refine Ğ λk hk=>?_
  have:=ha.rng k hk
  obtain⟨q,rfl⟩:∃q:Nat,k=((q:Nat):Int):=⟨k.toNat,by omega⟩
  rw[é,(Bc (by omega) (by omega)).1]
  rfl
 rw[e,ha.tot]
 rfl
def WO(us:List Tie)(fa:Int)(s:Str)(l:List Int):Int:=nd1 fa (byS us s l)
def LR(us:List Tie)(fa:Int)(s:Str)(l:List Int):0<=WO us fa s l:=by
 unfold WO nd1
 split <;> omega
def Ft{us:List Tie}{fa:Int}(h0:0<=fa)(h1:fa<=10)(s:Str)(l:List Int):-1000000<=WO us fa s l/\WO us fa s l<=1000000:=by
 unfold WO nd1
 split <;> omega
def fOB(ds:List D)(P:D->Prop):Prop:=∃(n:Int) (us:List Tie) (fa:Int) (s:Str) (L:List (List Int)),ds=[aG n us,.int fa,.str s,.list (L.map iD)]/\n<=16/\us.length<=100/\0<=fa/\fa<=10/\L.length<=60/\(∀l∈L,Proper n l)/\L.flatten.Nodup/\P (.int (L.map (WO us fa s)).sum)
section
variable {P:Program}{w:World}{K:Ú}{mg:Str->Option Value}{base:Heap}{f:Addr}{fd:FuncData}{CN:Addr}
def jm:FnScope ["web","thing"] ["web","thing"] (ao (top 18)):=zC
def qd(F:Fun K "check_family" "check_family" (top 18) f fd)(B:Ļ mg)(C_is_family:Ā P w K mg base 5 "is_family" ["n","thing"] (spD TJ)):FnOk P w K mg base CX0 6 f fd ["web","thing"] (spD Nx):=by
 refine F.ok jm ĭ (λcdv A outer s H vs Q E hr h=>?_)
 have nd:=jm.nd
 refine⟨_,Ģ (ý (Wr.dz (Ő (ŏ (Ũ C_is_family hr (Á (Ć (Ì 0) Û) (Á (Ì 1) É))))) (ý Wr.nW) Ĺ)),aW h ?_⟩
 rintro ds P ⟨n,us,L,rfl,n16,ll,hL,nd,q⟩
 refine⟨[.im (aG n us),.sh (.list (L.map iD))],by show [bG (aG n us),_]=_;rw[cH];rfl,?_⟩
 refine⟨.int n,rfl,n,.list (L.map iD),rfl,λes e=>?_,n16,?_⟩
 ·cases e
  refine⟨by rw[À];exact ll,λe he=>?_⟩
  obtain⟨l,hl,rfl⟩:=ç.mp he
  intro es e2
  cases e2
  rw[À]
  have:=(hL l hl).few
  omega
 ·rw[Ls hL nd]
  exact aM (A:=True) q
def mD:FnScope ["one","falls","side","family"] ["one","falls","side","family"] (ao (top 27)):=zC
def rE:(["some","one","falls","side","family"]:List Str).Nodup:=by decide +kernel
def vD(F:Fun K "one_bound" "one_bound" (top 27) f fd)(B:Ļ mg)(m_sum:mg "sum"=none)(C_check_family:Ā P w K mg base 6 "check_family" ["web","thing"] (spD Nx))(C_one_need:Ā P w K mg base 9 "one_need" ["one","falls","side","some"] (spD fON)):FnOk P w K mg base CX0 10 f fd ["one","falls","side","family"] (spD fOB):=by
 refine F.ok mD ĭ (λcdv A outer s H vs Q E hr h=>?_)
 have nd:=mD.nd
 refine⟨_,Ģ (ä (Wr.qz (Ũ C_check_family hr (Á (Ì 0) (Á (Ì 3) É))))
  (ý (Ď (Wr.qm rfl m_sum (Á (ŧ ["some"] rfl (ğ (Ì 3)) (λc=>(ò (i:=0) rE rfl zQ)) (λc=>ĸ) (λc=>(Ũ C_one_need hr (Á (Ì 1) (Á (Ì 2) (Á (Ì 3) (Á (Ì 0) É))))))) É))))),aW h ?_⟩
 rintro ds P ⟨n,us,fa,s,L,rfl,n16,lu,h0,h1,ll,hL,nd,q⟩
 refine⟨[.im (aG n us),.im (.int fa),.im (.str s),.sh (.list (L.map iD))],by show [bG (aG n us),_,_,_]=_;rw[cH];rfl,?_⟩
 refine⟨n,us,L,rfl,n16,ll,hL,nd,?_⟩
 refine oZ L iD (λl=>.int (WO us fa s l)) .imm rfl (by omega) (λl hl A B h=>aN (B:=True) ⟨n,us,fa,s,l,rfl,hL l hl,lu,rfl,h⟩) ?_
 refine⟨L.map (WO us fa s),by rw[ô];rfl,by rw[À];omega,λx hx=>?_,rfl,q⟩
 obtain⟨l,_,rfl⟩:=ç.mp hx
 exact Ft h0 h1 s l
end
abbrev Spr:=List (List Int×Int)
def mb(l:List Int)(v:Int):Bool:=decide (v∈l)
def psN(n:Nat):List (List Int):=((subs n).drop 1).dropLast
def oY(n:Nat)(X:Int->Bool):List Int:=(lM n).filter X
abbrev RgT(n:Nat)(us:List Tie):Prop:=∀t∈us,(0<=t.1/\t.1<(n:Int))/\(0<=t.2/\t.2<(n:Int))
abbrev RgE(n:Nat)(es:List Int):Prop:=∀e∈es,0<=e/\e<(n:Int)
def fM{n:Nat}{X:Int->Bool}{v:Int}(h:0<=v/\v<(n:Int)):mb (oY n X) v=X v:=by
 unfold mb oY
 rw[Č,decide_eq_true_iff,ă,jL]
 exact⟨λh=>h.2,λq=>⟨h,q⟩⟩
def Ij{n:Nat}{es:List Int}(he:RgE n es){X Y:Int->Bool}(h:∀v,0<=v/\v<(n:Int)->X v=Y v):Cut.mg es X=Cut.mg es Y:=by
 unfold Cut.mg
 refine List.countP_congr λt ht=>?_
 rw[h _ (he t ht)]
def Gx{n:Nat}{l:List Int}(h:Proper ((n:Nat):Int) l):Cut.Prp n (mb l):=by
 refine⟨?_,?_⟩
 ·cases l with
  |nil=>have:=h.one;simp at this
  |cons v r=>exact⟨v,h.rng v Å,decide_eq_true Å⟩
 ·apply ħ
  intro hn
  have all:∀x∈lM n,x∈l:=λx hx=>by
   apply ħ
   intro hx2
   exact hn ⟨x,jL.mp hx,decide_eq_false hx2⟩
  have nd:(lM n).Nodup:=by
   unfold lM
   exact List.Pairwise.map _ (λa b hab h=>hab (by omega)) List.nodup_range
  have:=nd.length_le_of_subset all
  have fw:=h.few
  unfold lM at this
  rw[À,ŗ] at this
  omega
def lN{n:Nat}(n1:1<=n)(n8:n<=8){l:List Int}(h:l∈psN n):Cut.Prp n (mb l):=Gx (fL n1 n8 h)
def Cq{n:Nat}(n8:n<=8){X:Int->Bool}(h:Cut.Prp n X):∃q:Nat,0<q/\q+1<2 ^ n/\setOf n ((q:Nat):Int)=oY n X/\∀i,i<n->q.testBit i=X ((i:Nat):Int):=by
 obtain⟨q,hq⟩:=Ń (vW X n)
 have hl:=(Ê.mp hq).1
 rw[bC] at hl
 have es:setOf n ((q:Nat):Int)=oY n X:=by
  unfold setOf
  rw[é,Ï,hq]
  rfl
 have sb:(subs n).getD q []=((Ý n).filter (λi=>q.testBit i)).map λi:Nat=>0+((i:Nat):Int):=beq_iff_eq.mp (allB_iff (allB_iff Nm n (by omega)) q hl)
 have tb:∀i,i<n->q.testBit i=X ((i:Nat):Int):=λi hi=>by
  have e:(((Ý n).filter (λi=>q.testBit i)).map λi:Nat=>0+((i:Nat):Int))=oY n X:=by
   rw[←sb,←es]
   unfold setOf
   rw[é]
  have m:=congrArg (λl=>mb l ((i:Nat):Int)) e
  have m:mb (((Ý n).filter (λi=>q.testBit i)).map λi:Nat=>0+((i:Nat):Int)) ((i:Nat):Int)=mb (oY n X) ((i:Nat):Int):=m
  rw[fM (by omega)] at m
  rw[←m]
  unfold mb
  rw[Č,decide_eq_true_iff,ç]
  constructor
  ·exact λh=>⟨i,ă.mpr ⟨ĥ.mpr hi,h⟩,by omega⟩
  ·rintro⟨j,hj,e⟩
   have:j=i:=by omega
   subst this
   exact(ă.mp hj).2
 refine⟨q,?_,?_,es,tb⟩
 ·obtain⟨v,⟨v0,v1⟩,hv⟩:=h.ins
  rcases Nat.eq_zero_or_pos q with z|z
  ·subst z
   have:=tb v.toNat (by omega)
   rw[Nat.zero_testBit,show((v.toNat:Nat):Int)=v by omega,hv] at this
   cases this
  ·exact z
 ·obtain⟨v,⟨v0,v1⟩,hv⟩:=h.out
  rcases Ś (q+1) (2 ^ n) with z|z
  ·exact z
  ·have e:q=2 ^ n - 1:=by omega
   have:=tb v.toNat (by omega)
   rw[e,Nat.testBit_two_pow_sub_one,show((v.toNat:Nat):Int)=v by omega,hv,decide_eq_true (by omega)] at this
   cases this
def zV{n:Nat}(n8:n<=8){X:Int->Bool}(h:Cut.Prp n X):oY n X∈psN n:=by
 obtain⟨q,q0,q1,e,_⟩:=Cq n8 h
 rw[←e]
 exact(Bc (W:=λ_=>0) q0 q1).2
def Qx:allB 256 (λr=>allB (r+1) λs=>!inB s r || (r - s == r ^^^ s))=true:=by decide +kernel
def Q0{r s:Nat}(hr:r<256)(h:inB s r=true):r - s=r ^^^ s:=by
 have a:=allB_iff (allB_iff Qx r hr) s (by have:=cJ h;omega)
 rw[h] at a
 simpa using a
def Jq{n:Nat}{ws:List Int}(n8:n<=8)(h0:ws.getD 0 0=0):∀(qs:List Nat) (m:Nat),m<2 ^ n->(∀q∈qs,inB q m=true)->qs.Pairwise (λa b=>a &&& b=0)->(qs.map λq=>ws.getD q 0).sum<=eV ws n m
 |[],m,hm,_,_=>TQ n8 m hm
 |q::qs,m,hm,hi,hp=>by
  have p8:2 ^ n<=256:=ð (n:=2) (by decide) n8
  have iq:=hi q Å
  have hp:=List.pairwise_cons.mp hp
  have:=Jq n8 h0 qs (m - q) (by omega) (λx hx=>by
   rw[Q0 (by omega) iq]
   refine pP.mpr λi hx2=>?_
   have a:=pP.mp (hi x (Ä _ hx)) i hx2
   have b:=congrArg (λv=>Nat.testBit v i) (hp.1 x hx)
   simp only[Nat.testBit_and,Nat.zero_testBit,hx2,Bool.and_true] at b
   rw[Nat.testBit_xor,a,b]
   rfl) hp.2
  have s:=QB n8 h0 m hm q iq
  rw[æ,ċ]
  omega
def wV{α:Type}(l:List α)(f:α->Nat):(l.map λx=>((f x:Nat):Int)).sum=(((l.map f).sum:Nat):Int):=by
 induction l with
 |nil=>rfl
 |cons x l ih=>rw[æ,ċ,æ,ċ,ih];omega
structure Side(n:Nat)(us:List Tie)(s:Str)(d:(Int->Bool)->Nat):Prop where
 eq:∀{X Y:Int->Bool},(∀v,0<=v/\v<(n:Int)->X v=Y v)->d X=d Y
 by_:∀l,d (mb l)=byS us s l
def Ni(us:List Tie)(l:List Int):Cut.di us (mb l)=inN us l:=by
 unfold Cut.di inN
 rw[←List.countP_eq_length_filter]
 rfl
def O9(us:List Tie)(l:List Int):Cut.dO us (mb l)=Ds us l:=by
 unfold Cut.dO Ds
 rw[←List.countP_eq_length_filter]
 rfl
def iM{n:Nat}{us:List Tie}(hu:RgT n us):Side n us "in" (Cut.di us):=⟨λ{X Y} h=>by
 unfold Cut.di
 refine List.countP_congr λt ht=>?_
 obtain⟨a,b⟩:=hu t ht
 rw[h _ a,h _ b],λl=>by
 unfold byS
 rw[if_pos rfl,Ni]⟩
def fC{n:Nat}{us:List Tie}(hu:RgT n us):Side n us "out" (Cut.dO us):=⟨λ{X Y} h=>by
 unfold Cut.dO
 refine List.countP_congr λt ht=>?_
 obtain⟨a,b⟩:=hu t ht
 rw[h _ a,h _ b],λl=>by
 unfold byS
 rw[if_neg (by decide +kernel),O9]⟩
def Q8{n k:Nat}{us:List Tie}{s:Str}{d:(Int->Bool)->Nat}(S:Side n us s d)(l:List Int):WO us ((k:Int) - 1) s l=((k - d (mb l):Nat):Int):=by
 unfold WO nd1
 rw[S.by_]
 split <;> omega
def jg{n k:Nat}{us:List Tie}{s:Str}{d:(Int->Bool)->Nat}(n1:1<=n)(n8:n<=8)(S:Side n us s d){Gs:List (Int->Bool)}(hd:Gs.Pairwise (Cut.Dj n))(hp:∀X∈Gs,Cut.Prp n X) :
  (((Gs.map λX=>k - d X).sum:Nat):Int)<=eV (iI n (WO us ((k:Int) - 1) s)) n (2 ^ n - 1):=by
 have p2:=iJ n1 n8
 have gen:∀Gs:List (Int->Bool),Gs.Pairwise (Cut.Dj n)->(∀X∈Gs,Cut.Prp n X)->∃qs:List Nat,(∀q∈qs,(0<q/\q+1<2 ^ n)/\∃X∈Gs,∀i,i<n->q.testBit i=X ((i:Nat):Int))/\qs.Pairwise (λa b=>a &&& b=0)/\(qs.map λq=>(iI n (WO us ((k:Int) - 1) s)).getD q 0)=Gs.map λX=>((k - d X:Nat):Int):=λGs hd=>by
  induction hd with
  |nil=>intro _;exact⟨[],λq h=>(nomatch h),.nil,rfl⟩
  |@cons X l hX hl ih =>
   intro hp
   obtain⟨qs,h1,h2,h4⟩:=ih λY hY=>hp Y (Ä _ hY)
   obtain⟨q,q0,q1,e,tb⟩:=Cq n8 (hp X Å)
   refine⟨q::qs,λx hx=>?_,.cons (λx hx=>?_) h2,?_⟩
   ·rcases Ð.mp hx with rfl|hx
    ·exact⟨⟨q0,q1⟩,X,Å,tb⟩
    ·obtain⟨a,Y,hY,b⟩:=h1 x hx
     exact⟨a,Y,Ä _ hY,b⟩
   ·obtain⟨⟨_,xl⟩,Y,hY,b⟩:=h1 x hx
    refine Nat.eq_of_testBit_eq λi=>?_
    rw[Nat.testBit_and,Nat.zero_testBit]
    rcases Ś i n with z|z
    ·rw[tb i z,b i z]
     cases c:X ((i:Nat):Int) with
     |false=>rfl
     |true=>rw[hX Y hY _ (by omega) c];rfl
    ·have:q.testBit i=false:=Nat.testBit_lt_two_pow (ã (show q<2 ^ n by omega) (ð (by decide) z))
     rw[this]
     rfl
   ·rw[æ,æ,h4,(Bc q0 q1).1,e,Q8 S,S.eq λv hv=>fM hv]
 obtain⟨qs,h1,h2,h4⟩:=gen Gs hd hp
 have h0:(iI n (WO us ((k:Int) - 1) s)).getD 0 0=0:=rfl
 have:=Jq (ws:=iI n (WO us ((k:Int) - 1) s)) n8 h0 qs (2 ^ n - 1) (by omega) (λq hq=>eG.mpr (by
  have:=(h1 q hq).1
  rw[Nat.and_two_pow_sub_one_eq_mod,Nat.mod_eq_of_lt (by omega)])) h2
 rw[h4,wV] at this
 exact this
def sH{n k:Nat}{us:List Tie}{s:Str}{d:(Int->Bool)->Nat}{es:List Int}{out:List (List Int)}(n1:1<=n)(n8:n<=8)(S:Side n us s d)(he:RgE n es)(hC:∀X,Cut.Prp n X->k<=d X+Cut.mg es X)(ho:jr n (WO us ((k:Int) - 1) s) out):(out.map (WO us ((k:Int) - 1) s)).sum<=((es.length:Nat):Int):=by
 obtain⟨pr,nd,ll⟩:=kI n1 n8 ho
 have e:out.map (WO us ((k:Int) - 1) s)=(out.map mb).map λX=>((k - d X:Nat):Int):=by
  rw[ô]
  exact Ğ λl _=>Q8 S l
 have dj:(out.map mb).Pairwise (Cut.Dj n):=List.pairwise_map.mpr ((List.pairwise_flatten.mp nd).2.imp λh v _ ha=>decide_eq_false λhb=>h v (of_decide_eq_true ha) v hb rfl)
 rw[e,wV]
 have a:=(Cut.Gb he dj).1
 have b:((out.map mb).map λX=>k - d X).sum<=((out.map mb).map λX=>Cut.mg es X).sum:=by
  have hp:∀X∈out.map mb,Cut.Prp n X:=λX hX=>by
   obtain⟨l,hl,rfl⟩:=ç.mp hX
   exact Gx (pr l hl)
  have gen:∀M:List (Int->Bool),(∀X∈M,Cut.Prp n X)->(M.map λX=>k - d X).sum<=(M.map λX=>Cut.mg es X).sum:=λM=>by
   induction M with
   |nil=>intro _;exact Ë _
   |cons X l ih =>
    intro hp
    rw[æ,æ,ċ,ċ]
    have:=ih λY hY=>hp Y (Ä _ hY)
    have:=hC X (hp X Å)
    omega
  exact gen _ hp
 omega
def dE(d:(Int->Bool)->Nat)(es:List Int)(X:Int->Bool):Nat:=d X+Cut.mg es X
@[reducible] def DEq(n:Nat)(d:(Int->Bool)->Nat):Prop:=∀{X Y:Int->Bool},(∀v,0<=v/\v<(n:Int)->X v=Y v)->d X=d Y
def mnF(k:Int):List Int->Int
 |[]=>k
 |x::l=>if x<mnF k l then x else mnF k l
def vI(k:Int):∀l,mnF k l∈k::l
 |[]=>Å
 |x::l=>by
  show(if x<mnF k l then x else mnF k l)∈_
  split
  ·exact Ä _ Å
  ·rcases Ð.mp (vI k l) with z|z
   ·rw[z];exact Å
   ·exact Ä _ (Ä _ z)
def xZ(k:Int):∀l,∀a∈k::l,mnF k l<=a
 |[],a,h=>by rw[Ö.mp h];exact Ą _
 |x::l,a,h=>by
  show(if x<mnF k l then x else mnF k l)<=a
  have ih:=xZ k l
  rcases Ð.mp h with rfl|h
  ·have:=ih a Å
   split <;> omega
  ·rcases Ð.mp h with rfl|h
   ·split <;> omega
   ·have:=ih a (Ä _ h)
    split <;> omega
def KZ{k M:Int}{l:List Int}(h1:M∈k::l)(h2:∀a∈k::l,M<=a):M=mnF k l:=by
 have a:=h2 _ (vI k l)
 have b:=xZ k l M h1
 omega
def aY(n:Nat)(d:(Int->Bool)->Nat):Spr:=(psN n).map λl=>(l,((d (mb l):Nat):Int))
def aD(n k:Nat)(d:(Int->Bool)->Nat)(es:List Int):Spr:=(psN n).map λl=>(l,((dE d es (mb l):Nat):Int) - (k:Int))
def Df(rows:Spr)(es:List Int)(k:Int):Spr:=rows.map λr=>(r.1,r.2+(((es.filter (mb r.1)).length:Nat):Int) - k)
def jo(sp:Spr)(v:Int)(k:Int):Int:=mnF k ((sp.filter λr=>mb r.1 v).map (·.2))
def pO(sp:Spr)(v lost:Int):Spr:=sp.map λr=>(r.1,if mb r.1 v=true then r.2 - lost else r.2)
def dW(sp0:Spr)(k:Int):Nat->Spr×List Int
 |0=>(sp0,[])
 |i+1=>(pO (dW sp0 k i).1 i (jo (dW sp0 k i).1 i k),(dW sp0 k i).2++Æ (k - jo (dW sp0 k i).1 i k).toNat ((i:Nat):Int))
def rst(n k i:Nat):List Int:=((Ý n).drop i).flatMap λv=>Æ k ((v:Nat):Int)
def iy(n k:Nat)(rows:Spr):List Int:=(dW (Df rows (rst n k 0) k) k n).2
def uO(n k:Nat)(d:(Int->Bool)->Nat)(es:List Int):Df (aY n d) es k=aD n k d es:=by
 unfold Df aY aD
 rw[ô]
 refine Ğ λl _=>?_
 show(l,((d (mb l):Nat):Int)+(((es.filter (mb l)).length:Nat):Int) - (k:Int))=_
 rw[←List.countP_eq_length_filter]
 unfold dE Cut.mg
 simp
def lX(a b:List Int)(X:Int->Bool):Cut.mg (a++b) X=Cut.mg a X+Cut.mg b X:=List.countP_append
def zT(m:Nat)(v:Int)(X:Int->Bool):Cut.mg (Æ m v) X=if X v=true then m else 0:=by
 unfold Cut.mg
 rw[List.countP_replicate]
def Gm{n k i:Nat}(h:i<n):rst n k i=Æ k ((i:Nat):Int)++rst n k (i+1):=by
 unfold rst
 rw[Ŕ (by rw[ŗ];exact h),List.flatMap_cons,List.getElem_range]
def J5(n k:Nat):rst n k n=[]:=by
 unfold rst
 rw[List.drop_of_length_le (by rw[ŗ];exact Ë _)]
 rfl
def Gk(n k i:Nat):RgE n (rst n k i):=λe he=>by
 unfold rst at he
 obtain⟨v,hv,hm⟩:=List.mem_flatMap.mp he
 have:=ĥ.mp (List.mem_of_mem_drop hv)
 rw[(Ľ.mp hm).2]
 omega
def RN{n k:Nat}{X:Int->Bool}(h:Cut.Prp n X):k<=Cut.mg (rst n k 0) X:=by
 obtain⟨v,⟨v0,v1⟩,hv⟩:=h.ins
 have m:v.toNat∈Ý n:=ĥ.mpr (by omega)
 obtain⟨s,t,e⟩:=List.append_of_mem m
 unfold rst
 rw[List.drop_zero,e,List.flatMap_append,List.flatMap_cons,lX,lX,zT,show((v.toNat:Nat):Int)=v by omega,if_pos hv]
 omega
def P0{n k:Nat}{d:(Int->Bool)->Nat}{es:List Int}(n8:n<=8)(hu:DEq n d)(he:RgE n es){X:Int->Bool}(h:Cut.Prp n X):(oY n X,((dE d es X:Nat):Int) - (k:Int))∈aD n k d es:=by
 refine ç.mpr ⟨oY n X,zV n8 h,?_⟩
 unfold dE
 rw[hu λv hv=>fM hv,Ij he λv hv=>fM hv]
structure FewP(n k:Nat)(d:(Int->Bool)->Nat)(L E:List Int):Prop where
 rg:RgE n E
 C:∀X,Cut.Prp n X->k<=dE d E X
 tg:∀v∈L,∃X,Cut.Prp n X/\X v=true/\dE d E X=k
def qy{n k:Nat}{d:(Int->Bool)->Nat}(n1:1<=n)(n8:n<=8)(hu:DEq n d):∀i,i<=n->∃L:List Int,dW (aD n k d (rst n k 0)) k i=(aD n k d (L++rst n k i),L)/\FewP n k d L (L++rst n k i)/\L.Pairwise (·<=·)/\(∀v∈L,v<(i:Int))/\L.length<=i * k
 |0,_=>⟨[],rfl,⟨Gk n k 0,λX hX=>by have:=RN (k:=k) hX;unfold dE;rw[List.nil_append];omega,λv h=>(nomatch h)⟩,.nil,λv h=>(nomatch h),ú _⟩
 |i+1,hi=>by
  obtain⟨L,e,F,so,lt,ln⟩:=qy n1 n8 hu i (by omega)
  have hin:i<n:=by omega
  generalize hlost:jo (aD n k d (L++rst n k i)) ((i:Nat):Int) (k:Int)=lost
  have l1:lost<=(k:Int):=by rw[←hlost];exact xZ _ _ _ Å
  have l2:∀X,Cut.Prp n X->X ((i:Nat):Int)=true->lost<=((dE d (L++rst n k i) X:Nat):Int) - (k:Int):=λX hX hXi=>by
   rw[←hlost]
   refine xZ _ _ _ (Ä _ (ç.mpr ⟨_,ă.mpr ⟨P0 n8 hu F.rg hX,?_⟩,rfl⟩))
   rw[fM (by omega),hXi]
  have l3:lost=(k:Int)\/∃l∈psN n,mb l ((i:Nat):Int)=true/\lost=((dE d (L++rst n k i) (mb l):Nat):Int) - (k:Int):=by
   have:=vI (k:Int) (((aD n k d (L++rst n k i)).filter λr=>mb r.1 ((i:Nat):Int)).map (·.2))
   rw[show mnF (k:Int) (((aD n k d (L++rst n k i)).filter λr=>mb r.1 ((i:Nat):Int)).map (·.2))=lost from hlost] at this
   rcases Ð.mp this with z|z
   ·exact .inl z
   ·obtain⟨r,hr,e⟩:=ç.mp z
    obtain⟨h1,h2⟩:=ă.mp hr
    obtain⟨l,hl,rfl⟩:=ç.mp h1
    exact .inr ⟨l,hl,h2,e.symm⟩
  have l0:0<=lost:=by
   rcases l3 with z|⟨l,hl,_,z⟩
   ·omega
   ·have:=F.C _ (lN n1 n8 hl)
    omega
  obtain⟨q,rfl⟩:∃q:Nat,lost=((q:Nat):Int):=⟨lost.toNat,by omega⟩
  have qk:q<=k:=by omega
  have dd:∀X:Int->Bool,dE d ((L++Æ (k - q) ((i:Nat):Int))++rst n k (i+1)) X+(if X ((i:Nat):Int)=true then q else 0)=dE d (L++rst n k i) X:=λX=>by
   unfold dE
   rw[Gm hin,lX,lX,lX,lX,zT,zT]
   split <;> omega
  refine⟨L++Æ (k - q) ((i:Nat):Int),?_,⟨λv hv=>?_,λX hX=>?_,λv hv=>?_⟩,?_,λv hv=>?_,?_⟩
  ·show(pO (dW _ _ i).1 _ (jo (dW _ _ i).1 _ _),_++Æ ((k:Int) - jo (dW _ _ i).1 _ _).toNat _)=_
   rw[e]
   show(pO (aD n k d (L++rst n k i)) _ (jo (aD n k d (L++rst n k i)) _ _),L++Æ ((k:Int) - jo (aD n k d (L++rst n k i)) _ _).toNat _)=_
   rw[hlost,show((k:Int) - ((q:Nat):Int)).toNat=k - q by omega]
   refine Prod.ext ?_ rfl
   show pO _ _ _=aD _ _ _ _
   unfold pO aD
   rw[ô]
   refine Ğ λl _=>?_
   have:=dd (mb l)
   refine Prod.ext rfl ?_
   show(if mb l ((i:Nat):Int)=true then ((dE d (L++rst n k i) (mb l):Nat):Int) - (k:Int) - ((q:Nat):Int) else ((dE d (L++rst n k i) (mb l):Nat):Int) - (k:Int))=((dE d ((L++Æ (k - q) ((i:Nat):Int))++rst n k (i+1)) (mb l):Nat):Int) - (k:Int)
   split
   ·rename_i c;rw[if_pos c] at this;omega
   ·rename_i c;rw[if_neg c] at this;omega
  ·rcases â.mp hv with z|z
   ·rcases â.mp z with z|z
    ·exact F.rg v (ł _ z)
    ·rw[(Ľ.mp z).2];omega
   ·exact Gk n k _ v z
  ·have a:=F.C X hX
   have b:=dd X
   by_cases c:X ((i:Nat):Int)=true
   ·have:=l2 X hX c
    rw[if_pos c] at b
    omega
   ·rw[if_neg c] at b
    omega
  ·rcases â.mp hv with z|z
   ·obtain⟨X,x1,x2,x3⟩:=F.tg v z
    refine⟨X,x1,x2,?_⟩
    have b:=dd X
    by_cases c:X ((i:Nat):Int)=true
    ·have:=l2 X x1 c
     rw[if_pos c] at b
     omega
    ·rw[if_neg c] at b
     omega
   ·obtain⟨hne,rfl⟩:=Ľ.mp z
    rcases l3 with y|⟨l,hl,y1,y2⟩
    ·omega
    ·refine⟨mb l,lN n1 n8 hl,y1,?_⟩
     have b:=dd (mb l)
     rw[if_pos y1] at b
     have:=F.C _ (lN n1 n8 hl)
     omega
  ·refine List.pairwise_append.mpr ⟨so,List.pairwise_replicate.mpr (.inr (Ą _)),λx hx y hy=>?_⟩
   rw[(Ľ.mp hy).2]
   have:=lt x hx
   omega
  ·rcases â.mp hv with z|z
   ·have:=lt v z;omega
   ·rw[(Ľ.mp z).2];omega
  ·rw[È,Ġ,Nat.add_mul]
   omega
def Ai{n k:Nat}{d:(Int->Bool)->Nat}(n1:1<=n)(n8:n<=8)(hu:DEq n d):FewP n k d (iy n k (aY n d)) (iy n k (aY n d))/\(iy n k (aY n d)).Pairwise (·<=·)/\(iy n k (aY n d)).length<=n * k:=by
 obtain⟨L,e,F,so,_,ln⟩:=qy (k:=k) n1 n8 hu n (Ë _)
 have:iy n k (aY n d)=L:=by
  unfold iy
  rw[uO,e]
 rw[this]
 rw[J5,ê] at F
 exact⟨F,so,ln⟩
def jf(sp:Spr)(a b:Int):Bool:=!decide (a=b)&&((sp.filter λr=>mb r.1 a&&mb r.1 b).map λr=>decide (1<=r.2)).all id
def ju(sp:Spr)(a b:Int):Spr:=sp.map λr=>(r.1,if (mb r.1 a&&mb r.1 b)=true then r.2 - 1 else r.2)
def ttF:Spr->List Int->List Int->List Tie
 |_,[],_=>[]
 |sp,a::R,H=>match H.find? (jf sp a) with
  |some b=>(a,b)::ttF (ju sp a b) R (H.erase b)
  |none=>[]
def Cg:Spr->List Int->List Int->Prop
 |_,[],_=>True
 |sp,a::R,H=>∃b,H.find? (jf sp a)=some b/\Cg (ju sp a b) R (H.erase b)
def bY(n k:Nat)(us:List Tie)(H T:List Int):Spr:=aD n k (Cut.di us) H++aD n k (Cut.dO us) T
def vJ{n k:Nat}{us:List Tie}{H T:List Int}{r:List Int×Int}:r∈bY n k us H T↔∃l∈psN n,r=(l,((dE (Cut.di us) H (mb l):Nat):Int) - (k:Int))\/r=(l,((dE (Cut.dO us) T (mb l):Nat):Int) - (k:Int)):=by
 unfold bY aD
 rw[List.mem_append,ç,ç]
 constructor
 ·rintro(⟨l,h,rfl⟩|⟨l,h,rfl⟩)
  ·exact⟨l,h,.inl rfl⟩
  ·exact⟨l,h,.inr rfl⟩
 ·rintro⟨l,h,rfl|rfl⟩
  ·exact .inl ⟨l,h,rfl⟩
  ·exact .inr ⟨l,h,rfl⟩
def CQ{n k:Nat}{us:List Tie}{H T:List Int}(n1:1<=n)(n8:n<=8)(hu:RgT n us)(F:Cut.Fit n k us H T){a b:Int}(ha:0<=a/\a<(n:Int))(hb:0<=b/\b<(n:Int)):jf (bY n k us H T) a b=true↔a≠b/\∀X,Cut.Prp n X->X a=true->X b=true->k+1<=Cut.di us X+Cut.mg H X/\k+1<=Cut.dO us X+Cut.mg T X:=by
 unfold jf
 rw[Ù,Bool.not_eq_true',decide_eq_false_iff_not,ĝ]
 refine and_congr Iff.rfl ⟨λh X hX xa xb=>?_,λh y hy=>?_⟩
 ·have e:(mb (oY n X) a&&mb (oY n X) b)=true:=by rw[fM ha,fM hb,xa,xb];rfl
  have h1:=h (decide (1<=((dE (Cut.di us) H (mb (oY n X)):Nat):Int) - (k:Int))) (ç.mpr ⟨_,ă.mpr ⟨vJ.mpr ⟨_,zV n8 hX,.inl rfl⟩,e⟩,rfl⟩)
  have h2:=h (decide (1<=((dE (Cut.dO us) T (mb (oY n X)):Nat):Int) - (k:Int))) (ç.mpr ⟨_,ă.mpr ⟨vJ.mpr ⟨_,zV n8 hX,.inr rfl⟩,e⟩,rfl⟩)
  have h1:=of_decide_eq_true h1
  have h2:=of_decide_eq_true h2
  unfold dE at h1 h2
  rw[(iM hu).eq (Y:=X) λv hv=>fM hv,Ij (Y:=X) F.rH λv hv=>fM hv] at h1
  rw[(fC hu).eq (Y:=X) λv hv=>fM hv,Ij (Y:=X) F.rT λv hv=>fM hv] at h2
  omega
 ·obtain⟨r,hr,rfl⟩:=ç.mp hy
  obtain⟨h1,h2⟩:=ă.mp hr
  rw[Ù] at h2
  refine decide_eq_true ?_
  obtain⟨l,hl,rfl|rfl⟩:=vJ.mp h1
  ·have:=(h _ (lN n1 n8 hl) h2.1 h2.2).1
   show(1:Int)<=((dE _ _ _:Nat):Int) - (k:Int)
   unfold dE
   omega
  ·have:=(h _ (lN n1 n8 hl) h2.1 h2.2).2
   show(1:Int)<=((dE _ _ _:Nat):Int) - (k:Int)
   unfold dE
   omega
def JT{n k:Nat}{us:List Tie}{a b:Int}{R H:List Int}(hb:b∈H):ju (bY n k us H (a::R)) a b=bY n k ((a,b)::us) (H.erase b) R:=by
 unfold ju bY aD
 rw[Ø,ô,ô]
 congr 1
 ·refine Ğ λl _=>Prod.ext rfl ?_
  have e:Cut.di ((a,b)::us) (mb l)+Cut.mg (H.erase b) (mb l)+(mb l a&&mb l b).toNat=Cut.di us (mb l)+Cut.mg H (mb l):=by
   rw[Cut.qC,←Cut.M7 hb (mb l)]
   cases mb l a <;> cases mb l b <;> simp <;> omega
  show(if (mb l a&&mb l b)=true then ((dE _ _ _:Nat):Int) - (k:Int) - 1 else ((dE _ _ _:Nat):Int) - (k:Int))=((dE _ _ _:Nat):Int) - (k:Int)
  unfold dE
  cases c:mb l a&&mb l b <;> rw[c] at e <;> simp at e ⊢ <;> omega
 ·refine Ğ λl _=>Prod.ext rfl ?_
  have e:Cut.dO ((a,b)::us) (mb l)+Cut.mg R (mb l)+(mb l a&&mb l b).toNat=Cut.dO us (mb l)+Cut.mg (a::R) (mb l):=by
   rw[Cut.qD,Cut.kh]
   cases mb l a <;> cases mb l b <;> simp <;> omega
  show(if (mb l a&&mb l b)=true then ((dE _ _ _:Nat):Int) - (k:Int) - 1 else ((dE _ _ _:Nat):Int) - (k:Int))=((dE _ _ _:Nat):Int) - (k:Int)
  unfold dE
  cases c:mb l a&&mb l b <;> rw[c] at e <;> simp at e ⊢ <;> omega
def Cr{a b:List Tie}(h:a.Perm b)(X:Int->Bool):Cut.di a X=Cut.di b X:=h.countP_eq _
def Bf{n k:Nat}(n1:1<=n)(n8:n<=8):∀(T H:List Int) (us:List Tie),RgT n us->Cut.Fit n k us H T->Cut.Tgt n k us H T ->
  Cg (bY n k us H T) T H/\(ttF (bY n k us H T) T H).length=T.length/\(∀t∈ttF (bY n k us H T) T H,(0<=t.1/\t.1<(n:Int))/\(0<=t.2/\t.2<(n:Int))/\t.1≠t.2)/\∀X,Cut.Prp n X->k<=Cut.di (ttF (bY n k us H T) T H++us) X
 |[],H,us,hu,F,_=>by
  have l0:H=[]:=List.length_eq_zero_iff.mp F.len
  subst l0
  exact⟨trivial,rfl,λt h=>(nomatch h),λX hX=>F.c1 X hX⟩
 |a::R,H,us,hu,F,tg=>by
  have ha:=F.rT a Å
  obtain⟨b0,m0,n0,h0⟩:=F.split Å (F.other Å tg)
  have hfind:∃b,H.find? (jf (bY n k us H (a::R)) a)=some b:=by
   cases c:H.find? (jf (bY n k us H (a::R)) a) with
   |some b=>exact⟨b,rfl⟩
   |none=>exact absurd ((CQ n1 n8 hu F ha (F.rH b0 m0)).mpr ⟨ė n0,h0⟩) (List.find?_eq_none.mp c b0 m0)
  obtain⟨b,hb⟩:=hfind
  have mb':=List.mem_of_find?_eq_some hb
  have rb:=F.rH b mb'
  obtain⟨nab,hX⟩:=(CQ n1 n8 hu F ha rb).mp (List.find?_some hb)
  obtain⟨F',tg'⟩:=F.step mb' hX tg
  obtain⟨g1,g2,g3,g4⟩:=Bf n1 n8 R (H.erase b) ((a,b)::us) (λt ht=>by
   rcases Ð.mp ht with rfl|ht
   ·exact⟨ha,rb⟩
   ·exact hu t ht) F' tg'
  rw[←JT mb'] at g1 g2 g3 g4
  have e:ttF (bY n k us H (a::R)) (a::R) H=(a,b)::ttF (ju (bY n k us H (a::R)) a b) R (H.erase b):=by
   show(match H.find? (jf (bY n k us H (a::R)) a) with|some b=>_|none=>_)=_
   rw[hb]
  rw[e]
  refine⟨⟨b,hb,g1⟩,by rw[ì,ì,g2],λt ht=>?_,λX hp=>?_⟩
  ·rcases Ð.mp ht with rfl|ht
   ·exact⟨ha,rb,nab⟩
   ·exact g3 t ht
  ·rw[List.cons_append,←Cr (List.perm_middle (a:=(a,b)) (l₁:=ttF (ju (bY n k us H (a::R)) a b) R (H.erase b)) (l₂:=us)) X]
   exact g4 X hp
def rwD(r:List Int×Int):D:=.tuple [iD r.1,.int r.2]
def dZ(sp:Spr):D:=.list (sp.map rwD)
def fPS(ds:List D)(P:D->Prop):Prop:=∃n:Nat,ds=[.int ((n:Nat):Int)]/\1<=n/\n<=8/\P (.list ((psN n).map iD))
def fWS(ds:List D)(P:D->Prop):Prop:=∃(rows:Spr) (es:List Int) (k:Int),ds=[dZ rows,iD es,.int k]/\rows.length<=300/\es.length<=300/\P (dZ (Df rows es k))
def fFE(ds:List D)(P:D->Prop):Prop:=∃(n k:Nat) (d:(Int->Bool)->Nat),ds=[.int ((n:Nat):Int),dZ (aY n d),.int ((k:Nat):Int)]/\1<=n/\n<=8/\k<=3/\DEq n d/\P (iD (iy n k (aY n d)))
def fCB(ds:List D)(P:D->Prop):Prop:=∃(sp:Spr) (a b:Int),ds=[dZ sp,.int a,.int b,.int 1]/\sp.length<=600/\P (.bool (jf sp a b))
def fTd(ds:List D)(P:D->Prop):Prop:=∃(sp:Spr) (a b:Int),ds=[dZ sp,.int a,.int b,.int 1]/\sp.length<=600/\P (dZ (ju sp a b))
def fSM(ds:List D)(P:D->Prop):Prop:=∃(n k c:Nat) (d:(Int->Bool)->Nat),ds=[.int ((n:Nat):Int),dZ (aY n d),.int ((k:Nat):Int),.int ((c:Nat):Int)]/\1<=n/\n<=8/\k<=3/\c<=100/\DEq n d/\(iy n k (aY n d)).length<=c/\P (iD (Æ (c - (iy n k (aY n d)).length) 0++iy n k (aY n d)))
def fTT(ds:List D)(P:D->Prop):Prop:=∃(sp:Spr) (T H:List Int),ds=[dZ sp,iD T,iD H]/\sp.length<=600/\H.length<=100/\T.length<=100/\Cg sp T H/\P (.list ((ttF sp T H).map pD))
section
variable {P:Program}{w:World}{K:Ú}{mg:Str->Option Value}{base:Heap}{f:Addr}{fd:FuncData}{CN PT:Addr}
def jx:FnScope ["n"] ["n"] (ao (top 13)):=zC
def qZ(F:Fun K "proper_sets" "proper_sets" (top 13) f fd)(B:Ļ mg)(C_sets_below:Ā P w K mg base 1 "sets_below" ["count"] (spD fSB)):FnOk P w K mg base CX0 2 f fd ["n"] (spD fPS):=by
 refine F.ok jx ĭ (λcdv A outer s H vs Q E hr h=>?_)
 have nd:=jx.nd
 refine⟨_,Ģ (ý (Ď (Wr.Bx (Ũ C_sets_below hr (Á (Ì 0) É)) (Wr.eN Û) (Wr.eN (Wr.lQ Û))))),aW h ?_⟩
 rintro ds P ⟨n,rfl,n1,n8,q⟩
 refine⟨[.im (.int ((n:Nat):Int))],rfl,?_⟩
 have p2:=iJ n1 n8
 refine⟨((n:Nat):Int),rfl,by omega,by omega,.inr ⟨rfl,?_⟩⟩
 rw[é,CG _ (by rw[À,bC];omega),←List.map_drop,←List.map_dropLast]
 exact q
def jw:FnScope ["rows","ends","most"] ["rows","ends","most"] (ao (top 29)):=zC
def gW:(["some","count","rows","ends","most"]:List Str).Nodup:=by decide +kernel
def oW:(["v","some","count","rows","ends","most"]:List Str).Nodup:=by decide +kernel
def qY(F:Fun K "with_spares" "with_spares" (top 29) f fd)(B:Ļ mg):FnOk P w K mg base CX0 1 f fd ["rows","ends","most"] (spR fWS):=by
 refine F.ok jw vM (λcdv A outer s H vs Q E hr h=>?_)
 have nd:=jw.nd
 refine⟨_,Dl.WR.h (Dl.yX (ŧ ["some","count"] rfl (ğ (Ì 0)) (λc=>(Wr.gC (n:=2) rfl (ĺ (ò (i:=0) gW rfl zQ) (ĺ (ò (i:=1) gW rfl zQ) Wr.dH)))) (λc=>ĸ) (λc=>(ġ (Á (Ì 0) (Á (Ū (ľ (Ì 1) (Wr.bB B.len (Á (ŧ ["v"] rfl (ğ (Ì 3)) (λc=>(ò (i:=0) oW rfl zQ)) (λc=>(Wr.cG (Wr.dD hr.units (Ì 0) (Ì 1)))) (λc=>(Ì 0))) É))) (Ì 4)) É)))))),Ak h ?_⟩
 rintro ds P ⟨rows,es,k,rfl,lr,le,q⟩
 refine⟨[.sh (dZ rows),.sh (iD es),.im (.int k)],rfl,?_⟩
 refine oZ rows rwD (λr=>rwD (r.1,r.2+(((es.filter (mb r.1)).length:Nat):Int) - k)) .shr rfl (by omega) (λr hr A B hA=>⟨rfl,aN (B:=B) ?_⟩) ?_
 ·refine uo es Â (mb r.1) Â .imm rfl (by omega) (λv hv A B hA hB=>?_) ?_
  ·refine⟨rfl,bM r.1,?_⟩
   show if (((r.1.map Â).any λe=>ñ e (.int v)):Bool)=true then _ else _
   rw[ĵ]
   cases c:mb r.1 v with
   |true =>
    rw[show decide (v∈r.1)=true from c]
    exact aN (B:=True) ⟨rfl,hA c⟩
   |false =>
    rw[show decide (v∈r.1)=false from c]
    exact aM (A:=True) (hB c)
  ·refine⟨zK,?_,?_⟩
   ·rfl
   ·show A (.tuple [iD r.1,.int (r.2+(((į Â (List.filter (mb r.1) es)).length:Nat):Int) - k)])
    rw[À]
    exact hA
 ·unfold dZ Df at q
  rw[ô] at q
  exact q
def jR(m:Nat)(v:Int):(Æ m [Â v]).flatten=(Æ m v).map Â:=by
 induction m with
 |zero=>rfl
 |succ m ih=>rw[ą,ę,ih,ą];rfl
def JZ(rows:Spr)(es:List Int)(k:Int):(Df rows es k).length=rows.length:=À _
def Ck(sp0:Spr)(k:Int):∀i,(dW sp0 k i).1.length=sp0.length
 |0=>rfl
 |i+1=>by
  show(pO _ _ _).length=_
  unfold pO
  rw[À,Ck]
def Ji{n k i:Nat}{d:(Int->Bool)->Nat}(n1:1<=n)(n8:n<=8)(hu:DEq n d)(hi:i<n):0<=jo (dW (aD n k d (rst n k 0)) k i).1 ((i:Nat):Int) k/\jo (dW (aD n k d (rst n k 0)) k i).1 ((i:Nat):Int) k<=k:=by
 obtain⟨L,e,F,_⟩:=qy (k:=k) n1 n8 hu i (by omega)
 rw[e]
 refine⟨?_,xZ _ _ _ Å⟩
 show 0<=mnF _ _
 rcases Ð.mp (vI (k:Int) (((aD n k d (L++rst n k i)).filter λr=>mb r.1 ((i:Nat):Int)).map (·.2))) with z|z
 ·rw[z];omega
 ·obtain⟨r,hr,e⟩:=ç.mp z
  obtain⟨l,hl,rfl⟩:=ç.mp (ă.mp hr).1
  have:=F.C _ (lN n1 n8 hl)
  rw[←e]
  show 0<=((dE d (L++rst n k i) (mb l):Nat):Int) - (k:Int)
  omega
def Qw{n k i:Nat}{d:(Int->Bool)->Nat}(n1:1<=n)(n8:n<=8)(hu:DEq n d)(hi:i<=n):(dW (aD n k d (rst n k 0)) k i).2.length<=i * k:=by
 obtain⟨L,e,_,_,_,ln⟩:=qy (k:=k) n1 n8 hu i hi
 rw[e]
 exact ln
def qK{n:Nat}(n1:1<=n)(n8:n<=8)(d:(Int->Bool)->Nat):(aY n d).length<=254:=by
 have p2:=iJ n1 n8
 unfold aY psN
 rw[À,Ĳ,Ĉ,bC]
 omega
def jy:FnScope ["n","rows","most","ends","v","spares","left","lost"] ["n","rows","most"] (ao (top 30)):=zC
def cC:(["some","spare","n","rows","most","ends","v","spares","left","lost"]:List Str).Nodup:=by decide +kernel
def q9(F:Fun K "fewest_ends" "fewest_ends" (top 30) f fd)(B:Ļ mg)(C_with_spares:Ā P w K mg base 1 "with_spares" ["rows","ends","most"] (spR fWS)):FnOk P w K mg base CX0 2 f fd ["n","rows","most"] (spD fFE):=by
 refine F.ok jy ĭ (λcdv A outer s H vs Q E hr h=>?_)
 have nd:=jy.nd
 refine⟨_,Ģ (ä (ĉ (some 0) (i:=3) nd rfl zQ (Ō É))
  (ä (Wr.cO ù rfl (Wr.aV B.range (Á (Ì 0) É)) (ò (i:=4) nd rfl zQ) (ä (Wr.cV (Wr.wv 3) (Á (Wr.gO (Ō (Á (Ì 4) É)) (Ì 2)) É)) (Ĵ [4] Ĺ)))
  (Ĵ [4] (Wr.Al 3 (ä (ĉ none (i:=5) nd rfl zQ (Dl.dcR C_with_spares hr (Á (Ì 1) (Á (Ì 3) (Á (Ì 2) É)))))
  (ä (ĉ (some 1) (i:=6) nd rfl zQ (Ō É))
  (ä (Wr.cO ù rfl (Wr.aV B.range (Á (Ì 0) É)) (ò (i:=4) nd rfl zQ) (ä (ĉ none (i:=7) nd rfl zQ (Wr.vh rfl B.min (Á (ľ (Ō (Á (Ì 2) É)) (ŧ ["some","spare"] rfl (ğ (Ì 5)) (λc=>(Wr.gC (n:=2) rfl (ĺ (ò (i:=0) cC rfl zQ) (ĺ (ò (i:=1) cC rfl zQ) Wr.dH)))) (λc=>(Wr.cG (Wr.dD hr.units (Ì 6) (Ì 0)))) (λc=>(Ì 1)))) É)))
  (ä (Wr.iz none ["some","spare"] (i:=5) rfl nd rfl zQ (ğ (Ì 5)) (λc=>(Wr.gC (n:=2) rfl (ĺ (ò (i:=0) cC rfl zQ) (ĺ (ò (i:=1) cC rfl zQ) Wr.dH)))) (λc=>ĸ) (λc=>(ġ (Á (Ì 0) (Á (Wr.gR (Wr.dD hr.units (Ì 6) (Ì 0)) (Ū (Ì 1) (Ì 9)) (Ì 1)) É)))))
  (ä (Wr.cV (Wr.wv 6) (Á (Wr.gO (Ō (Á (Ì 4) É)) (Ū (Ì 2) (Ì 7))) É)) (Ĵ [4,7] Ĺ)))))
  (Ĵ [4,5,7] (ý (Ď (Ì 6))))))))))),aW h ?_⟩
 rintro ds P ⟨n,k,d,rfl,n1,n8,k3,hu,q⟩
 have lr:=qK n1 n8 d
 have lost:=λi=>Ji (k:=k) (i:=i) n1 n8 hu
 have lnI:=λi=>Qw (k:=k) (i:=i) n1 n8 hu
 have spe:=uO n k d (rst n k 0)
 unfold iy at q
 rw[spe] at q
 have lsp:(aD n k d (rst n k 0)).length<=254:=by rw[←spe,JZ];exact lr
 have lfi:=Ck (aD n k d (rst n k 0)) k
 generalize aY n d=rows at spe lr
 refine⟨[.im (.int ((n:Nat):Int)),.sh (dZ rows),.im (.int ((k:Nat):Int)),.any,.any,.any,.any,.any],rfl,?_⟩
 have pre:∀i,((Ý (i+1)).flatMap λv=>Æ k ((v:Nat):Int))=((Ý i).flatMap λv=>Æ k ((v:Nat):Int))++Æ k ((i:Nat):Int):=λi=>by
  rw[List.range_succ,List.flatMap_append,List.flatMap_cons,List.flatMap_nil,ê]
 have lpre:∀i,((Ý i).flatMap λv=>Æ k ((v:Nat):Int)).length=i * k:=λi=>by
  induction i with
  |zero=>simp
  |succ i ih=>rw[List.range_succ,List.flatMap_append,È,ih];simp[Nat.add_mul]
 have nk:n * k<=24:=Ų n8 k3
 have ik:∀i,i<=n->i * k<=24:=λi hi=>õ (Nat.mul_le_mul_right k hi) nk
 refine⟨zK,⟨by omega,by omega⟩,rfl,λ(i:Nat) ρ=>ρ=[.im (.int ((n:Nat):Int)),.sh (dZ rows),.im (.int ((k:Nat):Int)),.dw 0 (iD ((Ý i).flatMap λv=>Æ k ((v:Nat):Int))),.any,.any,.any,.any],rfl,?_,?_⟩
 ·rintro i d ρ hd rfl
  obtain⟨hi,rfl⟩:=ű hd
  rw[é] at hi
  rw[Int.zero_add]
  have l1:=lpre i
  have l2:=ik i (by omega)
  refine⟨zK,by omega,by omega,?_,.inr ⟨rfl,?_,?_⟩⟩
  ·show 1 * (((k:Nat):Int)).toNat<=1000
   omega
  ·rw[é]
   show(į Â _).length+(Æ k [Â ((i:Nat):Int)]).flatten.length<=1000
   rw[jR,À,À,Ġ,l1]
   omega
  ·rw[é]
   show [_,_,_,Sl.dw 0 (.list (į Â _++(Æ k [Â ((i:Nat):Int)]).flatten)),_,_,_,_]=[_,_,_,Sl.dw 0 (iD ((Ý (i+1)).flatMap λv=>Æ k ((v:Nat):Int))),_,_,_,_]
   rw[jR,pre i]
   show _=[_,_,_,Sl.dw 0 (.list (į Â (_++_))),_,_,_,_]
   rw[Ø]
   rfl
 rintro ρ rfl
 rw[Œ,é]
 have e0:((Ý n).flatMap λv=>Æ k ((v:Nat):Int))=rst n k 0:=by
  unfold rst
  rw[List.drop_zero]
 have l0:=lpre n
 rw[e0] at l0 ⊢
 refine⟨rfl,?_⟩
 refine⟨rfl,rows,rst n k 0,((k:Nat):Int),rfl,by omega,by omega,?_⟩
 rw[spe]
 generalize hsp:aD n k d (rst n k 0)=sp0 at q lost lnI lsp lfi
 refine⟨zK,⟨by omega,by omega⟩,rfl,λ(i:Nat) ρ=>ρ=[.im (.int ((n:Nat):Int)),.sh (dZ rows),.im (.int ((k:Nat):Int)),.sn (iD (rst n k 0)),.any,.sh (dZ (dW sp0 k i).1),.dw 1 (iD (dW sp0 k i).2),.any],rfl,?_,?_⟩
 ·rintro i d ρ hd rfl
  obtain⟨hi,rfl⟩:=ű hd
  rw[é] at hi
  rw[Int.zero_add]
  have b:=lost i hi
  have l2:=ik i (by omega)
  have ll:=lnI i (by omega)
  have lf:=lfi i
  have eS:(dW sp0 k (i+1)).1=pO (dW sp0 k i).1 i (jo (dW sp0 k i).1 i k):=rfl
  have eL:(dW sp0 k (i+1)).2=(dW sp0 k i).2++Æ ((k:Int) - jo (dW sp0 k i).1 i k).toNat ((i:Nat):Int):=rfl
  generalize (dW sp0 k i).1=sp at b lf eS eL ⊢
  generalize (dW sp0 k i).2=L at ll eL ⊢
  refine⟨zK,?_⟩
  refine uo sp rwD (λr=>mb r.1 ((i:Nat):Int)) (λr=>.int r.2) .imm rfl (by omega) (λr hr A B hA hB=>⟨rfl,?_⟩) ?_
  ·refine⟨rfl,bM r.1,?_⟩
   show if (((r.1.map Â).any λe=>ñ e (.int ((i:Nat):Int))):Bool)=true then _ else _
   rw[ĵ]
   cases c:mb r.1 ((i:Nat):Int) with
   |true =>
    rw[show decide (((i:Nat):Int)∈r.1)=true from c]
    exact aN (B:=True) ⟨rfl,hA c⟩
   |false =>
    rw[show decide (((i:Nat):Int)∈r.1)=false from c]
    exact aM (A:=True) (hB c)
  have lfl:(sp.filter λr=>mb r.1 ((i:Nat):Int)).length<=sp.length:=List.length_filter_le _ _
  refine⟨?_,.inr ⟨((k:Nat):Int)::(sp.filter λr=>mb r.1 ((i:Nat):Int)).map (·.2),?_,by simp,λM h1 h2=>?_⟩⟩
  ·show 1+(į _ _).length<=1000
   rw[À]
   omega
  ·show Â ((k:Nat):Int)::į (λr:List Int×Int=>Â r.2) _=Â ((k:Nat):Int)::į Â (į _ _)
   rw[ô]
   rfl
  have eM:M=jo sp ((i:Nat):Int) k:=KZ h1 h2
  rw[←eM] at b eS eL
  refine oZ sp rwD (λr=>rwD (r.1,if mb r.1 ((i:Nat):Int)=true then r.2 - M else r.2)) .shr rfl (by omega) (λr hr A B hA=>⟨rfl,aN (B:=B) ⟨rfl,bM r.1,?_⟩⟩) ?_
  ·show if (((r.1.map Â).any λe=>ñ e (.int ((i:Nat):Int))):Bool)=true then _ else _
   rw[ĵ]
   cases c:mb r.1 ((i:Nat):Int) with
   |true =>
    rw[show decide (((i:Nat):Int)∈r.1)=true from c]
    rw[c] at hA
    exact aN (B:=True) ⟨zK,rfl,hA⟩
   |false =>
    rw[show decide (((i:Nat):Int)∈r.1)=false from c]
    rw[c] at hA
    exact aM (A:=True) ⟨zK,rfl,hA⟩
  refine⟨zK,by omega,by omega,?_,.inr ⟨rfl,?_,?_⟩⟩
  ·show 1 * (((k:Nat):Int) - M).toNat<=1000
   omega
  ·show(į Â _).length+(Æ (((k:Nat):Int) - M).toNat [Â ((i:Nat):Int)]).flatten.length<=1000
   rw[jR,À,À,Ġ]
   omega
  ·show [_,_,_,_,_,Sl.sh (.list (sp.map λr=>rwD (r.1,if mb r.1 ((i:Nat):Int)=true then r.2 - M else r.2))),Sl.dw 1 (.list (į Â L++(Æ (((k:Nat):Int) - M).toNat [Â ((i:Nat):Int)]).flatten)),_]=[_,_,_,_,_,Sl.sh (dZ (dW sp0 k (i+1)).1),Sl.dw 1 (iD (dW sp0 k (i+1)).2),_]
   rw[jR,eS,eL]
   show _=[_,_,_,_,_,Sl.sh (.list (į rwD (į _ sp))),Sl.dw 1 (.list (į Â (_++_))),_]
   rw[Ø,ô]
   rfl
 rintro ρ rfl
 rw[Œ,é]
 exact⟨rfl,q⟩
def jz:FnScope ["spares","a","b","taken"] ["spares","a","b","taken"] (ao (top 31)):=zC
def gY:(["some","spare","spares","a","b","taken"]:List Str).Nodup:=by decide +kernel
def rB(F:Fun K "can_be_tied" "can_be_tied" (top 31) f fd)(B:Ļ mg):FnOk P w K mg base CX0 1 f fd ["spares","a","b","taken"] (spD fCB):=by
 refine F.ok jz ĭ (λcdv A outer s H vs Q E hr h=>?_)
 have nd:=jz.nd
 refine⟨_,Ģ (ý (Ď (Wr.iT (Wr.zG hr.units (Ì 1) (Ì 2)) (Wr.jD (Wr.iU rfl B.all Dl.boot_all (Á (ŧ ["some","spare"] rfl (ğ (Ì 0)) (λc=>(Wr.gC (n:=2) rfl (ĺ (ò (i:=0) gY rfl zQ) (ĺ (ò (i:=1) gY rfl zQ) Wr.dH)))) (λc=>(Wr.cG (Wr.wpt (Wr.iR (Wr.dD hr.units (Ì 3) (Ì 0)) (Wr.fJ (Wr.dD hr.units (Ì 4) (Ì 0))))))) (λc=>(Wr.G9 (Ì 1) (Ì 5)))) É)))))),aW h ?_⟩
 rintro ds P ⟨sp,a,b,rfl,ls,q⟩
 refine⟨[.sh (dZ sp),.im (.int a),.im (.int b),.im (.int 1)],rfl,?_⟩
 by_cases c:a=b
 ·subst c
  have:jf sp a a=false:=by
   unfold jf
   rw[decide_eq_true rfl]
   rfl
  rw[this] at q
  show if (!decide (a=a))=true then _ else _
  rw[decide_eq_true rfl]
  exact aM (A:=True) ⟨rfl,q⟩
 show if (!decide (a=b))=true then _ else _
 rw[decide_eq_false c]
 refine aN (B:=True) ?_
 refine uo sp rwD (λr=>mb r.1 a&&mb r.1 b) (λr=>.bool (decide (1<=r.2))) .imm rfl (by omega) (λr hr A B hA hB=>⟨rfl,?_⟩) ?_
 ·refine⟨rfl,bM r.1,?_⟩
  show if (((r.1.map Â).any λe=>ñ e (.int a)):Bool)=true then _ else _
  rw[ĵ]
  cases ca:mb r.1 a with
  |false =>
   rw[show decide (a∈r.1)=false from ca]
   exact aM (A:=True) (aM (A:=True) (hB (by rw[ca];rfl)))
  |true =>
   rw[show decide (a∈r.1)=true from ca]
   refine aN (B:=True) ⟨rfl,bM r.1,?_⟩
   show if (((r.1.map Â).any λe=>ñ e (.int b)):Bool)=true then _ else _
   rw[ĵ]
   cases cb:mb r.1 b with
   |false =>
    rw[show decide (b∈r.1)=false from cb]
    exact aM (A:=True) (hB (by rw[ca,cb];rfl))
   |true =>
    rw[show decide (b∈r.1)=true from cb]
    exact aN (B:=True) ⟨rfl,hA (by rw[ca,cb];rfl)⟩
 ·refine⟨(sp.filter λr=>mb r.1 a&&mb r.1 b).map λr=>decide (1<=r.2),by rw[ô];rfl,rfl,?_⟩
  have:jf sp a b=((sp.filter λr=>mb r.1 a&&mb r.1 b).map λr=>decide (1<=r.2)).all id:=by
   unfold jf
   rw[decide_eq_false c]
   rfl
  rw[this] at q
  exact q
def Bo:FnScope ["spares","a","b","taken"] ["spares","a","b","taken"] (ao (top 32)):=zC
def tZ:(["some","spare","spares","a","b","taken"]:List Str).Nodup:=by decide +kernel
def KH(F:Fun K "tied" "tied" (top 32) f fd)(B:Ļ mg):FnOk P w K mg base CX0 1 f fd ["spares","a","b","taken"] (spR fTd):=by
 refine F.ok Bo vM (λcdv A outer s H vs Q E hr h=>?_)
 have nd:=Bo.nd
 refine⟨_,Dl.WR.h (Dl.yX (ŧ ["some","spare"] rfl (ğ (Ì 0)) (λc=>(Wr.gC (n:=2) rfl (ĺ (ò (i:=0) tZ rfl zQ) (ĺ (ò (i:=1) tZ rfl zQ) Wr.dH)))) (λc=>ĸ) (λc=>(ġ (Á (Ì 0) (Á (Wr.gR (Wr.wpt (Wr.iR (Wr.dD hr.units (Ì 3) (Ì 0)) (Wr.fJ (Wr.dD hr.units (Ì 4) (Ì 0))))) (Ū (Ì 1) (Ì 5)) (Ì 1)) É)))))),Ak h ?_⟩
 rintro ds P ⟨sp,a,b,rfl,ls,q⟩
 refine⟨[.sh (dZ sp),.im (.int a),.im (.int b),.im (.int 1)],rfl,?_⟩
 refine oZ sp rwD (λr=>rwD (r.1,if (mb r.1 a&&mb r.1 b)=true then r.2 - 1 else r.2)) .shr rfl (by omega) (λr hr A B hA=>⟨rfl,aN (B:=B) ⟨rfl,bM r.1,?_⟩⟩) ?_
 ·show if (((r.1.map Â).any λe=>ñ e (.int a)):Bool)=true then _ else _
  rw[ĵ]
  cases ca:mb r.1 a with
  |false =>
   rw[show decide (a∈r.1)=false from ca]
   rw[ca] at hA
   exact aM (A:=True) (aM (A:=True) ⟨zK,rfl,hA⟩)
  |true =>
   rw[show decide (a∈r.1)=true from ca]
   refine aN (B:=True) ⟨rfl,bM r.1,?_⟩
   show if (((r.1.map Â).any λe=>ñ e (.int b)):Bool)=true then _ else _
   rw[ĵ]
   cases cb:mb r.1 b with
   |false =>
    rw[show decide (b∈r.1)=false from cb]
    rw[ca,cb] at hA
    exact aM (A:=True) ⟨zK,rfl,hA⟩
   |true =>
    rw[show decide (b∈r.1)=true from cb]
    rw[ca,cb] at hA
    exact aN (B:=True) ⟨zK,rfl,hA⟩
 ·unfold dZ ju at q
  rw[ô] at q
  exact q
def ji:FnScope ["n","rows","most","count","ends"] ["n","rows","most","count"] (ao (top 36)):=zC
def pW(F:Fun K "so_many_ends" "so_many_ends" (top 36) f fd)(B:Ļ mg)(C_fewest_ends:Ā P w K mg base 2 "fewest_ends" ["n","rows","most"] (spD fFE)):FnOk P w K mg base CX0 3 f fd ["n","rows","most","count"] (spD fSM):=by
 refine F.ok ji ĭ (λcdv A outer s H vs Q E hr h=>?_)
 have nd:=ji.nd
 refine⟨_,Ģ (ä (ĉ none (i:=4) nd rfl zQ (Ũ C_fewest_ends hr (Á (Ì 0) (Á (Ì 1) (Á (Ì 2) É)))))
  (ý (Ď (ľ (Wr.gO (Ō (Á Û É)) (Ū (Ì 3) (Wr.bB B.len (Á (Ì 4) É)))) (Ì 4))))),aW h ?_⟩
 rintro ds P ⟨n,k,c,d,rfl,n1,n8,k3,c1,hu,lc,q⟩
 refine⟨[.im (.int ((n:Nat):Int)),.sh (dZ (aY n d)),.im (.int ((k:Nat):Int)),.im (.int ((c:Nat):Int)),.any],rfl,?_⟩
 refine⟨n,k,d,rfl,n1,n8,k3,hu,?_⟩
 refine⟨zK,?_⟩
 have ln:=(Ai (k:=k) n1 n8 hu).2.2
 have nk:n * k<=24:=Ų n8 k3
 have e:((c:Int) - ((((iy n k (aY n d)).map Â).length:Nat):Int)).toNat=c - (iy n k (aY n d)).length:=by rw[À];omega
 refine⟨by rw[À];omega,by rw[À];omega,?_,?_⟩
 ·show 1 * ((c:Int) - ((((iy n k (aY n d)).map Â).length:Nat):Int)).toNat<=1000
  rw[e]
  omega
 rw[e]
 have fl:∀m:Nat,(Æ m [Â 0]).flatten=(Æ m (0:Int)).map Â:=λm=>jR m 0
 refine .inr ?_
 dsimp only
 rw[show į (λx:Kd×D=>x.snd) [(Kd.imm,Â 0)]=[Â 0] from rfl,fl]
 refine⟨?_,.inr ⟨rfl,?_⟩⟩
 ·rw[À,À,Ġ]
  omega
 ·rw[←Ø]
  exact q
def mq:FnScope ["spares","tails","heads","left","added","a","b"] ["spares","tails","heads"] (ao (top 37)):=zC
def rD:(["v","spares","tails","heads","left","added","a","b"]:List Str).Nodup:=by decide +kernel
def vC(F:Fun K "tie_tails" "tie_tails" (top 37) f fd)(B:Ļ mg)(C_can_be_tied:Ā P w K mg base 1 "can_be_tied" ["spares","a","b","taken"] (spD fCB))(C_tied:Ā P w K mg base 1 "tied" ["spares","a","b","taken"] (spR fTd)):FnOk P w K mg base CX0 2 f fd ["spares","tails","heads"] (spD fTT):=by
 refine F.ok mq ĭ (λcdv A outer s H vs Q E hr h=>?_)
 have nd:=mq.nd
 refine⟨_,Ģ (ä (ĉ (some 1) (i:=3) nd rfl zQ (Wr.vo B.list (Á (Ì 2) É)))
  (ä (ĉ (some 0) (i:=4) nd rfl zQ (Ō É))
  (ä (Wr.cO ù rfl (ğ (Ì 1)) (ò (i:=5) nd rfl zQ) (ä (ĉ none (i:=6) nd rfl zQ (Ć (ŧ ["v"] rfl (ğ (Ì 3)) (λc=>(ò (i:=0) rD rfl zQ)) (λc=>(Wr.cG (ŏ (Ũ C_can_be_tied hr (Á (Ì 1) (Á (Ì 6) (Á (Ì 0) (Á Û É)))))))) (λc=>(Ì 0))) Û))
  (ä (ĉ none (i:=0) nd rfl zQ (Dl.dcR C_tied hr (Á (Ì 0) (Á (Ì 5) (Á (Ì 6) (Á Û É))))))
  (ä (Wr.kO (Wr.wv 4) (Á (ġ (Á (Ì 5) (Á (Ì 6) É))) É))
  (ä (Wr.pA (Wr.wv 3) (Á (Ì 6) É)) (Ĵ [5,6] Ĺ))))))
  (Ĵ [0,5,6] (ý (Ď (Ì 4))))))),aW h ?_⟩
 rintro ds P ⟨sp,T,H,rfl,ls,lH,lT,g,q⟩
 refine⟨[.sh (dZ sp),.sh (iD T),.sh (iD H),.any,.any,.any,.any],rfl,?_⟩
 refine .inl ⟨cZ H,?_⟩
 refine⟨zK,rfl,λ(i:Nat) ρ=>∃(sp':Spr) (left:List Int) (ad:List Tie),ρ=[.sh (dZ sp'),.sh (iD T),.sh (iD H),.dw 1 (iD left),.dw 0 (.list (ad.map pD)),.any,.any]/\sp'.length<=600/\left.length<=100/\ad.length=i/\Cg sp' (T.drop i) left/\ad++ttF sp' (T.drop i) left=ttF sp T H,⟨sp,H,[],rfl,ls,lH,rfl,g,rfl⟩,?_,?_⟩
 ·rintro i d ρ hd ⟨sp',left,ad,rfl,ls',ll,la,gd,et⟩
  obtain⟨a,ha,rfl⟩:=cD hd
  have hi:i<T.length:=(Ê.mp ha).1
  have eT:T.drop i=a::T.drop (i+1):=by
   rw[Ŕ hi,(Ê.mp ha).2]
  rw[eT] at gd et
  obtain⟨b,hb,gd⟩:=gd
  have mb':=List.mem_of_find?_eq_some hb
  have et':ttF sp' (a::T.drop (i+1)) left=(a,b)::ttF (ju sp' a b) (T.drop (i+1)) (left.erase b):=by
   show(match left.find? (jf sp' a) with|some b=>_|none=>_)=_
   rw[hb]
  have hx:atI ((left.filter (jf sp' a)).map Â) 0=some (.int b):=by
   have h1:(left.filter (jf sp' a)).head?=some b:=by rw[List.head?_filter,hb]
   have h2:(left.filter (jf sp' a))[0]?=some b:=by rw[←List.head?_eq_getElem?];exact h1
   exact eX (j:=0) (by rw[Þ,h2];rfl)
  have lt:(ju sp' a b).length=sp'.length:=À _
  have le:=List.length_erase_of_mem mb'
  refine uo left Â (jf sp' a) Â .imm rfl (by omega) (λv hv A B hA hB=>⟨sp',a,v,rfl,ls',?_⟩) ?_
  ·show if jf sp' a v=true then _ else _
   cases c:jf sp' a v with
   |true=>exact aN (B:=True) ⟨rfl,hA c⟩
   |false=>exact aM (A:=True) (hB c)
  refine⟨_,hx,rfl,sp',a,b,rfl,ls',zK,rfl,by rw[À];omega,1,left,rfl,mb',?_⟩
  refine⟨ju sp' a b,left.erase b,ad++[(a,b)],?_,by omega,by omega,by rw[È,Õ,la],gd,by rw[Ř,←et,et'];rfl⟩
  rw[Ø]
  rfl
 ·rintro ρ ⟨sp',left,ad,rfl,_,_,_,_,et⟩
  rw[À,List.drop_length] at et
  have e0:ttF sp' [] left=[]:=rfl
  rw[e0,ê] at et
  rw[←et] at q
  exact⟨rfl,q⟩
end
def lamOf:Expr->Arguments×Expr×Scope×Pos
 |.Lambda a b s p=>(a,b,s,p)
 |e=>(⟨[],[],none,[],[],none,[]⟩,e,{ kind:=.function,names:=[],isGenerator:=false,isCoroutine:=false },⟨0,0,0,0⟩)
def Lh:List Stmt->Expr
 |[.Return (some (.Call _ [_,e] _ _)) _]=>e
 |[_,.Return (some (.Call _ _ [k] _)) _]=>k.value
 |_=>.Constant .none 0 ⟨0,0,0,0⟩
def Qh(st:Stmt):Arguments:=(lamOf (Lh (bU st))).1
def Qg(st:Stmt):Expr:=(lamOf (Lh (bU st))).2.1
def yh(st:Stmt):Scope:=(lamOf (Lh (bU st))).2.2.1
def lamP(st:Stmt):Pos:=(lamOf (Lh (bU st))).2.2.2
structure CalA(P:Program)(w:World)(K:Ú)(mg:Str->Option Value)(k:Nat)(x:Str)(ps:List Str)(sp:Heap->Sp):Prop where
 ex:∃f fd,(∀base,FnOk P w K mg base CX0 k f fd ps (sp base))/\Binds K fd ps []/\W.keepIn K (.ref f)=true/\mg x=some (.ref f)
def bbq:Str:=("best_by":Str)++".<locals>."++"<lambda>"
def bpq:Str:=("best_paper":Str)++".<locals>."++"<lambda>"
abbrev pL(PT:Addr):Pn:=oR PT (lamP (top 34)) bbq
abbrev Ms(PT:Addr):Pn:=oR PT (lamP (top 35)) bpq
abbrev cI(P1 P2:Addr):Pn:=(pL P1).plus (Ms P2)
def fBB(ds:List D)(P:D->Prop):Prop:=∃(n:Nat) (us:List Tie) (fa:Int) (s:Str),ds=[aG ((n:Nat):Int) us,.int fa,.str s]/\1<=n/\n<=8/\us.length<=100/\∀out,jr n (WO us fa s) out->P (.list (out.map iD))
structure PapOk(n:Nat)(us:List Tie)(fa:Int)(s:Str)(F:List (List Int)):Prop where
 side:s="in"\/s="out"
 fam:jr n (WO us fa s) F
 best:∀s':Str,s'="in"\/s'="out"->eV (iI n (WO us fa s')) n (2 ^ n - 1)<=(F.map (WO us fa s)).sum/\(s'="in"->s="out"->eV (iI n (WO us fa s')) n (2 ^ n - 1)<(F.map (WO us fa s)).sum)
def fBP(ds:List D)(P:D->Prop):Prop:=∃(n:Nat) (us:List Tie) (fa:Int),ds=[aG ((n:Nat):Int) us,.int fa]/\1<=n/\n<=8/\us.length<=100/\0<=fa/\fa<=10/\∀s F,PapOk n us fa s F->P (.tuple [.str s,.list (F.map iD)])
def PapOk.uniq{n:Nat}{us:List Tie}{fa:Int}{s s':Str}{F F':List (List Int)}(h:PapOk n us fa s F)(h':PapOk n us fa s' F'):s=s'/\F=F':=by
 have e:s=s':=by
  have a:=h.best s' h'.side
  have b:=h'.best s h.side
  rw[←kE h'.fam] at a
  rw[←kE h.fam] at b
  rcases h.side with z|z <;> rcases h'.side with y|y
  ·rw[z,y]
  ·have:=b.2 z y;omega
  ·have:=a.2 y z;omega
  ·rw[z,y]
 subst e
 exact⟨rfl,Jk h.fam h'.fam⟩
section
variable {P:Program}{w:World}{K:Ú}{mg:Str->Option Value}{base:Heap}{f:Addr}{fd:FuncData}{CN:Addr}
def Rw:FnScope ["one","falls","side"] ["one","falls","side"] (ao (top 34)):=zC
abbrev Vg(b:Nat):List (Str×Addr):=[(å "side",b+1+1+1),(å "one",b+1),(å "falls",b+1+1)]
def MN:(å "one" == å "side")=false:=by decide +kernel
def Ih:(å "one" == å "falls")=false:=by decide +kernel
def MP:(å "falls" == å "side")=false:=by decide +kernel
def M4:(å "falls" == å "one")=false:=by decide +kernel
def JH(b:Nat):LamScope ["some"] ["one","falls","side"] (yh (top 34)) (Vg b):=by
 refine .of rfl rfl rfl (by decide +kernel) (by decide +kernel) (by decide +kernel) (by decide +kernel) ?_ ?_
 ·show ∀y∈(yh (top 34)).names,y.2=.free->y.1∈([å "side",å "one",å "falls"]:List Str)
  decide +kernel
 ·show([b+1+1+1,b+1,b+1+1]:List Nat).Nodup
  simp
  omega
def Sx{c PT:Addr}{oc kV doc pm ct:Value}{od an:Option Addr}{osl:Array (Option Value)}(lk:K.lookup f=some ⟨oc,od,.func (W.fnOf "best_by" "best_by" (dI (top 34)) (bU (top 34)) (ao (top 34)) .none kV doc pm an (.ref c) ct),osl⟩)(hcd:W.codeIn K (.ref c) "best_by"=true)(hC:∀h:Heap,K.In h->W.CodeHd h c PT)(hB:base.BuiltinsAt mg PT)(C_hf:CalA P w K mg 11 "heaviest_family" ["n","weigh"] (λbase=>spF P w K mg base 10 ["some"] tHF))(C_need:∀base,Ā P w K mg base 9 "one_need" ["one","falls","side","some"] (spD fON)) :
  FnOk P w K mg base CX0 12 f (W.fnOf "best_by" "best_by" (dI (top 34)) (bU (top 34)) (ao (top 34)) .none kV doc pm an (.ref c) ct) ["one","falls","side"] (spT (pL PT) fBB):=by
 obtain⟨fh,fdh,HF,hbH,hkH,hmH⟩:=C_hf.ex
 refine Jg (N:=["one","falls","side"]) lk hcd Rw vL (λA outer s H vs Q E hr h=>?_)
 obtain⟨ds,Pd,ti,r,⟨n,us,fa,sd,rfl,n1,n8,lu,q⟩,k⟩:=h
 obtain⟨vw,v2,v3,rfl,rw,r2,r3⟩:∃vw v2 v3,vs=[vw,v2,v3]/\Rp (λa=>¬(pL PT).fp a) H vw (aG ((n:Nat):Int) us)/\Rp (λa=>¬(pL PT).fp a) H v2 (.int fa)/\Rp (λa=>¬(pL PT).fp a) H v3 (.str sd):=by
  cases r with
  |cons h1 t=>cases t with
   |cons h2 t=>cases t with
    |cons h3 t=>cases t;exact⟨_,_,_,rfl,h1,h2,h3⟩
 have e2:=r2.int'
 have e3:=r3.str'
 subst e2 e3
 refine⟨_,PSs.nox (ŵ (gq (zx (X:=(yC CX0 P w K mg base ["one","falls","side"] "best_by" (ao (top 34)) f (.ref c) A outer s H E).nox) (x:="heaviest_family") (c:=c) (P:=PT) (ys:=["one","falls","side"]) (qual:=bbq) HF hr rfl hmH hkH hbH (Ć (Ì 0) Û).h rfl rfl rfl rfl (hC base) (λ_=>hB) (λ_=>rfl) ?_ ?_))),?_⟩
 ·refine Gd λp hp=>?_
  show List.lookup p.1 [(å "side",s.heap.objs.size+1+1+1),(å "falls",s.heap.objs.size+1+1),(å "one",s.heap.objs.size+1)]=some p.2
  rcases Ð.mp hp with rfl|hp
  ·exact lJ
  ·rcases Ð.mp hp with rfl|hp
   ·exact(pN MN).trans ((pN Ih).trans lJ)
   ·rw[Ö.mp hp]
    exact(pN MP).trans lJ
 ·intro y hy
  rcases Ð.mp hy with rfl|hy
  ·exact⟨rfl,_,(pN MN).trans lJ⟩
  ·rcases Ð.mp hy with rfl|hy
   ·exact⟨rfl,_,(pN MP).trans ((pN M4).trans lJ)⟩
   ·rw[Ö.mp hy]
    exact⟨rfl,_,lJ⟩
 have r0:Rp (λ_=>False) H vw (aG ((n:Nat):Int) us):=rw.imm (jd ((n:Nat):Int) us)
 have lk':∀{base':Heap}{fl c':Addr}{cl:List (Str×Addr)}{pm ctv:Value},base'.get? fl=some (Ŭ "<lambda>" bbq (Qh (top 34)) (Qg (top 34)) (yh (top 34)) cl pm c' ctv)->LamScope ["some"] ["one","falls","side"] (yh (top 34)) cl->Caps base' cl ["one","falls","side"] [vw,.int fa,.str sd] ->
   Hand P w K mg base' 10 fl ["some"] (λH=>pU H c' bbq/\Rp (λ_=>False) H vw (aG ((n:Nat):Int) us)) (fWt n (WO us fa sd)):=λ{base' fl c' cl pm ctv} e S C=>by
  refine⟨_,Jh (cvs:=[vw,.int fa,.str sd]) e (λ_ _ _ _ h=>h.1.1) S C (λvs H Q E h=>?_) (λA outer s H vs Q E hr h=>?_),⟨_,_,_,_,e⟩,.all λus hl=>?_,λH H' ⟨⟨x,φ,h1,h2⟩,h3⟩ sm=>⟨⟨x,φ,sm _ _ h1,h2⟩,h3.mono (λ_ o=>o) (λ_ _ o=>o.elim) λa xs h=>sm a _ h⟩⟩
  ·obtain⟨_,ds,Pd,r,⟨l,rfl,_⟩,_⟩:=h
   exact r.length
  ·obtain⟨⟨_,z⟩,ds,Pd2,r,⟨l,rfl,pr,p⟩,kk⟩:=h
   obtain⟨v1,rfl,r1⟩:∃v1,vs=[v1]/\Rp (λ_=>True) H v1 (.list (l.map Â)):=by
    cases r with
    |cons h t=>cases t;exact⟨_,rfl,h⟩
   refine⟨_,(Ũ (C_need base') hr (Á (Ì 1) (Á (Ì 2) (Á (Ì 3) (Á (Ì 0) É))))).h,?_⟩
   refine⟨dB,H,λ_=>none,[.sh (.list (l.map Â)),.im (aG ((n:Nat):Int) us),.im (.int fa),.im (.str sd)],λk d=>d=.int (WO us fa sd l),?_,?_,λkd d v H' hd A rp=>?_⟩
   ·refine⟨λ_ _ e _=>e,trivial,(λ_ _ e=>(nomatch e)),λi s e=>?_,rfl,trivial⟩
    match i,e with
    |0,e=>cases e;exact⟨v1,rfl,r1.mono (λ_ _=>⟨λz=>z,rfl⟩) (λ_ _ _ e=>e) λ_ _ e=>e⟩
    |1,e=>cases e;exact⟨vw,rfl,z⟩
    |2,e=>cases e;exact⟨.int fa,rfl,.int fa⟩
    |3,e=>cases e;exact⟨.str sd,rfl,.str sd⟩
   ·exact⟨((n:Nat):Int),us,fa,sd,l,rfl,pr,lu,rfl⟩
   ·subst hd
    have:=rp.int'
    subst this
    exact kk _ _ H' p (λb o e=>A.kp b o e λz=>z) (.int _)
  ·obtain⟨_,rfl⟩:∃a,us=[a]:=by
    match us,hl with
    |[a],_=>exact⟨a,rfl⟩
   rfl
 refine⟨dB,H,λ_=>none,[.im (aG ((n:Nat):Int) us),.im (.int fa),.im (.str sd)],λk d=>d=.int ((n:Nat):Int),?_,⟨.int ((n:Nat):Int),rfl,rfl⟩,λkd d v H1 hd A1 rp=>?_⟩
 ·refine⟨λ_ _ e _=>e,trivial,(λ_ _ e=>(nomatch e)),λi s e=>?_,rfl,trivial⟩
  match i,e with
  |0,e=>cases e;exact⟨vw,rfl,r0⟩
  |1,e=>cases e;exact⟨.int fa,rfl,.int fa⟩
  |2,e=>cases e;exact⟨.str sd,rfl,.str sd⟩
 subst hd
 have ev:=rp.int'
 subst ev
 have s1:Same H H1:=λb o e=>A1.kp b o e λz=>z
 refine⟨(pL PT).mono H H1 ti λb o _ e=>s1 b o e,[vw,.int fa,.str sd],rfl,λj y v h1 h2=>⟨j,h1,?_⟩,λbase' fl c' H' lam T' kp=>?_⟩
 ·match j,h2 with
  |0,h2=>cases h2;rfl
  |1,h2=>cases h2;rfl
  |2,h2=>cases h2;rfl
 have tp:∀a xs,H a=some (.tup xs)->H' a=some (.tup xs):=λa xs e=>kp a _ (s1 _ _ e) λz=>by
  obtain⟨ps,h,_⟩:=ti
  rw[z,h] at e
  cases e
 have S:=JH s.heap.objs.size
 obtain⟨pm',ctv,hfn⟩:=lam.fn
 refine⟨((n:Nat):Int),fl,_,_,Pd,rfl,lk' hfn S lam.caps,⟨lam.kn,r0.mono (λ_ o=>o) (λ_ _ o=>o.elim) tp⟩,⟨n,WO us fa sd,rfl,n1,n8,rfl,LR us fa sd,q⟩,λd v H2 hP sm rp2=>k d v H2 hP (λb o e nb=>sm b o (kp b o (s1 b o e) nb)) ((pL PT).mono H' H2 T' λb o _ e=>sm b o e) (rp2.mono (λa ha=>?_) (λ_ _ _ e=>e) λ_ _ e=>e)⟩
 cases e:H a with
 |none=>rfl
 |some o =>
  by_cases z:a=PT
  ·obtain⟨ps,h,_⟩:=T'
   rw[z,h] at ha
   cases ha
  ·rw[kp a o (s1 a o e) z] at ha
   cases ha
def Mi:FnScope ["one","falls","papers"] ["one","falls"] (ao (top 35)):=zC
abbrev LQ(b:Nat):List (Str×Addr):=[(å "one",b+1),(å "falls",b+1+1)]
def JC(b:Nat):LamScope ["paper"] ["one","falls"] (yh (top 35)) (LQ b):=by
 refine .of rfl rfl rfl (by decide +kernel) (by decide +kernel) (by decide +kernel) (by decide +kernel) ?_ ?_
 ·show ∀y∈(yh (top 35)).names,y.2=.free->y.1∈([å "one",å "falls"]:List Str)
  decide +kernel
 ·show([b+1,b+1+1]:List Nat).Nodup
  simp
def SN:(["side","one","falls","papers"]:List Str).Nodup:=by decide +kernel
def xM(s:Str)(F:List (List Int)):D:=.tuple [.str s,.list (F.map iD)]
def Qq(dcs:List D)(dx:D)(k:Int):Prop:=∃(n:Nat) (us:List Tie) (fa:Int) (s:Str) (F:List (List Int)),dcs=[aG ((n:Nat):Int) us,.int fa]/\dx=xM s F/\1<=n/\n<=8/\us.length<=100/\0<=fa/\fa<=10/\jr n (WO us fa s) F/\k=(F.map (WO us fa s)).sum
def T7(C_bound:∀base,Ā P w K mg base 10 "one_bound" ["one","falls","side","family"] (spD fOB)){cvs:List V}{base':Heap}{fl c':Addr}{pm ctv:Value}{b:Nat}(e:base'.get? fl=some (Ŭ "<lambda>" bpq (Qh (top 35)) (Qg (top 35)) (yh (top 35)) (LQ b) pm c' ctv))(C:Caps base' (LQ b) ["one","falls"] cvs) :
  ∃fd,FnOk P w K mg base' CX0 11 fl fd ["paper"] (Ol bpq Qq cvs c')/\Binds K fd ["paper"] []:=by
 refine⟨_,Jh (cvs:=cvs) e (λ_ _ _ _ h=>h.1) (JC b) C (λvs H Q E h=>?_) (λA outer s H vs Q E hr h=>?_),.all λus hl=>?_⟩
 ·obtain⟨_,v1,_,_,_,rfl,_⟩:=h
  rfl
 ·obtain⟨kn,v1,dcs,dx,k,rfl,rc,r1,⟨n,us,fa,sd,F,rfl,rfl,n1,n8,lu,f0,f1,hF,rfl⟩,kk⟩:=h
  obtain⟨vw,vf,rfl,rw,rf⟩:=rc.two
  refine⟨_,(Ũ (C_bound base') hr (Á (Ì 1) (Á (Ì 2) (Á (Ć (Ì 0) Û) (Á (Ć (Ì 0) Û) É))))).h,?_⟩
  obtain⟨pr,nd,ll⟩:=kI n1 n8 hF
  refine⟨dB,H,λ_=>none,[.sh (xM sd F),.im (aG ((n:Nat):Int) us),.im (.int fa)],λk d=>d=.int (F.map (WO us fa sd)).sum,?_,?_,λkd d v H' hd A rp=>?_⟩
  ·refine⟨λ_ _ e _=>e,trivial,(λ_ _ e=>(nomatch e)),λi s e=>?_,rfl,trivial⟩
   match i,e with
   |0,e=>cases e;exact⟨v1,rfl,r1.mono (λ_ _=>⟨λz=>z,rfl⟩) (λ_ _ _ e=>e) λ_ _ e=>e⟩
   |1,e=>cases e;exact⟨vw,rfl,rw⟩
   |2,e=>cases e;exact⟨vf,rfl,rf⟩
  ·exact⟨_,rfl,_,rfl,((n:Nat):Int),us,fa,sd,F,rfl,by omega,lu,f0,f1,ll,pr,nd,rfl⟩
  ·subst hd
   have:=rp.int'
   subst this
   exact kk H' (λb o e=>A.kp b o e λz=>z)
 ·obtain⟨_,rfl⟩:∃a,us=[a]:=by
   match us,hl with
   |[a],_=>exact⟨a,rfl⟩
  rfl
def JQ{a b:Int}:jQ [a,b]=if b > a then 1 else 0:=by
 unfold jQ
 show(if decide (([a,b]:List Int).getD 1 0 > ([a,b]:List Int).getD 0 0)=true then 0+1 else 0)=_
 by_cases c:b > a
 ·rw[if_pos c,if_pos (decide_eq_true (by exact c))]
 ·rw[if_neg c]
  exact if_neg λz=>c (of_decide_eq_true z)
abbrev xBP(P:Program)(w:World)(K:Ú)(mg:Str->Option Value)(base:Heap)(f c:Addr)(A:Around)(outer:List Env)(s:Shared)(H:Hp)(E:XK):Cx:=(yC CX0 P w K mg base ["one","falls","papers"] "best_paper" (ao (top 35)) f (.ref c) A outer s H E).nox
def Sw{c P1 PT:Addr}{oc kV doc pm ct:Value}{od an:Option Addr}{osl:Array (Option Value)}(lk:K.lookup f=some ⟨oc,od,.func (W.fnOf "best_paper" "best_paper" (dI (top 35)) (bU (top 35)) (ao (top 35)) .none kV doc pm an (.ref c) ct),osl⟩)(hcd:W.codeIn K (.ref c) "best_paper"=true)(hC:∀h:Heap,K.In h->W.CodeHd h c PT)(hB:base.BuiltinsAt mg PT)(nP:P1≠PT)(B:Ļ mg)(C_best_by:Ā P w K mg base 12 "best_by" ["one","falls","side"] (spT (pL P1) fBB))(C_bound:∀base,Ā P w K mg base 10 "one_bound" ["one","falls","side","family"] (spD fOB)) :
  FnOk P w K mg base CX0 14 f (W.fnOf "best_paper" "best_paper" (dI (top 35)) (bU (top 35)) (ao (top 35)) .none kV doc pm an (.ref c) ct) ["one","falls"] (spT (cI P1 PT) fBP):=by
 refine Jg (N:=["one","falls","papers"]) lk hcd Mi vL (λA outer s H vs Q E hr h=>?_)
 have nd:=Mi.nd
 have C_bb:=C_best_by.R5 (T2:=Ms PT) (sI nP)
 letI:=grU (cI P1 PT)
 have MLAM:∀{e:Expr}{te:DE}{p pos kp:Pos},Wr.WD (xBP P w K mg base f c A outer s H E) e te->starEach [e] (xBP P w K mg base f c A outer s H E).env=(false,eval e (xBP P w K mg base f c A outer s H E).env)::starEach [] (xBP P w K mg base f c A outer s H E).env ->
   Wr.WD (xBP P w K mg base f c A outer s H E) (.Call (.Name "max" p) [e] [⟨some "key",.Lambda (Qh (top 35)) (Qg (top 35)) (yh (top 35)) (lamP (top 35)),kp⟩] pos) (tMX [0,1] Qq te):=λ{e te p pos kp} he hs=>by
  refine⟨PE.wk (Dr (X:=xBP P w K mg base f c A outer s H E) (c:=c) (P:=PT) (ys:=["one","falls"]) (ps:=["paper"]) (qual:=bpq) (k:=11) (cl:=LQ s.heap.objs.size) (spL:=Ol bpq Qq) (λcvs base' fl c' pm ctv hl e C=>T7 C_bound e C) (Room.in1 (hr.mono (show 12<=13 by decide))) hr.hd rfl B.max he.h rfl rfl rfl rfl (hC base) (λ_=>hB) (λ_=>rfl) ?_ ?_ hs) (La (sI nP) rfl)⟩
  ·refine Gd λp hp=>?_
   show List.lookup p.1 [(å "falls",s.heap.objs.size+1+1),(å "one",s.heap.objs.size+1)]=some p.2
   rcases Ð.mp hp with rfl|hp
   ·exact(pN Ih).trans lJ
   ·rw[Ö.mp hp]
    exact lJ
  ·intro y hy
   rcases Ð.mp hy with rfl|hy
   ·exact⟨rfl,_,lJ⟩
   ·rw[Ö.mp hy]
    exact⟨rfl,_,(pN M4).trans lJ⟩
 refine⟨_,PSs.nox (Ģ (ä (Wr.iz none ["side"] (i:=2) rfl nd rfl zQ (ğ (ġ (Á Wr.fK (Á Wr.fK É)))) (λc=>(ò (i:=0) SN rfl zQ)) (λc=>ĸ) (λc=>(ġ (Á (Ì 0) (Á (Wr.dcU C_bb hr (Á (Ì 1) (Á (Ì 2) (Á (Ì 0) É)))) É)))))
  (ý (Ď (MLAM (Ì 2) rfl))))),QF h ?_⟩
 rintro ds P ⟨n,us,fa,rfl,n1,n8,lu,f0,f1,q⟩
 refine⟨[.im (aG ((n:Nat):Int) us),.im (.int fa),.any],by show [bG (aG _ us),_,_]=_;rw[cH];rfl,?_⟩
 refine⟨zK,zK,.new,λi ys=>(i=0/\ys=[])\/(i=1/\∃F0,ys=[xM "in" F0]/\jr n (WO us fa "in") F0)\/(i=2/\∃F0 F1,ys=[xM "in" F0,xM "out" F1]/\jr n (WO us fa "in") F0/\jr n (WO us fa "out") F1),.inl ⟨rfl,rfl⟩,?_,?_⟩
 ·rintro i d ys hd hI
  have hi:i<2:=(Ê.mp hd).1
  rcases hI with ⟨rfl,rfl⟩|⟨rfl,F0,rfl,h0⟩|⟨rfl,_⟩
  ·cases hd
   refine aN (B:=True) ⟨n,us,fa,"in",rfl,n1,n8,lu,λout ho=>⟨zK,?_,.inr (.inl ⟨rfl,out,rfl,ho⟩)⟩⟩
   rfl
  ·cases hd
   refine aN (B:=True) ⟨n,us,fa,"out",rfl,n1,n8,lu,λout ho=>⟨zK,?_,.inr (.inr ⟨rfl,F0,out,rfl,h0,ho⟩)⟩⟩
   rfl
  ·omega
 ·rintro ys (⟨z,_⟩|⟨z,_⟩|⟨_,F0,F1,rfl,h0,h1⟩)
  ·exact absurd z (show ¬(2:Nat)=0 by decide)
  ·exact absurd z (show ¬(2:Nat)=1 by decide)
  refine⟨[xM "in" F0,xM "out" F1],[(F0.map (WO us fa "in")).sum,(F1.map (WO us fa "out")).sum],[aG ((n:Nat):Int) us,.int fa],rfl,rfl,rfl,(show 1<=2 by decide),λj x c hx hc=>?_,λx hx=>?_⟩
  ·match j,hx,hc with
   |0,hx,hc=>cases hx;cases hc;exact⟨n,us,fa,"in",F0,rfl,rfl,n1,n8,lu,f0,f1,h0,rfl⟩
   |1,hx,hc=>cases hx;cases hc;exact⟨n,us,fa,"out",F1,rfl,rfl,n1,n8,lu,f0,f1,h1,rfl⟩
  ·rw[JQ] at hx
   by_cases c:(F1.map (WO us fa "out")).sum > (F0.map (WO us fa "in")).sum
   ·rw[if_pos c] at hx
    cases hx
    refine⟨rfl,q "out" F1 ⟨.inr rfl,h1,λs' hs=>?_⟩⟩
    rcases hs with rfl|rfl
    ·rw[←kE h0]
     exact⟨by omega,λ_ _=>c⟩
    ·rw[←kE h1]
     exact⟨Ą _,λz=>absurd z (by decide +kernel)⟩
   ·rw[if_neg c] at hx
    cases hx
    refine⟨rfl,q "in" F0 ⟨.inl rfl,h0,λs' hs=>?_⟩⟩
    rcases hs with rfl|rfl
    ·rw[←kE h0]
     exact⟨Ą _,λ_ z=>absurd z (by decide +kernel)⟩
    ·rw[←kE h1]
     exact⟨by omega,λ_ z=>absurd z (by decide +kernel)⟩
end
def vA(c:Nat)(l:List Int):List Int:=Æ (c - l.length) 0++l
def hdF(n k:Nat)(us:List Tie)(c:Nat):List Int:=vA c (iy n k (aY n (Cut.di us)))
def tlF(n k:Nat)(us:List Tie)(c:Nat):List Int:=vA c (iy n k (aY n (Cut.dO us)))
def JL(n k:Nat)(us:List Tie)(c:Nat):List Tie:=ttF (bY n k us (hdF n k us c) (tlF n k us c)) (tlF n k us c) (hdF n k us c)
def iV{c:Nat}{l:List Int}(h:l.length<=c):(vA c l).length=c:=by
 unfold vA
 rw[È,Ġ]
 omega
def Hg(c:Nat)(l:List Int)(X:Int->Bool):Cut.mg l X<=Cut.mg (vA c l) X:=by
 unfold vA
 rw[lX]
 omega
def Hf{n c:Nat}{l:List Int}(n1:1<=n)(h:RgE n l):RgE n (vA c l):=λe he=>by
 rcases â.mp he with z|z
 ·rw[(Ľ.mp z).2];omega
 ·exact h e z
def Hh{c:Nat}{l:List Int}(h:l.length=c):vA c l=l:=by
 unfold vA
 rw[h,Nat.sub_self]
 rfl
def sumF(us:List Tie)(fa:Int)(s:Str)(F:List (List Int)):Nat:=(F.map (WO us fa s)).sum.toNat
def uN(us:List Tie)(fa:Int)(s:Str):∀F:List (List Int),0<=(F.map (WO us fa s)).sum
 |[]=>Ą _
 |l::F=>by
  rw[æ,ċ]
  have:=uN us fa s F
  have:=LR us fa s l
  omega
def zM{n k:Nat}{us:List Tie}{s:Str}{F:List (List Int)}(n1:1<=n)(n8:n<=8)(hu:RgT n us)(h:PapOk n us ((k:Int) - 1) s F) :
  ((iy n k (aY n (Cut.di us))).length<=sumF us ((k:Int) - 1) s F/\(iy n k (aY n (Cut.dO us))).length<=sumF us ((k:Int) - 1) s F/\sumF us ((k:Int) - 1) s F<=n * k)/\Cut.Fit n k us (hdF n k us (sumF us ((k:Int) - 1) s F)) (tlF n k us (sumF us ((k:Int) - 1) s F))/\Cut.Tgt n k us (hdF n k us (sumF us ((k:Int) - 1) s F)) (tlF n k us (sumF us ((k:Int) - 1) s F)):=by
 obtain⟨fi,_,li⟩:=Ai (k:=k) n1 n8 (iM hu).eq
 obtain⟨fo,_,lo⟩:=Ai (k:=k) n1 n8 (fC hu).eq
 unfold hdF tlF
 generalize iy n k (aY n (Cut.di us))=I at fi li ⊢
 generalize iy n k (aY n (Cut.dO us))=O at fo lo ⊢
 have nn:=uN us ((k:Int) - 1) s F
 have bi:=(h.best "in" (.inl rfl)).1
 have bo:=(h.best "out" (.inr rfl)).1
 have es:((sumF us ((k:Int) - 1) s F:Nat):Int)=(F.map (WO us ((k:Int) - 1) s)).sum:=by unfold sumF;omega
 have up:(s="in"->(F.map (WO us ((k:Int) - 1) s)).sum<=((I.length:Nat):Int))/\(s="out"->(F.map (WO us ((k:Int) - 1) s)).sum<=((O.length:Nat):Int)):=⟨λz=>by
  subst z
  exact sH n1 n8 (iM hu) fi.rg fi.C h.fam,λz=>by
  subst z
  exact sH n1 n8 (fC hu) fo.rg fo.C h.fam⟩
 generalize sumF us ((k:Int) - 1) s F=c at es ⊢
 have a1:I.length<=c:=by
  obtain⟨Gs,g1,g2,g3|g3⟩:=Cut.wZ fi.rg fi.C fi.tg (Cut.Ju us) (Cut.Jx us)
  ·have:=jg (k:=k) n1 n8 (iM hu) g1 g2
   omega
  ·have:=jg (k:=k) n1 n8 (fC hu) g1 g2
   omega
 have a2:O.length<=c:=by
  obtain⟨Gs,g1,g2,g3|g3⟩:=Cut.wZ fo.rg fo.C fo.tg (Cut.Jw us) (Cut.Am us)
  ·have:=jg (k:=k) n1 n8 (fC hu) g1 g2
   omega
  ·have:=jg (k:=k) n1 n8 (iM hu) g1 g2
   omega
 refine⟨⟨a1,a2,?_⟩,⟨Hf n1 fi.rg,Hf n1 fo.rg,(iV a1).trans (iV a2).symm,λX hX=>?_,λX hX=>?_⟩,?_⟩
 ·rcases h.side with z|z
  ·have:=up.1 z;omega
  ·have:=up.2 z;omega
 ·have:=fi.C X hX
  have:=Hg c I X
  unfold dE at *
  omega
 ·have:=fo.C X hX
  have:=Hg c O X
  unfold dE at *
  omega
 ·rcases h.side with z|z
  ·have:=up.1 z
   rw[Hh (c:=c) (l:=I) (by omega)]
   exact .inl fi.tg
  ·have:=up.2 z
   rw[Hh (c:=c) (l:=O) (by omega)]
   exact .inr fo.tg
structure OneOk(n k:Nat)(us A:List Tie)(s:Str)(F:List (List Int)):Prop where
 pap:PapOk n us ((k:Int) - 1) s F
 perm:A.Perm (JL n k us (sumF us ((k:Int) - 1) s F))
 so:A.Pairwise λa b=>aL a<=aL b
def oJ:∀{l1 l2:List Tie},(∀t∈l1,lZ t)->l1.Perm l2->l1.Pairwise (λa b=>aL a<=aL b)->l2.Pairwise (λa b=>aL a<=aL b)->l1=l2
 |[],l2,_,p,_,_=>p.nil_eq
 |a::l1,[],_,p,_,_=>absurd p.length_eq (by simp)
 |a::l1,b::l2,hn,p,s1,s2=>by
  have s1:=List.pairwise_cons.mp s1
  have s2:=List.pairwise_cons.mp s2
  have hb:b∈a::l1:=p.mem_iff.mpr Å
  have ha:a∈b::l2:=p.mem_iff.mp Å
  have e1:aL a<=aL b:=by
   rcases Ð.mp hb with z|z
   ·rw[z];exact Ą _
   ·exact s1.1 b z
  have e2:aL b<=aL a:=by
   rcases Ð.mp ha with z|z
   ·rw[z];exact Ą _
   ·exact s2.1 a z
  have e:a=b:=code_inj (hn a Å) (hn b hb) (by omega)
  subst e
  rw[oJ (λt ht=>hn t (Ä _ ht)) ((List.perm_cons a).mp p) s1.2 s2.2]
def Du{n k:Nat}{us A:List Tie}{s:Str}{F:List (List Int)}(n1:1<=n)(n8:n<=8)(k3:k<=3)(hu:RgT n us)(h:OneOk n k us A s F) :
  A.length<=24/\(∀t∈A,(0<=t.1/\t.1<(n:Int))/\(0<=t.2/\t.2<(n:Int))/\t.1≠t.2)/\((A.length:Nat):Int)=(F.map (WO us ((k:Int) - 1) s)).sum/\∀X,Cut.Prp n X->k<=Cut.di (us++A) X:=by
 obtain⟨⟨a1,a2,a3⟩,fit,tg⟩:=zM n1 n8 hu h.pap
 obtain⟨g1,g2,g3,g4⟩:=Bf n1 n8 _ _ us hu fit tg
 have la:=h.perm.length_eq
 have nk:n * k<=24:=Ų n8 k3
 have nn:=uN us ((k:Int) - 1) s F
 have es:((sumF us ((k:Int) - 1) s F:Nat):Int)=(F.map (WO us ((k:Int) - 1) s)).sum:=by unfold sumF;omega
 have lt:(tlF n k us (sumF us ((k:Int) - 1) s F)).length=sumF us ((k:Int) - 1) s F:=iV a2
 unfold JL at la
 refine⟨by omega,λt ht=>g3 t (h.perm.mem_iff.mp ht),by omega,λX hX=>?_⟩
 have:=g4 X hX
 rw[Cr (a:=us++A) (b:=JL n k us (sumF us ((k:Int) - 1) s F)++us) ((List.perm_append_comm).trans (h.perm.append_right us)) X]
 exact this
def Hw{n k:Nat}{us A B:List Tie}{s t:Str}{F G:List (List Int)}(h:OneOk n k us A s F)(h2:OneOk n k us B t G)(rA:∀t∈A,lZ t):A=B/\s=t/\F=G:=by
 obtain⟨e1,e2⟩:=h.pap.uniq h2.pap
 subst e1 e2
 exact⟨oJ rA (h.perm.trans h2.perm.symm) h.so h2.so,rfl,rfl⟩
def fOP(ds:List D)(P:D->Prop):Prop:=∃(n k:Nat) (us:List Tie),ds=[aG ((n:Nat):Int) us,.int ((k:Int) - 1)]/\1<=n/\n<=8/\1<=k/\k<=3/\us.length<=100/\RgT n us/\∀A s F,OneOk n k us A s F->P (.tuple [.list (A.map pD),.str s,.list (F.map iD)])
section
variable {P:Program}{w:World}{K:Ú}{mg:Str->Option Value}{base:Heap}{f:Addr}{fd:FuncData}{CN P1 PT:Addr}
def pH:FnScope ["one","falls","paper","count","most","led_in","led_out","heads","tails","spares"] ["one","falls"] (ao (top 38)):=zC
def lB:(["some","one","falls","paper","count","most","led_in","led_out","heads","tails","spares"]:List Str).Nodup:=by decide +kernel
def xQ(F:Fun K "one_puts" "one_puts" (top 38) f fd)(B:Ļ mg)(C_best_paper:Ā P w K mg base 14 "best_paper" ["one","falls"] (spT (cI P1 PT) fBP))(C_one_bound:Ā P w K mg base 10 "one_bound" ["one","falls","side","family"] (spD fOB))(C_proper_sets:Ā P w K mg base 2 "proper_sets" ["n"] (spD fPS))(C_ties_by:Ā P w K mg base 8 "ties_by" ["one","side","some"] (spD fTB))(C_so_many_ends:Ā P w K mg base 3 "so_many_ends" ["n","rows","most","count"] (spD fSM))(C_with_spares:Ā P w K mg base 1 "with_spares" ["rows","ends","most"] (spR fWS))(C_tie_tails:Ā P w K mg base 2 "tie_tails" ["spares","tails","heads"] (spD fTT)):FnOk P w K mg base CX0 15 f fd ["one","falls"] (Dg (cI P1 PT) fOP):=by
 refine F.ok pH IK (λcdv A outer s H vs Q E hr h=>?_)
 have nd:=pH.nd
 letI:=grU (cI P1 PT)
 refine⟨_,č (Wr.WDS.h (ĉ none (i:=2) nd rfl zQ (Wr.dcU C_best_paper hr (Á (Ì 0) (Á (Ì 1) É)))))
  (č (Wr.WDS.h (ĉ none (i:=3) nd rfl zQ (Ũ C_one_bound hr (Á (Ì 0) (Á (Ì 1) (Á (Ć (Ì 2) Û) (Á (Ć (Ì 2) Û) É)))))))
  (č (Wr.WDS.h (ĉ none (i:=4) nd rfl zQ (ľ (Ì 1) Û)))
  (č (Wr.WDS.h (Wr.iz none ["some"] (i:=5) rfl nd rfl zQ (ğ (Ũ C_proper_sets hr (Á (Ć (Ì 0) Û) É))) (λc=>(ò (i:=0) lB rfl zQ)) (λc=>ĸ) (λc=>(ġ (Á (Ì 0) (Á (Ũ C_ties_by hr (Á (Ì 1) (Á Wr.fK (Á (Ì 0) É)))) É))))))
  (č (Wr.WDS.h (Wr.iz none ["some"] (i:=6) rfl nd rfl zQ (ğ (Ũ C_proper_sets hr (Á (Ć (Ì 0) Û) É))) (λc=>(ò (i:=0) lB rfl zQ)) (λc=>ĸ) (λc=>(ġ (Á (Ì 0) (Á (Ũ C_ties_by hr (Á (Ì 1) (Á Wr.fK (Á (Ì 0) É)))) É))))))
  (č (Wr.WDS.h (ĉ none (i:=7) nd rfl zQ (Ũ C_so_many_ends hr (Á (Ć (Ì 0) Û) (Á (Ì 5) (Á (Ì 4) (Á (Ì 3) É)))))))
  (č (Wr.WDS.h (ĉ none (i:=8) nd rfl zQ (Ũ C_so_many_ends hr (Á (Ć (Ì 0) Û) (Á (Ì 6) (Á (Ì 4) (Á (Ì 3) É)))))))
  (č (Wr.WDS.h (ĉ none (i:=9) nd rfl zQ (ľ (Dl.dcR C_with_spares hr (Á (Ì 5) (Á (Ì 7) (Á (Ì 4) É)))) (Dl.dcR C_with_spares hr (Á (Ì 6) (Á (Ì 8) (Á (Ì 4) É)))))))
  (ŵ (gq (GK (Ĕ (Wr.WD.h (Wr.gP B.sorted (Á (Ũ C_tie_tails hr (Á (Ì 9) (Á (Ì 8) (Á (Ì 7) É)))) É))) (Ĕ (dY vO (pv 2) ē (λ_ _=>rfl)) (Ĕ (dY vO (pv 2) ē (λ_ _=>rfl)) Š))))))))))))),?_⟩
 obtain⟨ds,P,pi,r,⟨n,k,us,rfl,n1,n8,k1,k3,lu,hu,q⟩,kk⟩:=h
 have E0:=eZ (p:=cI P1 PT) (N:=["one","falls","paper","count","most","led_in","led_out","heads","tails","spares"]) rfl pi r
 have e0:([aG ((n:Nat):Int) us,Â ((k:Int) - 1)].map bG++Æ ((["one","falls","paper","count","most","led_in","led_out","heads","tails","spares"]:List Str).length - vs.length) Sl.any)=[.im (aG ((n:Nat):Int) us),.im (.int ((k:Int) - 1)),.any,.any,.any,.any,.any,.any,.any,.any]:=by
  rw[r.length]
  show [bG (aG _ us),_,_,_,_,_,_,_,_,_]=_
  rw[cH]
  rfl
 rw[e0] at E0
 have nk:n * k<=24:=Ų n8 k3
 refine yE (yE (yE (yE (yE (yE (yE (yE (u:=Cz) (M:=λρ=>∃s F a b c d e g,PapOk n us ((k:Int) - 1) s F/\ρ=[.im (aG ((n:Nat):Int) us),.im (.int ((k:Int) - 1)),.sn (xM s F),a,b,c,d,e,g,.sh (dZ (bY n k us (hdF n k us (sumF us ((k:Int) - 1) s F)) (tlF n k us (sumF us ((k:Int) - 1) s F))))]/\e=.sn (iD (hdF n k us (sumF us ((k:Int) - 1) s F)))/\g=.sn (iD (tlF n k us (sumF us ((k:Int) - 1) s F)))) ?last))))))) _ _ _ _ E0 ?read
 case read =>
  refine⟨n,us,(k:Int) - 1,rfl,n1,n8,lu,by omega,by omega,λs F pap=>?_⟩
  obtain⟨pr,nd,ll⟩:=kI n1 n8 pap.fam
  obtain⟨⟨a1,a2,a3⟩,fit,tg⟩:=zM n1 n8 hu pap
  obtain⟨g1,g2,g3,g4⟩:=Bf n1 n8 _ _ us hu fit tg
  have nk:n * k<=24:=Ų n8 k3
  have nn:=uN us ((k:Int) - 1) s F
  have es:(F.map (WO us ((k:Int) - 1) s)).sum=((sumF us ((k:Int) - 1) s F:Nat):Int):=by unfold sumF;omega
  have ek:(k:Int) - 1+1=(k:Int):=by omega
  refine⟨_,rfl,_,rfl,((n:Nat):Int),us,(k:Int) - 1,s,F,rfl,by omega,lu,by omega,by omega,ll,pr,nd,?_⟩
  have lr:∀d:(Int->Bool)->Nat,(aY n d).length<=254:=qK n1 n8
  have lp:(psN n).length<=254:=by have:=lr (Cut.di us);unfold aY at this;rw[À] at this;exact this
  have er:∀{d:(Int->Bool)->Nat}{sd:Str},Side n us sd d->Ī ((psN n).map λl=>rwD (l,((byS us sd l:Nat):Int)))=dZ (aY n d):=λ{d sd} S=>by
   unfold dZ aY
   rw[ô]
   congr 1
   refine Ğ λl _=>?_
   show rwD (l,_)=rwD (l,_)
   rw[←S.by_]
  refine⟨_,rfl,n,rfl,n1,n8,?_⟩
  refine oZ (psN n) iD (λl=>rwD (l,((byS us "in" l:Nat):Int))) .snw rfl (by omega) (λl hl A B hA=>aN (B:=True) ⟨((n:Nat):Int),us,"in",l,rfl,fL n1 n8 hl,lu,zK,rfl,hA⟩) ?_
  rw[er (iM hu)]
  refine⟨_,rfl,n,rfl,n1,n8,?_⟩
  refine oZ (psN n) iD (λl=>rwD (l,((byS us "out" l:Nat):Int))) .snw rfl (by omega) (λl hl A B hA=>aN (B:=True) ⟨((n:Nat):Int),us,"out",l,rfl,fL n1 n8 hl,lu,zK,rfl,hA⟩) ?_
  rw[er (fC hu)]
  refine⟨_,rfl,n,k,sumF us ((k:Int) - 1) s F,Cut.di us,by rw[ek,es];rfl,n1,n8,k3,by omega,(iM hu).eq,a1,?_⟩
  refine⟨_,rfl,n,k,sumF us ((k:Int) - 1) s F,Cut.dO us,by rw[ek,es];rfl,n1,n8,k3,by omega,(fC hu).eq,a2,?_⟩
  have lh:(hdF n k us (sumF us ((k:Int) - 1) s F)).length=sumF us ((k:Int) - 1) s F:=iV a1
  have lt:(tlF n k us (sumF us ((k:Int) - 1) s F)).length=sumF us ((k:Int) - 1) s F:=iV a2
  refine⟨rfl,aY n (Cut.di us),hdF n k us (sumF us ((k:Int) - 1) s F),(k:Int),by rw[ek];rfl,by have:=lr (Cut.di us);omega,by omega,rfl,aY n (Cut.dO us),tlF n k us (sumF us ((k:Int) - 1) s F),(k:Int),by rw[ek];rfl,by have:=lr (Cut.dO us);omega,by omega,?_⟩
  rw[uO,uO]
  have lall:(bY n k us (hdF n k us (sumF us ((k:Int) - 1) s F)) (tlF n k us (sumF us ((k:Int) - 1) s F))).length<=508:=by
   unfold bY aD
   rw[È,À,À]
   omega
  have e9:(aD n k (Cut.di us) (hdF n k us (sumF us ((k:Int) - 1) s F))).map rwD++(aD n k (Cut.dO us) (tlF n k us (sumF us ((k:Int) - 1) s F))).map rwD=(bY n k us (hdF n k us (sumF us ((k:Int) - 1) s F)) (tlF n k us (sumF us ((k:Int) - 1) s F))).map rwD:=by
   unfold bY
   rw[Ø]
  refine⟨?_,.inr ?_⟩
  ·rw[←È,e9,À]
   omega
  rw[e9]
  exact⟨s,F,_,_,_,_,_,_,pap,rfl,rfl,rfl⟩
 case last =>
  rintro own σ H1 ρ E ⟨s,F,a,b,c,d,e,g,pap,rfl,rfl,rfl⟩
  obtain⟨⟨a1,a2,a3⟩,fit,tg⟩:=zM n1 n8 hu pap
  obtain⟨g1,g2,g3,g4⟩:=Bf n1 n8 _ _ us hu fit tg
  have lh:(hdF n k us (sumF us ((k:Int) - 1) s F)).length=sumF us ((k:Int) - 1) s F:=iV a1
  have lt:(tlF n k us (sumF us ((k:Int) - 1) s F)).length=sumF us ((k:Int) - 1) s F:=iV a2
  have lall:(bY n k us (hdF n k us (sumF us ((k:Int) - 1) s F)) (tlF n k us (sumF us ((k:Int) - 1) s F))).length<=508:=by
   have lr:∀d:(Int->Bool)->Nat,(aY n d).length<=254:=qK n1 n8
   have lp:(psN n).length<=254:=by have:=lr (Cut.di us);unfold aY at this;rw[À] at this;exact this
   unfold bY aD
   rw[È,À,À]
   omega
  obtain⟨v2,hv2,x2⟩:=E.slot 2 _ rfl
  obtain⟨t2,xs,rfl,ht2,rs⟩:=Rp.fu x2
  obtain⟨va,vm,rfl,ra,rm⟩:=rs.two
  have ea:=ra.str'
  subst ea
  obtain⟨m,ys,rfl,om,hm,rms⟩:=Rp.bO rm
  refine⟨_,_,own,_,(λkd d=>kd=.new/\∃A,d=.list (A.map pD)/\OneOk n k us A s F),E,?_,λkd d v1 H2 ⟨ek,A,ed,ok⟩ A2 r1=>?_⟩
  ·refine⟨bY n k us (hdF n k us (sumF us ((k:Int) - 1) s F)) (tlF n k us (sumF us ((k:Int) - 1) s F)),tlF n k us (sumF us ((k:Int) - 1) s F),hdF n k us (sumF us ((k:Int) - 1) s F),rfl,by omega,by omega,by omega,g1,?_⟩
   refine⟨JL n k us (sumF us ((k:Int) - 1) s F),.inl rfl,by unfold JL;omega,λt ht=>?_,λA hp hs=>⟨rfl,A,rfl,⟨pap,hp,hs⟩⟩⟩
   have:=g3 t ht
   exact⟨by omega,by omega⟩
  ·subst ek ed
   obtain⟨l,zs,rfl,ol,hl,rls⟩:=Rp.bO r1
   have ol:H1 l=none:=ol
   have ht3:=A2.tups t2 _ ht2
   refine⟨_,hv2,t2,_,_,_,rfl,rfl,SqT.of ht3,rfl,_,hv2,t2,_,_,_,rfl,rfl,SqT.of ht3,rfl,(by show 3<=sizeLine;decide),λp' hp'=>?_⟩
   have nm:l≠m:=λz=>by
    rw[z,hm] at ol
    cases ol
   have sm:Same H2 (upd H2 p' (.tup [.ref l,.str s,.ref m])):=λb o e=>by rw[ų (aB e hp')];exact e
   have A3:At (cI P1 PT) H own H1 (upd H2 p' (.tup [.ref l,.str s,.ref m])):=A2.go (Kp.of sm) ((cI P1 PT).mono H2 _ A2.pen λb o _ e=>sm b o e)
   refine kk _ _ _ (q A s F ok) (λb o e nb=>A3.kp b o (E.k0 b o e nb) nb) A3.pen (.tup aq (.cons ((mL A2 (Kp.of sm) r1).mono (λb o=>A2.h0 o) (λ_ _ _ e=>e) λ_ _ e=>e) (.cons (.str s) (.cons (rm.mono (λb o=>o.1) (λb u o e=>A3.kp b u e o.2.1) A3.tups) .nil)))) ⟨p',l,m,.str s,rfl,aq,nm⟩
end
def swp(t:Tie):Tie:=(t.2,t.1)
def Qo(us:List Tie)(l:List Int):inN (us.map swp) l=Ds us l:=by
 unfold inN Ds
 rw[List.filter_map,À]
 congr 1
 refine List.filter_congr λt _=>?_
 show(!decide (t.2∈l)&&decide (t.1∈l))=(decide (t.1∈l)&&!decide (t.2∈l))
 exact Bool.and_comm _ _
def fLS(ds:List D)(P:D->Prop):Prop:=∃c:Int,ds=[.int c]/\1<=c/\c<=8/\P (.list ((pss c.toNat).map lD))
def tlD(b:Bool)(us:List Tie):D:=match b with
 |false=>.tuple (us.map pD)
 |true=>.list (us.map pD)
def Nt(ds:List D)(P:D->Prop):Prop:=∃(b:Bool) (us:List Tie) (l:List Int),ds=[tlD b us,.list (l.map Â)]/\us.length<=100/\P (.int (inN us l:Nat))
def BL(us:List Tie):okD (.list (us.map pD))=true:=by
 have a1:=Ac us
 have a2:=yx us
 show(ī (us.map pD)&&decide (ő (us.map pD)+1<=60))=true
 rw[a1,decide_eq_true (by omega)]
 rfl
def HW(l:List Int):okD (.list (l.map Â))=true:=by
 have a1:=Ac []
 have e1:ī (l.map Â)=true:=by
  clear a1
  induction l with
  |nil=>rfl
  |cons x l ih=>rw[æ];show(PyData.canLay0 (.int x)&&ī (l.map Â))=true;rw[ih];rfl
 have e2:ő (l.map Â)=0:=by
  clear e1 a1
  induction l with
  |nil=>rfl
  |cons x l ih=>rw[æ];show max (PyData.depth (.int x)) (ő (l.map Â))=0;rw[ih];rfl
 show(ī (l.map Â)&&decide (ő (l.map Â)+1<=60))=true
 rw[e1,e2]
 rfl
def Js:∀l m:List Int,PyData.eqvAll (l.map Â) (m.map Â)=decide (l=m)
 |[],[]=>rfl
 |[],_::_=>rfl
 |_::_,[]=>rfl
 |x::l,y::m=>by
  rw[æ,æ]
  show(decide (x=y)&&PyData.eqvAll (l.map Â) (m.map Â))=_
  rw[Js l m,Č,Ù,decide_eq_true_iff,decide_eq_true_iff,decide_eq_true_iff,List.cons.injEq]
def Kg{n:Nat}(n1:1<=n)(n8:n<=8):pss n=psN n:=(Kh n1).symm
def Qz(ds:List D)(P:D->Prop):Prop:=∃(n:Int) (us:List Tie) (fa:Int) (s:Str) (l:List Int),ds=[aG n us,.int fa,.str s,.list (l.map Â)]/\us.length<=100/\(s="in"\/s="out")/\P (.int (WO us fa s l))
def fIP(ds:List D)(P:D->Prop):Prop:=∃n x:Int,ds=[.int n,.int x]/\0<=x/\x<n/\P (.bool true)
def fAT(ds:List D)(P:D->Prop):Prop:=∃(n:Int) (A:List Tie),ds=[.int n,.list (A.map pD)]/\A.length<=60/\(∀t∈A,(0<=t.1/\t.1<n)/\(0<=t.2/\t.2<n)/\t.1≠t.2)/\n<=8/\A.Pairwise (λa b=>aL a<=aL b)/\P (.bool true)
def fAS(ds:List D)(P:D->Prop):Prop:=∃(n:Int) (F:List (List Int)),ds=[.int n,.list (F.map iD)]/\n<=8/\F.length<=60/\(∀l∈F,Proper n l)/\F.flatten.Nodup/\P (.bool true)
def Tz(ds:List D)(P:D->Prop):Prop:=∃(n:Int) (us:List Tie) (fa:Int),ds=[aG n us,.int fa]/\1<=n/\n<=8/\us.length<=100/\(∀l∈pss n.toNat,fa<(inN us l:Nat))/\P (.bool true)
def Nv(ds:List D)(P:D->Prop):Prop:=ds=[]/\∀(n:Int) (us:List Tie),1<=n->n<=8->us.length<=60->bJ n us->P (aG n us)
section
variable {P:Program}{w:World}{K:Ú}{mg:Str->Option Value}{base:Heap}{f:Addr}{fd:FuncData}{CN P1 PT:Addr}
def Rz:FnScope ["_law_n","_law_found","_law_place"] ["_law_n"] (ao (top 47)):=zC
def SQ:(["_law_some","_law_n","_law_found","_law_place"]:List Str).Nodup:=by decide +kernel
def HB(F:Fun K "_law_sets" "_law_sets" (top 47) f fd)(B:Ļ mg):FnOk P w K mg base CX0 1 f fd ["_law_n"] (spD fLS):=by
 refine F.ok Rz ĭ (λcdv A outer s H vs Q E hr h=>?_)
 have nd:=Rz.nd
 refine⟨_,aJ (bF none (ņ (i:=1) nd rfl (þ rfl) (cB (aj (cB ak) ak))))
  (aJ (cO ù rfl (aV B.range (aj (dv 0) ak)) (aO (Ĭ (i:=2) nd rfl (Or.inr rfl)))
   (aK (bF none (ņ (i:=1) nd rfl (þ rfl) (vp (dv 1) (fY ["_law_some"] rfl (cQ (dv 1)) (λc=>aO (Ĭ (i:=0) SQ rfl (þ rfl))) (λc=>dh) (λc=>vp (dv 0) (cB (aj (dv 3) ak)))))))))
  (aK (bw (fY ["_law_some"] rfl (cQ (dv 1)) (λc=>aO (Ĭ (i:=0) SQ rfl (þ rfl))) (λc=>cG (gM (qM lg lg aF (bB B.len (aj (dv 0) ak)) (dv 1)) qu)) (λc=>dv 0))))),aW h ?_⟩
 rintro ds P ⟨c,rfl,c0,c8,q⟩
 refine⟨[.im (.int c),.any,.any],rfl,zK,zK,⟨by omega,by omega⟩,rfl,λ(i:Nat) ρ=>∃s2,ρ=[.im (.int c),.sn (.list ((subs i).map lD)),s2],⟨_,rfl⟩,?_,?_⟩
 ·rintro i d ρ hd ⟨s2,rfl⟩
  obtain⟨hi,rfl⟩:=ű hd
  have ls:((subs i).map lD).length<=128:=by
   rw[À,bC]
   exact ð (by decide) (show i<=7 by omega)
  refine⟨by omega,.new,λj ys=>ys=((subs i).take j).map λl=>lD (l++[0+((i:Nat):Int)]),rfl,?_,?_⟩
  ·rintro j d ys hd rfl
   obtain⟨l,hl,rfl⟩:=cD hd
   have hok:=fV i l (Ò hl)
   have im:=cZ (l++[0+((i:Nat):Int)])
   rw[Ø] at im
   refine aN (B:=True) ⟨zK,?_,.inl ⟨im,rfl,?_⟩⟩
   ·show(l.map Â).length+1<=1000
    rw[À]
    omega
   ·dsimp only
    rw[lY _ hl]
    show _++[Ī (l.map Â++[.int (0+((i:Nat):Int))])]=_++[Ī ((l++[0+((i:Nat):Int)]).map Â)]
    rw[Ø]
    rfl
  ·rintro ys rfl
   refine⟨?_,.inr ⟨.im (.int (0+((i:Nat):Int))),?_⟩⟩
   ·rw[À (as:=Ŧ _ _),İ]
    rw[À] at ls ⊢
    omega
   ·have e:(subs i).map lD++(((subs i).take ((subs i).map lD).length).map λl=>lD (l++[0+((i:Nat):Int)]))=(subs (i+1)).map lD:=by
     rw[À,ć]
     show _=((subs i)++(subs i).map _).map lD
     rw[Ø,ô]
     rfl
    rw[e]
    rfl
 ·rintro ρ ⟨s2,rfl⟩
  rw[Œ]
  have ls:((subs c.toNat).map lD).length<=256:=by
   rw[À,bC]
   exact ð (by decide) (show c.toNat<=8 by omega)
  refine⟨by omega,.snw,λi ys=>ys=(((subs c.toNat).take i).filter λl=>decide (0<l.length)&&decide (l.length<c.toNat)).map lD,rfl,?_,?_⟩
  ·rintro i d ys hd rfl
   obtain⟨l,hl,rfl⟩:=cD hd
   have sn:=qx (λl:List Int=>decide (0<l.length)&&decide (l.length<c.toNat)) lD hl
   have lm:(l.map Â).length=l.length:=À ..
   show if decide ((0:Int)<((l.map Â).length:Nat))=true then _ else _
   have e1:decide ((0:Int)<((l.map Â).length:Nat))=decide (0<l.length):=by rw[lm,Č,decide_eq_true_eq,decide_eq_true_eq];omega
   have e2:decide ((((l.map Â).length:Nat):Int)<c)=decide (l.length<c.toNat):=by rw[lm,Č,decide_eq_true_eq,decide_eq_true_eq];omega
   rw[e1]
   cases h1:decide (0<l.length) with
   |false =>
    rw[h1] at sn
    rw[Bool.false_and,if_neg Ó,ê] at sn
    exact aM (A:=True) (aM (A:=True) sn.symm)
   |true =>
    rw[h1,Bool.true_and] at sn
    refine aN (B:=True) ?_
    show if decide ((((l.map Â).length:Nat):Int)<c)=true then _ else _
    rw[e2]
    cases h2:decide (l.length<c.toNat) with
    |false =>
     rw[h2,if_neg Ó,ê] at sn
     exact aM (A:=True) sn.symm
    |true =>
     rw[h2,if_pos rfl] at sn
     exact aN (B:=True) ⟨rfl,sn.symm⟩
  ·rintro ys rfl
   refine⟨rfl,?_⟩
   show P (.list ((((subs c.toNat).take ((subs c.toNat).map lD).length).filter _).map lD))
   rw[À,ć]
   exact q
def pJ:FnScope ["_law_ties_here","_law_some"] ["_law_ties_here","_law_some"] (ao (top 48)):=zC
def sY:(["_law_tie","_law_ties_here","_law_some"]:List Str).Nodup:=by decide +kernel
def xT(F:Fun K "_law_into" "_law_into" (top 48) f fd)(B:Ļ mg):FnOk P w K mg base CX0 1 f fd ["_law_ties_here","_law_some"] (spD Nt):=by
 refine F.ok pJ ĭ (λcdv A outer s H vs Q E hr h=>?_)
 have nd:=pJ.nd
 refine⟨_,Ģ (ý (Ď (Wr.bB B.len (Á (ŧ ["_law_tie"] rfl (ğ (Ì 0)) (λc=>(ò (i:=0) sY rfl zQ)) (λc=>(Wr.cG (Wr.wpt (Wr.iR (Wr.j4 hr.units (Ć (Ì 0) Û) (Ì 2)) (Wr.fJ (Wr.dD hr.units (Ć (Ì 0) Û) (Ì 2))))))) (λc=>(Ì 0))) É)))),aW h ?_⟩
 rintro ds P ⟨b,us,l,rfl,hl,q⟩
 have im:iu (.tuple (us.map pD))=true:=eY us
 cases b with
 |false =>
  refine⟨[.im (.tuple (us.map pD)),.sh (.list (l.map Â))],?_,?_⟩
  ·show [bG (.tuple (us.map pD)),bG (.list (l.map Â))]=_
   unfold bG
   rw[if_pos im]
   rfl
  refine uo us pD (vP l) pD .imm rfl (by omega) (λt ht A B hA hB=>⟨.int t.1,rfl,rfl,bM l,?_⟩) ?_
  ·show if (!((l.map Â).any λe=>ñ e (.int t.1)))=true then _ else _
   rw[ĵ]
   unfold vP at hA hB
   cases h1:decide (t.1∈l) with
   |true =>
    rw[h1] at hB
    exact aM (A:=True) (aM (A:=True) (hB rfl))
   |false =>
    rw[h1] at hA hB
    refine aN (B:=True) ⟨.int t.2,rfl,rfl,bM l,?_⟩
    show if ((l.map Â).any λe=>ñ e (.int t.2))=true then _ else _
    rw[ĵ]
    cases hb:decide (t.2∈l) with
    |true =>
     rw[hb] at hA
     exact aN (B:=True) ⟨rfl,hA rfl⟩
    |false =>
     rw[hb] at hB
     exact aM (A:=True) (hB rfl)
  ·refine⟨rfl,?_⟩
   show P (.int (((us.filter (vP l)).map pD).length:Nat))
   rw[À]
   exact q
 |true =>
  refine⟨[.sh (.list (us.map pD)),.sh (.list (l.map Â))],rfl,?_⟩
  refine uo us pD (vP l) pD .imm rfl (by omega) (λt ht A B hA hB=>⟨.int t.1,rfl,rfl,bM l,?_⟩) ?_
  ·show if (!((l.map Â).any λe=>ñ e (.int t.1)))=true then _ else _
   rw[ĵ]
   unfold vP at hA hB
   cases h1:decide (t.1∈l) with
   |true =>
    rw[h1] at hB
    exact aM (A:=True) (aM (A:=True) (hB rfl))
   |false =>
    rw[h1] at hA hB
    refine aN (B:=True) ⟨.int t.2,rfl,rfl,bM l,?_⟩
    show if ((l.map Â).any λe=>ñ e (.int t.2))=true then _ else _
    rw[ĵ]
    cases hb:decide (t.2∈l) with
    |true =>
     rw[hb] at hA
     exact aN (B:=True) ⟨rfl,hA rfl⟩
    |false =>
     rw[hb] at hB
     exact aM (A:=True) (hB rfl)
  ·refine⟨rfl,?_⟩
   show P (.int (((us.filter (vP l)).map pD).length:Nat))
   rw[À]
   exact q
def pI:FnScope ["_law_web_here","_law_falls","_law_side","_law_some","_law_ties_here"] ["_law_web_here","_law_falls","_law_side","_law_some"] (ao (top 49)):=zC
def lC:(["_law_a","_law_b","_law_web_here","_law_falls","_law_side","_law_some","_law_ties_here"]:List Str).Nodup:=by decide +kernel
def xR(F:Fun K "_law_need" "_law_need" (top 49) f fd)(B:Ļ mg)(C__law_into:Ā P w K mg base 1 "_law_into" ["_law_ties_here","_law_some"] (spD Nt)):FnOk P w K mg base CX0 2 f fd ["_law_web_here","_law_falls","_law_side","_law_some"] (spD Qz):=by
 refine F.ok pI ĭ (λcdv A outer s H vs Q E hr h=>?_)
 have nd:=pI.nd
 refine⟨_,Ģ (ä (ĉ none (i:=4) nd rfl zQ (Ć (Ì 0) Û))
  (ä (Wr.dz (Wr.mX hr.units (Ì 2) Wr.fK) (ý (Wr.iz none ["_law_a","_law_b"] (i:=4) rfl nd rfl zQ (ğ (Ć (Ì 0) Û)) (λc=>(Wr.gC (n:=2) rfl (ĺ (ò (i:=0) lC rfl zQ) (ĺ (ò (i:=1) lC rfl zQ) Wr.dH)))) (λc=>ĸ) (λc=>(ġ (Á (Ì 1) (Á (Ì 0) É)))))) Ĺ)
  (ý (Ď (Wr.j6 rfl B.max (Á Û (Á (Ū (ľ (Ì 1) Û) (Ũ C__law_into hr (Á (Ì 4) (Á (Ì 3) É)))) É))))))),aW h ?_⟩
 rintro ds P ⟨n,us,fa,s,l,rfl,lu,hs,q⟩
 refine⟨[.im (aG n us),.im (.int fa),.im (.str s),.sh (.list (l.map Â)),.any],by show [bG (aG _ us),_,_,_,_]=_;rw[cH];rfl,?_⟩
 have ew:(if fa+1 - ((byS us s l:Nat):Int) > 0 then fa+1 - ((byS us s l:Nat):Int) else 0)=WO us fa s l:=by
  unfold WO nd1
  split <;> split <;> omega
 refine⟨_,rfl,g8 (λc=>?_) (λc=>?_)⟩
 ·have c:s=å "out":=of_decide_eq_true c
  refine⟨_,rfl,?_⟩
  refine oZ us pD (λt=>pD (swp t)) .imm rfl (by omega) (λt ht A B hA=>⟨rfl,aN (B:=B) ⟨zK,rfl,hA⟩⟩) ?_
  refine⟨true,us.map swp,l,by show [Ī (us.map λt=>pD (swp t)),_]=[Ī ((us.map swp).map pD),_];rw[ô];rfl,by rw[À];exact lu,rfl,?_⟩
  have e:inN (us.map swp) l=byS us s l:=by
   unfold byS
   rw[Qo,c,if_neg (by decide +kernel)]
  rw[e]
  show P (.int (if fa+1 - ((byS us s l:Nat):Int) > 0 then fa+1 - ((byS us s l:Nat):Int) else 0))
  rw[ew]
  exact q
 ·have c:s≠å "out":=λz=>c (decide_eq_true z)
  refine⟨false,us,l,rfl,lu,rfl,?_⟩
  have e:inN us l=byS us s l:=by
   unfold byS
   rcases hs with z|z
   ·rw[z,if_pos rfl]
   ·exact absurd z c
  rw[e]
  show P (.int (if fa+1 - ((byS us s l:Nat):Int) > 0 then fa+1 - ((byS us s l:Nat):Int) else 0))
  rw[ew]
  exact q
def jj:FnScope ["_law_n","_law_thing"] ["_law_n","_law_thing"] (ao (top 51)):=zC
def pZ(F:Fun K "_law_is_place" "_law_is_place" (top 51) f fd)(B:Ļ mg):FnOk P w K mg base CX0 1 f fd ["_law_n","_law_thing"] (spD fIP):=by
 refine F.ok jj ĭ (λcdv A outer s H vs Q E hr h=>?_)
 have nd:=jj.nd
 refine⟨_,Ģ (ý (Ď (Wr.iT (Ÿ BX B.isinstance (Ì 1) (Wr.wty rfl B.int boot_int)) (Wr.iT (Wr.vg (Ÿ yj B.isinstance (Ì 1) (Wr.wty rfl B.bool boot_bool))) (Wr.jD (Wr.mZ Û (Ì 1) (Ì 0))))))),aW h ?_⟩
 rintro ds P ⟨n,x,rfl,x0,x1,q⟩
 refine⟨[.im (.int n),.im (.int x)],rfl,?_⟩
 show if decide ((0:Int)<=x)=true then _ else _
 rw[decide_eq_true x0]
 refine aN (B:=True) ⟨rfl,?_⟩
 show P (.bool (decide (x<n)))
 rw[decide_eq_true x1]
 exact q
def jk:FnScope ["_law_n","_law_thing","_law_tie"] ["_law_n","_law_thing"] (ao (top 52)):=zC
def nq:(["_law_place","_law_n","_law_thing","_law_tie"]:List Str).Nodup:=by decide +kernel
def p7(F:Fun K "_law_are_ties" "_law_are_ties" (top 52) f fd)(B:Ļ mg)(C__law_is_place:Ā P w K mg base 1 "_law_is_place" ["_law_n","_law_thing"] (spD fIP)):FnOk P w K mg base CX0 2 f fd ["_law_n","_law_thing"] (spD fAT):=by
 refine F.ok jk ĭ (λcdv A outer s H vs Q E hr h=>?_)
 have nd:=jk.nd
 refine⟨_,Ģ (ä (Wr.dz (Ő (ŏ (Ÿ jP B.isinstance (Ì 1) (Wr.wty rfl B.list boot_list)))) (ý (Ď Wr.fZ)) Ĺ)
  (ä (Wr.cO ù rfl (ğ (Ì 1)) (ò (i:=2) nd rfl zQ) (ä (Wr.dz (Wr.wpt (Wr.dU (Ő (ŏ (Ÿ kit_tuple B.isinstance (Ì 2) (Wr.wty rfl B.tuple boot_tuple)))) (Wr.dU (Wr.j5 hr.units (Wr.bB B.len (Á (Ì 2) É)) Û) (Wr.d8 (Ő (ŏ (Wr.iU rfl B.all Dl.boot_all (Á (ŧ ["_law_place"] rfl (ğ (Ì 2)) (λc=>(ò (i:=0) nq rfl zQ)) (λc=>ĸ) (λc=>(Ũ C__law_is_place hr (Á (Ì 1) (Á (Ì 0) É))))) É)))))))) (ý (Ď Wr.fZ)) Ĺ)
  (ä (Wr.dz (Wr.mX hr.units (Ć (Ì 2) Û) (Ć (Ì 2) Û)) (ý (Ď Wr.fZ)) Ĺ) (Ĵ [2] Ĺ))))
  (Ĵ [2] (ý (Ď (Wr.lR hr.units (Ì 1) (Wr.gP B.sorted (Á (Ì 1) É)))))))),aW h ?_⟩
 rintro ds P ⟨n,A,rfl,lA,rA,n8,so,q⟩
 refine⟨[.im (.int n),.sh (.list (A.map pD)),.any],rfl,?_⟩
 have nA:∀t∈A,lZ t:=λt ht=>by have:=rA t ht;exact⟨by omega,by omega⟩
 refine aM (A:=True) ?_
 refine Lr A pD (λρ=>ρ=[.im (.int n),.sh (.list (A.map pD)),.any]) rfl rfl rfl ?_ ?_
 ·rintro t ht ρ rfl
  obtain⟨⟨a0,a1⟩,⟨b0,b1⟩,ne⟩:=rA t ht
  refine aM (A:=True) (aM (A:=True) ?_)
  have two:∀z:Int,z∈[t.1,t.2]->0<=z/\z<n:=λz hz=>by
   rcases Ð.mp hz with rfl|hz
   ·exact⟨a0,a1⟩
   ·rw[Ö.mp hz];exact⟨b0,b1⟩
  refine oZ ([t.1,t.2]:List Int) Â (λ_=>.bool true) .imm rfl zK (λz hz A' B hA=>aN (B:=True) ⟨n,z,rfl,(two z hz).1,(two z hz).2,rfl,hA⟩) ?_
  refine⟨[true,true],rfl,?_⟩
  refine aM (A:=True) ⟨.int t.1,rfl,.int t.2,rfl,?_⟩
  show if decide (t.1=t.2)=true then _ else _
  rw[decide_eq_false ne]
  exact aM (A:=True) rfl
 ·rintro ρ rfl
  refine⟨A,.inl rfl,by omega,nA,λB hp hs=>?_⟩
  have eB:B=A:=oJ (λt ht=>nA t (hp.mem_iff.mp ht)) hp hs so
  subst eB
  refine⟨BL B,BL B,rfl,?_⟩
  show P (.bool (ñ (.list (B.map pD)) (.list (B.map pD))))
  rw[Ly,decide_eq_true rfl]
  exact q
def jl:FnScope ["_law_n","_law_thing","_law_met","_law_some"] ["_law_n","_law_thing"] (ao (top 53)):=zC
def nu:(["_law_one","_law_n","_law_thing","_law_met","_law_some"]:List Str).Nodup:=by decide +kernel
def qb(F:Fun K "_law_are_sets" "_law_are_sets" (top 53) f fd)(B:Ļ mg)(m_set:mg "set"=none)(C__law_is_place:Ā P w K mg base 1 "_law_is_place" ["_law_n","_law_thing"] (spD fIP)):FnOk P w K mg base CX0 2 f fd ["_law_n","_law_thing"] (spD fAS):=by
 refine F.ok jl ĭ (λcdv A outer s H vs Q E hr h=>?_)
 have nd:=jl.nd
 refine⟨_,Ģ (ä (Wr.dz (Ő (ŏ (Ÿ jP B.isinstance (Ì 1) (Wr.wty rfl B.list boot_list)))) (ý (Ď Wr.fZ)) Ĺ)
  (ä (ĉ none (i:=2) nd rfl zQ (Ō É))
  (ä (Wr.cO ù rfl (ğ (Ì 1)) (ò (i:=3) nd rfl zQ) (ä (Wr.dz (Wr.wpt (Wr.dU (Ő (ŏ (Ÿ jP B.isinstance (Ì 3) (Wr.wty rfl B.list boot_list)))) (Wr.dU (Ő (Wr.gM lg lg Û (Wr.bB B.len (Á (Ì 3) É)) (Ì 0))) (Wr.d8 (Ő (ŏ (Wr.iU rfl B.all Dl.boot_all (Á (ŧ ["_law_one"] rfl (ğ (Ì 3)) (λc=>(ò (i:=0) nu rfl zQ)) (λc=>ĸ) (λc=>(Ũ C__law_is_place hr (Á (Ì 1) (Á (Ì 0) É))))) É)))))))) (ý (Ď Wr.fZ)) Ĺ)
  (ä (Wr.dz (Wr.j5 hr.units (Ì 3) (Wr.qT B.sorted (Á (Ì 3) É))) (ý (Ď Wr.fZ)) Ĺ)
  (ä (ĉ none (i:=2) nd rfl zQ (ľ (Ì 2) (Ì 3))) (Ĵ [3] Ĺ)))))
  (Ĵ [3] (ý (Ď (Wr.lR hr.units (Wr.j7 rfl m_set B.len (Á (Ì 2) É)) (Wr.bB B.len (Á (Ì 2) É))))))))),aW h ?_⟩
 rintro ds P ⟨n,F,rfl,n8,lF,pr,nd,q⟩
 refine⟨[.im (.int n),.sh (.list (F.map iD)),.any,.any],rfl,?_⟩
 refine aM (A:=True) ⟨zK,?_⟩
 refine⟨rfl,λ(i:Nat) ρ=>∃s3:Sl,ρ=[.im (.int n),.sh (.list (F.map iD)),.sn (iD (F.take i).flatten),s3],⟨_,rfl⟩,?_,?_⟩
 ·rintro i d ρ hd ⟨s3,rfl⟩
  obtain⟨l,hl,rfl⟩:=cD hd
  have ml:=Ò hl
  have pl:=pr l ml
  have few:=pl.few
  have one:=pl.one
  show Eo _ _ _ [.im (.int n),.sh (.list (F.map iD)),.sn (iD (F.take i).flatten),.sh (iD l)]
  have ndt:((F.take i).flatten++l).Nodup:=by
   have:=nd
   rw[←List.take_append_drop i F,List.flatten_append,Ŕ (Ê.mp hl).1,(Ê.mp hl).2,ę,←Ř] at this
   exact(List.nodup_append.mp this).1
  have few2:((F.take i).flatten++l).length<=8:=by
   have h1:((F.take i).flatten++l).length<=(lM 8).length:=ndt.length_le_of_subset λx hx=>by
    rcases â.mp hx with hx|hx
    ·obtain⟨l',hl',hx'⟩:=List.mem_flatten.mp hx
     have:=(pr l' (List.mem_of_mem_take hl')).rng x hx'
     exact jL.mpr (by omega)
    ·have:=pl.rng x hx
     exact jL.mpr (by omega)
   have:(lM 8).length=8:=by decide
   omega
  have tk:(F.take (i+1)).flatten=(F.take i).flatten++l:=by
   rw[Ŋ,hl,List.flatten_append]
   show _++[l].flatten=_
   rw[List.flatten_singleton]
  rw[È] at few2
  have lm:(l.map Â).length=l.length:=À _
  refine aM (A:=True) ?_
  show if decide ((0:Int)<(((l.map Â).length:Nat):Int))=true then _ else _
  rw[lm,decide_eq_true (by omega)]
  refine aN (B:=True) ?_
  show if (!decide (((l.length:Nat):Int)<n))=true then _ else _
  rw[decide_eq_true (by omega)]
  refine aM (A:=True) ?_
  refine oZ l Â (λ_=>.bool true) .imm rfl (by omega) (λz hz A' B hA=>aN (B:=True) ⟨n,z,rfl,(pl.rng z hz).1,(pl.rng z hz).2,rfl,hA⟩) ?_
  refine⟨Æ l.length true,by rw[List.map_replicate,List.map_const'],?_⟩
  rw[show(Æ l.length true).all id=true by simp]
  refine aM (A:=True) ⟨l,rfl,by omega,λout hp hs=>?_⟩
  have eo:out=l:=hp.eq_of_pairwise (le:=λa b:Int=>a<=b) (λa b _ _ h1 h2=>Int.le_antisymm h1 h2) hs (pl.rise.imp λh=>by omega)
  subst eo
  refine⟨HW _,HW _,?_⟩
  show if (!PyData.eqvAll (out.map Â) (out.map Â))=true then _ else _
  rw[Js,decide_eq_true rfl]
  refine aM (A:=True) ⟨?_,.inl ⟨?_,.any,?_⟩⟩
  ·rw[À,À]
   omega
  ·rw[←Ø]
   exact cZ _
  ·rw[tk,←Ø]
   rfl
 ·rintro ρ ⟨s3,rfl⟩
  have e:(F.take (F.map iD).length).flatten=F.flatten:=by rw[À,ć]
  have lf:F.flatten.length<=8:=by
   have h1:F.flatten.length<=(lM 8).length:=nd.length_le_of_subset λx hx=>by
    obtain⟨l',hl',hx'⟩:=List.mem_flatten.mp hx
    have:=(pr l' hl').rng x hx'
    exact jL.mpr (by omega)
   have:(lM 8).length=8:=by decide
   omega
  rw[e]
  refine⟨.snw,F.flatten,rfl,by omega,rfl,?_⟩
  have eo:(((once F.flatten).length:Nat):Int)=(((F.flatten.map Â).length:Nat):Int):=by rw[(qX _).mpr nd,À]
  show P (.bool (decide ((((once F.flatten).length:Nat):Int)=(((F.flatten.map Â).length:Nat):Int))))
  rw[decide_eq_true eo]
  exact q
def kY:FnScope ["_law_web_here","_law_falls"] ["_law_web_here","_law_falls"] (ao (top 54)):=zC
def qe:(["_law_some","_law_web_here","_law_falls"]:List Str).Nodup:=by decide +kernel
def sX(F:Fun K "_law_stands" "_law_stands" (top 54) f fd)(B:Ļ mg)(C__law_sets:Ā P w K mg base 1 "_law_sets" ["_law_n"] (spD fLS))(C__law_need:Ā P w K mg base 2 "_law_need" ["_law_web_here","_law_falls","_law_side","_law_some"] (spD Qz)):FnOk P w K mg base CX0 3 f fd ["_law_web_here","_law_falls"] (spD Tz):=by
 refine F.ok kY ĭ (λcdv A outer s H vs Q E hr h=>?_)
 have nd:=kY.nd
 refine⟨_,Ģ (ý (Ď (Wr.iU rfl B.all Dl.boot_all (Á (ŧ ["_law_some"] rfl (ğ (Ũ C__law_sets hr (Á (Ć (Ì 0) Û) É))) (λc=>(ò (i:=0) qe rfl zQ)) (λc=>ĸ) (λc=>(Wr.lR hr.units (Ũ C__law_need hr (Á (Ì 1) (Á (Ì 2) (Á Wr.fK (Á (Ì 0) É))))) Û))) É)))),aW h ?_⟩
 rintro ds P ⟨n,us,fa,rfl,n1,n8,lu,hs,q⟩
 refine⟨[.im (aG n us),.im (.int fa)],by show [bG (aG _ us),_]=_;rw[cH];rfl,?_⟩
 have p2:=iJ (n:=n.toNat) (by omega) (by omega)
 have lp:=Le n.toNat
 refine⟨_,rfl,n,rfl,n1,n8,?_⟩
 refine oZ (pss n.toNat) lD (λl=>.bool true) .imm rfl (by omega) (λl hl A B hA=>aN (B:=True) ⟨n,us,fa,"in",l,rfl,lu,.inl rfl,?_⟩) ?_
 ·have:=hs l hl
  have e0:WO us fa "in" l=0:=by
   unfold WO nd1 byS
   rw[if_pos rfl]
   split <;> omega
  rw[e0]
  exact⟨rfl,hA⟩
 ·refine⟨Æ (pss n.toNat).length true,by rw[List.map_replicate,List.map_const'],rfl,?_⟩
  show P (.bool ((Æ (pss n.toNat).length true).all id))
  rw[show(Æ (pss n.toNat).length true).all id=true by simp]
  exact q
def pK:FnScope ["_law_pen_here","_law_n","_law_order_here","_law_ties_here"] ["_law_pen_here"] (ao (top 50)):=zC
def sZ:(["_law_k","_law_pen_here","_law_n","_law_order_here","_law_ties_here"]:List Str).Nodup:=by decide +kernel
def lE:(["_law_a","_law_b","_law_pen_here","_law_n","_law_order_here","_law_ties_here"]:List Str).Nodup:=by decide +kernel
def xU(F:Fun K "_law_full" "_law_full" (top 50) f fd)(B:Ļ mg)(C__law_draw:Ā P w K mg base 1 "_law_draw" ["_law_pen_here","_law_many"] (spP CP rW))(C__law_order:Ā P w K mg base 2 "_law_order" ["_law_pen_here","_law_n"] (spP CP Aj))(C__law_pair:Ā P w K mg base 2 "_law_pair" ["_law_pen_here","_law_n"] (spP CP Jm)):FnOk P w K mg base CX0 3 f fd ["_law_pen_here"] (spP CP Nv):=by
 refine F.ok pK jc (λcdv A outer s H vs Q E hr h=>?_)
 have nd:=pK.nd
 refine⟨_,Ģ (ä (ĉ none (i:=1) nd rfl zQ (ľ Û (Wr.dcP C__law_draw hr (Wr.wv 0) (Á Û É))))
  (ä (ĉ none (i:=2) nd rfl zQ (Wr.dcP C__law_order hr (Wr.wv 0) (Á (Ì 1) É)))
  (ä (Wr.iz (some 0) ["_law_k"] (i:=3) rfl nd rfl zQ (Wr.aV B.range (Á Û É)) (λc=>(ò (i:=0) sZ rfl zQ)) (λc=>ĸ) (λc=>(Wr.dcP C__law_pair hr (Wr.wv 1) (Á (Ū (Ì 2) Û) É))))
  (ä (Wr.dz (Wr.mX hr.units (Wr.dcP C__law_draw hr (Wr.wv 0) (Á Û É)) Û) (ý (Wr.wz (Wr.wv 3) Û (Ć (Ō (Á (ġ (Á (Ū (Ì 1) Û) (Á Û É))) (Á (ġ (Á Û (Á (Ū (Ì 1) Û) É))) É))) (Wr.dcP C__law_draw hr (Wr.wv 0) (Á Û É))))) Ĺ)
  (ý (Ď (ġ (Á (Ì 1) (Á (Wr.mY B.tuple (Á (Wr.gP B.sorted (Á (ŧ ["_law_a","_law_b"] rfl (ğ (Ì 3)) (λc=>(Wr.gC (n:=2) rfl (ĺ (ò (i:=0) lE rfl zQ) (ĺ (ò (i:=1) lE rfl zQ) Wr.dH)))) (λc=>ĸ) (λc=>(ġ (Á (Ć (Ì 4) (Ì 0)) (Á (Ć (Ì 4) (Ì 1)) É))))) É)) É)) É))))))))),enterQ h ?_⟩
 rintro ds P ⟨rfl,q⟩
 refine⟨[.any,.any,.any],rfl,?_⟩
 refine⟨rfl,4,rfl,by decide,by decide,λr r0 r1=>⟨rfl,3+r,rfl,by omega,by omega,λo ho=>?_⟩⟩
 refine⟨⟨by decide,by decide⟩,zK,.imm,λi ys=>∃us:List Tie,ys=us.map pD/\us.length=i/\bJ (3+r) us,⟨[],rfl,rfl,λt ht=>nomatch ht⟩,?_,?_⟩
 ·rintro i d ys hd ⟨us,rfl,hu,oku⟩
  exact aN (B:=True) ⟨rfl,3+r - 1,rfl,by omega,by omega,λa b a0 a1 b0 b1 _=>⟨rfl,us++[(a,b)],by rw[Ø];rfl,by rw[È,Õ,hu],oku.app (bJ.one ⟨⟨a0,by omega⟩,b0,by omega⟩)⟩⟩
 have fin:∀us:List Tie,us.length=40->bJ (3+r) us->Aq (uM (bR (tV 1) (bR (tCl Ci (bR (tCl vU (bR (dLC [å "_law_a",å "_law_b"].length (iSq (tV 3)) (gTp 2 (vR (gNm 0) (vR (gNm 1) Ja))) (λx P=>P true) (uM (bR (t2 gIx (tV 4) (tV 0)) (bR (t2 gIx (tV 4) (tV 1)) fU)))) fU)) fU)) fU))) { nx:=λ_=>P .none,rt:=P } [.pen CP,.im (.int (3+r)),.sn (.list (o.map Â)),.dw 0 (.list (us.map pD))]:=λus hu ok=>by
  have lm:(us.map pD).length=us.length:=À ..
  refine⟨by omega,.imm,λi ys=>∃vs:List Tie,ys=vs.map pD/\vs.length=i/\bJ (3+r) vs,⟨[],rfl,rfl,λt ht=>nomatch ht⟩,?_,?_⟩
  ·rintro i d ys hd ⟨vs,rfl,hv,okv⟩
   obtain⟨t,ht,rfl⟩:=cD hd
   obtain⟨⟨a0,a1⟩,b0,b1⟩:=ok t (Ò ht)
   obtain⟨x,ex,x0,x1⟩:=ho.at a0 a1
   obtain⟨y,ey,y0,y1⟩:=ho.at b0 b1
   exact⟨rfl,aN (B:=True) ⟨.int x,ex,.int y,ey,zK,rfl,vs++[(x,y)],by rw[Ø];rfl,by rw[È,Õ,hv],okv.app (bJ.one ⟨⟨x0,x1⟩,y0,y1⟩)⟩⟩
  rintro ys ⟨vs,rfl,hv,okv⟩
  refine⟨vs,.inl rfl,by omega,λt ht=>⟨(okv t ht).2.1,by have:=(okv t ht).2.2;omega⟩,λus' hp _=>⟨zK,?_,q (3+r) us' (by omega) (by omega) (by rw[hp.length_eq];omega) λt ht=>okv t (hp.mem_iff.mp ht)⟩⟩
  have e:=jd (3+r) us'
  show(norm _ (aG (3+r) us')).le .n0=true
  rw[gU e]
  rfl
 rintro ys ⟨us,rfl,hu,oku⟩
 have hu:us.length=40:=hu
 refine⟨rfl,2,rfl,by decide,by decide,λc c0 c1=>g8 (λ_=>?_) (λ_=>fin us hu oku)⟩
 refine⟨zK,zK,zK,?_⟩
 refine⟨rfl,2,rfl,by decide,by decide,λe e0 e1=>?_⟩
 have put:∀t:Tie,(0<=t.1/\t.1<3+r)/\0<=t.2/\t.2<3+r->bJ (3+r) (us.set 0 t):=λt ht x hx=>by
  rcases List.mem_or_eq_of_mem_set hx with h|rfl
  ·exact oku x h
  ·exact ht
 have st:∀t:Tie,(us.map pD).set 0 (pD t)=(us.set 0 t).map pD:=λt=>by rw[List.map_set]
 have h0:ixN (us.map pD).length 0=some 0:=by
  rw[À,hu]
  rfl
 rcases(by omega:e=0\/e=1) with rfl|rfl
 ·refine⟨pD (3+r - 1,0),rfl,0,us.map pD,rfl,rfl,0,h0,?_⟩
  rw[st]
  exact fin _ (by rw[Ť];exact hu) (put _ (by show(0<=3+r - 1/\3+r - 1<3+r)/\(0:Int)<=0/\(0:Int)<3+r;omega))
 ·refine⟨pD (0,3+r - 1),rfl,0,us.map pD,rfl,rfl,0,h0,?_⟩
  rw[st]
  exact fin _ (by rw[Ť];exact hu) (put _ (by show((0:Int)<=0/\(0:Int)<3+r)/\0<=3+r - 1/\3+r - 1<3+r;omega))
end
def Sh(k m:Nat)(d:D):Prop:=d.showable=true/\d.leavesShort 40=true/\d.depth<=k/\d.bulk<=m
instance (k m:Nat)(d:D):Decidable (Sh k m d):=by unfold Sh;exact inferInstance
def Sh.mono{k m k' m':Nat}{d:D}(h:Sh k m d)(h1:k<=k')(h2:m<=m'):Sh k' m' d:=⟨h.1,h.2.1,õ h.2.2.1 h1,õ h.2.2.2 h2⟩
def Sh.int{k m:Nat}{i:Int}(h0:-1000<=i)(h1:i<=1000):Sh k m (.int i):=by
 refine⟨?_,?_,ú _,ú _⟩
 ·simp only[PyData.showable,decide_eq_true_eq]
  have:=Nat.log2_le_self i.natAbs
  omega
 ·simp only[PyData.leavesShort,decide_eq_true_eq]
  have:=PyData.shown_int_le (i:=i) (by omega)
  omega
def yW{k m:Nat}:∀{ds:List D},(∀d∈ds,Sh k m d)->PyData.showableAll ds=true/\PyData.leavesShortAll 40 ds=true/\ő ds<=k/\PyData.bulkAll ds<=ds.length * (m+1)
 |[],_=>⟨rfl,rfl,ú _,ú _⟩
 |d::ds,h=>by
  obtain⟨h1,h2,h3,h4⟩:=yW (ds:=ds) λe he=>h e (Ä _ he)
  obtain⟨g1,g2,g3,g4⟩:=h d Å
  refine⟨?_,?_,?_,?_⟩
  ·show(d.showable&&PyData.showableAll ds)=true
   rw[g1,h1];rfl
  ·show(d.leavesShort 40&&PyData.leavesShortAll 40 ds)=true
   rw[g2,h2];rfl
  ·show max d.depth (ő ds)<=k
   omega
  ·show d.bulk+1+PyData.bulkAll ds<=(ds.length+1) * (m+1)
   rw[Nat.add_mul]
   omega
def Sh.list{k m c:Nat}{ds:List D}(h:∀d∈ds,Sh k m d)(hc:ds.length * (m+1)<=c):Sh (k+1) c (.list ds):=by
 obtain⟨h1,h2,h3,h4⟩:=yW h
 exact⟨h1,h2,Nat.succ_le_succ h3,õ h4 hc⟩
def Sh.tuple{k m c:Nat}{ds:List D}(h:∀d∈ds,Sh k m d)(hc:ds.length * (m+1)<=c):Sh (k+1) c (.tuple ds):=by
 obtain⟨h1,h2,h3,h4⟩:=yW h
 exact⟨h1,h2,Nat.succ_le_succ h3,õ h4 hc⟩
def Sh.ok{k m:Nat}{d:D}(h:Sh k m d)(hk:k<=50)(hm:m<=100000):zN d:=by
 obtain⟨h1,h2,h3,h4⟩:=h
 refine⟨h1,by omega,?_⟩
 have b:=PyData.shown_le_bulk 40 (by decide) d h2
 have h24:=ï
 have:(40+2) * d.bulk<=42 * 100000:=Ų (by decide) (by omega)
 omega
def Sh.ints{l:List Int}(h:∀x∈l,0<=x/\x<=100)(hl:l.length<=60):Sh 1 60 (iD l):=Sh.list (m:=0) (λd hd=>by
 obtain⟨x,hx,rfl⟩:=ç.mp hd
 have:=h x hx
 exact Sh.int (by omega) (by omega)) (by rw[À];omega)
def Sh.tie{t:Tie}(a:0<=t.1/\t.1<=100)(b:0<=t.2/\t.2<=100):Sh 1 2 (pD t):=Sh.tuple (m:=0) (λd hd=>by
 rcases Ð.mp hd with rfl|hd
 ·exact Sh.int (by omega) (by omega)
 ·rw[Ö.mp hd];exact Sh.int (by omega) (by omega)) (by show 2 * (0+1)<=2;decide)
def HJ{n:Int}{us:List Tie}(n0:0<=n)(n8:n<=100)(lu:us.length<=100)(ok:bJ n us):zN (aG n us):=by
 refine Sh.ok (k:=3) (m:=700) (Sh.tuple (m:=300) (λd hd=>?_) (by show 2 * (300+1)<=700;decide)) (by decide) (by decide)
 rcases Ð.mp hd with rfl|hd
 ·exact Sh.int (by omega) (by omega)
 ·rw[Ö.mp hd]
  refine Sh.tuple (m:=2) (λd hd=>?_) (by rw[À];omega)
  obtain⟨t,ht,rfl⟩:=ç.mp hd
  have:=ok t ht
  exact Sh.tie (by omega) (by omega)
def HN{A:List Tie}{s:Str}{F:List (List Int)}(hs:s="in"\/s="out")(lA:A.length<=24)(rA:∀t∈A,(0<=t.1/\t.1<=100)/\(0<=t.2/\t.2<=100))(lF:F.length<=60)(rF:∀l∈F,l.length<=60/\∀x∈l,0<=x/\x<=100):zN (.tuple [.list (A.map pD),.str s,.list (F.map iD)]):=by
 refine Sh.ok (k:=3) (m:=20000) (Sh.tuple (m:=4000) (λd hd=>?_) (by show 3 * (4000+1)<=20000;decide)) (by decide) (by decide)
 rcases Ð.mp hd with rfl|hd
 ·refine Sh.list (m:=2) (λd hd=>?_) (by rw[À];omega)
  obtain⟨t,ht,rfl⟩:=ç.mp hd
  exact Sh.tie (rA t ht).1 (rA t ht).2
 ·rcases Ð.mp hd with rfl|hd
  ·rcases hs with rfl|rfl
   ·exact(show Sh 0 3 (.str "in") by decide +kernel).mono (by decide) (by decide)
   ·exact(show Sh 0 3 (.str "out") by decide +kernel).mono (by decide) (by decide)
  ·rw[Ö.mp hd]
   refine Sh.list (m:=60) (λd hd=>?_) (by rw[À];omega)
   obtain⟨l,hl,rfl⟩:=ç.mp hd
   exact Sh.ints (rF l hl).2 (rF l hl).1
def fRt(ds:List D)(P:D->Prop):Prop:=∃(n k:Nat) (us:List Tie),ds=[aG ((n:Nat):Int) us,.int ((k:Int) - 1)]/\1<=n/\n<=8/\1<=k/\k<=3/\us.length<=60/\RgT n us/\P (.bool true)
section
variable {P:Program}{w:World}{K:Ú}{mg:Str->Option Value}{base:Heap}{f:Addr}{fd:FuncData}{CN P1 PT:Addr}
def mG:FnScope ["_law_web_here","_law_falls","_law_kept","_law_found","_law_added","_law_side","_law_family","_law_told","_law_some"] ["_law_web_here","_law_falls"] (ao (top 55)):=zC
def rG:(["_law_some","_law_web_here","_law_falls","_law_kept","_law_found","_law_added","_law_side","_law_family","_law_told",""]:List Str).Nodup:=by decide +kernel
def Hy(F:Fun K "_law_right" "_law_right" (top 55) f fd)(B:Ļ mg)(m_repr:mg "repr"=none)(m_str:mg "str"=none)(m_sum:mg "sum"=none)(SY:Dl.CW base)(C_one_puts:Ā P w K mg base 15 "one_puts" ["one","falls"] (Dg (cI P1 PT) fOP))(C__law_are_ties:Ā P w K mg base 2 "_law_are_ties" ["_law_n","_law_thing"] (spD fAT))(C__law_stands:Ā P w K mg base 3 "_law_stands" ["_law_web_here","_law_falls"] (spD Tz))(C__law_are_sets:Ā P w K mg base 2 "_law_are_sets" ["_law_n","_law_thing"] (spD fAS))(C__law_need:Ā P w K mg base 2 "_law_need" ["_law_web_here","_law_falls","_law_side","_law_some"] (spD Qz)):FnOk P w K mg base CX0 17 f fd ["_law_web_here","_law_falls"] (spT (cI P1 PT) fRt):=by
 refine F.ok mG vL (λcdv A outer s H vs Q E hr h=>?_)
 have nd:=mG.nd
 letI:=grU (cI P1 PT)
 have C1:=C_one_puts.of3
 refine⟨_,č (ņ (i:=2) nd rfl zQ (Wr.WD.h (Wr.gQ SY hr.gd hr.units m_repr (Á (Ì 0) É))))
  (č (ņ (i:=3) nd rfl zQ (pcS C_one_puts hr (Wr.WDA.h (Á (Ì 0) (Á (Ì 1) É))) (by decide) rfl (by decide) rfl rfl))
  (č (jA (Wr.WDT.h (Wr.wpt (Wr.dU (Ő (ŏ (Ÿ kit_tuple B.isinstance (Ì 3) (Wr.wty rfl B.tuple boot_tuple)))) (Wr.d8 (Wr.j5 hr.units (Wr.bB B.len (Á (Ì 3) É)) Û))))) (Ģ (ý (Ď Wr.fZ))) dG)
  (č (qO (pv 3) (GD (n:=3) rfl (mU (Ĭ (i:=4) nd rfl zQ) (mU (Ĭ (i:=5) nd rfl zQ) (mU (Ĭ (i:=6) nd rfl zQ) Bv)))))
  (č (jA (Wr.WDT.h (Wr.wpt (Wr.dU (Ő (ŏ (Ũ C__law_are_ties hr (Á (Ć (Ì 0) Û) (Á (Ì 4) É))))) (Wr.dU (Ő (ŏ (Ÿ Li B.isinstance (Ì 5) (Wr.wty rfl m_str Dl.boot_str)))) (Wr.d8 (Wr.j4 hr.units (Ì 5) (ġ (Á Wr.fK (Á Wr.fK É))))))))) (Ģ (ý (Ď Wr.fZ))) dG)
  (č (jA (Wr.WDT.h (Wr.wpt (Wr.dU (Ő (ŏ (Ũ C__law_are_sets hr (Á (Ć (Ì 0) Û) (Á (Ì 6) É))))) (Wr.d8 (Ő (ŏ (Ũ C__law_stands hr (Á (ġ (Á (Ć (Ì 0) Û) (Á (ľ (Ć (Ì 0) Û) (Wr.mY B.tuple (Á (Ì 4) É))) É))) (Á (Ì 1) É))))))))) (Ģ (ý (Ď Wr.fZ))) dG)
  (č (jA (Wr.WDT.h (Wr.j5 hr.units (Wr.qm rfl m_sum (Á (Wr.qU ["_law_some"] ["_law_web_here","_law_falls","_law_kept","_law_found","_law_added","_law_side","_law_family","_law_told",""] rfl (ğ (Ì 6)) (λc=>(ò (i:=0) rG rfl zQ)) (λc=>ĸ) (λc=>(Ũ C__law_need hr (Á (Ì 1) (Á (Ì 2) (Á (Ì 6) (Á (Ì 0) É)))))) (hk:=rfl)) É)) (Wr.bB B.len (Á (Ì 4) É)))) (Ģ (ý (Ď Wr.fZ))) dG)
  (č (ņ (i:=7) nd rfl zQ (Wr.WD.h (Wr.gQ SY hr.gd hr.units m_repr (Á (Ì 3) É))))
  (zj (i:=6) (j:=8) (i2:=4) rfl (bL (fH í Ĝ ě cT (Wr.wv 4).h (Wr.WDA.h (Á (ġ (Á Û (Á Û É))) É))))
   (qN ù rfl (Gz (Wr.wv 6).h) (Ĭ (i:=8) nd rfl zQ) (ŵ (bL (fH í Ĝ ě cT (Wr.wv 8).h (Wr.WDA.h (Á Û É))))))
   (bL (fH í Ĝ ě cT (Wr.wv 6).h (Wr.WDA.h (Á (Ō É) É))))
   (Ģ (ý (Ď (Wr.iT (Wr.lR hr.units (Wr.gQ SY hr.gd hr.units m_repr (Á (Wr.dcU C1 hr (Á (Ì 0) (Á (Ì 1) É))) É)) (Ì 7)) (Wr.jD (Wr.lR hr.units (Wr.gQ SY hr.gd hr.units m_repr (Á (Ì 0) É)) (Ì 2))))))))))))))),?_⟩
 obtain⟨ds,P,pi,r,⟨n,k,us,rfl,n1,n8,k1,k3,lu,hu,q⟩,kk⟩:=h
 have E0:=eZ (p:=cI P1 PT) (N:=["_law_web_here","_law_falls","_law_kept","_law_found","_law_added","_law_side","_law_family","_law_told","_law_some"]) rfl pi r
 have e0:([aG ((n:Nat):Int) us,Â ((k:Int) - 1)].map bG++Æ ((["_law_web_here","_law_falls","_law_kept","_law_found","_law_added","_law_side","_law_family","_law_told","_law_some"]:List Str).length - vs.length) Sl.any)=[.im (aG ((n:Nat):Int) us),.im (.int ((k:Int) - 1)),.any,.any,.any,.any,.any,.any,.any]:=by
  rw[r.length]
  show [bG (aG _ us),_,_,_,_,_,_,_,_]=_
  rw[cH]
  rfl
 rw[e0] at E0
 generalize L2.start _ vs=σ0 at E0 ⊢
 have okw:zN (aG ((n:Nat):Int) us):=HJ (by omega) (by omega) (by omega) hu
 refine Ru E0 (d0:=.str (aG ((n:Nat):Int) us).shown) ⟨_,_,rfl,okw,rfl,rfl⟩ (λv0 H1 A1 E1=>?_)
 generalize σ0.set 2 (some v0)=σ1 at E1 ⊢
 have E1:EnvD (cI P1 PT) H (λ_=>none) σ1 H1 [.im (aG ((n:Nat):Int) us),.im (.int ((k:Int) - 1)),.im (.str (aG ((n:Nat):Int) us).shown),.any,.any,.any,.any,.any,.any]:=E1
 have l1:σ1.length=9:=E1.len.symm
 refine⟨_,_,_,_,(λks=>ks.map (·.2)=[aG ((n:Nat):Int) us,.int ((k:Int) - 1)]),E1,rfl,λks ws H2 h2 A2 r2=>?_⟩
 show Dg (cI P1 PT) fOP (ws++[]) H2 _ _
 rw[ê]
 refine⟨ks.map (·.2),(λd=>∃A s F,OneOk n k us A s F/\d=.tuple [.list (A.map pD),.str s,.list (F.map iD)]),A2.pen,(RpK.rps A2 r2).mono (λ_ o z=>o z) (λ_ _ _ e=>e) (λ_ _ e=>e),by rw[h2];exact⟨n,k,us,rfl,n1,n8,k1,k3,by omega,hu,λA s F ok=>⟨A,s,F,ok,rfl⟩⟩,?_⟩
 rintro d v H3 ⟨A,sd,F,ok,rfl⟩ kp3 pi3 r3 ds3
 obtain⟨own',E3⟩:=E1.told (i:=3) (q:=0) (A2.go kp3 pi3) rfl (by omega) (r3.mono (λa o=>A2.free o) (λ_ _ _ e=>e) λ_ _ e=>e)
 obtain⟨t,l,m,x,rfl,ht,nlm⟩:=ds3
 show sS _ _ _ (σ1.set 3 (some (.ref t))) H3
 have h3:(σ1.set 3 (some (.ref t)))[3]?=some (some (.ref t)):=ë (by omega)
 have l3:(σ1.set 3 (some (.ref t))).length=9:=by rw[Ť];exact l1
 generalize σ1.set 3 (some (.ref t))=σ3 at E3 h3 l3 ⊢
 have E3:EnvD (cI P1 PT) H own' σ3 H3 [.im (aG ((n:Nat):Int) us),.im (.int ((k:Int) - 1)),.im (.str (aG ((n:Nat):Int) us).shown),.dw 0 (.tuple [.list (A.map pD),.str sd,.list (F.map iD)]),.any,.any,.any,.any,.any]:=E3
 obtain⟨la,ra,la2,cA⟩:=Du n1 n8 k3 hu ok
 obtain⟨prF,ndF,llF⟩:=kI n1 n8 ok.pap.fam
 refine LC E3 (aM (A:=True) rfl) (λH4 A4=>?_) rfl
 have E4:=E3.go A4.kp A4.pen
 have ht4:=A4.tups t _ ht
 clear ht A4
 obtain⟨v',hv',x3⟩:=E4.slot 3 _ rfl
 rw[h3] at hv'
 cases hv'
 obtain⟨t',xs,et,ht',rs⟩:=Rp.fu x3
 cases et
 rw[ht4] at ht'
 cases ht'
 obtain⟨rA,rsd,rF⟩:Rp (λa=>own' a=some 0) H4 (.ref l) (.list (A.map pD))/\Rp (λa=>own' a=some 0) H4 x (.str sd)/\Rp (λa=>own' a=some 0) H4 (.ref m) (.list (F.map iD)):=by
  cases rs with
  |cons h1 t=>cases t with
   |cons h2 t=>cases t with
    |cons h3 t=>exact⟨h1,h2,h3⟩
 have ex:=rsd.str'
 subst ex
 refine⟨.ref t,h3,t,_,rfl,SqT.of ht4,rfl,_,_,rfl,_,_,rfl,_,_,rfl,rfl,?_⟩
 have E5:=((E4.set (i:=4) (v:=.ref l) (s:=.dw 0 (.list (A.map pD))) λhl=>⟨_,ë hl,rA⟩).set (i:=5) (v:=.str sd) (s:=.im (.str sd)) λhl=>⟨_,ë hl,.str sd⟩).set (i:=6) (v:=.ref m) (s:=.dw 0 (.list (F.map iD))) λhl=>⟨_,ë hl,rF⟩
 have h4:(((σ3.set 4 (some (.ref l))).set 5 (some (.str sd))).set 6 (some (.ref m)))[4]?=some (some (.ref l)):=by
  rw[ď (by decide),ď (by decide)]
  exact ë (by omega)
 have h6:(((σ3.set 4 (some (.ref l))).set 5 (some (.str sd))).set 6 (some (.ref m)))[6]?=some (some (.ref m)):=ë (by rw[Ť,Ť];omega)
 show sS _ _ _ (((σ3.set 4 (some (.ref l))).set 5 (some (.str sd))).set 6 (some (.ref m))) H4
 generalize ((σ3.set 4 (some (.ref l))).set 5 (some (.str sd))).set 6 (some (.ref m))=σ5 at E5 h4 h6 ⊢
 have E5:EnvD (cI P1 PT) H own' σ5 H4 [.im (aG ((n:Nat):Int) us),.im (.int ((k:Int) - 1)),.im (.str (aG ((n:Nat):Int) us).shown),.dw 0 (.tuple [.list (A.map pD),.str sd,.list (F.map iD)]),.dw 0 (.list (A.map pD)),.im (.str sd),.dw 0 (.list (F.map iD)),.any,.any]:=E5
 have nA:∀t∈A,lZ t:=λt ht=>by have:=ra t ht;exact⟨by omega,by omega⟩
 refine LC E5 ⟨_,rfl,((n:Nat):Int),A,rfl,by omega,ra,by omega,ok.so,?_⟩ (λH6 A6=>?_) rfl
 ·rcases ok.pap.side with rfl|rfl
  ·exact aM (A:=True) (aM (A:=True) ⟨zK,by decide +kernel,by decide +kernel,by decide +kernel⟩)
  ·exact aM (A:=True) (aM (A:=True) ⟨zK,by decide +kernel,by decide +kernel,by decide +kernel⟩)
 have E6:=E5.go A6.kp A6.pen
 refine LC E6 ⟨_,rfl,((n:Nat):Int),F,rfl,by omega,llF,prF,ndF,?_⟩ (λH7 A7=>?_) rfl
 ·have stn:∀l∈pss (((n:Nat):Int)).toNat,(k:Int) - 1<((inN (us++A) l:Nat):Int):=λl hl=>by
   rw[é,Kg n1 n8] at hl
   have:=cA (mb l) (lN n1 n8 hl)
   rw[Ni] at this
   omega
  refine aM (A:=True) ⟨_,rfl,_,rfl,?_,zK,((n:Nat):Int),us++A,(k:Int) - 1,?_,by omega,by omega,by rw[È];omega,stn,rfl⟩
  ·rw[À,À]
   omega
  ·show [PyData.tuple [.int _,.tuple (us.map pD++A.map pD)],_]=_
   rw[←Ø]
   rfl
 have E7:=E6.go A7.kp A7.pen
 refine LC E7 ?_ (λH8 A8=>?_) rfl
 ·refine oZ F iD (λl=>.int (WO us ((k:Int) - 1) sd l)) .imm rfl (by omega) (λl hl A' B hA=>aN (B:=True) ⟨((n:Nat):Int),us,(k:Int) - 1,sd,l,rfl,by omega,ok.pap.side,rfl,hA⟩) ?_
  refine⟨F.map (WO us ((k:Int) - 1) sd),by rw[ô];rfl,by rw[À];omega,λx hx=>?_,?_⟩
  ·obtain⟨l,_,rfl⟩:=ç.mp hx
   exact Ft (by omega) (by omega) sd l
  ·show(!decide ((F.map (WO us ((k:Int) - 1) sd)).sum=(((A.map pD).length:Nat):Int)))=false
   rw[À,decide_eq_true la2.symm]
   rfl
 have E8:=E7.go A8.kp A8.pen
 have ok1:zN (.tuple [.list (A.map pD),.str sd,.list (F.map iD)]):=HN ok.pap.side (by omega) (λt ht=>by have:=ra t ht;omega) (by omega) λl hl=>⟨by have:=(prF l hl).few;omega,λx hx=>by have:=(prF l hl).rng x hx;omega⟩
 refine Ru E8 (d0:=.str (PyData.tuple [.list (A.map pD),.str sd,.list (F.map iD)]).shown) ⟨_,_,rfl,ok1,rfl,rfl⟩ (λv9 H9 A9 E9=>?_)
 have h4':(σ5.set 7 (some v9))[4]?=some (some (.ref l)):=by rw[ď (by decide)];exact h4
 have h6':(σ5.set 7 (some v9))[6]?=some (some (.ref m)):=by rw[ď (by decide)];exact h6
 refine⟨cI P1 PT,H,own',_,{ nx:=λ_=>False,rt:=λd=>d=.bool true },0,F.map iD,A.map pD,m,l,E9,⟨rfl,rfl,h6',h4',ė nlm⟩,⟨(show 8<9 by decide),(show 6≠8 by decide),by rw[À];omega,λd hd=>?_,by rw[À];omega⟩,?_,⟨λ_ _ _ _ _ _ n=>n.elim,λd v h' e w=>?_,λ_ _ _ _ _ _ n=>n.elim,λ_ _ _ _ _ _ n=>n.elim⟩⟩
 ·obtain⟨l,hl,rfl⟩:=ç.mp hd
  exact⟨_,rfl,by have:=(prF l hl).few;rw[À];omega⟩
 ·refine⟨zK,zK,n,k,us,rfl,n1,n8,k1,k3,by omega,hu,λA2 s2 F2 ok2=>?_⟩
  obtain⟨ea,es,ef⟩:=Hw ok ok2 nA
  subst ea es ef
  refine⟨_,_,rfl,ok1,?_⟩
  generalize (PyData.tuple [.list (A.map pD),.str sd,.list (F.map iD)]).shown=sh1
  show if decide (sh1=sh1)=true then _ else _
  rw[decide_eq_true rfl]
  refine aN (B:=True) ⟨_,_,rfl,okw,?_⟩
  generalize (aG ((n:Nat):Int) us).shown=sh2
  refine⟨rfl,?_⟩
  show PyData.bool (decide (sh2=sh2))=.bool true
  rw[decide_eq_true rfl]
 ·have e:d=.bool true:=e
  subst e
  exact kk _ _ _ q w.k0 w.pen (w.rp.mono (λ_ o=>o.1) (λ_ _ _ e=>e) λ_ _ e=>e)
def Gf(K:Ú)(T:Pn):Sp:=λvs H Q _=>∃(a:Addr) (ns:List Int),vs=[.ref a]/\SqL K H a (ns.map ř)/\T.PI H/\∀H',Q (.bl true) H'
def FP{H:Hp}{a:Addr}{xs:List V}(T:(cI P1 PT).PI H)(r:Rd H a (.lst xs)):¬(cI P1 PT).fp a:=λz=>by
 have h1:∀{Q:Addr}{pos:Pos}{u:Str},lK Q pos u H->a≠Q:=λ{Q pos u} ⟨ps,h,_⟩ z=>by
  subst z
  rcases r with r|⟨o,r⟩
  ·rw[h] at r;cases r
  ·rw[h] at r;cases r
 rcases z with z|z
 ·exact h1 T.1 z
 ·exact h1 T.2 z
structure LawI(K:Ú)(P1 PT sc p:Addr)(ns:List Int)(H:Hp):Prop where
 tab:(cI P1 PT).PI H
 pen:uJ p H
 scr:(Rd H sc (.lst (ns.map ř))/\sc≠p)\/∀H',SqL K H' sc (ns.map ř)
def Rd.keep{H H':Hp}{a:Addr}{u:HO}(h:Rd H a u)(k:∀o,H a=some o->H' a=some o):Rd H' a u:=h.imp (k _) λ⟨o,h⟩=>⟨o,k _ h⟩
def LawI.GJ{sc p:Addr}{ns:List Int}{H:Hp}(I:LawI K P1 PT sc p ns H):¬(cI P1 PT).fp p:=by
 obtain⟨a,b,c,h⟩:=I.pen
 exact FP I.tab (.inl h)
def LawI.goT{sc p:Addr}{ns:List Int}{H H':Hp}(I:LawI K P1 PT sc p ns H)(k:Kp (cI P1 PT) H H')(t:(cI P1 PT).PI H'):LawI K P1 PT sc p ns H':=by
 have np:=I.GJ
 obtain⟨a,b,c,h⟩:=I.pen
 exact⟨t,⟨a,b,c,k p _ h np⟩,I.scr.imp (λ⟨r,n⟩=>⟨Rd.keep r λo e=>k sc o e (FP I.tab r),n⟩) id⟩
def LawI.goP{sc p:Addr}{ns:List Int}{H H':Hp}(I:LawI K P1 PT sc p ns H)(k:Kp (xH p) H H')(t:uJ p H'):LawI K P1 PT sc p ns H':=by
 have np:=I.GJ
 obtain⟨a,b,c,h⟩:=I.pen
 refine⟨(cI P1 PT).mono H H' I.tab λb o z e=>k b o e λy=>?_,t,I.scr.imp (λ⟨r,n⟩=>⟨Rd.keep r λo e=>k sc o e n,n⟩) id⟩
 have y:b=p:=y
 subst y
 rcases z with z|⟨_,_,z⟩
 ·exact np z
 ·rw[h,z] at e
  cases e
def LawI.same{sc p:Addr}{ns:List Int}{H H':Hp}(I:LawI K P1 PT sc p ns H)(k:Same H H'):LawI K P1 PT sc p ns H':=by
 obtain⟨a,b,c,h⟩:=I.pen
 exact⟨(cI P1 PT).mono H H' I.tab λb o _ e=>k b o e,⟨a,b,c,k _ _ h⟩,I.scr.imp (λ⟨r,n⟩=>⟨Rd.keep r λo e=>k _ _ e,n⟩) id⟩
def LawI.Um{sc p:Addr}{ns:List Int}{H H':Hp}(I:LawI K P1 PT sc p ns H)(k:Kp (cI P1 PT) H H'):∀a xs,H a=some (.tup xs)->H' a=some (.tup xs):=λa xs e=>k a _ e λz=>by
 obtain⟨o,e',n⟩:=(cI P1 PT).is H a I.tab z
 rw[e] at e'
 exact n.1 xs (à e').symm
def LawI.tupP{sc p:Addr}{ns:List Int}{H H':Hp}(I:LawI K P1 PT sc p ns H)(k:Kp (xH p) H H'):∀a xs,H a=some (.tup xs)->H' a=some (.tup xs):=λa xs e=>k a _ e λz=>by
 obtain⟨x,y,c,h⟩:=I.pen
 have z:a=p:=z
 rw[z,h] at e
 cases e
def Ou{ok ok':Addr->Prop}{H:Hp}{v:V}{n:Int}{us:List Tie}(r:Rp ok H v (aG n us)):Rp ok' H v (aG n us):=(r.imm (jd n us)).mono (λ_ o=>o.elim) (λ_ _ _ e=>e) λ_ _ e=>e
def Ry:FnScope ["_law_script","_law_k","_law_pen_here","_law_web_here","_law_falls"] ["_law_script"] (ao (top 56)):=zC
def Pq(F:Fun K "law" "law" (top 56) f fd)(B:Ļ mg)(PN:Ā P w K mg base 1 "_law_pen" ["_law_script","_law_k"] (Mg K))(WB:Ā P w K mg base 4 "_law_web" ["_law_pen_here","_law_most"] (spP CP Tw))(FU:Ā P w K mg base 3 "_law_full" ["_law_pen_here"] (spP CP Nv))(RT:Ā P w K mg base 17 "_law_right" ["_law_web_here","_law_falls"] (spT (cI P1 PT) fRt)) :
  FnOk P w K mg base CX0 18 f fd ["_law_script"] (Gf K (cI P1 PT)):=by
 refine F.ok Ry (λvs H Q E h=>?_) (λcdv A outer s H vs Q E hr h=>?_)
 ·obtain⟨a,ns,rfl,_⟩:=h
  rfl
 obtain⟨sc,ns,rfl,hS,T0,q⟩:=h
 have nd:=Ry.nd
 refine⟨_,č (qN ù rfl (oO rfl B.range (Ĕ ē Š)) (Ĭ (i:=1) nd rfl (þ rfl))
   (č (ņ (i:=2) nd rfl (þ rfl) (pcS PN hr (Ĕ (pv 0) (Ĕ (pv 1) Š)) (by decide) rfl (by decide) rfl rfl))
   (č (ņ (i:=3) nd rfl (þ rfl) (pcS WB hr (Ĕ (pv 2) (Ĕ (dY cF (jC (Ĕ ē (Ĕ ē (Ĕ ē Š)))) (pv 1) (λ_ _=>rfl)) Š)) (by decide) rfl (by decide) rfl rfl))
   (ŵ (qN ù rfl (oO rfl B.range (Ĕ ē Š)) (Ĭ (i:=4) nd rfl (þ rfl))
    (ŵ (jA (PW.pt (Mq (zf (yZ (pcS RT hr (Ĕ (pv 3) (Ĕ (pv 4) Š)) (by decide) rfl (by decide) rfl rfl)))
     (Gq (PW.pt (Gu (iQ Hs (pv 1) ē (bT _)) (Bu (zf (yZ (pcS RT hr (Ĕ (pcS FU hr (Ĕ (pv 2) Š) (by decide) rfl (by decide) rfl rfl) (Ĕ (pv 4) Š)) (by decide) rfl (by decide) rfl rfl)))))))))
    (ŵ (gq G4)) dG)))))))
  (ŵ (gq G4)),?_⟩
 have scr0:∀{p:Addr},p≠sc->(Rd H sc (.lst (ns.map ř))/\sc≠p)\/∀H',SqL K H' sc (ns.map ř):=λ{p} n=>hS.elim (λr=>.inl ⟨r,n.symm⟩) λh=>.inr λ_=>.inr h
 refine⟨3,rfl,by decide,by decide,o9 (lo:=0) (n:=3) (λi σ H'=>∃a1 a2 a3 a4,σ=[some (.ref sc),a1,a2,a3,a4]/\(cI P1 PT).PI H'/\(Rd H' sc (.lst (ns.map ř))\/∀H',SqL K H' sc (ns.map ř))) ⟨_,_,_,_,rfl,T0,hS.imp id λh _=>.inr h⟩ ?_ ?_⟩
 ·rintro i σ H1 hi ⟨a1,a2,a3,a4,rfl,T1,S1⟩
  refine⟨_,rfl,_,rfl,sc,ns,0+(i:Int),rfl,by omega,by omega,S1.elim .inl λh=>h H1,λp H2 s2 hp pi=>?_⟩
  have I2:LawI K P1 PT sc p ns H2:=⟨(cI P1 PT).mono H1 H2 T1 λb o _ e=>s2 b o e,pi,S1.imp (λr=>⟨Rd.keep r λo e=>s2 _ _ e,λz=>by
   subst z
   rcases r with r|⟨o,r⟩
   ·rw[hp] at r;cases r
   ·rw[hp] at r;cases r⟩) id⟩
  obtain⟨m,hm,m1,m8⟩:∃m:Int,atI [ř 8,ř 5,ř 5] (0+((i:Nat):Int))=some (.int m)/\1<=m/\m<=8:=by
   match i,hi with
   |0,_=>exact⟨8,rfl,by decide,by decide⟩
   |1,_=>exact⟨5,rfl,by decide,by decide⟩
   |2,_=>exact⟨5,rfl,by decide,by decide⟩
  refine⟨_,rfl,(by show 3<=sizeLine;decide),λl hl=>⟨_,rfl,l,_,_,_,rfl,rfl,SqL.of aq,hm,?_⟩⟩
  have I3:=I2.same (H':=upd H2 l (.lst [ř 8,ř 5,ř 5])) λb o e=>by rw[ų (aB e hl)];exact e
  refine⟨xH p,[.int m],[.int m],(λd=>∃(n:Int) (us:List Tie),d=aG n us/\1<=n/\n<=8/\us.length<=60/\bJ n us),⟨p,rfl⟩,rfl,I3.pen,.cons (.int m) .nil,⟨m,rfl,m1,m8,λn us n1 n8 lu ok=>⟨n,us,rfl,n1,n8,lu,ok⟩⟩,?_⟩
  rintro d v H4 ⟨n,us,rfl,n1,n8,lu,ok⟩ k4 pi4 rv
  have I4:=I3.goP k4 pi4
  obtain⟨n,rfl⟩:∃n':Nat,n=((n':Nat):Int):=⟨n.toNat,by omega⟩
  -- what is told of a web
  have one:∀(H5:Hp) (v:V) (j:Nat) (n:Nat) (us:List Tie) (R:V->Hp->Prop),LawI K P1 PT sc p ns H5->j<2->1<=n->n<=8->us.length<=60->bJ ((n:Nat):Int) us->Rp (λ_=>False) H5 v (aG ((n:Nat):Int) us)->(∀H6,LawI K P1 PT sc p ns H6->(∀a xs,H5 a=some (.tup xs)->H6 a=some (.tup xs))->R (.bl true) H6)->Dl.spT (cI P1 PT) fRt [v,.int (0+((j:Nat):Int))] H5 R E0:=λH5 v j n us R I5 hj n1 n8 lu ok rv hR =>
   ⟨[aG ((n:Nat):Int) us,.int (0+((j:Nat):Int))],λd=>d=.bool true,I5.tab,.cons (Ou rv) (.cons (.int _) .nil),⟨n,j+1,us,by rw[show((j+1:Nat):Int) - 1=0+((j:Nat):Int) by omega],n1,n8,by omega,by omega,lu,ok,rfl⟩,λd v' H6 hd kp pi rv'=>by
    subst hd
    have e:=rv'.bl'
    subst e
    exact hR H6 (I5.goT kp pi) (I5.Um kp)⟩
  refine⟨2,rfl,by decide,by decide,o9 (lo:=0) (n:=2) (λj σ H'=>∃a4,σ=[some (.ref sc),some (.int (0+((i:Nat):Int))),some (.ref p),some v,a4]/\LawI K P1 PT sc p ns H'/\Rp (λ_=>False) H' v (aG ((n:Nat):Int) us)) ⟨_,rfl,I4,rv.imm (jd _ us)⟩ ?_ ?_⟩
  ·rintro j σ H5 hj ⟨a4,rfl,I5,rw5⟩
   refine⟨_,rfl,_,rfl,one H5 v j n us _ I5 hj (by omega) (by omega) lu ok rw5 λH6 I6 tp6=>⟨true,rfl,?_⟩⟩
   have rw6:Rp (λ_=>False) H6 v (aG ((n:Nat):Int) us):=rw5.mono (λ_ o=>o) (λ_ _ o=>o.elim) tp6
   refine aM (A:=_) ⟨_,rfl,_,_,rfl,rfl,_,rfl,g8 (λc=>?_) (λc=>?_)⟩
   ·refine⟨_,rfl,xH p,[],[],(λd=>∃(n:Int) (us:List Tie),d=aG n us/\1<=n/\n<=8/\us.length<=60/\bJ n us),⟨p,rfl⟩,rfl,I6.pen,.nil,⟨rfl,λn us n1 n8 lu ok=>⟨n,us,rfl,n1,n8,lu,ok⟩⟩,?_⟩
    rintro d v7 H7 ⟨n2,us2,rfl,n21,n28,lu2,ok2⟩ k7 pi7 rv7
    have I7:=I6.goP k7 pi7
    have rw7:Rp (λ_=>False) H7 v (aG ((n:Nat):Int) us):=rw6.mono (λ_ o=>o) (λ_ _ o=>o.elim) (I6.tupP k7)
    obtain⟨n2,rfl⟩:∃n':Nat,n2=((n':Nat):Int):=⟨n2.toNat,by omega⟩
    refine⟨_,rfl,one H7 v7 j n2 us2 _ I7 hj (by omega) (by omega) lu2 ok2 (rv7.imm (jd _ us2)) λH8 I8 tp8=>⟨true,rfl,aM (A:=_) ⟨_,rfl,I8,rw7.mono (λ_ o=>o) (λ_ _ o=>o.elim) tp8⟩⟩⟩
   ·exact aM (A:=_) ⟨_,rfl,I6,rw6⟩
  ·rintro σ H5 ⟨a4,rfl,I5,_⟩
   exact⟨_,_,_,_,rfl,I5.tab,I5.scr.imp (λr=>r.1) id⟩
 ·rintro σ H1 ⟨a1,a2,a3,a4,rfl,_,_⟩
  exact q H1
end
def len1{α:Type}:∀us:List α,us.length=1->∃a,us=[a]
 |[a],_=>⟨a,rfl⟩
def len2{α:Type}:∀us:List α,us.length=2->∃a b,us=[a,b]
 |[a,b],_=>⟨a,b,rfl⟩
def Va{α:Type}:∀us:List α,us.length=3->∃a b c,us=[a,b,c]
 |[a,b,c],_=>⟨a,b,c,rfl⟩
def Ab{α:Type}:∀us:List α,us.length=4->∃a b c d,us=[a,b,c,d]
 |[a,b,c,d],_=>⟨a,b,c,d,rfl⟩
def aA{K:Ú}{f:Addr}{oc:Value}{od:Option Addr}{fd:FuncData}{sl:Array (Option Value)}(l:K.lookup f=some ⟨oc,od,.func fd,sl⟩):W.keepIn K (.ref f)=true:=by
 unfold W.keepIn
 simp only[l]
def aC{P:Program}{w:World}{K:Ú}{mg:Str->Option Value}{base:Heap}{k:Nat}{x:Str}{st:Stmt}{f:Addr}{fd:FuncData}{ps:List Str}{sp:Sp}(F:Fun K x x st f fd)(b:Binds K fd ps [])(m:mg x=some (.ref f))(h:FnOk P w K mg base CX0 k f fd ps sp) :
  Ā P w K mg base k x ps sp:=⟨f,fd,h,b,F.kp,m⟩
abbrev zl(K:Ú)(f:Addr)(x:Str)(st:Stmt)(oc:Value)(od:Option Addr)(kV dc pm:Value)(an:Option Addr)(cd ct:Value)(sl:Array (Option Value)):Prop:=K.lookup f=some ⟨oc,od,.func (W.fnOf x x (dI st) (bU st) (ao st) .none kV dc pm an cd ct),sl⟩
abbrev za(K:Ú)(x:Str)(f:Addr):Prop:=W.nsIn K mainGlobals x=some (some (.ref f))
abbrev zc(K:Ú)(x:Str)(cd:Value):Prop:=W.codeIn K cd x=true
abbrev zn(K:Ú)(x:Str):Prop:=W.nsIn K mainGlobals x=some none
def all_mk{l:W.OpenLaw}{w:World}{K:Ú}{h:Heap}{mg:Str->Option Value}{kb kp P1 PT fa f0 f1 f2 f3 f4 f5 f6 f7 f8 f9 f10 f11 f12 f13 f14 f15 f16 f17 f18 f19 f20 f21 f22 f23 f24 f25 f26 f27 f28 f29 f30 f31 f32 f33 f34 f35 f36 f37 f38 f39 f40 f41 f42 f43 f44 f45:Addr}(hT:∀Q∈([P1,PT]:List Addr),h.get? Q=some (W.tabObj #[]))(X:K.In h)(G:h.Ns mainGlobals mg)(hfa:mg "law"=some (.ref fa)){od0 an0 od1 an1 od2 an2 od3 an3 od4 an4 od5 an5 od6 an6 od7 an7 od8 an8 od9 an9 od10 an10 od11 an11 od12 an12 od13 an13 od14 an14 od15 an15 od16 an16 od17 an17 od18 an18 od19 an19 od20 an20 od21 an21 od22 an22 od23 an23 od24 an24 od25 an25 od26 an26 od27 an27 od28 an28 od29 an29 od30 an30 od31 an31 od32 an32 od33 an33 od34 an34 od35 an35 od36 an36 od37 an37 od38 an38 od39 an39 od40 an40 od41 an41 od42 an42 od43 an43 od44 an44 od45 an45:Option Addr}{sl0 sl1 sl2 sl3 sl4 sl5 sl6 sl7 sl8 sl9 sl10 sl11 sl12 sl13 sl14 sl15 sl16 sl17 sl18 sl19 sl20 sl21 sl22 sl23 sl24 sl25 sl26 sl27 sl28 sl29 sl30 sl31 sl32 sl33 sl34 sl35 sl36 sl37 sl38 sl39 sl40 sl41 sl42 sl43 sl44 sl45:Array (Option Value)}{oc0 kV0 dc0 pm0 cd0 ct0 oc1 kV1 dc1 pm1 cd1 ct1 oc2 kV2 dc2 pm2 cd2 ct2 oc3 kV3 dc3 pm3 cd3 ct3 oc4 kV4 dc4 pm4 cd4 ct4 oc5 kV5 dc5 pm5 cd5 ct5 oc6 kV6 dc6 pm6 cd6 ct6 oc7 kV7 dc7 pm7 cd7 ct7 oc8 kV8 dc8 pm8 cd8 ct8 oc9 kV9 dc9 pm9 cd9 ct9 oc10 kV10 dc10 pm10 cd10 ct10 oc11 kV11 dc11 pm11 cd11 ct11 oc12 kV12 dc12 pm12 cd12 ct12 oc13 kV13 dc13 pm13 cd13 ct13 oc14 kV14 dc14 pm14 cd14 ct14 oc15 kV15 dc15 pm15 cd15 ct15 oc16 kV16 dc16 pm16 cd16 ct16 oc17 kV17 dc17 pm17 cd17 ct17 oc18 kV18 dc18 pm18 cd18 ct18 oc19 kV19 dc19 pm19 cd19 ct19 oc20 kV20 dc20 pm20 cd20 ct20 oc21 kV21 dc21 pm21 cd21 ct21 oc22 kV22 dc22 pm22 cd22 ct22 oc23 kV23 dc23 pm23 cd23 ct23 oc24 kV24 dc24 pm24 ct24 oc25 kV25 dc25 pm25 ct25 oc26 kV26 dc26 pm26 cd26 ct26 oc27 kV27 dc27 pm27 cd27 ct27 oc28 kV28 dc28 pm28 cd28 ct28 oc29 kV29 dc29 pm29 cd29 ct29 oc30 kV30 dc30 pm30 cd30 ct30 oc31 kV31 dc31 pm31 cd31 ct31 oc32 kV32 dc32 pm32 cd32 ct32 oc33 kV33 dc33 pm33 cd33 ct33 oc34 kV34 dc34 pm34 cd34 ct34 oc35 kV35 dc35 pm35 cd35 ct35 oc36 kV36 dc36 pm36 cd36 ct36 oc37 kV37 dc37 pm37 cd37 ct37 oc38 kV38 dc38 pm38 cd38 ct38 oc39 kV39 dc39 pm39 cd39 ct39 oc40 kV40 dc40 pm40 cd40 ct40 oc41 kV41 dc41 pm41 cd41 ct41 oc42 kV42 dc42 pm42 cd42 ct42 oc43 kV43 dc43 pm43 cd43 ct43 oc44 kV44 dc44 pm44 cd44 ct44 oc45 kV45 dc45 pm45 cd45 ct45:Value}(a0:za K "is_whole" f0)(l0:zl K f0 "is_whole" (top 4) oc0 od0 kV0 dc0 pm0 an0 cd0 ct0 sl0)(c0:zc K "is_whole" cd0)(a1:za K "is_below" f1)(l1:zl K f1 "is_below" (top 5) oc1 od1 kV1 dc1 pm1 an1 cd1 ct1 sl1)(c1:zc K "is_below" cd1)(a2:za K "hops" f2)(l2:zl K f2 "hops" (top 7) oc2 od2 kV2 dc2 pm2 an2 cd2 ct2 sl2)(c2:zc K "hops" cd2)(a3:za K "is_rising" f3)(l3:zl K f3 "is_rising" (top 9) oc3 od3 kV3 dc3 pm3 an3 cd3 ct3 sl3)(c3:zc K "is_rising" cd3)(a4:za K "is_proper_set" f4)(l4:zl K f4 "is_proper_set" (top 10) oc4 od4 kV4 dc4 pm4 an4 cd4 ct4 sl4)(c4:zc K "is_proper_set" cd4)(a5:za K "check_set" f5)(l5:zl K f5 "check_set" (top 11) oc5 od5 kV5 dc5 pm5 an5 cd5 ct5 sl5)(c5:zc K "check_set" cd5)(a6:za K "sets_below" f6)(l6:zl K f6 "sets_below" (top 12) oc6 od6 kV6 dc6 pm6 an6 cd6 ct6 sl6)(c6:zc K "sets_below" cd6)(a7:za K "proper_sets" f7)(l7:zl K f7 "proper_sets" (top 13) oc7 od7 kV7 dc7 pm7 an7 cd7 ct7 sl7)(c7:zc K "proper_sets" cd7)(a8:za K "leaves" f8)(l8:zl K f8 "leaves" (top 14) oc8 od8 kV8 dc8 pm8 an8 cd8 ct8 sl8)(c8:zc K "leaves" cd8)(a9:za K "ties_that_leave" f9)(l9:zl K f9 "ties_that_leave" (top 15) oc9 od9 kV9 dc9 pm9 an9 cd9 ct9 sl9)(c9:zc K "ties_that_leave" cd9)(a10:za K "is_family" f10)(l10:zl K f10 "is_family" (top 17) oc10 od10 kV10 dc10 pm10 an10 cd10 ct10 sl10)(c10:zc K "is_family" cd10)(a11:za K "check_family" f11)(l11:zl K f11 "check_family" (top 18) oc11 od11 kV11 dc11 pm11 an11 cd11 ct11 sl11)(c11:zc K "check_family" cd11)(a12:za K "best_with" f12)(l12:zl K f12 "best_with" (top 19) oc12 od12 kV12 dc12 pm12 an12 cd12 ct12 sl12)(c12:zc K "best_with" cd12)(a13:za K "heaviest_apart" f13)(l13:zl K f13 "heaviest_apart" (top 20) oc13 od13 kV13 dc13 pm13 an13 cd13 ct13 sl13)(c13:zc K "heaviest_apart" cd13)(a14:za K "heaviest_family" f14)(l14:zl K f14 "heaviest_family" (top 21) oc14 od14 kV14 dc14 pm14 an14 cd14 ct14 sl14)(c14:zc K "heaviest_family" cd14)(a15:za K "ins" f15)(l15:zl K f15 "ins" (top 23) oc15 od15 kV15 dc15 pm15 an15 cd15 ct15 sl15)(c15:zc K "ins" cd15)(a16:za K "outs" f16)(l16:zl K f16 "outs" (top 24) oc16 od16 kV16 dc16 pm16 an16 cd16 ct16 sl16)(c16:zc K "outs" cd16)(a17:za K "ties_by" f17)(l17:zl K f17 "ties_by" (top 25) oc17 od17 kV17 dc17 pm17 an17 cd17 ct17 sl17)(c17:zc K "ties_by" cd17)(a18:za K "one_need" f18)(l18:zl K f18 "one_need" (top 26) oc18 od18 kV18 dc18 pm18 an18 cd18 ct18 sl18)(c18:zc K "one_need" cd18)(a19:za K "one_bound" f19)(l19:zl K f19 "one_bound" (top 27) oc19 od19 kV19 dc19 pm19 an19 cd19 ct19 sl19)(c19:zc K "one_bound" cd19)(a20:za K "with_spares" f20)(l20:zl K f20 "with_spares" (top 29) oc20 od20 kV20 dc20 pm20 an20 cd20 ct20 sl20)(c20:zc K "with_spares" cd20)(a21:za K "fewest_ends" f21)(l21:zl K f21 "fewest_ends" (top 30) oc21 od21 kV21 dc21 pm21 an21 cd21 ct21 sl21)(c21:zc K "fewest_ends" cd21)(a22:za K "can_be_tied" f22)(l22:zl K f22 "can_be_tied" (top 31) oc22 od22 kV22 dc22 pm22 an22 cd22 ct22 sl22)(c22:zc K "can_be_tied" cd22)(a23:za K "tied" f23)(l23:zl K f23 "tied" (top 32) oc23 od23 kV23 dc23 pm23 an23 cd23 ct23 sl23)(c23:zc K "tied" cd23)(a24:za K "best_by" f24)(l24:zl K f24 "best_by" (top 34) oc24 od24 kV24 dc24 pm24 an24 (.ref kb) ct24 sl24)(c24:zc K "best_by" (.ref kb))(a25:za K "best_paper" f25)(l25:zl K f25 "best_paper" (top 35) oc25 od25 kV25 dc25 pm25 an25 (.ref kp) ct25 sl25)(c25:zc K "best_paper" (.ref kp))(a26:za K "so_many_ends" f26)(l26:zl K f26 "so_many_ends" (top 36) oc26 od26 kV26 dc26 pm26 an26 cd26 ct26 sl26)(c26:zc K "so_many_ends" cd26)(a27:za K "tie_tails" f27)(l27:zl K f27 "tie_tails" (top 37) oc27 od27 kV27 dc27 pm27 an27 cd27 ct27 sl27)(c27:zc K "tie_tails" cd27)(a28:za K "one_puts" f28)(l28:zl K f28 "one_puts" (top 38) oc28 od28 kV28 dc28 pm28 an28 cd28 ct28 sl28)(c28:zc K "one_puts" cd28)(a29:za K "_law_pen" f29)(l29:zl K f29 "_law_pen" (top 40) oc29 od29 kV29 dc29 pm29 an29 cd29 ct29 sl29)(c29:zc K "_law_pen" cd29)(a30:za K "_law_draw" f30)(l30:zl K f30 "_law_draw" (top 41) oc30 od30 kV30 dc30 pm30 an30 cd30 ct30 sl30)(c30:zc K "_law_draw" cd30)(a31:za K "_law_order" f31)(l31:zl K f31 "_law_order" (top 42) oc31 od31 kV31 dc31 pm31 an31 cd31 ct31 sl31)(c31:zc K "_law_order" cd31)(a32:za K "_law_pair" f32)(l32:zl K f32 "_law_pair" (top 43) oc32 od32 kV32 dc32 pm32 an32 cd32 ct32 sl32)(c32:zc K "_law_pair" cd32)(a33:za K "_law_grouped" f33)(l33:zl K f33 "_law_grouped" (top 44) oc33 od33 kV33 dc33 pm33 an33 cd33 ct33 sl33)(c33:zc K "_law_grouped" cd33)(a34:za K "_law_ties" f34)(l34:zl K f34 "_law_ties" (top 45) oc34 od34 kV34 dc34 pm34 an34 cd34 ct34 sl34)(c34:zc K "_law_ties" cd34)(a35:za K "_law_web" f35)(l35:zl K f35 "_law_web" (top 46) oc35 od35 kV35 dc35 pm35 an35 cd35 ct35 sl35)(c35:zc K "_law_web" cd35)(a36:za K "_law_sets" f36)(l36:zl K f36 "_law_sets" (top 47) oc36 od36 kV36 dc36 pm36 an36 cd36 ct36 sl36)(c36:zc K "_law_sets" cd36)(a37:za K "_law_into" f37)(l37:zl K f37 "_law_into" (top 48) oc37 od37 kV37 dc37 pm37 an37 cd37 ct37 sl37)(c37:zc K "_law_into" cd37)(a38:za K "_law_need" f38)(l38:zl K f38 "_law_need" (top 49) oc38 od38 kV38 dc38 pm38 an38 cd38 ct38 sl38)(c38:zc K "_law_need" cd38)(a39:za K "_law_full" f39)(l39:zl K f39 "_law_full" (top 50) oc39 od39 kV39 dc39 pm39 an39 cd39 ct39 sl39)(c39:zc K "_law_full" cd39)(a40:za K "_law_is_place" f40)(l40:zl K f40 "_law_is_place" (top 51) oc40 od40 kV40 dc40 pm40 an40 cd40 ct40 sl40)(c40:zc K "_law_is_place" cd40)(a41:za K "_law_are_ties" f41)(l41:zl K f41 "_law_are_ties" (top 52) oc41 od41 kV41 dc41 pm41 an41 cd41 ct41 sl41)(c41:zc K "_law_are_ties" cd41)(a42:za K "_law_are_sets" f42)(l42:zl K f42 "_law_are_sets" (top 53) oc42 od42 kV42 dc42 pm42 an42 cd42 ct42 sl42)(c42:zc K "_law_are_sets" cd42)(a43:za K "_law_stands" f43)(l43:zl K f43 "_law_stands" (top 54) oc43 od43 kV43 dc43 pm43 an43 cd43 ct43 sl43)(c43:zc K "_law_stands" cd43)(a44:za K "_law_right" f44)(l44:zl K f44 "_law_right" (top 55) oc44 od44 kV44 dc44 pm44 an44 cd44 ct44 sl44)(c44:zc K "_law_right" cd44)(a45:za K "law" f45)(l45:zl K f45 "law" (top 56) oc45 od45 kV45 dc45 pm45 an45 cd45 ct45 sl45)(c45:zc K "law" cd45)(z0:zn K "isinstance")(z1:zn K "int")(z2:zn K "bool")(z3:zn K "tuple")(z4:zn K "list")(z5:zn K "len")(z6:zn K "all")(z7:zn K "min")(z8:zn K "max")(z9:zn K "sorted")(z10:zn K "range")(z11:zn K "abs")(z12:zn K "zip")(z13:zn K "set")(z14:zn K "sum")(z15:zn K "repr")(z16:zn K "str"){oc_kb:Value}{od_kb:Option Addr}{vs_kb:Array Value}{sl_kb:Array (Option Value)}(lc_kb:K.lookup kb=some ⟨oc_kb,od_kb,.fields vs_kb,sl_kb⟩)(v11_kb:vs_kb[11]?=some (.ref P1))(hP0_kb:K.lookup P1=none)(hcI_kb:W.codeHdIn K kb P1=true){oc_kp:Value}{od_kp:Option Addr}{vs_kp:Array Value}{sl_kp:Array (Option Value)}(lc_kp:K.lookup kp=some ⟨oc_kp,od_kp,.fields vs_kp,sl_kp⟩)(v11_kp:vs_kp[11]?=some (.ref PT))(hP0_kp:K.lookup PT=none)(hcI_kp:W.codeHdIn K kp PT=true)(nP:P1≠PT)
  :
  ∃(K':Ú) (Ps:List Addr) (fd:FuncData) (sp:Sp),K'.In h/\(∀PT∈Ps,K'.lookup PT=none)/\(∀PT∈Ps,∃c,W.CodeHd h c PT)/\(∀PT∈Ps,h.get? PT=some (W.tabObj #[]))/\(∀(s:Shared) (u:Value),BindsTo s fd ⟨[u],[]⟩ [("_law_script",u)]) /\
    (∀base:Heap,K'.In base->base.Ns mainGlobals mg->(∀PT∈Ps,base.BuiltinsAt mg PT)->(∃o,base.get? sysModules=some o)->FnOk l.prog w K' mg base CX0 18 fa fd ["_law_script"] sp)/\∀(H:Hp) (a:Addr) (ns:List Int),SqL K' H a (ns.map ř)->(∀PT∈Ps,H PT=some (.tbl #[]))->sp [.ref a] H (λv _=>v=.bl true) λ_ _ _=>False:=by
 have e:=hfa.symm.trans (ü X G a45)
 cases e
 have F0:=đ (st:=top 4) l0 c0 (aA l0)
 have b0:=F0.binds (ps:=["thing"])
 have m0:=ü X G a0
 have F1:=đ (st:=top 5) l1 c1 (aA l1)
 have b1:=F1.binds (ps:=["limit","thing"])
 have m1:=ü X G a1
 have F2:=đ (st:=top 7) l2 c2 (aA l2)
 have b2:=F2.binds (ps:=["places"])
 have m2:=ü X G a2
 have F3:=đ (st:=top 9) l3 c3 (aA l3)
 have b3:=F3.binds (ps:=["limit","thing"])
 have m3:=ü X G a3
 have F4:=đ (st:=top 10) l4 c4 (aA l4)
 have b4:=F4.binds (ps:=["n","thing"])
 have m4:=ü X G a4
 have F5:=đ (st:=top 11) l5 c5 (aA l5)
 have b5:=F5.binds (ps:=["web","thing"])
 have m5:=ü X G a5
 have F6:=đ (st:=top 12) l6 c6 (aA l6)
 have b6:=F6.binds (ps:=["count"])
 have m6:=ü X G a6
 have F7:=đ (st:=top 13) l7 c7 (aA l7)
 have b7:=F7.binds (ps:=["n"])
 have m7:=ü X G a7
 have F8:=đ (st:=top 14) l8 c8 (aA l8)
 have b8:=F8.binds (ps:=["tie","some"])
 have m8:=ü X G a8
 have F9:=đ (st:=top 15) l9 c9 (aA l9)
 have b9:=F9.binds (ps:=["web","some"])
 have m9:=ü X G a9
 have F10:=đ (st:=top 17) l10 c10 (aA l10)
 have b10:=F10.binds (ps:=["n","thing"])
 have m10:=ü X G a10
 have F11:=đ (st:=top 18) l11 c11 (aA l11)
 have b11:=F11.binds (ps:=["web","thing"])
 have m11:=ü X G a11
 have F12:=đ (st:=top 19) l12 c12 (aA l12)
 have b12:=F12.binds (ps:=["weights","best","top","rest"]) λ_ _ _ _ _ _ us hl=>by obtain⟨_,_,_,_,rfl⟩:=Ab us hl;rfl
 have m12:=ü X G a12
 have F13:=đ (st:=top 20) l13 c13 (aA l13)
 have b13:=F13.binds (ps:=["weights"])
 have m13:=ü X G a13
 have F14:=đ (st:=top 21) l14 c14 (aA l14)
 have b14:=F14.binds (ps:=["n","weigh"])
 have m14:=ü X G a14
 have F15:=đ (st:=top 23) l15 c15 (aA l15)
 have b15:=F15.binds (ps:=["one","some"])
 have m15:=ü X G a15
 have F16:=đ (st:=top 24) l16 c16 (aA l16)
 have b16:=F16.binds (ps:=["one","some"])
 have m16:=ü X G a16
 have F17:=đ (st:=top 25) l17 c17 (aA l17)
 have b17:=F17.binds (ps:=["one","side","some"])
 have m17:=ü X G a17
 have F18:=đ (st:=top 26) l18 c18 (aA l18)
 have b18:=F18.binds (ps:=["one","falls","side","some"]) λ_ _ _ _ _ _ us hl=>by obtain⟨_,_,_,_,rfl⟩:=Ab us hl;rfl
 have m18:=ü X G a18
 have F19:=đ (st:=top 27) l19 c19 (aA l19)
 have b19:=F19.binds (ps:=["one","falls","side","family"]) λ_ _ _ _ _ _ us hl=>by obtain⟨_,_,_,_,rfl⟩:=Ab us hl;rfl
 have m19:=ü X G a19
 have F20:=đ (st:=top 29) l20 c20 (aA l20)
 have b20:=F20.binds (ps:=["rows","ends","most"])
 have m20:=ü X G a20
 have F21:=đ (st:=top 30) l21 c21 (aA l21)
 have b21:=F21.binds (ps:=["n","rows","most"])
 have m21:=ü X G a21
 have F22:=đ (st:=top 31) l22 c22 (aA l22)
 have b22:=F22.binds (ps:=["spares","a","b","taken"]) λ_ _ _ _ _ _ us hl=>by obtain⟨_,_,_,_,rfl⟩:=Ab us hl;rfl
 have m22:=ü X G a22
 have F23:=đ (st:=top 32) l23 c23 (aA l23)
 have b23:=F23.binds (ps:=["spares","a","b","taken"]) λ_ _ _ _ _ _ us hl=>by obtain⟨_,_,_,_,rfl⟩:=Ab us hl;rfl
 have m23:=ü X G a23
 have F24:=đ (st:=top 34) l24 c24 (aA l24)
 have b24:=F24.binds (ps:=["one","falls","side"])
 have m24:=ü X G a24
 have F25:=đ (st:=top 35) l25 c25 (aA l25)
 have b25:=F25.binds (ps:=["one","falls"])
 have m25:=ü X G a25
 have F26:=đ (st:=top 36) l26 c26 (aA l26)
 have b26:=F26.binds (ps:=["n","rows","most","count"]) λ_ _ _ _ _ _ us hl=>by obtain⟨_,_,_,_,rfl⟩:=Ab us hl;rfl
 have m26:=ü X G a26
 have F27:=đ (st:=top 37) l27 c27 (aA l27)
 have b27:=F27.binds (ps:=["spares","tails","heads"])
 have m27:=ü X G a27
 have F28:=đ (st:=top 38) l28 c28 (aA l28)
 have b28:=F28.binds (ps:=["one","falls"])
 have m28:=ü X G a28
 have F29:=đ (st:=top 40) l29 c29 (aA l29)
 have b29:=F29.binds (ps:=["_law_script","_law_k"])
 have m29:=ü X G a29
 have F30:=đ (st:=top 41) l30 c30 (aA l30)
 have b30:=F30.binds (ps:=["_law_pen_here","_law_many"])
 have m30:=ü X G a30
 have F31:=đ (st:=top 42) l31 c31 (aA l31)
 have b31:=F31.binds (ps:=["_law_pen_here","_law_n"])
 have m31:=ü X G a31
 have F32:=đ (st:=top 43) l32 c32 (aA l32)
 have b32:=F32.binds (ps:=["_law_pen_here","_law_n"])
 have m32:=ü X G a32
 have F33:=đ (st:=top 44) l33 c33 (aA l33)
 have b33:=F33.binds (ps:=["_law_pen_here","_law_n"])
 have m33:=ü X G a33
 have F34:=đ (st:=top 45) l34 c34 (aA l34)
 have b34:=F34.binds (ps:=["_law_pen_here","_law_n"])
 have m34:=ü X G a34
 have F35:=đ (st:=top 46) l35 c35 (aA l35)
 have b35:=F35.binds (ps:=["_law_pen_here","_law_most"])
 have m35:=ü X G a35
 have F36:=đ (st:=top 47) l36 c36 (aA l36)
 have b36:=F36.binds (ps:=["_law_n"])
 have m36:=ü X G a36
 have F37:=đ (st:=top 48) l37 c37 (aA l37)
 have b37:=F37.binds (ps:=["_law_ties_here","_law_some"])
 have m37:=ü X G a37
 have F38:=đ (st:=top 49) l38 c38 (aA l38)
 have b38:=F38.binds (ps:=["_law_web_here","_law_falls","_law_side","_law_some"]) λ_ _ _ _ _ _ us hl=>by obtain⟨_,_,_,_,rfl⟩:=Ab us hl;rfl
 have m38:=ü X G a38
 have F39:=đ (st:=top 50) l39 c39 (aA l39)
 have b39:=F39.binds (ps:=["_law_pen_here"])
 have m39:=ü X G a39
 have F40:=đ (st:=top 51) l40 c40 (aA l40)
 have b40:=F40.binds (ps:=["_law_n","_law_thing"])
 have m40:=ü X G a40
 have F41:=đ (st:=top 52) l41 c41 (aA l41)
 have b41:=F41.binds (ps:=["_law_n","_law_thing"])
 have m41:=ü X G a41
 have F42:=đ (st:=top 53) l42 c42 (aA l42)
 have b42:=F42.binds (ps:=["_law_n","_law_thing"])
 have m42:=ü X G a42
 have F43:=đ (st:=top 54) l43 c43 (aA l43)
 have b43:=F43.binds (ps:=["_law_web_here","_law_falls"])
 have m43:=ü X G a43
 have F44:=đ (st:=top 55) l44 c44 (aA l44)
 have b44:=F44.binds (ps:=["_law_web_here","_law_falls"])
 have m44:=ü X G a44
 have F45:=đ (st:=top 56) l45 c45 (aA l45)
 have B:Ļ mg:=⟨Ě X G z0,Ě X G z1,Ě X G z2,Ě X G z3,Ě X G z4,Ě X G z5,Ě X G z6,Ě X G z7,Ě X G z8,Ě X G z9,Ě X G z10,Ě X G z11⟩
 have N12:=Ě X G z12
 have N13:=Ě X G z13
 have N14:=Ě X G z14
 have N15:=Ě X G z15
 have N16:=Ě X G z16
 have HC_kb:∀h:Heap,K.In h->W.CodeHd h kb P1:=λh X2=>W.codeHd_of_K X2 hcI_kb
 have HC_kp:∀h:Heap,K.In h->W.CodeHd h kp PT:=λh X2=>W.codeHd_of_K X2 hcI_kp
 have HP0:∀Q∈([P1,PT]:List Addr),K.lookup Q=none:=(λQ hQ=>by
  simp only[Ð,List.not_mem_nil,or_false] at hQ
  rcases hQ with rfl|rfl
  ·exact hP0_kb
  ·exact hP0_kp)
 have HCE:∀Q∈([P1,PT]:List Addr),∃c,W.CodeHd h c Q:=(λQ hQ=>by
  simp only[Ð,List.not_mem_nil,or_false] at hQ
  rcases hQ with rfl|rfl
  ·exact⟨_,HC_kb h X⟩
  ·exact⟨_,HC_kp h X⟩)
 refine⟨K,[P1,PT],W.fnOf "law" "law" (dI (top 56)) (bU (top 56)) (ao (top 56)) .none kV45 dc45 pm45 an45 cd45 ct45,Gf K (cI P1 PT),X,HP0,HCE,hT,λs v=>.of_eq rfl,λbase _ _ hBm SY=>?_,λH a ns hS hT=>⟨a,ns,rfl,hS,⟨⟨_,hT P1 Å,.inl rfl⟩,⟨_,hT PT (Ä _ Å),.inl rfl⟩⟩,λ_=>rfl⟩⟩
 have C0:=λbase=>aC F0 b0 m0 (Hx (P:=l.prog) (w:=w) (base:=base) F0 B)
 have C1:=λbase=>aC F1 b1 m1 (HD (P:=l.prog) (w:=w) (base:=base) F1 (C0 base))
 have C2:=λbase=>aC F2 b2 m2 (KQ (P:=l.prog) (w:=w) (base:=base) F2 B N12)
 have C3:=λbase=>aC F3 b3 m3 (Dv (P:=l.prog) (w:=w) (base:=base) F3 B (C1 base) (C2 base))
 have C4:=λbase=>aC F4 b4 m4 (Dw (P:=l.prog) (w:=w) (base:=base) F4 B (C3 base))
 have C5:=λbase=>aC F5 b5 m5 (xV (P:=l.prog) (w:=w) (base:=base) F5 (C4 base))
 have C6:=λbase=>aC F6 b6 m6 (Sq (P:=l.prog) (w:=w) (base:=base) F6 B)
 have C7:=λbase=>aC F7 b7 m7 (qZ (P:=l.prog) (w:=w) (base:=base) F7 B (C6 base))
 have C8:=λbase=>aC F8 b8 m8 (Dy (P:=l.prog) (w:=w) (base:=base) F8 )
 have C9:=λbase=>aC F9 b9 m9 (Pj (P:=l.prog) (w:=w) (base:=base) F9 (C5 base) (C8 base))
 have C10:=λbase=>aC F10 b10 m10 (Px (P:=l.prog) (w:=w) (base:=base) F10 B N13 (C4 base))
 have C11:=λbase=>aC F11 b11 m11 (qd (P:=l.prog) (w:=w) (base:=base) F11 B (C10 base))
 have C12:=λbase=>aC F12 b12 m12 (vG (P:=l.prog) (w:=w) (base:=base) F12 B)
 have C13:=λbase=>aC F13 b13 m13 (ni (P:=l.prog) (w:=w) (base:=base) F13 B (C12 base))
 have C15:=λbase=>aC F15 b15 m15 (Pu (P:=l.prog) (w:=w) (base:=base) F15 B (C9 base))
 have C16:=λbase=>aC F16 b16 m16 (KN (P:=l.prog) (w:=w) (base:=base) F16 B (C9 base))
 have C17:=λbase=>aC F17 b17 m17 (Sg (P:=l.prog) (w:=w) (base:=base) F17 (C15 base) (C16 base))
 have C18:=λbase=>aC F18 b18 m18 (Ss (P:=l.prog) (w:=w) (base:=base) F18 B (C17 base))
 have C19:=λbase=>aC F19 b19 m19 (vD (P:=l.prog) (w:=w) (base:=base) F19 B N14 (C11 base) (C18 base))
 have C20:=λbase=>aC F20 b20 m20 (qY (P:=l.prog) (w:=w) (base:=base) F20 B)
 have C21:=λbase=>aC F21 b21 m21 (q9 (P:=l.prog) (w:=w) (base:=base) F21 B (C20 base))
 have C22:=λbase=>aC F22 b22 m22 (rB (P:=l.prog) (w:=w) (base:=base) F22 B)
 have C23:=λbase=>aC F23 b23 m23 (KH (P:=l.prog) (w:=w) (base:=base) F23 B)
 have C24:=aC F24 b24 m24 (Sx (P:=l.prog) (w:=w) (base:=base) l24 c24 HC_kb (hBm P1 Å) ⟨⟨f14,_,(λbase=>lW (P:=l.prog) (w:=w) (base:=base) F14 B (C6 base) (C13 base)),b14,F14.kp,m14⟩⟩ C18)
 have C25:=aC F25 b25 m25 (Sw (P:=l.prog) (w:=w) (base:=base) l25 c25 HC_kp (hBm PT (Ä _ Å)) nP B C24 C19)
 have C26:=λbase=>aC F26 b26 m26 (pW (P:=l.prog) (w:=w) (base:=base) F26 B (C21 base))
 have C27:=λbase=>aC F27 b27 m27 (vC (P:=l.prog) (w:=w) (base:=base) F27 B (C22 base) (C23 base))
 have C28:=aC F28 b28 m28 (xQ (P:=l.prog) (w:=w) (base:=base) F28 B C25 (C19 base) (C7 base) (C17 base) (C26 base) (C20 base) (C27 base))
 have C29:=λbase=>aC F29 b29 m29 (Pk (P:=l.prog) (w:=w) (base:=base) F29 B)
 have C30:=λbase=>aC F30 b30 m30 (KR (P:=l.prog) (w:=w) (base:=base) F30 B)
 have C31:=λbase=>aC F31 b31 m31 (Hz (P:=l.prog) (w:=w) (base:=base) F31 B (C30 base))
 have C32:=λbase=>aC F32 b32 m32 (KJ (P:=l.prog) (w:=w) (base:=base) F32 (C30 base))
 have C33:=λbase=>aC F33 b33 m33 (Sv (P:=l.prog) (w:=w) (base:=base) F33 B (C30 base))
 have C34:=λbase=>aC F34 b34 m34 (KD (P:=l.prog) (w:=w) (base:=base) F34 B (C30 base) (C32 base) (C33 base))
 have C35:=λbase=>aC F35 b35 m35 (KC (P:=l.prog) (w:=w) (base:=base) F35 B (C30 base) (C31 base) (C34 base))
 have C36:=λbase=>aC F36 b36 m36 (HB (P:=l.prog) (w:=w) (base:=base) F36 B)
 have C37:=λbase=>aC F37 b37 m37 (xT (P:=l.prog) (w:=w) (base:=base) F37 B)
 have C38:=λbase=>aC F38 b38 m38 (xR (P:=l.prog) (w:=w) (base:=base) F38 B (C37 base))
 have C39:=λbase=>aC F39 b39 m39 (xU (P:=l.prog) (w:=w) (base:=base) F39 B (C30 base) (C31 base) (C32 base))
 have C40:=λbase=>aC F40 b40 m40 (pZ (P:=l.prog) (w:=w) (base:=base) F40 B)
 have C41:=λbase=>aC F41 b41 m41 (p7 (P:=l.prog) (w:=w) (base:=base) F41 B (C40 base))
 have C42:=λbase=>aC F42 b42 m42 (qb (P:=l.prog) (w:=w) (base:=base) F42 B N13 (C40 base))
 have C43:=λbase=>aC F43 b43 m43 (sX (P:=l.prog) (w:=w) (base:=base) F43 B (C36 base) (C38 base))
 have C44:=aC F44 b44 m44 (Hy (P:=l.prog) (w:=w) (base:=base) F44 B N15 N16 N14 SY C28 (C41 base) (C43 base) (C42 base) (C38 base))
 exact Pq F45 B (C29 base) (C35 base) (C39 base) C44
end Nf
namespace Nf
open PySem PySem.W PyProof.Rows
def uq:List Nat:=[1,2,4,5,7,9,10,11,12,13,14,15,17,18,19,20,21,23,24,25,26,27,29,30,31,32,34,35,36,37,38,40,41,42,43,44,45,46,47,48,49,50,51,52,53,54,55,56]
def yg(p:Program)(w:World)(os:OsState):=(Dk p 3684 w os).map (λs=>Gh p (view p uq) (λs=>xlAt (view p uq) [] s&&recOk [] s) w s.abs)
def goodW(p:Program):=some (true,openGood (view p uq) [])
def frF(fr:Frag)(k:Nat):=some ((fr.map λp=>some p.2).take k)
def frB(fr:Frag)(k:Nat):=some ((fr.map λp=>some p.2).drop k)
def rP(p:Program)(w:World)(os:OsState)(as:List Addr)(k:Nat):=(Dk p 3684 w os).map (λs=>(as.map s.abs.heap.get?).take k)
def yM(p:Program)(w:World)(os:OsState)(as:List Addr)(k:Nat):=(Dk p 3684 w os).map (λs=>(as.map s.abs.heap.get?).drop k)
def zX:yg=yg:=rfl
def Ae:goodW=goodW:=rfl
def yt:rP=rP:=rfl
def Az:yM=yM:=rfl
end Nf
lay_quick Nf.yg Nf.goodW Nf.rP Nf.yM
name_quick lookQ for Nf.yg by Nf.zX
name_quick goodQ for Nf.goodW by Nf.Ae
name_quick frontQ for Nf.rP by Nf.yt
name_quick backQ for Nf.yM by Nf.Az
set_option maxHeartbeats 0 in
def Nf.K7(w:PySem.World)(os:PySem.OsState):Nf.yg ø w os=Nf.goodW ø:=by
 rw[PySem.W.Fast.lookQ_eq,PySem.W.Fast.goodQ_eq]
 kernel_rfl
def Nf.well:PySem.Challenge.rw_nofall_k51_ties_put_in.wellSaid=true:=by kernel_rfl
open PySem PySem.W PyProof.Rows
local macro_rules
 |`(tactic| k_qdec)=>`(tactic| fail)
local macro_rules
 |`(tactic| o_head (kmHook $k $a $e $t))=>`(tactic| o_head (kHook (λP=>List.append (į (λa=>(a,PySem.W.tabObj #[])) $t) ($k P)) (List.append $t $a) (λ_=>by kernel_rfl)))
local macro_rules
 |`(tactic| o_head (kHook $k $a $e))=>`(tactic| (
  refine holds_open (q:=view ø Nf.uq) (loose:=[]) (Xt:=λs=>xlAt (view ø Nf.uq) [] s&&recOk [] s) (XP:=XL (view ø Nf.uq) []) (Yf:=Hook.obs (kHook $k $a $e)) (Ya:=Hook.val (kHook $k $a $e)) (YP:=Hook.says (kHook $k $a $e)) (N:=3684) ?hl (Hook.of (kHook $k $a $e)) (Hook.keeps (kHook $k $a $e)) (λs e=>xl_of s (Bool.and_eq_true_iff.mp e).1) XL.keeps (by rfl) (by rfl) (by rfl) (λs e=>recFacts_of (Bool.and_eq_true_iff.mp e).2) (by rfl) (by first|assumption|decide +kernel) (by decide +kernel) ⟨rfl,rfl,rfl,rfl,rfl,by decide +kernel⟩ ?hw ?hc))
set_option maxRecDepth 100000 in
set_option maxHeartbeats 0 in
theorem PySem.Challenge.cw_nofall_k51_ties_put_in_holds : PySem.Challenge.rw_nofall_k51_ties_put_in.Holds := by
 w_on;refine PySem.W.holds_law Nf.well λsaid=>?_;k_head
 ·refine Nf.Lf 90 (boot_open (by kernel_rfl) rfl (λs=>by kernel_rfl)) Nf.K7 (λw os=>?_) (λw os=>?_)
  ·show Nf.rP ø w os _ 90=Nf.frF _ 90
   rw[PySem.W.Fast.frontQ_eq]
   kernel_rfl
  ·show Nf.yM ø w os _ 90=Nf.frB _ 90
   rw[PySem.W.Fast.backQ_eq]
   kernel_rfl
 ·w_witness2
 k_fill
 refine L2.Fx (n:=63) (k:=18) (x:="_law_script") (l:=PySem.Challenge.rw_nofall_k51_ties_put_in) (by rfl) rfl (by decide) rfl ⟨rfl,by decide,by decide,rfl⟩ (λw h Y=>PySem.W.kIn_of Y) ?F
 case F =>
  intro w mg fa h KX2 G hmg
  obtain⟨KX,hPT⟩:=L2.JV KX2 (by
   intro Q hQ
   simp only[Ð,List.not_mem_nil,or_false] at hQ
   rcases hQ with rfl|rfl <;> kernel_rfl)
  refine' Nf.all_mk hPT KX G hmg ?a0 ?l0 ?c0 ?a1 ?l1 ?c1 ?a2 ?l2 ?c2 ?a3 ?l3 ?c3 ?a4 ?l4 ?c4 ?a5 ?l5 ?c5 ?a6 ?l6 ?c6 ?a7 ?l7 ?c7 ?a8 ?l8 ?c8 ?a9 ?l9 ?c9 ?a10 ?l10 ?c10 ?a11 ?l11 ?c11 ?a12 ?l12 ?c12 ?a13 ?l13 ?c13 ?a14 ?l14 ?c14 ?a15 ?l15 ?c15 ?a16 ?l16 ?c16 ?a17 ?l17 ?c17 ?a18 ?l18 ?c18 ?a19 ?l19 ?c19 ?a20 ?l20 ?c20 ?a21 ?l21 ?c21 ?a22 ?l22 ?c22 ?a23 ?l23 ?c23 ?a24 ?l24 ?c24 ?a25 ?l25 ?c25 ?a26 ?l26 ?c26 ?a27 ?l27 ?c27 ?a28 ?l28 ?c28 ?a29 ?l29 ?c29 ?a30 ?l30 ?c30 ?a31 ?l31 ?c31 ?a32 ?l32 ?c32 ?a33 ?l33 ?c33 ?a34 ?l34 ?c34 ?a35 ?l35 ?c35 ?a36 ?l36 ?c36 ?a37 ?l37 ?c37 ?a38 ?l38 ?c38 ?a39 ?l39 ?c39 ?a40 ?l40 ?c40 ?a41 ?l41 ?c41 ?a42 ?l42 ?c42 ?a43 ?l43 ?c43 ?a44 ?l44 ?c44 ?a45 ?l45 ?c45 ?z0 ?z1 ?z2 ?z3 ?z4 ?z5 ?z6 ?z7 ?z8 ?z9 ?z10 ?z11 ?z12 ?z13 ?z14 ?z15 ?z16 ?lc_kb ?v11_kb ?hP0_kb ?hcI_kb ?lc_kp ?v11_kp ?hP0_kp ?hcI_kp ?nP
  any_goals (show _=_;k_is)
  case v11_kb=>exact rfl
  case hP0_kb=>kernel_rfl
  case hcI_kb=>kernel_rfl
  case v11_kp=>exact rfl
  case hP0_kp=>kernel_rfl
  case hcI_kp=>kernel_rfl
  case nP=>decide
  all_goals rfl
end
