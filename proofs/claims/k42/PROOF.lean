import PyProof.Rows.All
import Wide.All
import OpenK.AllK
import Wide.FinOn
import Lean
import PyProof.EqAt
import PyProof.EqKinds
import PyProof.TupleCall
import PySem.Challenge.RW_nofall_k42_trees_bent
set_option genSizeOf false
set_option genSizeOfSpec false
set_option Elab.async false
set_option linter.all false
set_option maxRecDepth 100000
open List renaming length_map → Â,getElem?_eq_getElem → È,replicate → Í,length_append → Î,size_toArray → Ï,mem_of_getElem? → Ð,mem_singleton → Ò,mem_cons_of_mem → Ó,mem_append → Ù,mem_cons_self → Ú,getElem?_eq_some_iff → Ý,range → ä,getElem?_map → å,map_map → ç,mem_cons → è,mem_append_right → ë,map_append → î,all_eq_true → ï,getD_eq_getElem?_getD → ò,mem_map → ø,getElem?_append_right → ù,map_cons → û,lookup_cons → þ,length_cons → ÿ,append_nil → Ā,getElem?_set_self → Ĉ,mem_filter → đ,take_add_one → Ē,getElem?_append_left → ĕ,mem_range → ę,take_length → ě,length_take → ģ,getElem?_set_ne → į,length_range → ĳ,not_mem_nil → ĸ,getElem?_replicate → Ŀ,replicate_succ → Ń,length_drop → Ņ,getElem_mem → ņ,length_singleton → ň,pairwise_iff_getElem → ŋ,toArray → ō,all_cons → Ő,map_congr_left → œ,length_pos_iff → Ŕ,pairwise_singleton → Ŗ,length_replicate → š,pairwise_map → Ŧ,flatten_cons → ŧ,mem_append_left → ū,take → ŭ,filterMap_cons → ų,sum_cons → ź,length_zip → Ż,mem_filterMap → Ž,filter_append → ž
open PySem.PyData renaming int → Å,depthAll → ô,eqv → ą,list → Ď,canLayAll0 → Ĝ,tuple → İ,leavesShortAll → ĵ,showableAll → ń,bulkAll → Ũ
open PySem renaming wpAny_bind → Æ,wpAny_pure → Ø,sizeLine_eq → õ,mem_of_lookup → Ě,wpAny_truthy_bool → Ī,wpAny_holding → Ĭ,wpAny_mono → Ō,wpAny_Call_Name_kw → Ţ
open Nat renaming le_refl → Ç,zero_le → à,lt_of_lt_of_le → ã,ne_of_lt → æ,le_trans → é,lt_irrefl → ü,lt_succ_of_lt → Ĕ,le_succ → Ķ,le_of_ble_eq_true → Ŋ,ne_of_gt → ŝ,ble_eq_true_of_le → ť,lt_succ_self → Ű
open PySem.Heap renaming lt_size → É,get?_push_of_some → Ë,get?_push_size → Þ,size_update → Į,get?_update_other → Ĳ,size_push → ŕ,get?_update_self → Š,get?_push_ne → ţ
open Bool renaming and_eq_true → Ê,false_ne_true → Ì,eq_iff_iff → Ģ,not_eq_true' → Ĵ,true_and → ĺ,and_false → ļ,false_eq_true → Ň
open PySem.W renaming Frag → Ô,mg_of → ñ,mg_none_of → Ę,boot_heap → ő,kitOne → ů,kla_obj → Ŵ,kia_tup → ŵ,kia_one → Ŷ,boot_o_0 → ŷ
open PySem.Obj renaming mapSeq → Ü
open Option.some renaming inj → á
open PySem.NameKind renaming free → ð,cell → ā
open PySem.Challenge renaming pw_nofall_k42_trees_bent → ó
open PySem.Str renaming ofString → ú
open Array renaming length_toList → ď
open PySem.Value renaming type → Đ,int → ĝ,ref → ħ,none → ľ,bool → Ś
open PySem.PassesOwn renaming never → Ğ
open ForInStep renaming yield → ğ
open False renaming elim → Ġ
open Ne renaming symm → Ĩ
open PySem.Builtin.SmallTypes renaming ownedTupleIsFree → ķ,nextOf → ŗ
open PyProof.Rows renaming callWith_type1 → Ļ
open Int renaming toNat_natCast → ŀ
open Option renaming map_eq_some_iff → ł,isSome_iff_exists → Ų
open Or renaming inl → Œ
open PySem.Builtin.List renaming listExtendWith → Ř,listTooLong → ũ
open PySem.Builtin.Slice renaming slicePlaces → ş
open PySem.Builtin.Tuple renaming tupleExact → Ť
open True renaming intro → Ū
open PySem.F renaming plainAttrs_list → Ź
noncomputable section
namespace L2
open PySem PySem.Spec PyProof.Rows
def zK{n:Nat}(h:Nat.ble n 1000=true:=by rfl):n<=1000:=Ŋ h
abbrev Key:=Sum Int Str
def Io:Key->Value->Bool
 |.inl k,v=>Value.isInt k v
 |.inr x,v=>Value.isStrOf x v
def Vp(w:World):Key->Int
 |.inl k=>hashInt k
 |.inr x=>hashStr w x
def bf:∀{k:Key}{v:Value},Io k v=true->(∃i t,k=Sum.inl i/\v=ĝ i t)\/(∃x t,k=Sum.inr x/\v=Value.str x t)
 |.inl i,v,h=>by
  obtain⟨t,e⟩:=Value.isInt_shape (k:=i) (v:=v) h
  exact .inl ⟨i,t,rfl,e⟩
 |.inr x,v,h=>by
  obtain⟨t,e⟩:=Value.isStrOf_shape (x:=x) (v:=v) h
  exact .inr ⟨x,t,rfl,e⟩
def Q0(a b:Int):decide ((Sum.inl a:Key)=Sum.inl b)=(a == b):=by
 by_cases e:a=b
 ·subst e;simp
 ·have h:¬(Sum.inl a:Key)=Sum.inl b:=λq=>e (Sum.inl.inj q)
  rw[decide_eq_false h]
  exact(beq_eq_false_iff_ne.mpr e).symm
def QW(a b:Str):decide ((Sum.inr a:Key)=Sum.inr b)=decide (a=b):=by
 by_cases e:a=b
 ·subst e;simp
 ·have h:¬(Sum.inr a:Key)=Sum.inr b:=λq=>e (Sum.inr.inj q)
  rw[decide_eq_false h,decide_eq_false e]
def QZ(a:Int)(b:Str):decide ((Sum.inl a:Key)=Sum.inr b)=false:=decide_eq_false (λq=>nomatch q)
def QX(a:Str)(b:Int):decide ((Sum.inr a:Key)=Sum.inl b)=false:=decide_eq_false (λq=>nomatch q)
def lK(prog:Program)(w:World):PySem.KeyKind prog w Key where
 is:=Io
 hash:=Vp w
 inj:=λv a b ha hb=>by
  rcases bf ha with ⟨i,t,rfl,rfl⟩|⟨x,t,rfl,rfl⟩
  ·rcases bf hb with ⟨j,u,rfl,e⟩|⟨y,u,rfl,e⟩
   ·injection e with e1 _;rw[e1]
   ·exact nomatch e
  ·rcases bf hb with ⟨j,u,rfl,e⟩|⟨y,u,rfl,e⟩
   ·exact nomatch e
   ·injection e with e1 _;rw[e1]
 byValue:=λk v h=>by
  rcases bf h with ⟨i,t,rfl,rfl⟩|⟨x,t,rfl,rfl⟩ <;> rfl
 pyHash:=λhv h=>by
  rcases bf hv with ⟨i,t,rfl,rfl⟩|⟨x,t,rfl,rfl⟩
  ·exact wpAny_pyHash_int h
  ·exact wpAny_pyHash_str h
 eqBool:=λhu hv h=>by
  rcases bf hu with ⟨i,t,rfl,rfl⟩|⟨x,t,rfl,rfl⟩
  ·rcases bf hv with ⟨j,u,rfl,rfl⟩|⟨y,u,rfl,rfl⟩
   ·rw[Q0] at h;exact wpAny_eqBool_int h
   ·rw[QZ] at h;exact SeqAt.EqAt.int_str i t y u _ _ _ _ h
  ·rcases bf hv with ⟨j,u,rfl,rfl⟩|⟨y,u,rfl,rfl⟩
   ·rw[QX] at h;exact SeqAt.EqAt.str_int x t j u _ _ _ _ h
   ·rw[QW] at h;exact wpAny_eqBool_str h
 «strs»:=λk x t v h=>by
  rcases bf h with ⟨i,u,rfl,e⟩|⟨y,u,rfl,e⟩
  ·exact nomatch e
  ·injection e with e1 _
   subst e1
   cases v <;> rfl
inductive V where
 |non|bl (b:Bool)|int (i:Int)|str (x:Str)|byt (b:Array UInt8)|flt (b:UInt64)|ref (a:Addr)|ty (n:String)
 deriving DecidableEq
def RelV:V->Value->Prop
 |.non,u=>u=ľ
 |.bl b,u=>u=Ś b
 |.int i,u=>∃t,u=ĝ i t
 |.str x,u=>∃t,u=Value.str x t
 |.byt b,u=>∃t,u=Value.bytes b t
 |.flt b,u=>∃t,u=Value.float b t
 |.ref a,u=>u=ħ a
 |.ty n,u=>u=Đ n
abbrev Vals:List V->List Value->Prop:=Paired RelV
def Vals.length{xs:List V}{us:List Value}(r:Vals xs us):xs.length=us.length:=Paired.length r
def Vals.get:∀{xs:List V}{us:List Value}{i:Nat}{x:V},Vals xs us->xs[i]?=some x->∃u,us[i]?=some u/\RelV x u
 |_,_,_,_,.nil,e=>by simp at e
 |_,_,0,_,.cons r _,e=>by simp at e;subst e;exact⟨_,rfl,r⟩
 |_,_,i+1,x,.cons _ t,e=>by
  obtain⟨u,h1,h2⟩:=Vals.get (i:=i) (x:=x) t (by simpa using e)
  exact⟨u,by simpa using h1,h2⟩
def Vals.set{x:V}{u:Value}(r:RelV x u):∀{xs:List V}{us:List Value} (i:Nat),Vals xs us->Vals (xs.set i x) (us.set i u)
 |_,_,_,.nil=>.nil
 |_,_,0,.cons _ t=>.cons r t
 |_,_,i+1,.cons q t=>.cons q (Vals.set r i t)
def Vals.append:∀{xs ys:List V}{us ws:List Value},Vals xs us->Vals ys ws->Vals (xs++ys) (us++ws)
 |_,_,_,_,.nil,s=>s
 |_,_,_,_,.cons r t,s=>.cons r (Vals.append t s)
def Vals.take:∀{xs:List V}{us:List Value} (n:Nat),Vals xs us->Vals (xs.take n) (us.take n)
 |_,_,0,_=>.nil
 |_,_,_+1,.nil=>.nil
 |_,_,n+1,.cons r t=>.cons r (Vals.take n t)
def Vals.drop:∀{xs:List V}{us:List Value} (n:Nat),Vals xs us->Vals (xs.drop n) (us.drop n)
 |_,_,0,r=>r
 |_,_,_+1,.nil=>.nil
 |_,_,n+1,.cons _ t=>Vals.drop n t
def Ry:Option V->Option Value->Prop
 |some v,some u=>RelV v u
 |none,none=>True
 |_,_=>False
def KV{κ:Type}:List (κ×V)->List (κ×Value)->Prop:=Paired λ(p:κ×V) (q:κ×Value)=>p.1=q.1/\RelV p.2 q.2
def kV:Key->V
 |.inl i=>.int i
 |.inr x=>.str x
inductive HO where
 |lst (xs:List V)
 |tup (xs:List V)
 |dK (kvs:List (Key×V))|dT (kvs:List (List Key×V))
 |set (S:Int->Bool) (n:Nat)
 |ins (C dx:Addr) (fs:List (Str×V))
 |own (x:Addr)
 |xd (fs:List (Str×V))
 |met (f x:Addr)
 |rng (lo hi:Int)
 |frz (o:Obj) (u:HO)
 |tbl (ps:Array Value)
 |ext (φ:Heap->Prop)
abbrev Hp:=Addr->Option HO
def upd(H:Hp)(a:Addr)(o:HO):Hp:=λb=>if b=a then some o else H b
def aB{H:Hp}{a:Addr}{o:HO}:upd H a o a=some o:=by unfold upd;rw[if_pos rfl]
def ao{H:Hp}{a b:Addr}{o:HO}(h:b≠a):upd H a o b=H b:=by unfold upd;rw[if_neg h]
def aK{H:Hp}{a b:Addr}{o:HO}(h:H a=some o)(h':H b=none):a≠b:=by
 intro e;subst e;rw[h] at h';cases h'
section
variable (P:Program) (w:World)
def bx(H:Hp)(h:Heap)(a:Addr):HO->Prop
 |.lst xs=>xs.length<=sizeLine/\∃(its:List Value) (n:Nat),Vals xs its/\h.get? a=some { cls:=.type "list",data:=.seq its.toArray n }
 |.tup xs=>xs.length<=sizeLine/\∃its:List Value,Vals xs its/\IsTup h a its.toArray
 |.dK kvs=>kvs.length<=sizeLine/\(a == sysModules)=false/\∃vs,KV kvs vs/\h.DictOf (lK P w) a vs
 |.dT kvs=>kvs.length<=sizeLine/\(a == sysModules)=false/\∃xs:List (List Key×Addr×Value),
   Paired (λ(p:List Key×V) (q:List Key×Addr×Value)=>p.1=q.1/\H q.2.1=some (.tup (p.1.map kV))/\RelV p.2 q.2.2) kvs xs /\
   ∃o es ep,h.get? a=some o/\o.ExactDict/\o.data=.dict es ep/\es.toList=xs.map (entryOfKey (tupleKind (lK P w)))/\(xs.map (·.1)).Nodup
 |.set S n=>h.SetOf (intKind P w) a S n
 |.ins C dx fs=>H dx=some (.own a)/\fs.length<=1000/\dx≠a/\h.get? a=some (W.instObj C dx) /\
   ∃mA,h.Ns1 dx mA/\(∀f,Ry (fs.lookup f) (mA f))/\PySem.Within mA (fs.map (·.1))
 |.own _=>∃o,h.get? a=some o
 |.xd fs=>∃mA,h.Ns1 a mA/\∀f,Ry (fs.lookup f) (mA f)
 |.rng lo hi=>∃t u v,h.get? a=some { cls:=.type "range",data:=.fields #[.int lo t,.int hi u,.int 1 v] }
 |.frz o u=>h.get? a=some o/\bx H h a u
 |.tbl ps=>h.get? a=some { cls:=.none,data:=.fields ps }
 |.met f x=>h.get? a=some (W.methodObj (.ref f) (.ref x))
 |.ext φ=>φ h/\(∃o,h.get? a=some o)/\∀h1 h2:Heap,φ h1->(∀o,h1.get? a=some o->h2.get? a=some o)->φ h2
def HOk(H:Hp)(h:Heap):Prop:=∀a o,H a=some o->bx P w H h a o
end
section
variable {P:Program}{w:World}{H H':Hp}{h h':Heap}{a:Addr}{o:HO}
def bx.lt(x:bx P w H h a o):a<h.objs.size:=by
 cases o with
 |lst xs=>obtain⟨_,_,_,_,e⟩:=x;exact É e
 |tup xs=>obtain⟨_,_,_,p⟩:=x;exact p.lt
 |dK kvs=>obtain⟨_,_,_,_,o,_,_,e,_⟩:=x;exact É e
 |dT kvs=>obtain⟨_,_,_,_,o,_,_,e,_⟩:=x;exact É e
 |set S n=>obtain⟨o,_,_,_,e,_⟩:=x;exact É e
 |ins C dx fs=>obtain⟨_,_,_,e,_⟩:=x;exact É e
 |own y=>obtain⟨_,e⟩:=x;exact É e
 |xd fs=>obtain⟨_,⟨_,_,_,e,_⟩,_⟩:=x;exact É e
 |rng lo hi=>obtain⟨_,_,_,e⟩:=x;exact É e
 |frz ob u=>obtain⟨e,_⟩:=x;exact É e
 |tbl ps=>exact É (show h.get? a=some _ from x)
 |met f y=>exact É (show h.get? a=some _ from x)
 |ext φ=>obtain⟨_,⟨_,e⟩,_⟩:=x;exact É e
def Paired.HJ{α β:Type}{F G:α->β->Prop}:∀{l₁:List α}{l₂:List β},Paired F l₁ l₂->(∀a b,F a b->G a b)->Paired G l₁ l₂
 |_,_,.nil,_=>.nil
 |_,_,.cons r t,f=>.cons (f _ _ r) (Paired.HJ t f)
def bx.stay(x:bx P w H h a o)(k:∀b u,(b=a\/H b=some (.own a))->h.get? b=some u->h'.get? b=some u)(ho:∀b,H b=some (.own a)->H' b=some (.own a))(ht:∀b xs,H b=some (.tup xs)->H' b=some (.tup xs)):bx P w H' h' a o:=by
 induction o with
 |lst xs=>obtain⟨z,its,n,r,e⟩:=x;exact⟨z,its,n,r,k _ _ (.inl rfl) e⟩
 |tup xs=>obtain⟨z,its,r,ob,e,c⟩:=x;exact⟨z,its,r,ob,k _ _ (.inl rfl) e,c⟩
 |dK kvs=>obtain⟨z,y,vs,r,ob,es,ep,e,c⟩:=x;exact⟨z,y,vs,r,ob,es,ep,k _ _ (.inl rfl) e,c⟩
 |dT kvs =>
  obtain⟨z,y,xs,r,ob,es,ep,e,c⟩:=x
  exact⟨z,y,xs,Paired.HJ r λp q z=>⟨z.1,ht _ _ z.2.1,z.2.2⟩,ob,es,ep,k _ _ (.inl rfl) e,c⟩
 |set S n=>obtain⟨ob,es,ep,t,e,c⟩:=x;exact⟨ob,es,ep,t,k _ _ (.inl rfl) e,c⟩
 |ins C dx fs =>
  obtain⟨d,z,ne,e,mA,⟨od,es,ep,e2,c⟩,r⟩:=x
  exact⟨ho _ d,z,ne,k _ _ (.inl rfl) e,mA,⟨od,es,ep,k _ _ (.inr d) e2,c⟩,r⟩
 |own y=>obtain⟨ob,e⟩:=x;exact⟨ob,k _ _ (.inl rfl) e⟩
 |xd fs=>obtain⟨mA,⟨od,es,ep,e,c⟩,r⟩:=x;exact⟨mA,⟨od,es,ep,k _ _ (.inl rfl) e,c⟩,r⟩
 |rng lo hi=>obtain⟨t,u,v,e⟩:=x;exact⟨t,u,v,k _ _ (.inl rfl) e⟩
 |frz ob u ih=>obtain⟨e,q⟩:=x;exact⟨k _ _ (.inl rfl) e,ih q⟩
 |tbl ps =>
  have e:h.get? a=some { cls:=.none,data:=.fields ps }:=x
  show h'.get? a=some { cls:=.none,data:=.fields ps }
  exact k a _ (.inl rfl) e
 |met f y =>
  have e:h.get? a=some (W.methodObj (.ref f) (.ref y)):=x
  show h'.get? a=some (W.methodObj (.ref f) (.ref y))
  exact k a _ (.inl rfl) e
 |ext φ=>obtain⟨p,⟨o,e⟩,st⟩:=x;exact⟨st _ _ p λo q=>k _ _ (.inl rfl) q,⟨o,k _ _ (.inl rfl) e⟩,st⟩
def HOk.lt(x:HOk P w H h)(e:H a=some o):a<h.objs.size:=(x a o e).lt
def HOk.fresh(x:HOk P w H h)(e:h.objs.size<=a):H a=none:=by
 cases q:H a with
 |none=>rfl
 |some u=>exact absurd (ã (x.lt q) e) (ü _)
def HOk.kept(x:HOk P w H h)(k:∀b u,h.get? b=some u->h'.get? b=some u):HOk P w H h':=λa o e =>
 (x a o e).stay (λb u _ q=>k b u q) (λ_ q=>q) λ_ _ q=>q
def HOk.laid(x:HOk P w H h)(k:∀b u,h.get? b=some u->h'.get? b=some u)(hp:h.objs.size<=a)(new:bx P w (upd H a o) h' a o):HOk P w (upd H a o) h':=λb u e=>by
 have hn:=x.fresh hp
 by_cases hb:b=a
 ·subst hb;rw[aB] at e;cases e;exact new
 ·rw[ao hb] at e
  exact(x b u e).stay (λc v _ q=>k c v q) (λc q=>by rw[ao (aK q hn)];exact q) λc xs q=>by rw[ao (aK q hn)];exact q
end
def Rd(H:Hp)(a:Addr)(u:HO):Prop:=H a=some u\/∃o,H a=some (.frz o u)
def Rd.ok{P:Program}{w:World}{H:Hp}{h:Heap}{a:Addr}{u:HO}(r:Rd H a u)(x:HOk P w H h):bx P w H h a u:=by
 rcases r with r|⟨o,r⟩
 ·exact x a u r
 ·obtain⟨_,q⟩:=x a _ r
  exact q
def Mut:Option HO->Prop
 |some (.lst _)=>True
 |some (.dK _)=>True
 |some (.dT _)=>True
 |some (.set _ _)=>True
 |some (.ins _ _ _)=>True
 |some (.ext _)=>True
 |_=>False
section
variable {P:Program}{w:World}{H:Hp}{h h':Heap}{x e:Addr}{o':HO}
def HOk.write(ok:HOk P w H h)(mu:Mut (H x))(he:e=x\/H e=some (.own x))(k:∀b u,b≠e->h.get? b=some u->h'.get? b=some u)(heo:∃u,h'.get? e=some u)(new:bx P w (upd H x o') h' x o'):HOk P w (upd H x o') h':=λb u q=>by
 have nown:∀c y,H c=some (.own y)->c≠x:=λc y r z=>by subst z;rw[r] at mu;exact mu
 have ntup:∀c xs,H c=some (.tup xs)->c≠x:=λc xs r z=>by subst z;rw[r] at mu;exact mu
 by_cases hb:b=x
 ·subst hb;rw[aB] at q;cases q;exact new
 ·rw[ao hb] at q
  by_cases hbe:b=e
  ·have q':H b=some (.own x):=by
    rcases he with z|z
    ·exact absurd (hbe.trans z) hb
    ·rw[hbe];exact z
   rw[q] at q';cases q'
   obtain⟨v,hv⟩:=heo
   exact⟨v,by rw[hbe];exact hv⟩
  ·refine(ok b u q).stay (λc v hc r=>k c v ?_ r) (λc r=>by rw[ao (nown c b r)];exact r) λc xs r=>by rw[ao (ntup c xs r)];exact r
   rcases hc with rfl|hc
   ·exact hbe
   ·rintro rfl
    rcases he with z|z
    ·exact nown c b hc z
    ·rw[hc] at z;cases z;exact hb rfl
end
structure Un(fs ex:List Addr)(H H':Hp)(h h':Heap):Prop where
 keep:∀b o,h.get? b=some o->H b=none->b∉fs->b∉ex->h'.get? b=some o
 slot:∀b o,h.get? b=some o->H b=none->b∈fs->b∉ex->∃sl,h'.get? b=some { o with slots:=sl }
 free:∀b o,h.get? b=some o->H b=none->b∉ex->H' b=none
 there:∀b o,h.get? b=some o->b∉ex->∃o',h'.get? b=some o'
 tups:∀b xs,H b=some (.tup xs)->H' b=some (.tup xs)
 frzs:∀b o u,H b=some (.frz o u)->H' b=some (.frz o u)
 tbls:∀b ps,H b=some (.tbl ps)->∃more,H' b=some (.tbl (ps++more))
section
variable {fs fs' ex ex':List Addr}{H H1 H2:Hp}{h h1 h2 h':Heap}{a x e:Addr}{o:HO}
def Un.any(u:Un fs ex H H1 h h1){b:Addr}{ob:Obj}(q:h.get? b=some ob)(n:H b=none)(hx:b∉ex):∃sl,h1.get? b=some { ob with slots:=sl }:=by
 by_cases hb:b∈fs
 ·exact u.slot b ob q n hb hx
 ·exact⟨ob.slots,u.keep b ob q n hb hx⟩
def Un.kept(k:∀b u,h.get? b=some u->h'.get? b=some u):Un fs ex H H h h' :=
 ⟨λb ob q _ _ _=>k b ob q,λb ob q _ _ _=>⟨ob.slots,k b ob q⟩,λ_ _ _ n _=>n,λb ob q _=>⟨ob,k b ob q⟩,λ_ _ q=>q,λ_ _ _ q=>q,λ_ ps q=>⟨#[],by rw[q];simp⟩⟩
def Un.refl:Un fs ex H H h h:=Un.kept λ_ _ q=>q
def Un.laid(k:∀b u,h.get? b=some u->h'.get? b=some u)(hp:h.objs.size<=a)(hn:H a=none):Un fs ex H (upd H a o) h h' where
 keep:=λb u q _ _ _=>k b u q
 slot:=λb u q _ _ _=>⟨u.slots,k b u q⟩
 free:=λb u q n _=>by rw[ao (æ (ã (É q) hp))];exact n
 there:=λb u q _=>⟨u,k b u q⟩
 tups:=λb xs q=>by rw[ao (aK q hn)];exact q
 frzs:=λb u xs q=>by rw[ao (aK q hn)];exact q
 tbls:=λb ps q=>⟨#[],by rw[ao (aK q hn),q];simp⟩
def Un.write(mu:Mut (H x))(he:e=x\/H e=some (.own x))(k:∀b u,b≠e->h.get? b=some u->h'.get? b=some u)(heo:∃u,h'.get? e=some u):Un fs ex H (upd H x o) h h':=by
 have hx:∀b,H b=none->b≠x:=λb n z=>by subst z;rw[n] at mu;exact mu
 have hb:∀b,H b=none->b≠e:=λb n z=>by
  subst z
  rcases he with r|r
  ·exact hx b n r
  ·rw[n] at r;cases r
 have hm:∀b u,H b=some u->¬Mut (some u)->b≠x:=λb u q nm z=>by subst z;rw[q] at mu;exact nm mu
 refine⟨λb u q n _ _=>k b u (hb b n) q,λb u q n _ _=>⟨u.slots,k b u (hb b n) q⟩,λb u q n _=>by rw[ao (hx b n)];exact n,λb u q _=>?_,
  λb xs q=>by rw[ao (hm b _ q λz=>z)];exact q,λb u xs q=>by rw[ao (hm b _ q λz=>z)];exact q,λb ps q=>⟨#[],by rw[ao (hm b _ q λz=>z),q];simp⟩⟩
 by_cases hbe:b=e
 ·subst hbe;exact heo
 ·exact⟨u,k b u hbe q⟩
end
def trk(h:Heap)(H:Hp):List Addr:=(ä h.objs.size).filter λa=>(H a).isSome
def vJ(h:Heap)(H:Hp):Heap:=W.hideAll h (trk h H)
def Eo(h:Heap)(H:Hp):(vJ h H).objs.size=h.objs.size:=W.hideAll_size _ _
def qR{h:Heap}{H:Hp}{b:Addr}{o:Obj}(e:h.get? b=some o)(n:H b=none):(vJ h H).get? b=some o :=
 W.hideAll_get _ e λhm=>by
  have q:(H b).isSome=true:=(đ.mp hm).2
  rw[n] at q;simp at q
def K4{h:Heap}{H:Hp}{b:Addr}{o:Obj}(e:(vJ h H).get? b=some o):h.get? b=some o/\H b=none:=by
 have e':h.get? b=some o:=W.of_hideAll (trk h H) e
 refine⟨e',?_⟩
 cases q:H b with
 |none=>rfl
 |some x =>
  have hm:b∈trk h H:=đ.mpr ⟨ę.mpr (É e'),by simp[q]⟩
  have z:(vJ h H).get? b=none:=W.hideAll_none (trk h H) hm
  rw[z] at e;cases e
def vX(g h:Heap)(L:Addr):List (Addr×Obj):=(ä h.objs.size).filterMap λa=>if a=L\/(g.get? a).isSome=true then none else (h.get? a).map λo=>(a,o)
def qF{g h:Heap}{L:Addr}{p:Addr×Obj}(hp:p∈vX g h L):p.1≠L/\g.get? p.1=none/\h.get? p.1=some p.2:=by
 obtain⟨b,_,e⟩:=Ž.mp hp
 split at e
 ·cases e
 ·rename_i hn
  cases q:h.get? b with
  |none=>rw[q] at e;simp at e
  |some u =>
   rw[q] at e
   simp only[Option.map_some,Option.some.injEq] at e
   subst e
   refine⟨λz=>hn (.inl z),?_,q⟩
   show g.get? b=none
   cases r:g.get? b with
   |none=>rfl
   |some v=>exact(hn (.inr (by simp[r]))).elim
def rest(g h:Heap)(L d:Addr):List (Addr×Obj):=(vX g h L).filter λp=>decide (p.1≠d)
def Hy{g h:Heap}{L:Addr}:News g L h (vX g h L):=λp hp=>let ⟨a,b,c⟩:=qF hp;⟨c,a,b⟩
structure Mod(K:Ô)(mg:Str->Option Value)(base:Heap):Prop where
 kin:K.In base
 glob:base.Ns mainGlobals mg
 blt:∃mb,base.Ns builtinsNs mb/\∀x:Str,x≠"__name__"->mb x=bootBuiltins x
 nolimit:base.NoLimit
structure Cx where
 prog:Program
 w:World
 K:Ô
 mg:Str->Option Value
 base:Heap
 A:Around
 N:List Str
 s₀:Shared
 H₀:Hp
 env:Env
 outer:List Env
 stack:List Env
 ex:List Addr
 fn:Str->Bool
 calm:Bool
 pn:List (Addr×Obj)
 xe:Value->Shared->Prop
 sf:List (Addr×Obj×HO):=[]
def frs(l:List Env):List Addr:=l.filterMap (·.frame)
abbrev Cx.fs(X:Cx):List Addr:=frs X.outer
def Vis(sc:Scope)(x:Str):Prop:=sc.names.lookup x=some .local\/sc.names.lookup x=some .cell\/sc.names.lookup x=some .free
def Loc(sc:Scope)(x:Str):Prop:=sc.names.lookup x=some .local\/sc.names.lookup x=some .cell
def Look(env:Env)(h:Heap)(m:Str->Option Value)(x:Str)(u:Value):Prop :=
 (env.kindOf x=some .local/\m x=some u)\/((env.kindOf x=some .cell\/env.kindOf x=some .free)/\∃c,env.cells.lookup x=some c/\h.IsCell c (some u))
abbrev zS(X:Cx)(e:Expr)(es:List Expr):Prop:=starEach (e::es) X.env=(false,eval e X.env)::starEach es X.env
abbrev zP(X:Cx)(p:Pos)(es:List Expr):Prop:=(backTo p (starEach es X.env)).any (·.1)=false
abbrev zB(x:Str):Prop:=(x == ("__debug__":Str))=false
abbrev zF(X:Cx)(e:Expr):Prop:=∀x,foldedSetIterable e X.env x=pure x
abbrev zL(X:Cx)(x:Str):Prop:=X.fn x=true\/X.env.scope.names.lookup x=some .local
abbrev zW(X:Cx)(p:Pos)(es:List Expr):Prop:=((backTo p (starEach es X.env)).all (λx=>!x.1)&&(backToKw p (keywordEach [] X.env)).all (λx=>x.1.isSome)&&decide (es.length+([]:List Keyword).length+(if ([]:List Keyword).isEmpty then 0 else 1)<30))=true
def zQ{sc:Scope}{x:Str}(h:(sc.names.lookup x == some .local||sc.names.lookup x == some .cell)=true:=by rfl):Loc sc x:=(Bool.or_eq_true_iff.mp h).imp (λz=>eq_of_beq z) λz=>eq_of_beq z
structure Cx.Ok(X:Cx):Prop where
 mod:Mod X.K X.mg X.base
 kind:X.env.scope.kind=.function
 glob:X.env.globals=mainGlobals
 blt:X.env.builtins=builtinsNs
 above:X.s₀.heap.objs.size<=X.env.locals
 inj:∀x y c,X.env.cells.lookup x=some c->X.env.cells.lookup y=some c->x=y
 has:∀x,(X.env.kindOf x=some .cell\/X.env.kindOf x=some .free)->∃c,X.env.cells.lookup x=some c
 cab:∀x c,X.fn x=true->X.env.cells.lookup x=some c->X.s₀.heap.objs.size<=c
 hd:X.calm=true->X.A.handled=none
 frames:X.A.frames=some X.stack
 stk:X.stack=X.outer\/(X.stack=X.env::X.outer/\X.env.frame=some X.env.locals)
 exf:∀b∈X.ex,b≠X.env.locals/\∀x c,X.env.cells.lookup x=some c->c≠b
 bs:∀b o,X.base.get? b=some o->X.s₀.heap.get? b=some o/\X.H₀ b=none
 bsz:X.base.objs.size<=X.s₀.heap.objs.size
 noex:∀b o,X.base.get? b=some o->b∉X.ex
 exfs:∀b∈X.ex,b∉X.fs
 jY:X.s₀.heap.FunFrames X.base X.outer
 frf:∀b∈X.fs,X.H₀ b=none
 sof:∀q∈X.sf,X.A.handled=some (.ref q.1)/\X.H₀ q.1=some (.frz q.2.1 q.2.2)/\∃ws,q.2.1.data=.fields ws/\ws[2]?=some .none
structure Inv(X:Cx)(pins:List (Addr×Obj))(σ:List (Option V))(H:Hp)(s:Shared):Prop where
 ok:X.Ok
 os:s.os=X.s₀.os
 bare:AllBare s.gens
 base:Un X.fs X.ex X.H₀ H X.s₀.heap s.heap
 loc:∃m,s.heap.Ns X.env.locals m/\∀(i:Nat) (x:Str) (v:V),X.N[i]?=some x->σ[i]?=some (some v)->Vis X.env.scope x->∃u,RelV v u/\Look X.env s.heap m x u
 cell:∀x c,X.env.cells.lookup x=some c->∃v,s.heap.IsCell c v
 free:H X.env.locals=none
 freeC:∀x c,X.env.cells.lookup x=some c->H c=none
 pin:∀p∈X.pn++pins,s.heap.get? p.1=some p.2/\H p.1=none/\p.1≠X.env.locals/\p.1∉X.fs/\∀v,p.2.data≠.cell v
 hok:HOk X.prog X.w H s.heap
 len:σ.length=X.N.length
section
variable {X:Cx}{pins:List (Addr×Obj)}{σ:List (Option V)}{H H':Hp}{s:Shared}{h':Heap}
def Cx.Ok.Vj(ok:X.Ok){b:Addr}{o:Obj}(e:X.base.get? b=some o):b∉X.fs:=λhb=>by
 have:=(ok.jY.mem hb).1
 rw[e] at this;cases this
def Inv.bs(I:Inv X pins σ H s):∀b o,X.base.get? b=some o->s.heap.get? b=some o/\H b=none:=λb o e =>
 ⟨I.base.keep b o (I.ok.bs b o e).1 (I.ok.bs b o e).2 (I.ok.Vj e) (I.ok.noex b o e),I.base.free b o (I.ok.bs b o e).1 (I.ok.bs b o e).2 (I.ok.noex b o e)⟩
def Inv.bk(I:Inv X pins σ H s):∀b o,X.base.get? b=some o->s.heap.get? b=some o:=λb o e=>(I.bs b o e).1
def Inv.mod(I:Inv X pins σ H s):Mod X.K X.mg X.base:=I.ok.mod
def Inv.kIn(I:Inv X pins σ H s):X.K.In s.heap:=I.ok.mod.kin.keeps I.bk
def Inv.fr(I:Inv X pins σ H s):∃m,Fr X.base X.env.locals s.heap m :=
 let ⟨m,hn,_⟩:=I.loc
 ⟨m,hn,I.bk,é I.ok.bsz I.ok.above⟩
def Inv.lt(I:Inv X pins σ H s):X.env.locals<s.heap.objs.size:=let ⟨_,hn,_⟩:=I.loc;hn.lt
def Inv.sz(I:Inv X pins σ H s):X.s₀.heap.objs.size<=s.heap.objs.size:=é I.ok.above (Nat.le_of_lt I.lt)
def Inv.Vi(I:Inv X pins σ H s){a:Addr}(h:s.heap.objs.size<=a):a∉X.fs:=λhb=>by
 obtain⟨_,o,ho,_⟩:=I.ok.jY.mem hb
 exact absurd (ã (É ho) (é I.sz h)) (ü _)
def Inv.cne(I:Inv X pins σ H s):∀x c,X.env.cells.lookup x=some c->c≠X.env.locals:=λx c e z=>by
 obtain⟨v,o,ho,hd⟩:=I.cell x c e
 obtain⟨m,⟨o',es,ep,ho',hd',_⟩,_⟩:=I.loc
 rw[z,ho'] at ho;cases ho;rw[hd'] at hd;cases hd
def Inv.jY(I:Inv X pins σ H s):s.heap.FunFrames X.base X.outer:=by
 have all:∀(l:List Env),(∀b∈frs l,b∈X.fs)->X.s₀.heap.FunFrames X.base l->s.heap.FunFrames X.base l:=by
  intro l
  induction l with
  |nil=>intro _ _;trivial
  |cons env r ih =>
   intro hs hl
   obtain⟨hk,⟨L,o,hf,hn,ho,hd⟩,hr⟩:=hl
   have hL:L∈X.fs:=hs L (by unfold frs;rw[ų,hf];exact Ú)
   obtain⟨sl,e⟩:=I.base.slot L o ho (I.ok.frf L hL) hL λz=>I.ok.exfs L z hL
   exact⟨hk,⟨L,_,hf,hn,e,hd⟩,ih (λb hb=>hs b (by unfold frs;rw[ų,hf];exact Ó _ hb)) hr⟩
 exact all X.outer (λ_ hb=>hb) I.ok.jY
def Inv.stack(I:Inv X pins σ H s):s.heap.FunFrames X.base X.stack:=by
 rcases I.ok.stk with e|⟨e,hf⟩
 ·rw[e];exact I.jY
 ·rw[e]
  obtain⟨m,hn,_⟩:=I.loc
  refine .cons (by rw[I.ok.kind];decide) hf hn ?_ I.jY
  exact Heap.get?_none_of_le (é I.ok.bsz I.ok.above)
def Inv.uE(I:Inv X pins σ H s):∀b∈frs X.stack,b∈X.env.locals::X.fs:=λb hb=>by
 rcases I.ok.stk with e|⟨e,hf⟩
 ·rw[e] at hb;exact Ó _ hb
 ·rw[e] at hb
  unfold frs at hb
  rw[ų,hf] at hb
  exact hb
def Inv.Az(I:Inv X pins σ H s):∀b∈frs X.stack,H b=none:=λb hb=>by
 rcases è.mp (I.uE b hb) with e|hb
 ·rw[e];exact I.free
 ·obtain⟨_,o,ho,_⟩:=I.ok.jY.mem hb
  exact I.base.free b o ho (I.ok.frf b hb) λz=>I.ok.exfs b z hb
def Inv.step{g':Array GenState}{t':Nat}{d':Drawn}{ch:List Addr}(I:Inv X pins σ H s)(hch:∀b∈ch,(b∈X.ex\/X.s₀.heap.objs.size<=b)/\b≠X.env.locals/\(∀x c,X.env.cells.lookup x=some c->c≠b)/\∀p∈X.pn++pins,p.1≠b)(keep:∀b o,b≠X.env.locals->b∉X.fs->b∉ch->s.heap.get? b=some o->H b=none->h'.get? b=some o)(slot:∀b o,b≠X.env.locals->b∈X.fs->b∉ch->s.heap.get? b=some o->H b=none->∃sl,h'.get? b=some { o with slots:=sl })(free:∀b o,b∉ch->s.heap.get? b=some o->H b=none->H' b=none)(there:∀b o,b∉ch->s.heap.get? b=some o->∃o',h'.get? b=some o')(tups:∀b xs,H b=some (.tup xs)->H' b=some (.tup xs))(frzs:∀b o u,H b=some (.frz o u)->H' b=some (.frz o u))(tbls:∀b ps,H b=some (.tbl ps)->∃more,H' b=some (.tbl (ps++more)))(ns:∀m,s.heap.Ns X.env.locals m->h'.Ns X.env.locals m)(hok:HOk X.prog X.w H' h')(hg:AllBare g') :
  Inv X pins σ H' { s with heap:=h',gens:=g',drawn:=d',toks:=t' }:=by
 have neL:∀b o,X.s₀.heap.get? b=some o->b≠X.env.locals:=λb o e=>æ (ã (É e) I.ok.above)
 have neC:∀b o,X.s₀.heap.get? b=some o->b∉X.ex->b∉ch:=λb o e hx hb=>by
  rcases(hch b hb).1 with z|z
  ·exact hx z
  ·exact absurd (ã (É e) z) (ü _)
 have cellK:∀x c,X.env.cells.lookup x=some c->∀v,s.heap.IsCell c v->h'.IsCell c v:=λx c e v ⟨o,ho,hd⟩=>by
  have nch:c∉ch:=λz=>(hch c z).2.2.1 x c e rfl
  by_cases hc:c∈X.fs
  ·obtain⟨sl,q⟩:=slot c o (I.cne x c e) hc nch ho (I.freeC x c e)
   exact⟨_,q,hd⟩
  ·exact⟨o,keep c o (I.cne x c e) hc nch ho (I.freeC x c e),hd⟩
 refine⟨I.ok,I.os,hg,⟨λb o e n hb hx=>?_,λb o e n hb hx=>?_,λb o e n hx=>?_,λb o e hx=>?_,λb xs e=>tups b xs (I.base.tups b xs e),λb o xs e=>frzs b o xs (I.base.frzs b o xs e),λb ps e=>?_⟩,?_,λx c e=>?_,?_,λx c e=>?_,λp hp=>?_,hok,I.len⟩
 ·exact keep b o (neL b o e) hb (neC b o e hx) (I.base.keep b o e n hb hx) (I.base.free b o e n hx)
 ·obtain⟨sl,e1⟩:=I.base.slot b o e n hb hx
  obtain⟨sl',e2⟩:=slot b _ (neL b o e) hb (neC b o e hx) e1 (I.base.free b o e n hx)
  exact⟨sl',e2⟩
 ·obtain⟨o',e1⟩:=I.base.there b o e hx
  exact free b o' (neC b o e hx) e1 (I.base.free b o e n hx)
 ·obtain⟨o',e1⟩:=I.base.there b o e hx
  exact there b o' (neC b o e hx) e1
 ·obtain⟨m1,e1⟩:=I.base.tbls b ps e
  obtain⟨m2,e2⟩:=tbls b _ e1
  exact⟨m1++m2,by rw[e2,Array.append_assoc]⟩
 ·obtain⟨m,hn,hl⟩:=I.loc
  refine⟨m,ns m hn,λi x v e1 e2 e3=>?_⟩
  obtain⟨u,r,l⟩:=hl i x v e1 e2 e3
  refine⟨u,r,?_⟩
  rcases l with l|⟨k,c,e,z⟩
  ·exact .inl l
  ·exact .inr ⟨k,c,e,cellK x c e _ z⟩
 ·obtain⟨v,z⟩:=I.cell x c e
  exact⟨v,cellK x c e v z⟩
 ·obtain⟨m,⟨o,_,_,ho,_⟩,_⟩:=I.loc
  exact free _ o (λz=>(hch _ z).2.1 rfl) ho I.free
 ·obtain⟨v,o,ho,hd⟩:=I.cell x c e
  exact free c o (λz=>(hch c z).2.2.1 x c e rfl) ho (I.freeC x c e)
 ·obtain⟨e,n,ne,nf,d⟩:=I.pin p hp
  have nch:p.1∉ch:=λz=>(hch p.1 z).2.2.2 p hp rfl
  exact⟨keep p.1 p.2 ne nf nch e n,free p.1 p.2 nch e n,ne,nf,d⟩
def Inv.un{t':Nat}(I:Inv X pins σ H s)(u:Un X.fs [] H H' s.heap h')(hok:HOk X.prog X.w H' h'):Inv X pins σ H' { s with heap:=h',toks:=t' }:=by
 obtain⟨m,⟨o,es,ep,ho,r⟩,_⟩:=id I.loc
 obtain⟨sl,hL⟩:=u.any ho I.free (by simp)
 exact I.step (g':=s.gens) (d':=s.drawn) (ch:=[]) (λ_ z=>nomatch z) (λb o _ hb _ e n=>u.keep b o e n hb (by simp)) (λb o _ hb _ e n=>u.slot b o e n hb (by simp)) (λb o _ e n=>u.free b o e n (by simp)) (λb o _ e=>u.there b o e (by simp)) u.tups u.frzs u.tbls (λm' hm=>by
  obtain⟨o',es',ep',ho',r'⟩:=hm
  rw[ho] at ho';cases ho'
  exact⟨_,es',ep',hL,r'⟩) hok I.bare
def Inv.call{g':Array GenState}{t':Nat}{d':Drawn}{ch:List Addr}(I:Inv X pins σ H s)(u:Un (frs X.stack) ch H H' s.heap h')(hok:HOk X.prog X.w H' h')(hg:AllBare g')(hch:∀b∈ch,(b∈X.ex\/X.s₀.heap.objs.size<=b)/\b≠X.env.locals/\(∀x c,X.env.cells.lookup x=some c->c≠b)/\∀p∈X.pn++pins,p.1≠b) :
  Inv X pins σ H' { s with heap:=h',gens:=g',drawn:=d',toks:=t' }:=by
 obtain⟨m,⟨o,es,ep,ho,r⟩,_⟩:=id I.loc
 obtain⟨sl,hL⟩:=u.any ho I.free λz=>(hch _ z).2.1 rfl
 exact I.step (ch:=ch) hch (λb o hL hb hc e n=>u.keep b o e n (λz=>(è.mp (I.uE b z)).elim hL hb) hc) (λb o _ _ hc e n=>u.any e n hc) (λb o hc e n=>u.free b o e n hc) (λb o hc e=>u.there b o e hc) u.tups u.frzs u.tbls (λm' hm=>by
  obtain⟨o',es',ep',ho',r'⟩:=hm
  rw[ho] at ho';cases ho'
  exact⟨_,es',ep',hL,r'⟩) hok hg
def Inv.turned{t':Nat}{it:Addr}(I:Inv X pins σ H s)(k:∀b o,b≠it->s.heap.get? b=some o->h'.get? b=some o)(hn:H it=none)(hL:it≠X.env.locals)(h1:it∈X.ex\/X.s₀.heap.objs.size<=it)(h2:∀x c,X.env.cells.lookup x=some c->c≠it)(h3:∀p∈X.pn++pins,p.1≠it):Inv X pins σ H { s with heap:=h',toks:=t' }:=by
 have nit:∀b u,H b=some u->b≠it:=λb u e z=>by rw[z,hn] at e;cases e
 refine I.step (g':=s.gens) (d':=s.drawn) (ch:=[it]) (λb hb=>?_) (λb o _ _ hc e _=>k b o (λz=>hc (by simp[z])) e) (λb o _ _ hc e _=>⟨o.slots,k b o (λz=>hc (by simp[z])) e⟩) (λ_ _ _ _ n=>n)
  (λb o hc e=>⟨o,k b o (λz=>hc (by simp[z])) e⟩) (λ_ _ e=>e) (λ_ _ _ e=>e) (λb ps e=>⟨#[],by rw[e];simp⟩) (λm hm=>?_) (λb u e=>?_) I.bare
 ·have e:b=it:=by simpa using hb
  subst e
  exact⟨h1,hL,h2,h3⟩
 ·obtain⟨o,es,ep,ho,r⟩:=hm
  exact⟨o,es,ep,k _ o (Ĩ hL) ho,r⟩
 ·refine(I.hok b u e).stay (λc v hc q=>k c v ?_ q) (λ_ q=>q) λ_ _ q=>q
  rcases hc with z|z
  ·rw[z];exact nit b u e
  ·exact nit c _ z
def Inv.tok(I:Inv X pins σ H s)(t:Nat):Inv X pins σ H { s with toks:=t }:=I.un (h':=s.heap) (t':=t) Un.refl I.hok
def Inv.kept{t':Nat}(I:Inv X pins σ H s)(k:∀b u,s.heap.get? b=some u->h'.get? b=some u):Inv X pins σ H { s with heap:=h',toks:=t' }:=I.un (Un.kept k) (I.hok.kept k)
def Inv.laid{a:Addr}{o:HO}{t':Nat}(I:Inv X pins σ H s)(k:∀b u,s.heap.get? b=some u->h'.get? b=some u)(hp:s.heap.objs.size<=a)(new:bx X.prog X.w (upd H a o) h' a o) :
  Inv X pins σ (upd H a o) { s with heap:=h',toks:=t' }:=I.un (Un.laid k hp (I.hok.fresh hp)) (I.hok.laid k hp new)
def Inv.write{x e:Addr}{o:HO}{t':Nat}(I:Inv X pins σ H s)(mu:Mut (H x))(he:e=x\/H e=some (.own x))(k:∀b u,b≠e->s.heap.get? b=some u->h'.get? b=some u)(heo:∃u,h'.get? e=some u)(new:bx X.prog X.w (upd H x o) h' x o):Inv X pins σ (upd H x o) { s with heap:=h',toks:=t' }:=I.un (Un.write mu he k heo) (I.hok.write mu he k heo new)
def Inv.pA{pins':List (Addr×Obj)}(I:Inv X pins σ H s)(h:∀p∈pins',s.heap.get? p.1=some p.2/\H p.1=none/\p.1≠X.env.locals/\p.1∉X.fs/\∀v,p.2.data≠.cell v):Inv X pins' σ H s :=
 ⟨I.ok,I.os,I.bare,I.base,I.loc,I.cell,I.free,I.freeC,λp hp=>(Ù.mp hp).elim (λz=>I.pin p (ū _ z)) (h p),I.hok,I.len⟩
def xu{N:List Str}(hN:N.Nodup){i j:Nat}{x:Str}(a:N[i]?=some x)(b:N[j]?=some x):i=j:=by
 obtain⟨h1,e1⟩:=Ý.mp a
 obtain⟨h2,e2⟩:=Ý.mp b
 exact(List.getElem_inj hN).mp (e1.trans e2.symm)
def sI{M:Model}{A:Around}{E:Value->Shared->Prop}{i:Nat}{x:Str}{v:V}{u:Value}{Q:Unit->Shared->Prop}(I:Inv X pins σ H s)(hU:∀j,X.N[j]?=some x->j=i)(hi:X.N[i]?=some x)(hx:Loc X.env.scope x)(r:RelV v u)(h:∀s',Inv X pins (σ.set i (some v)) H s'->(∃a,Heap.SameBut a s.heap s'.heap/\(a=X.env.locals\/X.env.cells.lookup x=some a))->Q () s')(hf:X.fn x=true\/X.env.scope.names.lookup x=some .local:=by first|exact .inl rfl|exact .inr rfl|assumption):wpAny M A (storeName X.env x u) Q E s:=by
 obtain⟨m,hn,hl⟩:=id I.loc
 have hcls:(X.env.scope.kind == .class || (X.env.scope.kind == .module&&X.env.locals != X.env.globals))=false:=by rw[I.ok.kind];rfl
 have hiσ:i<σ.length:=by rw[I.len];exact(Ý.mp hi).1
 have cne:=I.cne
 have tracked:∀{a:Addr}{h':Heap},(∃o,s.heap.get? a=some o/\H a=none)->Heap.SameBut a s.heap h'->HOk X.prog X.w H h':=λ{a h'} ha hs b ob e=>by
  obtain⟨_,_,hfree⟩:=ha
  refine(I.hok b ob e).stay (λc w' hc q=>(hs.2 c ?_).trans q) (λ_ q=>q) λ_ _ q=>q
  rintro rfl
  rcases hc with rfl|hc
  ·rw[hfree] at e;cases e
  ·rw[hfree] at hc;cases hc
 rcases hx with hk|hk
 ·refine wpAny_storeName_local hk hn (λh' hn' hs=>?_) hcls
  obtain⟨oL,_,_,hoL,_⟩:=id hn
  refine h _ ⟨I.ok,I.os,I.bare,⟨λb o e n hb hx=>?_,λb o e n hb hx=>?_,I.base.free,λb o e hx=>?_,I.base.tups,I.base.frzs,I.base.tbls⟩,⟨_,hn',λj y v' e1 e2 e3=>?_⟩,λy c e=>?_,I.free,I.freeC,λp hp=>?_,tracked ⟨oL,hoL,I.free⟩ hs,by simpa using I.len⟩ ⟨_,hs,.inl rfl⟩
  ·exact(hs.2 b (æ (ã (É e) I.ok.above))).trans (I.base.keep b o e n hb hx)
  ·obtain⟨sl,e1⟩:=I.base.slot b o e n hb hx
   exact⟨sl,(hs.2 b (æ (ã (É e) I.ok.above))).trans e1⟩
  ·obtain⟨o',e1⟩:=I.base.there b o e hx
   exact⟨o',(hs.2 b (æ (ã (É e) I.ok.above))).trans e1⟩
  ·by_cases hj:j=i
   ·subst hj
    rw[hi] at e1;cases e1
    rw[Ĉ hiσ] at e2
    cases e2
    exact⟨u,r,.inl ⟨hk,by simp⟩⟩
   ·rw[į (Ĩ hj)] at e2
    obtain⟨u',r',q⟩:=hl j y v' e1 e2 e3
    refine⟨u',r',?_⟩
    rcases q with ⟨k,e⟩|⟨k,c,e,z⟩
    ·refine .inl ⟨k,?_⟩
     have:y≠x:=λe=>hj (hU _ (e ▸ e1))
     simp[this,e]
    ·exact .inr ⟨k,c,e,z.sameBut hs (cne y c e)⟩
  ·obtain⟨w',z⟩:=I.cell y c e
   exact⟨w',z.sameBut hs (cne y c e)⟩
  ·obtain⟨e,n,ne,nf,d⟩:=I.pin p hp
   exact⟨(hs.2 p.1 ne).trans e,n,ne,nf,d⟩
 ·have hfn:X.fn x=true:=by
   rcases hf with z|z
   ·exact z
   ·rw[z] at hk;cases hk
  obtain⟨c,hc⟩:=I.ok.has x (.inl hk)
  obtain⟨w',z⟩:=I.cell x c hc
  refine wpAny_storeName_cell I.ok.kind hk hc z (λh' hc' hs=>?_)
  obtain⟨oc,hoc,hocd⟩:=id z
  refine h { s with heap:=h' } ⟨I.ok,I.os,I.bare,⟨λb o e n hb hx=>?_,λb o e n hb hx=>?_,I.base.free,λb o e hx=>?_,I.base.tups,I.base.frzs,I.base.tbls⟩,⟨m,hn.sameBut hs (Ĩ (cne x c hc)),λj y v' e1 e2 e3=>?_⟩,λy c' e=>?_,I.free,I.freeC,λp hp=>?_,tracked ⟨oc,hoc,I.freeC x c hc⟩ hs,by simpa using I.len⟩ ⟨c,hs,.inr hc⟩
  ·exact(hs.2 b (æ (ã (É e) (I.ok.cab x c hfn hc)))).trans (I.base.keep b o e n hb hx)
  ·obtain⟨sl,e1⟩:=I.base.slot b o e n hb hx
   exact⟨sl,(hs.2 b (æ (ã (É e) (I.ok.cab x c hfn hc)))).trans e1⟩
  ·obtain⟨o',e1⟩:=I.base.there b o e hx
   exact⟨o',(hs.2 b (æ (ã (É e) (I.ok.cab x c hfn hc)))).trans e1⟩
  ·by_cases hj:j=i
   ·subst hj
    rw[hi] at e1;cases e1
    rw[Ĉ hiσ] at e2
    cases e2
    exact⟨u,r,.inr ⟨.inl hk,c,hc,hc'⟩⟩
   ·rw[į (Ĩ hj)] at e2
    obtain⟨u',r',q⟩:=hl j y v' e1 e2 e3
    refine⟨u',r',?_⟩
    rcases q with q|⟨k,c',e,z'⟩
    ·exact .inl q
    ·refine .inr ⟨k,c',e,z'.sameBut hs ?_⟩
     rintro rfl
     exact hj (hU _ (I.ok.inj _ _ _ e hc ▸ e1))
  ·by_cases hcc:c'=c
   ·subst hcc;exact⟨_,hc'⟩
   ·obtain⟨w2,z2⟩:=I.cell y c' e
    exact⟨w2,z2.sameBut hs hcc⟩
  ·obtain⟨e,n,ne,nf,d⟩:=I.pin p hp
   refine⟨(hs.2 p.1 ?_).trans e,n,ne,nf,d⟩
   intro q
   rw[q,hoc] at e
   have q':oc=p.2:=á e
   exact d w' (by rw[←q'];exact hocd)
def wD{M:Model}{A:Around}{E:Value->Shared->Prop}{i:Nat}{x:Str}{v:V}{u:Value}{Q:Unit->Shared->Prop}(I:Inv X pins σ H s)(hN:X.N.Nodup)(hi:X.N[i]?=some x)(hx:Loc X.env.scope x)(r:RelV v u)(h:∀s',Inv X pins (σ.set i (some v)) H s'->Q () s')(hf:X.fn x=true\/X.env.scope.names.lookup x=some .local:=by first|exact .inl rfl|exact .inr rfl|assumption):wpAny M A (storeName X.env x u) Q E s :=
 sI I (λj h=>xu hN h hi) hi hx r (λs' I' _=>h s' I') hf
def Inv.call'{s':Shared}{ch:List Addr}(I:Inv X pins σ H s)(ho:s'.os=s.os)(u:Un (frs X.stack) ch H H' s.heap s'.heap)(hok:HOk X.prog X.w H' s'.heap)(hg:AllBare s'.gens)(hch:∀b∈ch,(b∈X.ex\/X.s₀.heap.objs.size<=b)/\b≠X.env.locals/\(∀x c,X.env.cells.lookup x=some c->c≠b)/\∀p∈X.pn++pins,p.1≠b):Inv X pins σ H' s':=by
 obtain⟨h',g',d',t',o'⟩:=s'
 have e:o'=s.os:=ho
 subst e
 exact I.call (g':=g') (t':=t') (d':=d') u hok hg hch
end
abbrev XK:=Value->Option Addr->Hp->Prop
abbrev St:=List (Option V)
abbrev VK:=V->Hp->Prop
abbrev TE:=St->Hp->VK->Prop
abbrev TT:=St->Hp->(Bool->Hp->Prop)->Prop
abbrev TA:=St->Hp->(List V->Hp->Prop)->Prop
structure Ends where
 nx:St->Hp->Prop
 rt:VK
 bk:St->Hp->Prop:=λ_ _=>False
 ct:St->Hp->Prop:=λ_ _=>False
abbrev TS:=Ends->St->Hp->Prop
def EP(X:Cx)(pins:List (Addr×Obj))(σ:St)(Q:VK)(u:Value)(s':Shared):Prop:=∃v H',Inv X pins σ H' s'/\RelV v u/\Q v H'
def TP(X:Cx)(pins:List (Addr×Obj))(σ:St)(Q:Bool->Hp->Prop)(b:Bool)(s':Shared):Prop:=∃H',Inv X pins σ H' s'/\Q b H'
def AP(X:Cx)(pins:List (Addr×Obj))(σ:St)(Q:List V->Hp->Prop)(us:List Value)(s':Shared):Prop:=∃vs H',Inv X pins σ H' s'/\Vals vs us/\Q vs H'
def SP(X:Cx)(pins:List (Addr×Obj))(D:Ends)(f:Flow)(s':Shared):Prop :=
 match f with
 |.next=>∃σ' H',Inv X pins σ' H' s'/\D.nx σ' H'
 |.brk=>∃σ' H',Inv X pins σ' H' s'/\D.bk σ' H'
 |.cont=>∃σ' H',Inv X pins σ' H' s'/\D.ct σ' H'
 |.ret u=>∃v σ' H',Inv X pins σ' H' s'/\RelV v u/\D.rt v H'
def PE(X:Cx)(e:Expr)(t:TE):Prop :=
 ∀(pins:List (Addr×Obj)) (s:Shared) (σ:St) (H:Hp) (Q:VK),Inv X pins σ H s->t σ H Q->wpAny (model X.prog X.w) X.A (eval e X.env) (EP X pins σ Q) X.xe s
def PT(X:Cx)(e:Expr)(t:TT):Prop :=
 ∀(pins:List (Addr×Obj)) (s:Shared) (σ:St) (H:Hp) (Q:Bool->Hp->Prop),Inv X pins σ H s->t σ H Q->wpAny (model X.prog X.w) X.A (isTrue e X.env (eval e X.env)) (TP X pins σ Q) X.xe s
def PW(X:Cx)(e:Expr)(t:TT):Prop :=
 ∀(whole:Sem Value) (pins:List (Addr×Obj)) (s:Shared) (σ:St) (H:Hp) (Q:Bool->Hp->Prop),Inv X pins σ H s->t σ H Q->wpAny (model X.prog X.w) X.A (isTrue e X.env whole) (TP X pins σ Q) X.xe s
def PW.pt{X:Cx}{e:Expr}{t:TT}(h:PW X e t):PT X e t:=h _
def PA(X:Cx)(es:List Expr)(t:TA):Prop :=
 ∀(pos:Pos) (pins:List (Addr×Obj)) (s:Shared) (σ:St) (H:Hp) (Q:List V->Hp->Prop),Inv X pins σ H s->t σ H Q->wpAny (model X.prog X.w) X.A (spliced (backTo pos (starEach es X.env))) (AP X pins σ Q) X.xe s
def PS(X:Cx)(st:Stmt)(t:TS):Prop :=
 ∀(pins:List (Addr×Obj)) (s:Shared) (σ:St) (H:Hp) (D:Ends),Inv X pins σ H s->t D σ H->wpAny (model X.prog X.w) X.A (exec st X.env) (SP X pins D) X.xe s
def PSs(X:Cx)(st:List Stmt)(t:TS):Prop :=
 ∀(pins:List (Addr×Obj)) (s:Shared) (σ:St) (H:Hp) (D:Ends),Inv X pins σ H s->t D σ H->wpAny (model X.prog X.w) X.A (execs st X.env) (SP X pins D) X.xe s
def thn{α:Type}{t:Sem α}{Q Q':α->Shared->Prop}{M:Model}{A:Around}{E:Value->Shared->Prop}{s:Shared}(h:wpAny M A t Q E s)(hQ:∀a s,Q a s->Q' a s):wpAny M A t Q' E s:=Ō h hQ λ_ _ x=>x
section
variable {X:Cx}
def bin{a b:Expr}{ta tb:TE}(ha:PE X a ta)(hb:PE X b tb){pins:List (Addr×Obj)}{s:Shared}{σ:St}{H:Hp}{R:V->V->Hp->Prop}(I:Inv X pins σ H s)(h:ta σ H λx H1=>tb σ H1 λy H2=>R x y H2){α:Type}{Q:α->Shared->Prop}{f:Value->Value->Sem α}(hf:∀v u s2 x y H2,Inv X pins σ H2 s2->RelV x v->RelV y u->R x y H2->wpAny (model X.prog X.w) X.A (f v u) Q X.xe s2) :
  wpAny (model X.prog X.w) X.A (eval a X.env) (λv s₁=>wpAny (model X.prog X.w) X.A (eval b X.env) (λu s₂=>wpAny (model X.prog X.w) X.A (f v u) Q X.xe s₂) X.xe s₁) X.xe s:=by
 refine thn (ha pins s σ H _ I h) λv s1 ⟨x,H1,I1,r1,q1⟩=>?_
 refine thn (hb pins s1 σ H1 _ I1 q1) λu s2 ⟨y,H2,I2,r2,q2⟩=>?_
 exact hf v u s2 x y H2 I2 r1 r2 q2
def wz(i:Nat):TE:=λσ H Q=>∃v,σ[i]?=some (some v)/\Q v H
def tC(v:V):TE:=λ_ H Q=>Q v H
def Pu{i:Nat}{x:Str}{pos:Pos}(hN:X.N[i]?=some x)(hv:Vis X.env.scope x)(hd:(x == ("__debug__":Str))=false:=by decide)(hcd:(x == ("__classdict__":Str))=false:=by decide):PE X (.Name x pos) (wz i):=by
 intro pins s σ H Q I h
 obtain⟨v,e,h⟩:=h
 obtain⟨m,hn,hl⟩:=I.loc
 obtain⟨u,r,l⟩:=hl i x v hN e hv
 have fin:EP X pins σ Q u s:=⟨v,H,I,r,h⟩
 rcases l with ⟨hk,hm⟩|⟨hk,c,hc,hcell⟩
 ·exact wpAny_Name (wpAny_loadName_local I.ok.kind hk hn hm fin) hd
 ·rcases hk with hk|hk
  ·exact wpAny_Name (wpAny_loadName_cell I.ok.kind hk hc hcell fin) hd
  ·exact wpAny_Name (wpAny_loadName_free I.ok.kind hk hc hcell fin hcd) hd
def GQ{i j pos}:PE X (.Constant (.int i) j pos) (tC (.int i)):=λ_ _ _ H _ I h=>wpAny_Constant_int ⟨.int i,H,I.tok _,⟨_,rfl⟩,h⟩
def S7{b j pos}:PE X (.Constant (.bool b) j pos) (tC (.bl b)):=λ_ _ _ H _ I h=>Constant_bool ⟨.bl b,H,I,rfl,h⟩
def PB{j pos}:PE X (.Constant .none j pos) (tC .non):=λ_ _ _ H _ I h=>Constant_none ⟨.non,H,I,rfl,h⟩
def Px{x j pos}:PE X (.Constant (.str x) j pos) (tC (.str x)):=λ_ _ _ H _ I h=>Calls.Constant_str ⟨.str x,H,I.tok _,⟨_,rfl⟩,h⟩
def Gl(X:Cx)(x:Str):Prop:=X.env.kindOf x=some .globalImplicit
def Ci{E:Value->Shared->Prop}{pins:List (Addr×Obj)}{s:Shared}{σ:St}{H:Hp}{x:Str}{u:Value}{pos:Pos}{Q:Value->Shared->Prop}(I:Inv X pins σ H s)(hg:Gl X x)(hm:X.mg x=some u)(h:Q u s)(hd:(x == ("__debug__":Str))=false:=by decide):wpAny (model X.prog X.w) X.A (eval (.Name x pos) X.env) Q E s :=
 Calls.Name_function_global I.ok.kind hg (Calls.loadGlobal_global (by rw[I.ok.glob];exact I.mod.glob.keeps I.bk) hm h) hd
def je{E:Value->Shared->Prop}{pins:List (Addr×Obj)}{s:Shared}{σ:St}{H:Hp}{x:Str}{u:Value}{pos:Pos}{Q:Value->Shared->Prop}(I:Inv X pins σ H s)(hg:Gl X x)(hm:X.mg x=none)(hv:bootBuiltins x=some u)(h:Q u s)(hn:x≠"__name__":=by decide)(hd:(x == ("__debug__":Str))=false:=by decide):wpAny (model X.prog X.w) X.A (eval (.Name x pos) X.env) Q E s:=by
 obtain⟨mb,h1,h2⟩:=I.mod.blt
 exact Calls.Name_function_global I.ok.kind hg (Calls.loadGlobal_builtin (by rw[I.ok.glob];exact I.mod.glob.keeps I.bk) hm (by rw[I.ok.blt];exact h1.keeps I.bk) ((h2 x hn).trans hv) h) hd
def Kq{x:Str}{v:V}{u:Value}{pos:Pos}(hg:Gl X x)(hm:X.mg x=some u)(r:RelV v u)(hd:(x == ("__debug__":Str))=false:=by decide):PE X (.Name x pos) (tC v) :=
 λ_ _ _ H _ I h=>Ci I hg hm ⟨v,H,I,r,h⟩ hd
def pB{x:Str}{v:V}{u:Value}{pos:Pos}(hg:Gl X x)(hm:X.mg x=none)(hv:bootBuiltins x=some u)(r:RelV v u)(hn:x≠"__name__":=by decide)(hd:(x == ("__debug__":Str))=false:=by decide):PE X (.Name x pos) (tC v) :=
 λ_ _ _ H _ I h=>je I hg hm hv ⟨v,H,I,r,h⟩ hn hd
variable {a b:Expr}{ta tb:TE}{pos:Pos}
def PC(X:Cx)(op:CmpOp)(a b:Expr)(t:TE):Prop :=
 ∀(pins:List (Addr×Obj)) (s:Shared) (σ:St) (H:Hp) (Q:VK),Inv X pins σ H s->t σ H Q ->
  wpAny (model X.prog X.w) X.A (eval a X.env) (λv s₁=>wpAny (model X.prog X.w) X.A (eval b X.env) (λu s₂=>wpAny (model X.prog X.w) X.A (compareOp op v u) (EP X pins σ Q) X.xe s₂) X.xe s₁) X.xe s
def tB(t:TE):TT:=λσ H Q=>t σ H λx H1=>∃c,x=.bl c/\Q c H1
def Vf{op:CmpOp}{t:TE}(h:PC X op a b t)(h1:behindInMarks op b=false:=by first|exact nobehind _ (by decide) (by decide)|rfl):PT X (.Compare a [op] [b] pos) (tB t):=by
 intro pins s σ H Q I hw
 refine wpAny_isTrue_Compare1 (thn (h pins s σ H _ I hw) λv s1 h1=>thn h1 λu s2 h2=>thn h2 λc s3 ⟨x,H1,I1,r1,q1⟩=>?_) h1
 obtain⟨d,rfl,q⟩:=q1
 cases r1
 exact Ī ⟨H1,I1,q⟩
def Pg{e:Expr}{t:TE}(h:PE X e t)(he:∀whole,isTrue e X.env whole=(do let v ←whole;standAt e.pos;holding [v] (truthy v)):=by intro _;rfl):PT X e (tB t):=by
 intro pins s σ H Q I hw
 refine isTrue_plain (thn (h pins s σ H _ I hw) λv s1 ⟨x,H1,I1,r1,q1⟩=>?_) (he _)
 obtain⟨d,rfl,q⟩:=q1
 cases r1
 exact Ī ⟨H1,I1,q⟩
variable {tA tB':TT}{rest:List Expr}
def R4(t u:TT):TT:=λσ H Q=>t σ H λc H1=>if c=true then u σ H1 Q else Q false H1
def tOr(t u:TT):TT:=λσ H Q=>t σ H λc H1=>if c=true then Q true H1 else u σ H1 Q
def Uy(t:TT):TT:=λσ H Q=>t σ H λc H1=>Q (!c) H1
def Bs(ha:PT X a tA):PW X (.BoolOp .And [a] pos) tA:=by
 intro wh pins s σ H Q I h
 refine isTrue_and (thn (ha pins s σ H Q I h) λc s1 e=>?_)
 cases c with
 |true=>exact isTrue_and_nil e
 |false=>exact e
def Gq(ha:PT X a tA):PW X (.BoolOp .Or [a] pos) tA:=by
 intro wh pins s σ H Q I h
 refine isTrue_or (thn (ha pins s σ H Q I h) λc s1 e=>?_)
 cases c with
 |false=>exact isTrue_or_nil e
 |true=>exact e
def Gs(ha:PT X a tA)(hb:PW X (.BoolOp .And (b::rest) pos) tB'):PW X (.BoolOp .And (a::b::rest) pos) (R4 tA tB'):=by
 intro wh pins s σ H Q I h
 refine isTrue_and (thn (ha pins s σ H _ I h) λc s1 ⟨H1,I1,q1⟩=>?_)
 cases c with
 |true=>exact hb wh pins s1 σ H1 Q I1 q1
 |false=>exact⟨H1,I1,q1⟩
def Np(ha:PT X a tA)(hb:PW X (.BoolOp .Or (b::rest) pos) tB'):PW X (.BoolOp .Or (a::b::rest) pos) (tOr tA tB'):=by
 intro wh pins s σ H Q I h
 refine isTrue_or (thn (ha pins s σ H _ I h) λc s1 ⟨H1,I1,q1⟩=>?_)
 cases c with
 |true=>exact⟨H1,I1,q1⟩
 |false=>exact hb wh pins s1 σ H1 Q I1 q1
def Ph(ha:PT X a tA):PT X (.UnaryOp .Not a pos) (Uy tA):=by
 intro pins s σ H Q I h
 exact isTrue_not (ha pins s σ H (λc H1=>Q (!c) H1) I h)
def R3(ta tb:TE):TE:=λσ H Q=>ta σ H λx H1=>∃c,x=.bl c/\if c=true then tb σ H1 Q else Q (.bl false) H1
def RN(ta:TE):TE:=λσ H Q=>ta σ H λx H1=>∃c,x=.bl c/\Q (.bl (!c)) H1
def Py{op}{t:TE}(h:PE X a t):PE X (.BoolOp op [a] pos) t:=λpins s σ H Q I hw=>BoolOp_one (h pins s σ H Q I hw)
def PJ(ha:PE X a ta)(hb:PE X (.BoolOp .And (b::rest) pos) tb):PE X (.BoolOp .And (a::b::rest) pos) (R3 ta tb):=by
 intro pins s σ H Q I h
 refine BoolOp_and (thn (ha pins s σ H _ I h) λv s1 ⟨x,H1,I1,r1,q1⟩=>?_)
 obtain⟨c,rfl,q1⟩:=q1
 cases r1
 refine Ī ?_
 cases c with
 |true=>exact hb pins s1 σ H1 Q I1 q1
 |false=>exact⟨.bl false,H1,I1,rfl,q1⟩
def Pz(ha:PE X a ta):PE X (.UnaryOp .Not a pos) (RN ta):=by
 intro pins s σ H Q I h
 refine UnaryOp_ (thn (ha pins s σ H _ I h) λv s1 ⟨x,H1,I1,r1,q1⟩=>?_)
 obtain⟨c,rfl,q1⟩:=q1
 cases r1
 exact not_of (Ī ⟨.bl (!c),H1,I1,rfl,q1⟩)
end
def SqL(K:Ô)(H:Hp)(a:Addr)(xs:List V):Prop :=
 Rd H a (.lst xs) ∨
  ∃(o:Obj) (its:Array Value) (n:Nat),K.lookup a=some o/\o.cls=.type "list"/\o.dict=none/\o.data=.seq its n/\its.size<=sizeLine/\Vals xs its.toList
def SqT(K:Ô)(H:Hp)(a:Addr)(xs:List V):Prop :=
 Rd H a (.tup xs) ∨
  ∃(o:Obj) (its:Array Value) (n:Nat),K.lookup a=some o/\o.cls=.type "tuple"/\o.data=.seq its n/\its.size<=sizeLine/\Vals xs its.toList
def VB:Value->Option V
 |.none=>some .non
 |.bool b=>some (.bl b)
 |.int i _=>some (.int i)
 |.str x _=>some (.str x)
 |.bytes b _=>some (.byt b)
 |.float b _=>some (.flt b)
 |.ref a=>some (.ref a)
 |.type n=>some (.ty n)
 |_=>none
def RelV.abs{x:V}{u:Value}(r:RelV x u):VB u=some x:=by
 cases x with
 |non=>cases r;rfl
 |bl _=>cases r;rfl
 |int _=>obtain⟨t,rfl⟩:=r;rfl
 |str _=>obtain⟨t,rfl⟩:=r;rfl
 |byt _=>obtain⟨t,rfl⟩:=r;rfl
 |flt _=>obtain⟨t,rfl⟩:=r;rfl
 |ref _=>cases r;rfl
 |ty _=>cases r;rfl
def RelV.inj{x y:V}{u:Value}(r:RelV x u)(q:RelV y u):x=y:=á (r.abs.symm.trans q.abs)
def Vals.inj:∀{xs ys:List V}{us:List Value},Vals xs us->Vals ys us->xs=ys
 |_,_,_,.nil,.nil=>rfl
 |_,_,_,.cons r t,.cons r' t'=>by rw[r.inj r',Vals.inj t t']
section
variable {X:Cx}{pins:List (Addr×Obj)}{σ:St}{H:Hp}{s:Shared}{a:Addr}{xs ys:List V}
def SqL.of{K:Ô}(h:H a=some (.lst xs)):SqL K H a xs:=.inl (.inl h)
def SqT.of{K:Ô}(h:H a=some (.tup xs)):SqT K H a xs:=.inl (.inl h)
def Inv.list(I:Inv X pins σ H s)(h:SqL X.K H a xs):∃its:List Value,Vals xs its/\PlainL s.heap a its.toArray/\xs.length<=sizeLine:=by
 rcases h with h|⟨o,its,n,hk,hc,hd,hs,hz,r⟩
 ·obtain⟨z,its,n,r,e⟩:=h.ok I.hok
  exact⟨its,r,⟨_,n,e,rfl,rfl,rfl⟩,z⟩
 ·refine⟨its.toList,r,⟨o,n,I.kIn a o hk,hc,hd,by simpa using hs⟩,?_⟩
  have e:=r.length
  simp only[ď] at e
  omega
def Inv.tuple(I:Inv X pins σ H s)(h:SqT X.K H a xs):∃its:List Value,Vals xs its/\IsTup s.heap a its.toArray/\xs.length<=sizeLine:=by
 rcases h with h|⟨o,its,n,hk,hc,hs,hz,r⟩
 ·obtain⟨z,its,r,p⟩:=h.ok I.hok
  exact⟨its,r,p,z⟩
 ·refine⟨its.toList,r,⟨o,I.kIn a o hk,hc,n,by simpa using hs⟩,?_⟩
  have e:=r.length
  simp only[ď] at e
  omega
def Inv.HX(I:Inv X pins σ H s)(h:SqL X.K H a xs)(h':SqL X.K H a ys):xs=ys:=by
 obtain⟨its,r,⟨o,n,e,_,_,d⟩,_⟩:=I.list h
 obtain⟨its',r',⟨o',n',e',_,_,d'⟩,_⟩:=I.list h'
 rw[e] at e';cases e'
 rw[d] at d'
 injection d' with d1 _
 have:its=its':=by simpa using congrArg Array.toList d1
 subst this
 exact r.inj r'
def Inv.Dg(I:Inv X pins σ H s)(h:SqT X.K H a xs)(h':SqT X.K H a ys):xs=ys:=by
 obtain⟨its,r,⟨o,e,_,n,d⟩,_⟩:=I.tuple h
 obtain⟨its',r',⟨o',e',_,n',d'⟩,_⟩:=I.tuple h'
 rw[e] at e';cases e'
 rw[d] at d'
 injection d' with d1 _
 have:its=its':=by simpa using congrArg Array.toList d1
 subst this
 exact r.inj r'
end
abbrev Cx.wish(X:Cx)(E:Value->Shared->Prop):Cx:={ X with xe:=E }
abbrev Cx.nox(X:Cx):Cx:=X.wish λ_ _=>False
def Cx.Ok.wish{X:Cx}(ok:X.Ok)(E:Value->Shared->Prop):(X.wish E).Ok :=
 ⟨ok.mod,ok.kind,ok.glob,ok.blt,ok.above,ok.inj,ok.has,ok.cab,ok.hd,ok.frames,ok.stk,ok.exf,ok.bs,ok.bsz,ok.noex,ok.exfs,ok.jY,ok.frf,ok.sof⟩
def Cx.Ok.iw{X:Cx}{E:Value->Shared->Prop}(ok:(X.wish E).Ok):X.Ok :=
 ⟨ok.mod,ok.kind,ok.glob,ok.blt,ok.above,ok.inj,ok.has,ok.cab,ok.hd,ok.frames,ok.stk,ok.exf,ok.bs,ok.bsz,ok.noex,ok.exfs,ok.jY,ok.frf,ok.sof⟩
section
variable {X:Cx}{pins:List (Addr×Obj)}{σ:St}{H:Hp}{s:Shared}{E:Value->Shared->Prop}
def Inv.wish(I:Inv X pins σ H s)(E:Value->Shared->Prop):Inv (X.wish E) pins σ H s:=⟨I.ok.wish E,I.os,I.bare,I.base,I.loc,I.cell,I.free,I.freeC,I.pin,I.hok,I.len⟩
def Inv.iw(I:Inv (X.wish E) pins σ H s):Inv X pins σ H s:=⟨I.ok.iw,I.os,I.bare,I.base,I.loc,I.cell,I.free,I.freeC,I.pin,I.hok,I.len⟩
def SP.iw{D:Ends}{f:Flow}{s':Shared}(h:SP (X.wish E) pins D f s'):SP X pins D f s':=by
 cases f with
 |next=>obtain⟨σ',H',I,q⟩:=h;exact⟨σ',H',I.iw,q⟩
 |brk=>obtain⟨σ',H',I,q⟩:=h;exact⟨σ',H',I.iw,q⟩
 |cont=>obtain⟨σ',H',I,q⟩:=h;exact⟨σ',H',I.iw,q⟩
 |ret u=>obtain⟨v,σ',H',I,r,q⟩:=h;exact⟨v,σ',H',I.iw,r,q⟩
def PSs.nox{st:List Stmt}{t:TS}(h:PSs X.nox st t):PSs X st t:=λpins s σ H D I hw =>
 Ō (h pins s σ H D (I.wish _) hw) (λ_ _ q=>q.iw) λ_ _ z=>Ġ z
end
section
variable {X:Cx}{st:Stmt}{rest:List Stmt}{t u:TS}{e:Expr}{te:TE}{pos:Pos}
def RV:TS:=λD σ H=>D.nx σ H
def Uw(t u:TS):TS:=λD σ H=>t { D with nx:=u D } σ H
def lg:PSs X [] RV:=λ_ _ σ H _ I h=>wpAny_execs_nil ⟨σ,H,I,h⟩
def aY(h1:PS X st t)(h2:PSs X rest u):PSs X (st::rest) (Uw t u):=by
 intro pins s σ H D I h
 refine wpAny_execs_cons (thn (h1 pins s σ H { D with nx:=u D } I h) λf s1 q=>?_)
 cases f with
 |next =>
  obtain⟨σ',H',I',q⟩:=q
  exact h2 pins s1 σ' H' D I' q
 |ret v=>exact q
 |brk=>exact q
 |cont=>exact q
def cZ(h1:PS X st t):PSs X [st] t:=by
 intro pins s σ H D I h
 refine wpAny_execs_cons (thn (h1 pins s σ H D I h) λf s1 q=>?_)
 cases f with
 |next=>exact wpAny_execs_nil q
 |ret v=>exact q
 |brk=>exact q
 |cont=>exact q
def Inv.quiet{pins:List (Addr×Obj)}{σ:St}{H:Hp}{s:Shared}(I:Inv X pins σ H s):interactive X.env=false:=by simp[interactive,I.ok.kind]
def Aw(te:TE):TS:=λD σ H=>te σ H λ_ H1=>D.nx σ H1
def o9(he:PE X e te)(hs:swapsWith e none pos.line X.env=pure false:=by rfl):PS X (.Expr e pos) (Aw te):=by
 intro pins s σ H D I h
 exact wpAny_Expr_any (thn (he pins s σ H _ I h) λv s1 ⟨x,H1,I1,r1,q1⟩=>⟨σ,H1,I1,q1⟩) I.quiet hs
def Ux(te:TE):TS:=λD σ H=>te σ H D.rt
def iM(he:PE X e te):PS X (.Return (some e) pos) (Ux te):=by
 intro pins s σ H D I h
 exact wpAny_Return_some (thn (he pins s σ H _ I h) λv s1 ⟨x,H1,I1,r1,q1⟩=>⟨x,σ,H1,I1,r1,q1⟩)
def UJ(c:TT)(t u:TS):TS:=λD σ H=>c σ H λb H1=>if b=true then t D σ H1 else u D σ H1
def qd{c:Expr}{a b:List Stmt}{tc:TT}(hc:PT X c tc)(ha:PSs X a t)(hb:PSs X b u):PS X (.If c a b pos) (UJ tc t u):=by
 intro pins s σ H D I h
 refine wpAny_If (thn (hc pins s σ H _ I h) λd s1 ⟨H1,I1,q1⟩=>?_)
 cases d with
 |true=>exact ha pins s1 σ H1 D I1 q1
 |false=>exact hb pins s1 σ H1 D I1 q1
def Ot:TS:=λ_ _ _=>False
def Gv:PS X st Ot:=λ_ _ _ _ _ _ h=>h.elim
end
abbrev TG:=V->St->Hp->(St->Hp->Prop)->Prop
abbrev TGs:=List V->St->Hp->(St->Hp->Prop)->Prop
def PG(X:Cx)(target:Expr)(t:TG):Prop :=
 ∀(pins:List (Addr×Obj)) (s:Shared) (σ:St) (H:Hp) (v:V) (u:Value) (Q:St->Hp->Prop),Inv X pins σ H s->RelV v u->t v σ H Q ->
  wpAny (model X.prog X.w) X.A (assign target X.env u) (λ_ s'=>∃σ' H',Inv X pins σ' H' s'/\Q σ' H') X.xe s
def PGs(X:Cx)(ts:List Expr)(t:TGs):Prop :=
 ∀(pins:List (Addr×Obj)) (s:Shared) (σ:St) (H:Hp) (vs:List V) (us:List Value) (Q:St->Hp->Prop),Inv X pins σ H s->Vals vs us->t vs σ H Q ->
  wpAny (model X.prog X.w) X.A (assignInOrder ((assignEach ts X.env).map (·.2)) us) (λ_ s'=>∃σ' H',Inv X pins σ' H' s'/\Q σ' H') X.xe s
abbrev Rx:=V->V->V->Hp->(Hp->Prop)->Prop
def Uo(X:Cx)(t:Rx):Prop :=
 ∀(pins:List (Addr×Obj)) (s:Shared) (σ:St) (H:Hp) (o i v:V) (ov iv u:Value) (Q:Hp->Prop),Inv X pins σ H s->RelV o ov->RelV i iv->RelV v u->t o i v H Q ->
  wpAny (model X.prog X.w) X.A (setItem ov iv u) (λ_ s'=>∃H',Inv X pins σ H' s'/\Q H') X.xe s
section
variable {X:Cx}{pos:Pos}
def jh(i:Nat):TG:=λv σ H Q=>Q (σ.set i (some v)) H
def fj{i:Nat}{x:Str}(hN:X.N.Nodup)(hi:X.N[i]?=some x)(hx:Loc X.env.scope x)(hf:X.fn x=true\/X.env.scope.names.lookup x=some .local:=by first|exact .inl rfl|exact .inr rfl|assumption):PG X (.Name x pos) (jh i):=by
 intro pins s σ H v u Q I r h
 exact wpAny_assign_Name (wD I hN hi hx r (λs' I'=>⟨_,H,I',h⟩) hf)
def Vt:TGs:=λvs σ H Q=>vs=[]/\Q σ H
def T6(t:TG)(u:TGs):TGs:=λvs σ H Q=>∃v r,vs=v::r/\t v σ H λσ' H'=>u r σ' H' Q
def Km:PGs X [] Vt:=by
 intro pins s σ H vs us Q I r h
 obtain⟨e,h⟩:=h
 subst e
 cases r
 exact assignInOrder_nil ⟨σ,H,I,h⟩
def GF{e:Expr}{es:List Expr}{t:TG}{u:TGs}(h1:PG X e t)(h2:PGs X es u)(hs:(assignEach (e::es) X.env).map (·.2)=assign e X.env::(assignEach es X.env).map (·.2):=by rfl):PGs X (e::es) (T6 t u):=by
 intro pins s σ H vs us Q I r h
 obtain⟨v,vr,e1,h⟩:=h
 subst e1
 cases r with
 |cons r rr =>
  rw[hs]
  refine assignInOrder_cons (thn (h1 pins s σ H _ _ _ I r h) λ_ s1 ⟨σ1,H1,I1,q1⟩=>?_)
  exact h2 pins s1 σ1 H1 _ _ Q I1 rr q1
def Vs(K:Ô)(n:Nat)(t:TGs):TG:=λv σ H Q=>∃a xs,v=.ref a/\SqT K H a xs/\xs.length=n/\t xs σ H Q
def Pq{es:List Expr}{k:Nat}{t:TGs}{n:Nat}(hc:X.calm=true)(h:PGs X es t)(hn:(assignEach es X.env).length=n:=by rfl)(hst:(assignEach es X.env).findIdx? (·.1)=none:=by rfl):PG X (.Tuple es k pos) (Vs X.K n t):=by
 intro pins s σ H v u Q I r hw
 obtain⟨a,xs,e1,hq,hl,hw⟩:=hw
 subst e1
 cases r
 obtain⟨its,rv,ht,hz⟩:=I.tuple hq
 refine assign_Tuple_tuple (I.ok.hd hc) ht (by simp[hn,←hl,rv.length]) hst λh' hx=>?_
 have I1:Inv X pins σ H { s with heap:=h' }:=I.kept (t':=s.toks) λb o e=>hx b o (æ (É e)) e
 exact h pins _ σ H xs _ Q I1 (by simpa using rv) hw
def T3(to ti:TE)(t:Rx):TG:=λv σ H Q=>to σ H λo H1=>ti σ H1 λi H2=>t o i v H2 λH3=>Q σ H3
def yP{o i:Expr}{to ti:TE}{t:Rx}(ho:PE X o to)(hi:PE X i ti)(hs:Uo X t)(ha:∀v,assign (.Subscript o i pos) X.env v=(do
   let ov ←holding [v] (eval o X.env)
   let iv ←holding [v,ov] (eval i X.env)
   standAt pos
   holding [v,ov,iv] (setItem ov iv v)
   release [v,ov,iv] []):=by intro _;rfl):PG X (.Subscript o i pos) (T3 to ti t):=by
 intro pins s σ H v u Q I r h
 rw[ha]
 refine Æ (Ĭ (thn (ho pins s σ H _ I h) λov s1 ⟨x,H1,I1,r1,q1⟩=>?_))
 refine Æ (Ĭ (thn (hi pins s1 σ H1 _ I1 q1) λiv s2 ⟨y,H2,I2,r2,q2⟩=>?_))
 refine Æ (wpAny_standAt (Æ (Ĭ (thn (hs pins s2 σ H2 x y v ov iv u _ I2 r1 r2 r q2) λ_ s3 ⟨H3,I3,q3⟩=>?_))))
 exact wpAny_release ⟨σ,H3,I3,q3⟩
def rF(te:TE)(g:TG):TS:=λD σ H=>te σ H λx H1=>g x σ H1 D.nx
def yN{tg e:Expr}{te:TE}{g:TG}(he:PE X e te)(hg:PG X tg g)(hs:swapsWithSole [tg] e pos.line X.env=pure false:=by rfl)(hw:swappedStores [tg] e X.env=pure none:=by rfl)(h1:(assignEach [tg] X.env).map (·.2)=[assign tg X.env]:=by rfl):PS X (.Assign [tg] e pos) (rF te g):=by
 intro pins s σ H D I h
 refine wpAny_Assign_stores (thn (he pins s σ H _ I h) λv s1 ⟨x,H1,I1,r1,q1⟩=>?_) hs hw
 rw[h1]
 exact thn (hg pins s1 σ H1 x v _ I1 r1 q1) λ_ s2 q=>q
def dN{i:Nat}{x:Str}{e:Expr}{te:TE}{pos':Pos}(hN:X.N.Nodup)(hi:X.N[i]?=some x)(hx:Loc X.env.scope x)(he:PE X e te)(hs:swapsWith e (some (.Name x pos')) pos.line X.env=pure false:=by rfl)(hf:X.fn x=true\/X.env.scope.names.lookup x=some .local:=by first|exact .inl rfl|exact .inr rfl|assumption) :
  PS X (.Assign [.Name x pos'] e pos) (rF te (jh i)):=by
 intro pins s σ H D I h
 refine wpAny_Assign_Name (thn (he pins s σ H _ I h) λv s1 ⟨y,H1,I1,r1,q1⟩=>?_) hs
 exact wD I1 hN hi hx r1 (λs2 I2=>⟨_,H1,I2,q1⟩) hf
end
section
variable {X:Cx}{pos:Pos}
end
structure It where
 go:Nat->Hp->Prop
 yld:Nat->Hp->V->Hp->Prop
 stop:Nat->Hp->Prop
def rE(X:Cx)(pins:List (Addr×Obj))(H:Hp)(b:Addr):Prop :=
 H b=none/\b≠X.env.locals/\b∉X.fs/\(b∈X.ex\/X.s₀.heap.objs.size<=b)/\(∀x c,X.env.cells.lookup x=some c->c≠b)/\∀p∈X.pn++pins,p.1≠b
def Inv.Rb{X:Cx}{pins:List (Addr×Obj)}{σ:St}{H H':Hp}{s:Shared}{b:Addr}(I:Inv X pins σ H s)(hb:s.heap.objs.size<=b)(hn:H' b=none):rE X pins H' b:=by
 refine⟨hn,ŝ (ã I.lt hb),I.Vi hb,.inr (é I.sz hb),λx c e z=>?_,λp hp z=>?_⟩
 ·obtain⟨v,q⟩:=I.cell x c e
  exact absurd (ã q.lt (by rw[z];exact hb)) (ü _)
 ·exact absurd (ã (É (I.pin p hp).1) (by rw[z];exact hb)) (ü _)
structure TurnG(Cm:Cx->Prop)(P:Program)(w:World)(K:Ô)(tg:Expr)(J:It)(fp:List Addr)(it:Addr)(tn:Nat->Heap->Prop):Prop where
 mem:it∈fp
 obj:∀i h,tn i h->∀b∈fp,∃o,h.get? b=some o/\∀v,o.data≠.cell v
 keep:∀i h h',tn i h->(∀b∈fp,∀o,h.get? b=some o->h'.get? b=some o)->tn i h'
 item:∀(X:Cx),X.prog=P->X.w=w->X.K=K->Cm X->∀(i:Nat) (pins:List (Addr×Obj)) (s:Shared) (σ:St) (H:Hp) (E:Value->Shared->Prop),Inv X pins σ H s->(∀b∈fp,rE X pins H b)->tn i s.heap->J.go i H ->
  wpAny (model P w) X.A (pyNext (.ref it)) (λr s1=>∃u,r=some u /\
   wpAny (model P w) X.A (letOwnedTupleGo tg (.ref it) u) (λ_ s2=>∃x H',Inv X pins σ H' s2/\RelV x u/\J.yld i H x H'/\tn (i+1) s2.heap/\∀b∈fp,H' b=none) E s1) E s
 done:∀(X:Cx),X.prog=P->X.w=w->X.K=K->Cm X->∀(i:Nat) (pins:List (Addr×Obj)) (s:Shared) (σ:St) (H:Hp) (E:Value->Shared->Prop),Inv X pins σ H s->(∀b∈fp,rE X pins H b)->tn i s.heap->J.stop i H ->
  wpAny (model P w) X.A (pyNext (.ref it)) (λr s1=>r=none/\Inv X pins σ H s1) E s
 self:∀(A:Around) (i:Nat) (s:Shared) (Q:Value->Shared->Prop) (E:Value->Shared->Prop),tn i s.heap->Q (.ref it) s->wpAny (model P w) A (pyIter (.ref it)) Q E s
abbrev Turn(P:Program)(w:World)(K:Ô)(tg:Expr)(J:It)(fp:List Addr)(it:Addr)(tn:Nat->Heap->Prop):Prop:=TurnG (λX=>X.calm=true) P w K tg J fp it tn
abbrev TI:=St->Hp->(It->Hp->Prop)->Prop
def Uq(Cm:Cx->Prop)(X:Cx)(pins:List (Addr×Obj))(σ:St)(tg:Expr)(R:It->Hp->Prop)(itv:Value)(s2:Shared):Prop :=
 ∃(it:Addr) (fp:List Addr) (tn:Nat->Heap->Prop) (J:It) (H':Hp),itv=.ref it/\Inv X pins σ H' s2/\TurnG Cm X.prog X.w X.K tg J fp it tn/\tn 0 s2.heap/\(∀b∈fp,rE X pins H' b)/\R J H'
def PIG(Cm:Cx->Prop)(X:Cx)(tg iter:Expr)(wi:TI):Prop :=
 ∀(pins:List (Addr×Obj)) (s:Shared) (σ:St) (H:Hp) (R:It->Hp->Prop),Inv X pins σ H s->wi σ H R ->
  wpAny (model X.prog X.w) X.A (eval iter X.env) (λv s1=>wpAny (model X.prog X.w) X.A (pyIter v) (Uq Cm X pins σ tg R) X.xe s1) X.xe s
abbrev PIE(X:Cx):=Uq (λX=>X.calm=true) X
abbrev PI(X:Cx):=PIG (λX=>X.calm=true) X
def Iu{M:Model}{A:Around}{E:Value->Shared->Prop}{s:Shared}{tg:Expr}{it:Addr}{u:Value}{o:Obj}{n:String}{vs:Array Value}{Q:Unit->Shared->Prop}(ho:s.heap.get? it=some o)(hc:o.cls=.type n)(hd:o.data=.fields vs)(hn:["enumerate","zip","dict_itemiterator","dict_reverseitemiterator","odict_iterator","itertools.zip_longest","itertools.pairwise"].contains n=false)(hQ:Q () s):wpAny M A (letOwnedTupleGo tg (.ref it) u) Q E s:=by
 unfold letOwnedTupleGo
 cases tg <;> first
  |exact Ø hQ
  | (cases u <;> first
    |exact Ø hQ
    | (refine Æ (wpAny_load ho ?_)
       rw[hc,hd]
       show wpAny M A (if (["enumerate","zip","dict_itemiterator","dict_reverseitemiterator","odict_iterator","itertools.zip_longest","itertools.pairwise"].contains n&&vs[0]? == some (rawInt _))=true then _ else _) Q E s
       rw[if_neg (by intro h;rw[hn,Bool.false_and] at h;cases h)]
       exact Ø hQ))
def Itl(K:Ô)(a:Addr):It :=
 ⟨λi H=>∃xs x,SqL K H a xs/\xs[i]?=some x,λi H x H'=>H'=H/\∀xs,SqL K H a xs->xs[i]?=some x,λi H=>∃xs,SqL K H a xs/\xs.length<=i⟩
def Itt(K:Ô)(a:Addr):It :=
 ⟨λi H=>∃xs x,SqT K H a xs/\xs[i]?=some x,λi H x H'=>H'=H/\∀xs,SqT K H a xs->xs[i]?=some x,λi H=>∃xs,SqT K H a xs/\xs.length<=i⟩
def Itr(lo:Int)(n:Nat):It:=⟨λi _=>i<n,λi H x H'=>H'=H/\x=.int (lo+i),λi _=>n<=i⟩
def Df{P:Program}{w:World}{K:Ô}{tg:Expr}(a it:Addr):Turn P w K tg (Itl K a) [it] it (λi h=>h.IsListIter it a i) where
 mem:=by simp
 obj:=λi h st b hb=>by
  have e:b=it:=by simpa using hb
  subst e
  obtain⟨o,e,c,d⟩:=st
  exact⟨o,e,λv z=>by rw[d] at z;cases z⟩
 keep:=λi h h' st k=>st.at λo e=>k it (by simp) o e
 item:=by
  intro X hP hw hK hc i pins s σ H E I hf st hg
  subst hP hw hK
  obtain⟨xs,x,hq,hx⟩:=hg
  obtain⟨its,rv,p,hz⟩:=I.list hq
  obtain⟨u,hu,ru⟩:=rv.get hx
  obtain⟨f0,f1,f2,f3,f4,f5⟩:=hf it (by simp)
  refine wpAny_pyNext_list_item st p.isList (x:=u) (by simpa using hu) λh' st' sb=>?_
  have I1:Inv X pins σ H { s with heap:=h' }:=I.turned (t':=s.toks) (λb o hb e=>(sb.2 b hb).trans e) f0 f1 f3 f4 f5
  obtain⟨o,e,c,d⟩:=id st'
  exact⟨u,rfl,Iu (s:={ s with heap:=h' }) e c d (by decide) ⟨x,H,I1,ru,⟨rfl,λys hy=>by rw[I.HX hy hq];exact hx⟩,st',λb hb=>(hf b hb).1⟩⟩
 done:=by
  intro X hP hw hK hc i pins s σ H E I hf st hg
  subst hP hw hK
  obtain⟨xs,hq,hx⟩:=hg
  obtain⟨its,rv,p,hz⟩:=I.list hq
  obtain⟨f0,f1,f2,f3,f4,f5⟩:=hf it (by simp)
  have hl:=rv.length
  exact wpAny_pyNext_list_end (I.ok.hd hc) st p.isList (by simp;omega) λh' eb=>⟨rfl,I.turned (t':=s.toks) (λb o hb e=>eb b o hb e) f0 f1 f3 f4 f5⟩
 self:=λ_ _ _ _ _ st h=>wpAny_pyIter_listiter st h
def yx{P:Program}{w:World}{K:Ô}{tg:Expr}(a it:Addr):Turn P w K tg (Itt K a) [it] it (λi h=>h.IsTupleIter it a i) where
 mem:=by simp
 obj:=λi h st b hb=>by
  have e:b=it:=by simpa using hb
  subst e
  obtain⟨o,e,c,d⟩:=st
  exact⟨o,e,λv z=>by rw[d] at z;cases z⟩
 keep:=λi h h' st k=>st.at λo e=>k it (by simp) o e
 item:=by
  intro X hP hw hK hc i pins s σ H E I hf st hg
  subst hP hw hK
  obtain⟨xs,x,hq,hx⟩:=hg
  obtain⟨its,rv,p,hz⟩:=I.tuple hq
  obtain⟨u,hu,ru⟩:=rv.get hx
  obtain⟨f0,f1,f2,f3,f4,f5⟩:=hf it (by simp)
  refine wpAny_pyNext_tuple_item st (show s.heap.IsTuple a its.toArray from p) (x:=u) (by simpa using hu) λh' st' sb=>?_
  have I1:Inv X pins σ H { s with heap:=h' }:=I.turned (t':=s.toks) (λb o hb e=>(sb.2 b hb).trans e) f0 f1 f3 f4 f5
  obtain⟨o,e,c,d⟩:=id st'
  exact⟨u,rfl,Iu (s:={ s with heap:=h' }) e c d (by decide) ⟨x,H,I1,ru,⟨rfl,λys hy=>by rw[I.Dg hy hq];exact hx⟩,st',λb hb=>(hf b hb).1⟩⟩
 done:=by
  intro X hP hw hK hc i pins s σ H E I hf st hg
  subst hP hw hK
  obtain⟨xs,hq,hx⟩:=hg
  obtain⟨its,rv,p,hz⟩:=I.tuple hq
  obtain⟨f0,f1,f2,f3,f4,f5⟩:=hf it (by simp)
  have hl:=rv.length
  exact wpAny_pyNext_tuple_end (I.ok.hd hc) st (show s.heap.IsTuple a its.toArray from p) (by simp;omega) λh' eb=>⟨rfl,I.turned (t':=s.toks) (λb o hb e=>eb b o hb e) f0 f1 f3 f4 f5⟩
 self:=λ_ _ _ _ _ st h=>wpAny_pyIter_tupleiter st h
def yC{P:Program}{w:World}{K:Ô}{tg:Expr}(it:Addr)(lo:Int)(n:Nat):Turn P w K tg (Itr lo n) [it] it (λi h=>IsRangeIter h it (lo+(i:Nat) * 1) ((n:Int) - (i:Nat)) 1) where
 mem:=by simp
 obj:=λi h st b hb=>by
  have e:b=it:=by simpa using hb
  subst e
  exact⟨_,st,λv z=>by
   have z':Data.fields _=Data.cell v:=z
   cases z'⟩
 keep:=λi h h' st k=>k it (by simp) _ st
 item:=by
  intro X hP hw hK hc i pins s σ H E I hf st hg
  subst hP hw hK
  obtain⟨f0,f1,f2,f3,f4,f5⟩:=hf it (by simp)
  have W:=Walks.range (prog:=X.prog) (w:=X.w) (I.ok.hd hc) it lo 1 n
  refine W.item i s _ _ hg st λv h' tk hv st' kk=>?_
  obtain⟨t,rfl⟩:=hv
  have I1:Inv X pins σ H { s with heap:=h',toks:=tk }:=I.turned (λb o hb e=>kk b o (by simpa using hb) e) f0 f1 f3 f4 f5
  refine⟨_,rfl,Iu (s:={ s with heap:=h',toks:=tk }) (n:="range_iterator") st' rfl rfl (by decide) ⟨.int (lo+i),H,I1,⟨t,?_⟩,⟨rfl,rfl⟩,st',λb hb=>(hf b hb).1⟩⟩
  rw[Int.mul_one]
 done:=by
  intro X hP hw hK hc i pins s σ H E I hf st hg
  subst hP hw hK
  obtain⟨f0,f1,f2,f3,f4,f5⟩:=hf it (by simp)
  exact wpAny_pyNext_range_end (I.ok.hd hc) st (by have:n<=i:=hg;omega) λh' eb=>⟨rfl,I.turned (t':=s.toks) (λb o hb e=>eb b o hb e) f0 f1 f3 f4 f5⟩
 self:=λ_ _ _ _ _ st h=>wpAny_pyIter_rangeiter st h
section
variable {X:Cx}{tg:Expr}
def wJ{pins:List (Addr×Obj)}{σ:St}{H:Hp}{s:Shared}{R:It->Hp->Prop}{E:Value->Shared->Prop}{lo hi:Int}{t u v:Tok}{tk:Nat}(I:Inv X pins σ H s)(h1:-(2 ^ 62)<=lo)(h2:lo<2 ^ 62)(h3:-(2 ^ 62)<=hi)(h4:hi<2 ^ 62)(q:R (Itr lo (hi - lo).toNat) H):wpAny (model X.prog X.w) X.A (pyIter (.ref s.heap.objs.size)) (PIE X pins σ tg R) E { s with heap:=s.heap.push { cls:=.type "range",data:=.fields #[.int lo t,.int hi u,.int 1 v] },toks:=tk }:=by
 refine wpAny_pyIter_range (IsRange.new ..) (small_one h1 h2 h3 h4) ?_
 have I1:Inv X pins σ H { s with heap:=s.heap.push { cls:=.type "range",data:=.fields #[.int lo t,.int hi u,.int 1 v] },toks:=tk }:=I.kept λb o e=>Ë _ e
 refine⟨(s.heap.push { cls:=.type "range",data:=.fields #[.int lo t,.int hi u,.int 1 v] }).objs.size,[(s.heap.push { cls:=.type "range",data:=.fields #[.int lo t,.int hi u,.int 1 v] }).objs.size],_,_,H,rfl,
  I1.kept (t':=tk) λb o e=>Ë _ e,yC _ lo (hi - lo).toNat,?_,λb hb=>?_,q⟩
 ·have e1:lo+((0:Nat):Int) * 1=lo:=by simp
  have e2:(((hi - lo).toNat:Nat):Int) - ((0:Nat):Int)=Builtin.Range.rangeSize lo hi 1:=by rw[rangeSize_one];split <;> omega
  show IsRangeIter _ _ (lo+((0:Nat):Int) * 1) ((((hi - lo).toNat:Nat):Int) - ((0:Nat):Int)) 1
  rw[e1,e2]
  exact Þ _ rfl
 ·have e:b=(s.heap.push { cls:=.type "range",data:=.fields #[.int lo t,.int hi u,.int 1 v] }).objs.size:=by simpa using hb
  subst e
  exact I1.Rb (Ç _) (I1.hok.fresh (Ç _))
def TX(ta:TA):TI:=λσ H R=>ta σ H λvs H1=>∃j:Int,vs=[.int j]/\-(2 ^ 62)<=j/\j<2 ^ 62/\R (Itr 0 j.toNat) H1
def TV(ta:TA):TI:=λσ H R=>ta σ H λvs H1=>∃i j:Int,vs=[.int i,.int j]/\(-(2 ^ 62)<=i/\i<2 ^ 62/\-(2 ^ 62)<=j/\j<2 ^ 62)/\R (Itr i (j - i).toNat) H1
def mZ{a:Expr}{ta:TA}{p pos:Pos}(hg:Gl X "range")(hm:X.mg "range"=none)(ha:PA X [a] ta)(hs:starEach [a] X.env=[(false,eval a X.env)]:=by rfl):PI X tg (.Call (.Name "range" p) [a] [] pos) (TX ta):=by
 intro pins s σ H R I h
 refine Call_ (je I hg hm boot_range (Ļ (thn (ha pos pins s σ H _ I h) λus s1 ⟨vs,H1,I1,r1,q1⟩=>?_) hs rfl))
 obtain⟨j,e,q1,q2,q⟩:=q1
 subst e
 cases r1 with
 |cons r rr =>
  cases rr
  obtain⟨t,rfl⟩:=r
  exact call_range_1 (wJ I1 (by omega) (by omega) q1 q2 (by simpa using q))
def Dt{a b:Expr}{ta:TA}{p pos:Pos}(hg:Gl X "range")(hm:X.mg "range"=none)(ha:PA X [a,b] ta)(hs:starEach [a,b] X.env=[(false,eval a X.env),(false,eval b X.env)]:=by rfl)(hs2:starEach [b] X.env=[(false,eval b X.env)]:=by rfl) :
  PI X tg (.Call (.Name "range" p) [a,b] [] pos) (TV ta):=by
 intro pins s σ H R I h
 refine Call_ (je I hg hm boot_range (Ļ (thn (ha pos pins s σ H _ I h) λus s1 ⟨vs,H1,I1,r1,q1⟩=>?_) (by rw[hs,hs2]) (by rw[hs2];rfl)))
 obtain⟨i,j,e,⟨q1,q2,q3,q4⟩,q⟩:=q1
 subst e
 cases r1 with
 |cons r rr =>
  cases rr with
  |cons r' rr =>
   cases rr
   obtain⟨t,rfl⟩:=r
   obtain⟨t',rfl⟩:=r'
   exact call_range_2 (wJ I1 q1 q2 q3 q4 q)
def UL(wi:TI)(g:TG)(tb:TS):TS:=λD σ H=>wi σ H λJ H1=>∃W:Nat->Nat->St->Hp->Prop,(∃m,W 0 m σ H1)/\∀i m σ H,W i m σ H ->
 (J.stop i H/\D.nx σ H)\/(J.go i H/\∃N:St->Hp->Prop,(∀σ' H',N σ' H'->∃m',m'<m/\W (i+1) m' σ' H')/\∀x H',J.yld i H x H'->g x σ H' λσ2 H2=>tb { D with nx:=N,ct:=N,bk:=D.nx } σ2 H2)
def iQ(fp:List Addr)(h:Heap):List (Addr×Obj):=fp.filterMap λb=>(h.get? b).map λo=>(b,o)
def gG{fp:List Addr}{h:Heap}{b:Addr}{o:Obj}(hb:b∈fp)(e:h.get? b=some o):(b,o)∈iQ fp h:=Ž.mpr ⟨b,hb,by rw[e];rfl⟩
def tD{fp:List Addr}{h:Heap}{p:Addr×Obj}(hp:p∈iQ fp h):p.1∈fp/\h.get? p.1=some p.2:=by
 obtain⟨b,hb,e⟩:=Ž.mp hp
 cases q:h.get? b with
 |none=>rw[q] at e;cases e
 |some o =>
  rw[q] at e
  have e':(b,o)=p:=á e
  subst e'
  exact⟨hb,q⟩
def Inv.pinned{pins:List (Addr×Obj)}{σ:St}{H:Hp}{s:Shared}{fp:List Addr}(I:Inv X pins σ H s)(hf:∀b∈fp,rE X pins H b)(ho:∀b∈fp,∃o,s.heap.get? b=some o/\∀v,o.data≠.cell v):Inv X (pins++iQ fp s.heap) σ H s :=
 I.pA λp hp=>(Ù.mp hp).elim (λz=>I.pin p (ë _ z)) λz=>by
  obtain⟨hb,e⟩:=tD z
  obtain⟨f0,f1,f2,_⟩:=hf p.1 hb
  obtain⟨o,e',d⟩:=ho p.1 hb
  rw[e] at e';cases e'
  exact⟨e,f0,f1,f2,d⟩
def Inv.j7{pins pl:List (Addr×Obj)}{σ:St}{H:Hp}{s:Shared}(I:Inv X (pins++pl) σ H s):Inv X pins σ H s:=I.pA λp hp=>I.pin p (ë _ (ū _ hp))
def Gx{iter:Expr}{body:List Stmt}{wi:TI}{g:TG}{tb:TS}{pos:Pos}(hp:PassesOwn (model X.prog X.w) X.A X.env X.xe)(hc:X.calm=true)(hi:PI X tg iter wi)(hg:PG X tg g)(hb:PSs X body tb)(hs:∀x,foldedSetIterable iter X.env x=pure x:=by intro _;rfl):PS X (.For tg iter body [] pos) (UL wi g tb):=by
 intro pins s σ H D I h
 refine wpAny_For (thn (hi pins s σ H _ I h) λv s1 h1=>thn h1 λitv s2 h2=>?_) hs
 obtain⟨it,fp,tn,J,H2,e,I2,T,st2,f2,W,⟨m0,w0⟩,turn⟩:=h2
 subst e
 -- what stays true of the iterator's objects through the loop
 have stat:∀{H':Hp},(∀b∈fp,H' b=none)->∀b∈fp,rE X pins H' b:=λhn b hb=>⟨hn b hb,(f2 b hb).2⟩
 refine codeAny_forLoop_any (λn s'=>∃i σ' H',Inv X pins σ' H' s'/\tn i s'.heap/\(∀b∈fp,H' b=none)/\W i n σ' H') ?_ m0 ⟨0,σ,H2,I2,st2,λb hb=>(f2 b hb).1,w0⟩
 rintro n s3 ⟨i,σ3,H3,I3,st3,fr3,w3⟩
 rcases turn i n σ3 H3 w3 with ⟨stop,qn⟩|⟨go,N,hN,step⟩
 ·refine wpAny_passesOwn hp (thn (T.done X rfl rfl rfl hc i pins s3 σ3 H3 X.xe I3 (stat fr3) st3 stop) λr s4 ⟨hr,I4⟩=>?_)
  subst hr
  exact wpAny_execs_nil ⟨σ3,H3,I4,qn⟩
 ·refine wpAny_passesOwn hp (thn (T.item X rfl rfl rfl hc i pins s3 σ3 H3 X.xe I3 (stat fr3) st3 go) λr s4 ⟨u,hr,h4⟩=>?_)
  subst hr
  refine wpAny_passesOwn hp (thn h4 λ_ s5 ⟨x,H5,I5,r5,y5,st5,fr5⟩=>?_)
  have I5':=I5.pinned (stat fr5) (T.obj _ _ st5)
  refine wpAny_passesOwn hp (thn (hg _ s5 σ3 H5 x u _ I5' r5 (step x H5 y5)) λ_ s6 ⟨σ6,H6,I6,q6⟩=>?_)
  refine wpAny_passesOwn hp (thn (hb _ s6 σ6 H6 _ I6 q6) λf s7 q7=>?_)
  have again:∀{σ7:St}{H7:Hp},Inv X (pins++iQ fp s5.heap) σ7 H7 s7->N σ7 H7->∃m,m<n/\∃i σ' H',Inv X pins σ' H' s7/\tn i s7.heap/\(∀b∈fp,H' b=none)/\W i m σ' H':=λ{σ7 H7} I7 n7=>by
   obtain⟨m',hm,w7⟩:=hN σ7 H7 n7
   refine⟨m',hm,i+1,σ7,H7,I7.j7,T.keep _ _ _ st5 λb hb o e=>(I7.pin (b,o) (ë _ (ë _ (gG hb e)))).1,λb hb=>?_,w7⟩
   obtain⟨o,e,d⟩:=T.obj _ _ st5 b hb
   exact(I7.pin (b,o) (ë _ (ë _ (gG hb e)))).2.1
  cases f with
  |next=>obtain⟨σ7,H7,I7,n7⟩:=q7;exact again I7 n7
  |cont=>obtain⟨σ7,H7,I7,n7⟩:=q7;exact again I7 n7
  |brk=>obtain⟨σ7,H7,I7,q7⟩:=q7;exact⟨σ7,H7,I7.j7,q7⟩
  |ret v=>obtain⟨x7,σ7,H7,I7,r7,q7⟩:=q7;exact⟨x7,σ7,H7,I7.j7,r7,q7⟩
end
abbrev R2:=V->V->Hp->VK->Prop
def OpR(X:Cx)(f:Value->Value->Sem Value)(r:R2):Prop :=
 ∀(pins:List (Addr×Obj)) (s:Shared) (σ:St) (H:Hp) (x y:V) (v u:Value) (Q:VK),Inv X pins σ H s->RelV x v->RelV y u->r x y H Q ->
  wpAny (model X.prog X.w) X.A (f v u) (EP X pins σ Q) X.xe s
def UnR(X:Cx)(f:Value->Sem Value)(r:V->Hp->VK->Prop):Prop :=
 ∀(pins:List (Addr×Obj)) (s:Shared) (σ:St) (H:Hp) (x:V) (v:Value) (Q:VK),Inv X pins σ H s->RelV x v->r x H Q ->
  wpAny (model X.prog X.w) X.A (f v) (EP X pins σ Q) X.xe s
def bM(X:Cx)(f:Value)(r:List V->Hp->VK->Prop):Prop :=
 ∀(pins:List (Addr×Obj)) (s:Shared) (σ:St) (H:Hp) (xs:List V) (us:List Value) (Q:VK),Inv X pins σ H s->Vals xs us->r xs H Q ->
  wpAny (model X.prog X.w) X.A (call f us) (EP X pins σ Q) X.xe s
def tOp(r:R2)(ta tb:TE):TE:=λσ H Q=>ta σ H λx H1=>tb σ H1 λy H2=>r x y H2 Q
def tUn(r:V->Hp->VK->Prop)(ta:TE):TE:=λσ H Q=>ta σ H λx H1=>r x H1 Q
def rI(C:Int->Int->Prop)(g:Int->Int->V):R2:=λx y H Q=>∃i j,x=.int i/\y=.int j/\C i j/\Q (g i j) H
def rI0(g:Int->Int->V):R2:=λx y H Q=>∃i j,x=.int i/\y=.int j/\Q (g i j) H
def rU(g:Int->V):V->Hp->VK->Prop:=λx H Q=>∃i,x=.int i/\Q (g i) H
section
variable {X:Cx}{a b c:Expr}{ta tb tc:TE}{pos:Pos}
def Ro(ha:PE X a ta)(hb:PE X b tb){pins:List (Addr×Obj)}{s:Shared}{σ:St}{H:Hp}{R:V->V->Hp->Prop}(I:Inv X pins σ H s)(h:ta σ H λx H1=>tb σ H1 λy H2=>R x y H2){Q:Value->Shared->Prop}{f:Value->Value->Sem Value}(hf:∀v u s2 x y H2,Inv X pins σ H2 s2->RelV x v->RelV y u->R x y H2->wpAny (model X.prog X.w) X.A (f v u) Q X.xe s2) :
  wpAny (model X.prog X.w) X.A (eval a X.env) (λv s₁=>wpAny (model X.prog X.w) X.A (eval b X.env) (λu s₂=>wpAny (model X.prog X.w) X.A (f v u) Q X.xe s₂) X.xe s₁) X.xe s:=by
 refine thn (ha pins s σ H _ I h) λv s1 ⟨x,H1,I1,r1,q1⟩=>?_
 refine thn (hb pins s1 σ H1 _ I1 q1) λu s2 ⟨y,H2,I2,r2,q2⟩=>?_
 exact hf v u s2 x y H2 I2 r1 r2 q2
def aW{op:Operator}{r:R2}(ho:OpR X (binaryOp op) r)(ha:PE X a ta)(hb:PE X b tb):PE X (.BinOp a op b pos) (tOp r ta tb):=by
 intro pins s σ H Q I h
 exact wpAny_BinOp (Ro ha hb I h λv u s2 x y H2 I2 rx ry q=>ho pins s2 σ H2 x y v u Q I2 rx ry q)
def S6{op:UnaryOp}{r:V->Hp->VK->Prop}(ho:UnR X (unaryOp op) r)(ha:PE X a ta):PE X (.UnaryOp op a pos) (tUn r ta):=by
 intro pins s σ H Q I h
 exact UnaryOp_ (thn (ha pins s σ H _ I h) λv s1 ⟨x,H1,I1,r1,q1⟩=>ho pins s1 σ H1 x v Q I1 r1 q1)
def opI{f:Value->Value->Sem Value}{C:Int->Int->Prop}{g:Int->Int->Int}(rule:∀(i j:Int) (t u:Tok) (s:Shared) (Q:Value->Shared->Prop) (E:Value->Shared->Prop),C i j->Q (.int (g i j) s.toks) { s with toks:=s.toks+1 }->wpAny (model X.prog X.w) X.A (f (.int i t) (.int j u)) Q E s) :
  OpR X f (rI C λi j=>.int (g i j)):=by
 intro pins s σ H x y v u Q I rx ry h
 obtain⟨i,j,rfl,rfl,hc,q⟩:=h
 obtain⟨t,rfl⟩:=rx
 obtain⟨t',rfl⟩:=ry
 exact rule i j t t' s _ _ hc ⟨.int (g i j),H,I.tok _,⟨_,rfl⟩,q⟩
def Qg{f:Value->Value->Sem Value}{g:Int->Int->Int}(rule:∀(i j:Int) (t u:Tok) (s:Shared) (Q:Value->Shared->Prop) (E:Value->Shared->Prop),Q (.int (g i j) s.toks) { s with toks:=s.toks+1 }->wpAny (model X.prog X.w) X.A (f (.int i t) (.int j u)) Q E s) :
  OpR X f (rI0 λi j=>.int (g i j)):=by
 intro pins s σ H x y v u Q I rx ry h
 obtain⟨i,j,rfl,rfl,q⟩:=h
 obtain⟨t,rfl⟩:=rx
 obtain⟨t',rfl⟩:=ry
 exact rule i j t t' s _ _ ⟨.int (g i j),H,I.tok _,⟨_,rfl⟩,q⟩
def Kz{f:Value->Value->Sem Value}{g:Int->Int->Bool}(rule:∀(i j:Int) (t u:Tok) (s:Shared) (Q:Value->Shared->Prop) (E:Value->Shared->Prop),Q (.bool (g i j)) s->wpAny (model X.prog X.w) X.A (f (.int i t) (.int j u)) Q E s) :
  OpR X f (rI0 λi j=>.bl (g i j)):=by
 intro pins s σ H x y v u Q I rx ry h
 obtain⟨i,j,rfl,rfl,q⟩:=h
 obtain⟨t,rfl⟩:=rx
 obtain⟨t',rfl⟩:=ry
 exact rule i j t t' s _ _ ⟨.bl (g i j),H,I,rfl,q⟩
def VH(i j:Int):Prop:=0<j/\j<1073741824
def JM(i j:Int):Prop:=0<=j/\j<=1000000/\i.natAbs<2 ^ 64
def M9(i j:Int):Prop:=(-(2 ^ 64)<i/\i<2 ^ 64)\/(-(2 ^ 64)<j/\j<2 ^ 64)
def M9.ok{i j:Int}(h:M9 i j):IntMulOk i j:=by
 rcases h with ⟨h1,h2⟩|⟨h1,h2⟩
 ·exact .of_left (intBits_le_64 h1 h2)
 ·exact .of_right (intBits_le_64 h1 h2)
def yw(k:Nat):(0:Int)<=2 ^ k:=by
 rw[two_pow_cast]
 exact Int.natCast_nonneg _
def dO:OpR X (binaryOp .Add) (rI0 λi j=>.int (i+j)):=Qg λ_ _ _ _ _ _ _ q=>add_int q
def G5:OpR X (binaryOp .Sub) (rI0 λi j=>.int (i - j)):=Qg λ_ _ _ _ _ _ _ q=>sub_int q
def dB:OpR X (binaryOp .Mult) (rI M9 λi j=>.int (i * j)):=opI λ_ _ _ _ _ _ _ hc q=>mul_int q hc.ok
def Kw:OpR X (binaryOp .FloorDiv) (rI VH λi j=>.int (i / j)):=opI λi j _ _ _ _ _ hc q=>by
 have h1:(0:Int)<j:=hc.1
 have h2:j<1073741824:=hc.2
 exact floordiv_int (by omega) (by rw[Int.fdiv_eq_ediv_of_nonneg i (by omega)];exact q) (.inl (PyProof.noPylong_small (by omega)))
def eH:OpR X (binaryOp .Mod) (rI (λ_ j=>0<j) λi j=>.int (i % j)):=opI λi j _ _ _ _ _ hc q=>by
 have h1:(0:Int)<j:=hc
 exact mod_int' (by omega) (by rw[Int.fmod_eq_emod_of_nonneg i (by omega)];exact q)
def G7:OpR X (binaryOp .Pow) (rI JM λi j=>.int (i ^ j.toNat)):=opI λ_ _ _ _ _ _ _ hc q=>pow_int_small hc.1 hc.2.1 hc.2.2 q
def Qe:OpR X (binaryOp .LShift) (rI JM λi j=>.int (i * 2 ^ j.toNat)):=opI λ_ _ _ _ _ _ _ hc q=>lshift_int_small hc.1 hc.2.1 hc.2.2 q
def Qd:OpR X (binaryOp .RShift) (rI (λ_ j=>0<=j) λi j=>.int (i / 2 ^ j.toNat)):=opI λi j _ _ _ _ _ hc q =>
 rshift_int hc (by rw[Int.fdiv_eq_ediv_of_nonneg i (yw _)];exact q)
def Qf:OpR X (binaryOp .BitAnd) (rI0 λi j=>.int (Builtin.bitAnd i j)):=Qg λ_ _ _ _ _ _ _ q=>and_int q
def unI{f:Value->Sem Value}{g:Int->Int}(rule:∀(i:Int) (t:Tok) (s:Shared) (Q:Value->Shared->Prop) (E:Value->Shared->Prop),Q (.int (g i) s.toks) { s with toks:=s.toks+1 }->wpAny (model X.prog X.w) X.A (f (.int i t)) Q E s) :
  UnR X f (rU λi=>.int (g i)):=by
 intro pins s σ H x v Q I rx h
 obtain⟨i,rfl,q⟩:=h
 obtain⟨t,rfl⟩:=rx
 exact rule i t s _ _ ⟨.int (g i),H,I.tok _,⟨_,rfl⟩,q⟩
def Oj:UnR X (unaryOp .USub) (rU λi=>.int (-i)):=unI λ_ _ _ _ _ q=>neg_int q
end
def Sd:V->V->Bool
 |.non,.non=>true|.non,.int _=>true|.int _,.non=>true|.non,.bl _=>true|.bl _,.non=>true|.non,.str _=>true|.str _,.non=>true
 |.int _,.int _=>true|.bl _,.bl _=>true|.str _,.str _=>true|.byt _,.byt _=>true
 |.int _,.str _=>true|.str _,.int _=>true|.bl _,.str _=>true|.str _,.bl _=>true
 |_,_=>false
def rEq:R2:=λx y H Q=>Sd x y=true/\Q (.bl (decide (x=y))) H
def rNe:R2:=λx y H Q=>Sd x y=true/\Q (.bl (!decide (x=y))) H
def CT{i j:Int}:decide (V.int i=V.int j)=(i == j):=by
 rw[Ģ]
 simp
def Jq{i j:Bool}:decide (V.bl i=V.bl j)=(i == j):=by
 rw[Ģ]
 simp
def CQ{i j:Str}:decide (V.str i=V.str j)=(i == j):=by
 rw[Ģ]
 simp
def CV{i j:Array UInt8}:decide (V.byt i=V.byt j)=(i.toList == j.toList):=by
 rw[Ģ]
 cases i
 cases j
 simp
section
variable {X:Cx}{a b c:Expr}{ta tb tc:TE}{pos:Pos}
def aN{pins:List (Addr×Obj)}{σ:St}{H:Hp}{s:Shared}{Q:VK}{k k':Bool}(I:Inv X pins σ H s)(q:Q (.bl k) H)(e:k=k'):EP X pins σ Q (.bool k') s:=by
 subst e
 exact⟨.bl k,H,I,rfl,q⟩
def Hi:OpR X (compareOp .Eq) rEq:=by
 intro pins s σ H x y v u Q I rx ry h
 obtain⟨hs,q⟩:=h
 cases x with
 |non =>
  cases rx
  cases y with
  |non=>cases ry;exact PySem.EqNone.eq_none_none (aN I q (by simp))
  |bl j=>cases ry;exact PySem.EqNone.eq_none_bool (aN I q (by simp))
  |int j=>obtain⟨t',rfl⟩:=ry;exact PySem.EqNone.eq_none_int (aN I q (by simp))
  |str j=>obtain⟨t',rfl⟩:=ry;exact PySem.EqNone.eq_none_str (aN I q (by simp))
  |_=>exact absurd (show false=true from hs) Ì
 |bl i =>
  cases rx
  cases y with
  |non=>cases ry;exact PySem.EqNone.eq_bool_none (aN I q (by simp))
  |bl j=>cases ry;exact eq_bool (aN I q Jq)
  |str j=>obtain⟨t',rfl⟩:=ry;exact PySem.EqMixed.eq_bool_str (aN I q (by simp))
  |_=>exact absurd (show false=true from hs) Ì
 |int i =>
  obtain⟨t,rfl⟩:=rx
  cases y with
  |non=>cases ry;exact PySem.EqNone.eq_int_none (aN I q (by simp))
  |int j=>obtain⟨t',rfl⟩:=ry;exact eq_int (aN I q CT)
  |str j=>obtain⟨t',rfl⟩:=ry;exact PySem.EqMixed.eq_int_str (aN I q (by simp))
  |_=>exact absurd (show false=true from hs) Ì
 |str i =>
  obtain⟨t,rfl⟩:=rx
  cases y with
  |non=>cases ry;exact PySem.EqNone.eq_str_none (aN I q (by simp))
  |bl j=>cases ry;exact PySem.EqMixed.eq_str_bool (aN I q (by simp))
  |int j=>obtain⟨t',rfl⟩:=ry;exact PySem.EqMixed.eq_str_int (aN I q (by simp))
  |str j=>obtain⟨t',rfl⟩:=ry;exact eq_str (aN I q CQ)
  |_=>exact absurd (show false=true from hs) Ì
 |byt i =>
  obtain⟨t,rfl⟩:=rx
  cases y with
  |byt j=>obtain⟨t',rfl⟩:=ry;exact W.eq_bytes (aN I q CV)
  |_=>exact absurd (show false=true from hs) Ì
 |_=>cases y <;> exact absurd (show false=true from hs) Ì
def G9:OpR X (compareOp .NotEq) rNe:=by
 intro pins s σ H x y v u Q I rx ry h
 obtain⟨hs,q⟩:=h
 cases x with
 |non =>
  cases rx
  cases y with
  |non=>cases ry;exact PySem.EqNone.ne_none_none (aN I q (by simp))
  |bl j=>cases ry;exact PySem.EqNone.ne_none_bool (aN I q (by simp))
  |int j=>obtain⟨t',rfl⟩:=ry;exact PySem.EqNone.ne_none_int (aN I q (by simp))
  |str j=>obtain⟨t',rfl⟩:=ry;exact PySem.EqNone.ne_none_str (aN I q (by simp))
  |_=>exact absurd (show false=true from hs) Ì
 |bl i =>
  cases rx
  cases y with
  |non=>cases ry;exact PySem.EqNone.ne_bool_none (aN I q (by simp))
  |bl j=>cases ry;exact ne_bool (aN I q (congrArg not Jq))
  |str j=>obtain⟨t',rfl⟩:=ry;exact PySem.EqMixed.ne_bool_str (aN I q (by simp))
  |_=>exact absurd (show false=true from hs) Ì
 |int i =>
  obtain⟨t,rfl⟩:=rx
  cases y with
  |non=>cases ry;exact PySem.EqNone.ne_int_none (aN I q (by simp))
  |int j=>obtain⟨t',rfl⟩:=ry;exact ne_int (aN I q (congrArg not CT))
  |str j=>obtain⟨t',rfl⟩:=ry;exact PySem.EqMixed.ne_int_str (aN I q (by simp))
  |_=>exact absurd (show false=true from hs) Ì
 |str i =>
  obtain⟨t,rfl⟩:=rx
  cases y with
  |non=>cases ry;exact PySem.EqNone.ne_str_none (aN I q (by simp))
  |bl j=>cases ry;exact PySem.EqMixed.ne_str_bool (aN I q (by simp))
  |int j=>obtain⟨t',rfl⟩:=ry;exact PySem.EqMixed.ne_str_int (aN I q (by simp))
  |str j=>obtain⟨t',rfl⟩:=ry;exact ne_str (aN I q (congrArg not CQ))
  |_=>exact absurd (show false=true from hs) Ì
 |byt i =>
  obtain⟨t,rfl⟩:=rx
  cases y with
  |byt j=>obtain⟨t',rfl⟩:=ry;exact W.ne_bytes (aN I q (congrArg not CV))
  |_=>exact absurd (show false=true from hs) Ì
 |_=>cases y <;> exact absurd (show false=true from hs) Ì
def oF:OpR X (compareOp .Lt) (rI0 λi j=>.bl (decide (i<j))):=Kz λ_ _ _ _ _ _ _ q=>lt_int q
def wO:OpR X (compareOp .LtE) (rI0 λi j=>.bl (decide (i<=j))):=Kz λ_ _ _ _ _ _ _ q=>le_int q
def wQ:OpR X (compareOp .Gt) (rI0 λi j=>.bl (decide (j<i))):=Kz λ_ _ _ _ _ _ _ q=>gt_int q
def Nq:OpR X (compareOp .GtE) (rI0 λi j=>.bl (decide (j<=i))):=Kz λ_ _ _ _ _ _ _ q=>ge_int q
def Hf:OpR X (compareOp .Is) (λx y H Q=>y=.non/\Q (.bl (decide (x=.non))) H):=by
 intro pins s σ H x y v u Q I rx ry h
 obtain⟨rfl,q⟩:=h
 cases ry
 refine is_none_gen (aN I q ?_)
 cases x <;> first
  |(cases rx;rfl)
  |(obtain⟨t,rfl⟩:=rx;rfl)
def bN(b:Expr){op:CmpOp}(h:op≠.In:=by decide)(h2:op≠.NotIn:=by decide):behindInMarks op b=false:=by
 have e1:(op == CmpOp.In)=false:=by cases op <;> first|rfl|exact absurd rfl h
 have e2:(op == CmpOp.NotIn)=false:=by cases op <;> first|rfl|exact absurd rfl h2
 cases b <;> simp[behindInMarks,e1,e2]
def Kr{op:CmpOp}{r:R2}(ho:OpR X (compareOp op) r)(ha:PE X a ta)(hb:PE X b tb)(hm:behindInMarks op b=false):PE X (.Compare a [op] [b] pos) (tOp r ta tb):=by
 intro pins s σ H Q I h
 exact wpAny_Compare1 (Ro ha hb I h λv u s2 x y H2 I2 rx ry q=>ho pins s2 σ H2 x y v u Q I2 rx ry q) hm
def FP(t:TE):TT:=λσ H Q=>t σ H λx H'=>∃k,x=.bl k/\Q k H'
def jy{op:CmpOp}{r:R2}(ho:OpR X (compareOp op) r)(ha:PE X a ta)(hb:PE X b tb)(hm:behindInMarks op b=false):PT X (.Compare a [op] [b] pos) (FP (tOp r ta tb)):=by
 intro pins s σ H Q I h
 refine wpAny_isTrue_Compare1 (thn (ha pins s σ H _ I h) λv s1 ⟨x,H1,I1,r1,q1⟩=>thn (hb pins s1 σ H1 _ I1 q1) λu s2 ⟨y,H2,I2,r2,q2⟩ =>
  thn (ho pins s2 σ H2 x y v u _ I2 r1 r2 q2) λc s3 ⟨z,H3,I3,r3,k,e,q3⟩=>?_) hm
 subst e
 cases r3
 exact Ī ⟨H3,I3,q3⟩
def pQ(r r':R2)(ta tb tc:TE):TE:=λσ H Q=>ta σ H λx H1=>tb σ H1 λy H2=>r x y H2 λz H3=>∃k,z=.bl k /\
 (if k=true then tc σ H3 λw' H4=>r' y w' H4 Q else Q (.bl false) H3)
def GX{op op':CmpOp}{r r':R2}(ho:OpR X (compareOp op) r)(ho':OpR X (compareOp op') r')(ha:PE X a ta)(hb:PE X b tb)(hc:PE X c tc)(hm:lastMarks [op,op'] [b,c]=false:=by with_unfolding_all rfl):PE X (.Compare a [op,op'] [b,c] pos) (pQ r r' ta tb tc):=by
 intro pins s σ H Q I h
 refine Compare_chain (thn (ha pins s σ H _ I h) λv s1 ⟨x,H1,I1,r1,q1⟩=>chain_link (thn (hb pins s1 σ H1 _ I1 q1) λu s2 ⟨y,H2,I2,r2,q2⟩ =>
  thn (ho pins s2 σ H2 x y v u _ I2 r1 r2 q2) λd s3 ⟨z,H3,I3,r3,k,e,q3⟩=>?_)) hm
 subst e
 cases r3
 refine Ī ?_
 cases k with
 |false=>exact ite_ff ⟨.bl false,H3,I3,rfl,q3⟩
 |true=>exact ite_tt (chain_last (thn (hc pins s3 σ H3 _ I3 q3) λw' s4 ⟨z',H4,I4,r4,q4⟩=>ho' pins s4 σ H4 y z' u w' Q I4 r2 r4 q4))
def Gu{op op':CmpOp}{r r':R2}(ho:OpR X (compareOp op) r)(ho':OpR X (compareOp op') r')(ha:PE X a ta)(hb:PE X b tb)(hc:PE X c tc)(hm:lastMarks [op,op'] [b,c]=false:=by with_unfolding_all rfl):PT X (.Compare a [op,op'] [b,c] pos) (FP (pQ r r' ta tb tc)):=by
 intro pins s σ H Q I h
 refine isTrue_chain (thn (ha pins s σ H _ I h) λv s1 ⟨x,H1,I1,r1,q1⟩=>test_link (thn (hb pins s1 σ H1 _ I1 q1) λu s2 ⟨y,H2,I2,r2,q2⟩ =>
  thn (ho pins s2 σ H2 x y v u _ I2 r1 r2 q2) λd s3 ⟨z,H3,I3,r3,k,e,q3⟩=>?_)) hm
 subst e
 cases r3
 refine Ī ?_
 cases k with
 |false =>
  obtain⟨k',e',q'⟩:=q3
  cases e'
  exact ite_ff ⟨H3,I3,q'⟩
 |true =>
  refine ite_tt (test_last (thn (hc pins s3 σ H3 _ I3 q3) λw' s4 ⟨z',H4,I4,r4,q4⟩=>thn (ho' pins s4 σ H4 y z' u w' _ I4 r2 r4 q4) λd' s5 ⟨z2,H5,I5,r5,k2,e2,q5⟩=>?_))
  subst e2
  cases r5
  exact Ī ⟨H5,I5,q5⟩
def vB:(sizeLine:Nat)<2 ^ 63:=by rw[õ];decide
def vals1{x:V}{us:List Value}(r:Vals [x] us):∃u,us=[u]/\RelV x u:=by
 cases r with
 |cons r1 r2=>cases r2;exact⟨_,rfl,r1⟩
def vals2{x y:V}{us:List Value}(r:Vals [x,y] us):∃u w',us=[u,w']/\RelV x u/\RelV y w':=by
 cases r with
 |cons r1 r2 =>
  cases r2 with
  |cons r3 r4=>cases r4;exact⟨_,_,rfl,r1,r3⟩
def Fb(hc:X.calm=true):bM X (.builtin "max") (λxs H Q=>∃i j,xs=[.int i,.int j]/\Q (.int (if j > i then j else i)) H):=by
 intro pins s σ H xs us Q I r h
 obtain⟨i,j,rfl,q⟩:=h
 obtain⟨u,w',rfl,⟨t,rfl⟩,⟨t',rfl⟩⟩:=vals2 r
 refine max_two_ints (I.ok.hd hc) λh' tk k=>⟨_,H,I.kept k,?_,q⟩
 by_cases hj:j > i
 ·rw[if_pos hj,if_pos hj];exact⟨_,rfl⟩
 ·rw[if_neg hj,if_neg hj];exact⟨_,rfl⟩
def Fd:bM X (.type "int") (λxs H Q=>(∃i,xs=[.int i]/\Q (.int i) H)\/∃k,xs=[.bl k]/\Q (.int (if k then 1 else 0)) H):=by
 intro pins s σ H xs us Q I r h
 rcases h with ⟨i,rfl,q⟩|⟨k,rfl,q⟩
 ·obtain⟨u,rfl,t,rfl⟩:=vals1 r
  exact call_int_int ⟨.int i,H,I,⟨_,rfl⟩,q⟩
 ·obtain⟨u,rfl,r1⟩:=vals1 r
  cases r1
  exact call_int_bool ⟨.int (if k then 1 else 0),H,I.tok _,⟨_,rfl⟩,q⟩
end
structure ObjM(h:Heap)(x dx C:Addr)(mA:Str->Option Value):Prop where
 obj:h.get? x=some (W.instObj C dx)
 ns:h.Ns1 dx mA
 ne:dx≠x
def Ed{h:Heap}{dx:Addr}{mA:Str->Option Value}(n:h.Ns1 dx mA):∃od,h.get? dx=some od/\∀name,W.lookIn name od=some (mA name):=by
 obtain⟨o,es,ep,ho,hd,hk,_,hm⟩:=n
 refine⟨o,ho,λname=>?_⟩
 have e:=hm name
 unfold nsFind findBy at e
 rw[←Array.find?_toList] at e
 unfold W.lookIn
 rw[hd]
 dsimp only
 split
 ·rename_i y q
  rw[q] at e
  exact congrArg some e
 ·rename_i q
  rw[q] at e
  have a:es.toList.any (·.refKey)=false:=by
   rw[List.any_eq_false]
   intro y hy
   obtain⟨z,t,hkey⟩:=hk y (Array.mem_toList_iff.mp hy)
   simp[DictEntry.refKey,hkey]
  have a':¬es.toList.any (·.refKey)=true:=by rw[a];exact Ì
  rw[if_neg a']
  exact congrArg some e
def ObjM.look{h:Heap}{x dx C:Addr}{mA:Str->Option Value}(I:ObjM h x dx C mA):∃od,W.InstAt h x (W.instObj C dx) C (some od)/\∀name,W.lookIn name od=some (mA name) :=
 let ⟨od,ho,hl⟩:=Ed I.ns
 ⟨od,⟨I.obj,rfl,rfl,ho⟩,hl⟩
section
variable {prog:Program}{w:World}{A:Around}{E:Value->Shared->Prop}{s:Shared}{K:Ô}{x dx C f:Addr}{mA:Str->Option Value}{name:Str}{v:Value}
end
section
variable {P:Program}{w:World}{H H':Hp}{h h':Heap}{a C dx:Addr}{fs fs':List (Str×V)}
def Cp(hok:HOk P w H h)(e:H a=some (.ins C dx fs)):∃mA,ObjM h a dx C mA/\(∀f,Ry (fs.lookup f) (mA f))/\PySem.Within mA (fs.map (·.1))/\fs.length<=1000/\H dx=some (.own a):=by
 obtain⟨d,z,ne,ob,mA,n,r,q⟩:=(show bx P w H h a (.ins C dx fs) from hok a _ e)
 exact⟨mA,⟨ob,n,ne⟩,r,q,z,d⟩
end
structure Cls(K:Ô)(C:Addr):Prop where
 pg:W.plainGet K C Str.empty=true
 hd:W.hasDictIn K C=true
 po:W.plainOver K C=true
 sa:W.findIn K (.ref C) "__setattr__"=some (some (.builtin "object.__setattr__"))
def Cls.get{K:Ô}{C:Addr}(c:Cls K C)(f:Str):W.plainGet K C f=true:=c.pg
structure Con(K:Ô)(C:Addr)(f:Str)(v:V)(u:Value):Prop where
 at_:W.findIn K (.ref C) f=some (some u)
 rel:RelV v u
 get:W.specialIn K u "__get__"=some none
 cp:W.copiedNames.contains f=false
structure Meth(K:Ô)(C:Addr)(m:Str)(f:Addr):Prop where
 at_:W.findIn K (.ref C) m=some (some (.ref f))
 fn:W.isFn K (.ref f)=true
 kp:W.keepIn K (.ref f)=true
section
variable {X:Cx}{pins:List (Addr×Obj)}{σ:St}{H:Hp}{s:Shared}{a C dx:Addr}{fs:List (Str×V)}{f:Str}{v:V}{A:Around}{E:Value->Shared->Prop}
end
section
variable {X:Cx}{o e value:Expr}{f:Str}{pos pos' tpos:Pos}{ta tv:TE}
end
section
variable {X:Cx}{pins:List (Addr×Obj)}{σ:St}{H:Hp}{s:Shared}{A:Around}{E:Value->Shared->Prop}{Q:Value->Shared->Prop}{c:Value}{b:Bool}
inductive TyOf(K:Ô)(H:Hp):V->Value->Prop where
 |non:TyOf K H .non (.type "NoneType")
 |bl (x:Bool):TyOf K H (.bl x) (.type "bool")
 |int (i:Int):TyOf K H (.int i) (.type "int")
 |str (x:Str):TyOf K H (.str x) (.type "str")
 |flt (x:UInt64):TyOf K H (.flt x) (.type "float")
 |lst {a:Addr}{xs:List V} (e:H a=some (.lst xs)):TyOf K H (.ref a) (.type "list")
 |frz {a:Addr}{o:Obj}{xs:List V} (e:H a=some (.frz o (.lst xs))):TyOf K H (.ref a) (.type "list")
 |tup {a:Addr}{xs:List V} (e:H a=some (.tup xs)):TyOf K H (.ref a) (.type "tuple")
 |dK {a:Addr}{kvs:List (Key×V)} (e:H a=some (.dK kvs)):TyOf K H (.ref a) (.type "dict")
 |dT {a:Addr}{kvs:List (List Key×V)} (e:H a=some (.dT kvs)):TyOf K H (.ref a) (.type "dict")
 |ins {a C dx:Addr}{fs:List (Str×V)} (e:H a=some (.ins C dx fs)) (cl:Cls K C) (ha:W.findIn K (.ref C) "__class__"=some (some (.builtin "object.__class__")))
   (hn:W.specialIn K (.builtin "object.__class__") "__get__"=some (some (.builtin "getset_descriptor.__get__"))) (htk:W.takesIn K (.builtin "object.__class__")=some true)
   (hm:W.mroIn K C (.type "object")=some true):TyOf K H (.ref a) (.ref C)
def Em{x:V}{u t:Value}(I:Inv X pins σ H s)(rx:RelV x u)(ty:TyOf X.K H x t)(e:ů X.K t c=some b)(h:∀tk,Q (.bool b) { s with toks:=tk }) :
  wpAny (model X.prog X.w) A (call (.builtin "isinstance") [u,c]) Q E s:=by
 cases ty with
 |non=>cases (show u=ľ from rx);exact Ŷ W.kitx_none I.kIn Ū e (λz=>nomatch z) h
 |bl y=>cases (show u=Ś y from rx);exact Ŷ W.kitx_bool I.kIn Ū e (λz=>nomatch z) h
 |int i=>obtain⟨t,q⟩:=(show ∃t,u=ĝ i t from rx);cases q;exact Ŷ W.kitx_int I.kIn Ū e (λz=>nomatch z) h
 |str y=>obtain⟨t,q⟩:=(show ∃t,u=Value.str y t from rx);cases q;exact Ŷ W.kitx_str I.kIn Ū e (λz=>nomatch z) h
 |flt y=>obtain⟨t,q⟩:=(show ∃t,u=Value.float y t from rx);cases q;exact Ŷ W.kitx_float I.kIn Ū e (λz=>nomatch z) h
 |@lst a xs ea =>
  cases (show u=ħ a from rx)
  obtain⟨_,_,n,_,h1⟩:=(show bx X.prog X.w H s.heap a (.lst xs) from I.hok a _ ea)
  exact Ŷ W.kitx_list I.kIn ⟨_,h1,rfl⟩ e (λz=>nomatch z) h
 |@frz a ob xs ea =>
  cases (show u=ħ a from rx)
  obtain⟨_,_,_,n,_,h1⟩:=(show bx X.prog X.w H s.heap a (.frz ob (.lst xs)) from I.hok a _ ea)
  exact Ŷ W.kitx_list I.kIn ⟨_,h1,rfl⟩ e (λz=>nomatch z) h
 |@tup a xs ea =>
  cases (show u=ħ a from rx)
  obtain⟨_,_,_,p⟩:=(show bx X.prog X.w H s.heap a (.tup xs) from I.hok a _ ea)
  obtain⟨o,h1,h2,_⟩:=p
  exact Ŷ W.kitx_tuple I.kIn ⟨o,h1,h2⟩ e (λz=>nomatch z) h
 |@dK a kvs ea =>
  cases (show u=ħ a from rx)
  obtain⟨_,_,vs,_,p⟩:=(show bx X.prog X.w H s.heap a (.dK kvs) from I.hok a _ ea)
  obtain⟨o,es,ep,h1,h2,_⟩:=p
  exact Ŷ W.kitx_dict I.kIn ⟨o,h1,h2.1⟩ e (λz=>nomatch z) h
 |@dT a kvs ea =>
  cases (show u=ħ a from rx)
  obtain⟨_,_,xs,_,o,es,ep,h1,h2,_⟩:=(show bx X.prog X.w H s.heap a (.dT kvs) from I.hok a _ ea)
  exact Ŷ W.kitx_dict I.kIn ⟨o,h1,h2.1⟩ e (λz=>nomatch z) h
 |@ins a C dx fs ea cl ha hn htk hm =>
  cases (show u=ħ a from rx)
  obtain⟨mA,O,_⟩:=Cp I.hok ea
  obtain⟨od,J,_⟩:=O.look
  exact Ŷ (W.kitx_own (cl.get _) cl.hd ha hn htk hm) I.kIn J e (λz=>nomatch z) h
end
structure Room(k:Nat)(A:Around):Prop where
 hd:A.handled=none
 dp:A.depth+3 * k+5<recursionLimit
 un:A.units+16 * k+200<cLine
 gd:A.guards=some []
def Room.mono{j k:Nat}{A:Around}(r:Room k A)(h:j<=k):Room j A:=⟨r.hd,by have:=r.dp;omega,by have:=r.un;omega,r.gd⟩
def Room.deeper{k:Nat}{A:Around}(r:Room (k+1) A)(env:Env):Room k (A.deeper env) :=
 ⟨r.hd,by have:=r.dp;show A.depth+1+3 * k+5<_;omega,by have:=r.un;show A.units+3+16 * k+200<_;omega,r.gd⟩
def Room.in1{k:Nat}{A:Around}(r:Room (k+1) A):Room k A.in1 :=
 ⟨r.hd,by have:=r.dp;show A.depth+3 * k+5<_;omega,by have:=r.un;show A.units+1+16 * k+200<_;omega,r.gd⟩
def Room.depth{k:Nat}{A:Around}(r:Room k A):A.depth<recursionLimit:=by have:=r.dp;omega
def Room.units{k:Nat}{A:Around}(r:Room k A):A.units+64<cLine:=by have:=r.un;omega
def Uz:TA:=λ_ H Q=>Q [] H
def R0(ta:TE)(tr:TA):TA:=λσ H Q=>ta σ H λx H1=>tr σ H1 λxs H2=>Q (x::xs) H2
section
variable {X:Cx}{e:Expr}{es:List Expr}{te:TE}{t:TA}{pos:Pos}
def cL:PA X [] Uz:=λ_ _ _ _ H Q I h=>Calls.spliced_nil ⟨[],H,I,.nil,h⟩
def dz(ha:PE X e te)(hr:PA X es t)(hs:starEach (e::es) X.env=(false,eval e X.env)::starEach es X.env:=by rfl):PA X (e::es) (R0 te t):=by
 intro pos pins s σ H Q I h
 rw[hs]
 show wpAny _ _ (spliced ((false,eval e X.env)::backTo pos (starEach es X.env))) _ _ s
 refine Calls.spliced_cons (thn (ha pins s σ H _ I h) λu s1 ⟨x,H1,I1,r1,q1⟩=>?_)
 exact thn (hr pos pins s1 σ H1 _ I1 q1) λus s2 ⟨xs,H2,I2,r2,q2⟩=>⟨x::xs,H2,I2,.cons r1 r2,q2⟩
def Uu(t:TA):TE:=λσ H Q=>t σ H λxs H1=>xs.length<=sizeLine/\∀p,H1 p=none->Q (.ref p) (upd H1 p (.tup xs))
def UG(t:TA):TE:=λσ H Q=>t σ H λxs H1=>xs.length<=sizeLine/\∀p,H1 p=none->Q (.ref p) (upd H1 p (.lst xs))
def yQ{x1}(h:PA X es t):PE X (.Tuple es x1 pos) (Uu t):=by
 intro pins s σ H Q I hq
 refine wpAny_Tuple_spliced (thn (h pos pins s σ H _ I hq) λus s1 ⟨xs,H1,I1,r,z,q⟩=>⟨by rw[←r.length];exact z,?_⟩)
 have hf:H1 s1.heap.objs.size=none:=I1.hok.fresh (Ç _)
 refine⟨.ref s1.heap.objs.size,upd H1 s1.heap.objs.size (.tup xs),I1.laid (t':=s1.toks) (λb u e=>Ë _ e) (Ç _) ?_,rfl,q _ hf⟩
 exact⟨z,us,r,⟨_,Þ _ rfl,rfl,_,rfl⟩⟩
def yS(h:PA X es t):PE X (.List es pos) (UG t):=by
 intro pins s σ H Q I hq
 refine wpAny_List_spliced (thn (h pos pins s σ H _ I hq) λus s1 ⟨xs,H1,I1,r,z,q⟩=>⟨by rw[←r.length];exact z,?_⟩)
 have hf:H1 s1.heap.objs.size=none:=I1.hok.fresh (Ç _)
 refine⟨.ref s1.heap.objs.size,upd H1 s1.heap.objs.size (.lst xs),I1.laid (t':=s1.toks) (λb u e=>Ë _ e) (Ç _) ?_,rfl,q _ hf⟩
 exact⟨z,us,0,r,Þ _ rfl⟩
end
abbrev Sp:=List V->Hp->VK->XK->Prop
abbrev CXT:=List Env->Hp->Shared->XK->Value->Shared->Prop
structure Env0(P:Program)(w:World)(K:Ô)(mg:Str->Option Value)(base:Heap)(A:Around)(outer:List Env)(s:Shared)(H:Hp):Prop where
 frames:A.frames=some outer
 mod:Mod K mg base
 bs:∀b o,base.get? b=some o->s.heap.get? b=some o/\H b=none
 bsz:base.objs.size<=s.heap.objs.size
 jY:s.heap.FunFrames base outer
 frf:∀b∈frs outer,H b=none
 hok:HOk P w H s.heap
 bare:AllBare s.gens
def CE(outer:List Env)(P:Program)(w:World)(H:Hp)(s:Shared)(Q:VK)(u:Value)(s':Shared):Prop :=
 ∃v H',s'.os=s.os/\AllBare s'.gens/\Un (frs outer) [] H H' s.heap s'.heap/\HOk P w H' s'.heap/\RelV v u/\Q v H'
def CR(CX:CXT)(outer:List Env)(P:Program)(w:World)(H:Hp)(s:Shared)(Q:VK)(E:XK)(r:Result)(s':Shared):Prop :=
 match r with
 |.ok (.ret u)=>CE outer P w H s Q u s'
 |.ok _=>False
 |.error e=>CX outer H s E e s'
structure FnOk(P:Program)(w:World)(K:Ô)(mg:Str->Option Value)(base:Heap)(CX:CXT)(k:Nat)(f:Addr)(fd:FuncData)(ps:List Str)(sp:Sp):Prop where
 len:∀vs H Q E,sp vs H Q E->vs.length=ps.length
 run:∀(A:Around) (outer:List Env) (s:Shared) (H:Hp) (args:Args) (us:List Value) (vs:List V) (Q:VK) (E:XK),Room k A->Env0 P w K mg base A outer s H->BindsTo s fd args (ps.zip us)->Vals vs us->sp vs H Q E ->
  codeAny (model P w) A (.call (.ref f) args) (CR CX outer P w H s Q E) s
def FnOk.imp{P:Program}{w:World}{K:Ô}{mg:Str->Option Value}{base:Heap}{CX:CXT}{k:Nat}{f:Addr}{fd:FuncData}{ps:List Str}{sp sp':Sp}(F:FnOk P w K mg base CX k f fd ps sp)(h:∀vs H Q E,sp' vs H Q E->sp vs H Q E):FnOk P w K mg base CX k f fd ps sp' :=
 ⟨λvs H Q E q=>F.len vs H Q E (h _ _ _ _ q),λA outer s H args us vs Q E hr he hb hv hs=>F.run A outer s H args us vs Q E hr he hb hv (h _ _ _ _ hs)⟩
def Env0.in1{P:Program}{w:World}{K:Ô}{mg:Str->Option Value}{base:Heap}{A:Around}{outer:List Env}{s:Shared}{H:Hp}(e:Env0 P w K mg base A outer s H) :
  Env0 P w K mg base A.in1 outer s H:=⟨e.frames,e.mod,e.bs,e.bsz,e.jY,e.frf,e.hok,e.bare⟩
section
variable {X:Cx}{pins:List (Addr×Obj)}{σ:St}{H:Hp}{s s':Shared}
def Inv.env0(I:Inv X pins σ H s):Env0 X.prog X.w X.K X.mg X.base X.A X.stack s H :=
 ⟨I.ok.frames,I.ok.mod,I.bs,é I.ok.bsz I.sz,I.stack,I.Az,I.hok,I.bare⟩
def Inv.after{Q:VK}{u:Value}(I:Inv X pins σ H s)(h:CE X.stack X.prog X.w H s Q u s'):EP X pins σ Q u s':=by
 obtain⟨v,H',os,bare,un,hok,r,q⟩:=h
 obtain⟨hh,g,d,t,os'⟩:=s'
 obtain rfl:os'=s.os:=os
 exact⟨v,H',I.call (h':=hh) (g':=g) (d':=d) (t':=t) (ch:=[]) un hok bare (λb z=>absurd z (by simp)),r,q⟩
end
def Ax(sp:Sp)(dvs:List V)(E:XK)(t:TA):TE:=λσ H Q=>t σ H λvs H1=>sp (vs++dvs) H1 Q E
def Binds(K:Ô)(fd:FuncData)(ps:List Str)(ds:List Value):Prop :=
 ∀(s:Shared) (us:List Value),K.In s.heap->(us++ds).length=ps.length->BindsTo s fd ⟨us,[]⟩ (ps.zip (us++ds))
def Binds.all{K:Ô}{fd:FuncData}{ps:List Str}(h:∀us:List Value,us.length=ps.length->bindArgs fd ⟨us,[]⟩=pure (ps.zip us)):Binds K fd ps []:=λs us _ hl=>by
 rw[Ā] at hl ⊢
 exact .of_eq (h us hl)
def Passes(CX:CXT)(X:Cx)(E:XK):Prop:=∀(pins:List (Addr×Obj)) (σ:St) (H:Hp) (s:Shared) (e:Value) (s':Shared),Inv X pins σ H s->CX X.stack H s E e s'->X.xe e s'
section
variable {X:Cx}{CX:CXT}{k:Nat}{f C:Addr}{fd:FuncData}{ps:List Str}{sp:Sp}{dvs:List V}{ds:List Value}{E:XK}{x m:Str}{p pos apos:Pos}{e o:Expr}{es:List Expr}{ta:TE}{t:TA}
def O7{pins:List (Addr×Obj)}{σ:St}{H:Hp}{s:Shared}{Q:VK}{us:List Value}{vs:List V}(F:FnOk X.prog X.w X.K X.mg X.base CX k f fd ps sp)(hr:Room k X.A)(hb:Binds X.K fd ps ds)(hd:Vals dvs ds)(hx:Passes CX X E)(I:Inv X pins σ H s)(r:Vals vs us)(h:sp (vs++dvs) H Q E):wpAny (model X.prog X.w) X.A (call (.ref f) us) (EP X pins σ Q) X.xe s:=by
 have r2:Vals (vs++dvs) (us++ds):=r.append hd
 have hl:(us++ds).length=ps.length:=by rw[←r2.length];exact F.len _ _ _ _ h
 refine wpAny_call (codeAny_mono (F.run X.A X.stack s H ⟨us,[]⟩ (us++ds) (vs++dvs) Q E hr I.env0 (hb s us I.kIn hl) r2 h) λr s' hq=>?_)
 cases r with
 |error e=>exact hx pins σ H s e s' I hq
 |ok fl =>
  cases fl with
  |ret u=>exact I.after hq
  |next=>exact Ġ hq
  |brk=>exact Ġ hq
  |cont=>exact Ġ hq
def Ks(F:FnOk X.prog X.w X.K X.mg X.base CX k f fd ps sp)(hr:Room k X.A)(hg:Gl X x)(hm:X.mg x=some (.ref f))(hk:W.keepIn X.K (.ref f)=true)(hb:Binds X.K fd ps ds)(hd:Vals dvs ds)(hx:Passes CX X E)(ha:PA X (e::es) t)(hdb:(x == ("__debug__":Str))=false:=by decide)(he:starEach (e::es) X.env=(false,eval e X.env)::starEach es X.env:=by rfl)(hpl:(backTo pos (starEach es X.env)).any (·.1)=false:=by rfl) :
  PE X (.Call (.Name x p) (e::es) [] pos) (Ax sp dvs E t):=by
 intro pins s σ H Q I h
 refine Ţ (Ci I hg hm ?_ hdb)
 refine W.callWith_K (h₀:=X.base) I.ok.mod.kin hk (thn (ha pos pins s σ H _ I h) λus s1 ⟨vs,H1,I1,r,q⟩=>⟨I1.kIn,?_⟩) he hpl
 exact O7 F hr hb hd hx I1 r q
structure Mk(K:Ô)(C f:Addr):Prop where
 makes:W.makesIn K C=true
 init:W.findIn K (.ref C) "__init__"=some (some (.ref f))
 fn:W.isFn K (.ref f)=true
 kp:W.keepIn K (.ref C)=true
end
section
variable {X:Cx}{CX:CXT}{k:Nat}{f C:Addr}{fd:FuncData}{ps ks:List Str}{sp:Sp}{E:XK}{x m:Str}{p pos apos kpos:Pos}{e o:Expr}{es:List Expr}{kws:List Keyword}{te ta:TE}{t tk:TA}{nm:Option Str}
structure KBinds(K:Ô)(fd:FuncData)(ps ks:List Str)(g:List Value->List Value->List Value)(gV:List V->List V->List V):Prop where
 to:∀(s:Shared) (us ws:List Value),K.In s.heap->(g us ws).length=ps.length->BindsTo s fd ⟨us,ks.zip ws⟩ (ps.zip (g us ws))
 rel:∀{vs:List V}{us:List Value}{zs:List V}{ws:List Value},Vals vs us->Vals zs ws->Vals (gV vs zs) (g us ws)
variable {g:List Value->List Value->List Value}{gV:List V->List V->List V}
end
structure FnScope(N P:List Str)(sc:Scope):Prop where
 kind:sc.kind=.function
 co:sc.isCoroutine=false
 gen:sc.isGenerator=false
 nd:N.Nodup
 pre:N.take P.length=P
 par:∀x∈P,sc.names.lookup x=some .local\/sc.names.lookup x=some .cell
 nofree:∀y∈sc.names,y.2≠.free
def zC{N P:List Str}{sc:Scope}(a:sc.kind=.function:=by rfl)(b:sc.isCoroutine=false:=by rfl)(c:sc.isGenerator=false:=by rfl)(d:N.Nodup:=by decide +kernel)(e:N.take P.length=P:=by rfl)(f:∀x∈P,sc.names.lookup x=some .local\/sc.names.lookup x=some .cell:=by decide +kernel)(g:∀y∈sc.names,y.2≠.free:=by decide +kernel):FnScope N P sc:=⟨a,b,c,d,e,f,g⟩
def ug{kindOf:Str->Option NameKind}{x:Str}:∀{binds:List (Str×Value)}{m:Str->Option Value},(∀v,(x,v)∉binds)->bindL kindOf binds m x=m x
 |[],_,_=>rfl
 |(n,v)::r,m,h=>by
  unfold bindL
  rw[ug λw hw=>h w (Ó _ hw)]
  split
  ·have:x≠n:=by rintro rfl;exact h v Ú
   simp[this]
  ·rfl
def uo{kindOf:Str->Option NameKind}{x:Str}:∀{binds:List (Str×Value)}{m:Str->Option Value},(∀v,(x,v)∉binds)->bindC kindOf binds m x=m x
 |[],_,_=>rfl
 |(n,v)::r,m,h=>by
  unfold bindC
  rw[uo λw hw=>h w (Ó _ hw)]
  split
  ·rfl
  ·have:x≠n:=by rintro rfl;exact h v Ú
   simp[this]
def uh{kindOf:Str->Option NameKind}{x:Str}{v:Value}:∀{P:List Str}{vs:List Value}{i:Nat}{m:Str->Option Value},P.Nodup->P[i]?=some x->vs[i]?=some v->kindOf x=some .local ->
  bindL kindOf (P.zip vs) m x=some v
 |[],_,_,_,_,h,_,_=>by simp at h
 |_::_,[],_,_,_,_,h,_=>by simp at h
 |p::P,w::vs,0,m,nd,h1,h2,hk=>by
  simp at h1 h2;subst h1;subst h2
  show bindL kindOf ((p,w)::P.zip vs) m p=_
  unfold bindL
  rw[ug λv hv=>(List.nodup_cons.mp nd).1 (List.of_mem_zip hv).1,if_pos hk]
  simp
 |p::P,w::vs,i+1,m,nd,h1,h2,hk=>by
  show bindL kindOf ((p,w)::P.zip vs) m x=_
  unfold bindL
  exact uh (i:=i) (List.nodup_cons.mp nd).2 (by simpa using h1) (by simpa using h2) hk
def uq{kindOf:Str->Option NameKind}{x:Str}{v:Value}:∀{P:List Str}{vs:List Value}{i:Nat}{m:Str->Option Value},P.Nodup->P[i]?=some x->vs[i]?=some v->kindOf x≠some .local ->
  bindC kindOf (P.zip vs) m x=some v
 |[],_,_,_,_,h,_,_=>by simp at h
 |_::_,[],_,_,_,_,h,_=>by simp at h
 |p::P,w::vs,0,m,nd,h1,h2,hk=>by
  simp at h1 h2;subst h1;subst h2
  show bindC kindOf ((p,w)::P.zip vs) m p=_
  unfold bindC
  rw[uo λv hv=>(List.nodup_cons.mp nd).1 (List.of_mem_zip hv).1,if_neg hk]
  simp
 |p::P,w::vs,i+1,m,nd,h1,h2,hk=>by
  show bindC kindOf ((p,w)::P.zip vs) m x=_
  unfold bindC
  exact uq (i:=i) (List.nodup_cons.mp nd).2 (by simpa using h1) (by simpa using h2) hk
def start(N:List Str)(vs:List V):St:=vs.map some++Í (N.length - vs.length) none
def Ad(CX:CXT)(P:Program)(w:World)(K:Ô)(mg:Str->Option Value)(base:Heap)(N:List Str)(qual:Str)(scope:Scope)(f:Addr)(cd:Value)(A:Around)(outer:List Env)(s:Shared)(H:Hp)(E:XK):Cx where
 prog:=P
 w:=w
 K:=K
 mg:=mg
 base:=base
 A:=A.deeper (envOfC qual scope s.heap.objs.size f cd)
 N:=N
 s₀:=s
 H₀:=H
 env:=envOfC qual scope s.heap.objs.size f cd
 outer:=outer
 stack:=envOfC qual scope s.heap.objs.size f cd::outer
 ex:=[]
 calm:=true
 fn:=λ_=>true
 pn:=[]
 xe:=λe s'=>wpAny (model P w) (A.deeper (envOfC qual scope s.heap.objs.size f cd)) (leaving (envOfC qual scope s.heap.objs.size f cd) e) (λ_ s''=>CX outer H s E e s'') (λe' s''=>CX outer H s E e' s'') s'
def xV{sc:Scope}{n:Nat}{x:Str}(h:sc.names.lookup x=some .cell):∃c,(cellsFrom n sc.names []).lookup x=some c:=by
 have q:=W.cellsFrom_some sc.names n [] (.inl h)
 exact Ų.mp q
def En{CX:CXT}{P:Program}{w:World}{K:Ô}{mg:Str->Option Value}{base:Heap}{N ps:List Str}{qual:Str}{scope:Scope}{f:Addr}{cd:Value}{A:Around}{outer:List Env}{s s1:Shared}{H:Hp}{E:XK}{us:List Value}{vs:List V}(S:FnScope N ps scope)(hd:A.handled=none)(e0:Env0 P w K mg base A outer s H)(hl:vs.length=ps.length)(r:Vals vs us)(x:InCallC s s.heap.objs.size (bindL (envOfC qual scope s.heap.objs.size f cd).kindOf (ps.zip us) λ_=>none) (cellsFrom (s.heap.objs.size+1) scope.names []) (bindC (envOfC qual scope s.heap.objs.size f cd).kindOf (ps.zip us) λ_=>none) s1) :
  Inv (Ad CX P w K mg base N qual scope f cd A outer s H E) [] (start N vs) H s1:=by
 have hpl:ps.length<=N.length:=by have:=congrArg List.length S.pre;rw[ģ] at this;omega
 obtain⟨h1,tk,rfl,hk⟩:=x.done
 have noA:∀b:Addr,b∉(Ad CX P w K mg base N qual scope f cd A outer s H E).ex:=λb z=>absurd (show b∈([]:List Addr) from z) (by simp)
 refine⟨⟨e0.mod,S.kind,rfl,rfl,Ç _,λy z c h1 h2=>?_,λy hy=>?_,λy c _ h=>?_,λ_=>hd,Around.frames_deeper e0.frames,.inr ⟨rfl,rfl⟩,λb z=>absurd z (noA b),e0.bs,e0.bsz,λb _ _=>noA b,λb z=>absurd z (noA b),e0.jY,e0.frf,λq z=>nomatch (show q∈([]:List (Addr×Obj×HO)) from z)⟩,
  rfl,e0.bare,Un.kept hk,⟨_,x.toInCall.ns,λi y v h1 h2 h3=>?_⟩,λy c h=>⟨_,x.cell y c h⟩,e0.hok.fresh (Ç _),λy c h=>?_,λp hp=>absurd (show p∈([]:List (Addr×Obj)) from hp) (by simp),e0.hok.kept hk,?_⟩
 ·exact name_of_addr x.apart (Ě h1) (Ě h2)
 ·have hy:scope.names.lookup y=some .cell\/scope.names.lookup y=some .free:=hy
  rcases hy with hy|hy
  ·exact xV hy
  ·exact absurd rfl (S.nofree _ (Ě hy))
 ·exact Nat.le_of_lt (x.above y c (Ě h))
 ·have hi:i<vs.length:=by
   unfold start at h2
   by_cases hi:i<vs.length
   ·exact hi
   ·rw[ù (by simpa using hi)] at h2
    rw[Ŀ] at h2
    split at h2 <;> cases h2
  have ha:vs[i]?=some v:=by
   unfold start at h2
   rw[ĕ (by simpa using hi),å] at h2
   cases e:vs[i]? with
   |none=>rw[e] at h2;cases h2
   |some a=>rw[e] at h2;cases h2;rfl
  obtain⟨u,hu,rv⟩:=r.get ha
  have hp:ps[i]?=some y:=by
   rw[←S.pre,List.getElem?_take_of_lt (by omega)];exact h1
  have ndP:ps.Nodup:=by rw[←S.pre];exact S.nd.sublist (List.take_sublist _ _)
  refine⟨u,rv,?_⟩
  rcases S.par y (Ð hp) with k|k
  ·exact .inl ⟨k,uh ndP hp hu k⟩
  ·obtain⟨c,e⟩:=xV (n:=s.heap.objs.size+1) k
   refine .inr ⟨.inl k,c,e,?_⟩
   have q:=x.cell y c e
   rw[uq ndP hp hu (by show scope.names.lookup y≠_;rw[k];decide)] at q
   exact q
 ·exact e0.hok.fresh (Nat.le_of_lt (x.above y c (Ě h)))
 ·unfold start
  show _=N.length
  rw[Î,Â,š]
  omega
def N7{CX:CXT}{P:Program}{w:World}{K:Ô}{mg:Str->Option Value}{base:Heap}{k:Nat}{f:Addr}{name qual:Str}{params:Arguments}{body:List Stmt}{scope:Scope}{dV kV doc pm cdv ct oc:Value}{an od:Option Addr}{osl:Array (Option Value)}{N ps:List Str}{sp:Sp}(lk:K.lookup f=some ⟨oc,od,.func (W.fnOf name qual params body scope dV kV doc pm an cdv ct),osl⟩)(hcd:W.codeIn K cdv qual=true)(S:FnScope N ps scope)(len:∀vs H Q E,sp vs H Q E->vs.length=ps.length)(hbody:∀(A:Around) (outer:List Env) (s:Shared) (H:Hp) (vs:List V) (Q:VK) (E:XK),Room k (A.deeper (envOfC qual scope s.heap.objs.size f cdv))->sp vs H Q E ->
   ∃t,PSs (Ad CX P w K mg base N qual scope f cdv A outer s H E) body t/\t { nx:=λ_ H'=>Q .non H',rt:=Q } (start N vs) H) :
  FnOk P w K mg base CX (k+1) f (W.fnOf name qual params body scope dV kV doc pm an cdv ct) ps sp:=by
 refine⟨len,λA outer s H args us vs Q E hr e0 hb r hsp=>?_⟩
 have hl:=len _ _ _ _ hsp
 have KX:K.In s.heap:=e0.mod.kin.keeps λb o e=>(e0.bs b o e).1
 have lim:s.heap.NoLimit:=e0.mod.nolimit.keeps λb o e=>(e0.bs b o e).1
 have hkind:∀y∈ps.zip us,scope.names.lookup y.1=some .local\/(scope.names.lookup y.1=some .cell/\((cellsFrom (s.heap.objs.size+1) scope.names []).lookup y.1).isSome=true):=λ⟨n,v⟩ hy=>by
  rcases S.par n (List.of_mem_zip hy).1 with q|q
  ·exact .inl q
  ·exact .inr ⟨q,W.cellsFrom_some _ _ _ (.inl q)⟩
 refine codeAny_call_function hr.depth (KX _ _ lk) rfl S.co S.gen rfl (W.codeRec_of KX hcd) (hb _ _ _ _ ?_)
 refine wpAny_newFunctionEnv_cells S.kind hkind λenv he s1 x=>?_
 subst he
 refine⟨lim.keeps x.toInCall.keep,codeAny_func ?_⟩
 obtain⟨t,ht,hq⟩:=hbody A outer s H vs Q E (hr.deeper _) hsp
 have I:Inv (Ad CX P w K mg base N qual scope f cdv A outer s H E) [] (start N vs) H s1:=En S hr.hd e0 hl r x
 refine Ō (ht [] s1 (start N vs) H _ I hq) (λfl s' hs=>?_) λe s' hs=>hs
 have fin:∀{σ':St}{H':Hp}{v:V}{u:Value},Inv (Ad CX P w K mg base N qual scope f cdv A outer s H E) [] σ' H' s'->RelV v u->Q v H'->CE outer P w H s Q u s' :=
  λ{σ' H' v u} J rv q=>⟨v,H',J.os,J.bare,J.base,J.hok,rv,q⟩
 cases fl with
 |ret u =>
  obtain⟨v,σ',H',J,rv,q⟩:=hs
  exact fin J rv q
 |next =>
  obtain⟨σ',H',J,q⟩:=hs
  exact fin (v:=V.non) (u:=ľ) J rfl q
 |brk =>
  obtain⟨_,_,_,q⟩:=hs
  exact Ġ q
 |cont =>
  obtain⟨_,_,_,q⟩:=hs
  exact Ġ q
section
variable {X:Cx}{x:Str}{p pos:Pos}{e:Expr}{es:List Expr}{t:TA}{id T:String}{r:List V->Hp->VK->Prop}
def tCB(r:List V->Hp->VK->Prop)(t:TA):TE:=λσ H Q=>t σ H λvs H1=>r vs H1 Q
def eG(hc:bM X (.builtin id) r)(hg:Gl X x)(hm:X.mg x=none)(hv:bootBuiltins x=some (.builtin id))(ha:PA X (e::es) t)(hn:x≠"__name__":=by decide)(hdb:(x == ("__debug__":Str))=false:=by decide)(he:starEach (e::es) X.env=(false,eval e X.env)::starEach es X.env:=by rfl)(hpl:(backTo pos (starEach es X.env)).any (·.1)=false:=by rfl):PE X (.Call (.Name x p) (e::es) [] pos) (tCB r t):=by
 intro pins s σ H Q I h
 refine Ţ (je I hg hm hv ?_ hn hdb)
 exact PyProof.Rows.callWith_builtin1 (thn (ha pos pins s σ H _ I h) λus s1 ⟨vs,H1,I1,r1,q1⟩=>hc pins s1 σ H1 vs us Q I1 r1 q1) he hpl
def fY(hc:bM X (.type T) r)(hg:Gl X x)(hm:X.mg x=none)(hv:bootBuiltins x=some (.type T))(ha:PA X (e::es) t)(hn:x≠"__name__":=by decide)(hdb:(x == ("__debug__":Str))=false:=by decide)(he:starEach (e::es) X.env=(false,eval e X.env)::starEach es X.env:=by rfl)(hpl:(backTo pos (starEach es X.env)).any (·.1)=false:=by rfl):PE X (.Call (.Name x p) (e::es) [] pos) (tCB r t):=by
 intro pins s σ H Q I h
 refine Ţ (je I hg hm hv ?_ hn hdb)
 exact Ļ (thn (ha pos pins s σ H _ I h) λus s1 ⟨vs,H1,I1,r1,q1⟩=>hc pins s1 σ H1 vs us Q I1 r1 q1) he hpl
end
end L2
namespace HT
open PySem PyProof.Rows
section
open PySem.SeqAt
open PySem.AutoSeq1 (wpAny_loadPart')
open PySem.MeetsSeq PySem.MeetsSeq2 PySem.MeetsSeq3
end
section
variable {prog:Program}{w:World}{A:Around}{E:Value->Shared->Prop}{s:Shared}
def Ms{t b:Addr}{vs ws:List Value}{Q:Value->Shared->Prop}(ht:IsTup s.heap t vs.toArray)(hb:IsTup s.heap b ws.toArray)(hv:vs≠[])(h1:ws=[]->Q (.ref t) s)(h2:ws≠[]->Q (.ref s.heap.objs.size) { s with heap:=s.heap.push { cls:=.type "tuple",data:=.seq (vs++ws).toArray } })(hsz:vs.length+ws.length<=sizeLine):wpAny (model prog w) A (binaryOp .Add (.ref t) (.ref b)) Q E s:=by
 obtain⟨⟨cls,dd,data,sl⟩,ho,hc,n,hd⟩:=id ht
 obtain⟨⟨cls2,dd2,data2,sl2⟩,ho2,hc2,n2,hd2⟩:=id hb
 simp only at hc hd hc2 hd2
 subst hc hd hc2 hd2
 have e:vs.toArray++ws.toArray=(vs++ws).toArray:=by simp
 by_cases hw:ws=[]
 ·exact concat_meets ⟨_,ho,rfl⟩ ⟨_,ho2,rfl⟩ noFill_tuple_add seq_tuple_add PySem.F.slot_tuple_add PySem.F.entry_tuple_add (PySem.F.args_tuple_add_2 _ _)
   (tuple_addW1 t b vs.toArray ws.toArray n n2 dd dd2 sl sl2 (by simpa using hv) (by simp[hw])) ⟨ho,ho2,h1 hw⟩
 ·refine concat_meets ⟨_,ho,rfl⟩ ⟨_,ho2,rfl⟩ noFill_tuple_add seq_tuple_add PySem.F.slot_tuple_add PySem.F.entry_tuple_add (PySem.F.args_tuple_add_2 _ _)
   (tuple_addW2 t b vs.toArray ws.toArray n n2 dd dd2 sl sl2 (by simpa using hv) (by simpa using hw) (by rw[Ï,Ï];exact hsz)) ⟨ho,ho2,?_⟩
  rw[e]
  exact h2 hw
def sIx(n d:Nat):Option Int->Nat
 |none=>d
 |some v=>if v<0 then (v+(n:Int)).toNat else min v.toNat n
def Bj(n d k:Nat):sIx n d (some (k:Int))=min k n:=by
 show(if (k:Int)<0 then ((k:Int)+(n:Int)).toNat else min (k:Int).toNat n)=min k n
 rw[if_neg (by omega),ŀ]
def O6(n d:Nat)(hd:d<=n)(o:Option Int):sIx n d o<=n:=by
 cases o with
 |none=>exact hd
 |some v =>
  show(if v<0 then (v+(n:Int)).toNat else min v.toNat n)<=n
  by_cases hv:v<0
  ·rw[if_pos hv];omega
  ·rw[if_neg hv];exact Nat.min_le_right _ _
def CW(v:Int)(n d:Nat):(if v<0 then max (v+(n:Int)) 0 else min v (n:Int))=((sIx n d (some v):Nat):Int):=by
 show(if v<0 then max (v+(n:Int)) 0 else min v (n:Int))=(((if v<0 then (v+(n:Int)).toNat else min v.toNat n):Nat):Int)
 by_cases hv:v<0
 ·simp only[if_pos hv];omega
 ·simp only[if_neg hv];omega
def Am(lo hi:Option Int)(n:Nat):Builtin.Slice.sliceAdjust lo hi 1 (n:Int)=(((sIx n 0 lo:Nat):Int),((sIx n n hi:Nat):Int)):=by
 have h1:¬((1:Int)<0):=by omega
 unfold Builtin.Slice.sliceAdjust
 simp only[h1,if_false]
 refine Prod.ext ?_ ?_
 ·cases lo with
  |none=>rfl
  |some v=>exact CW v n 0
 ·cases hi with
  |none=>rfl
  |some v=>exact CW v n n
def yO(i j:Nat):ş (i:Int) (j:Int) 1=j - i:=by
 unfold ş
 have h1:(1:Int) > 0:=by omega
 simp only[h1,if_true,Int.ediv_one]
 split <;> omega
def pU{v:Value}{o:Option Int}{Q:Option Int->Shared->Prop}(p:IsPart v o)(h:Q o s):wpAny (model prog w) A (Builtin.Slice.slicePartIndex v) Q E s:=by
 cases p with
 |none=>exact slicePart_none h
 |int i t=>exact slicePart_int h
def mW{sl:Addr}{vl vu:Value}{lo hi:Option Int}{n:Nat}{Q:Int×Int×Nat->Shared->Prop}(hs:s.heap.IsSliceOf sl vl vu .none)(pl:IsPart vl lo)(pu:IsPart vu hi)(h:Q (((sIx n 0 lo:Nat):Int),1,sIx n n hi - sIx n 0 lo) s):wpAny (model prog w) A (Builtin.Slice.sliceApplied (.ref sl) (pure (n:Int))) Q E s:=by
 obtain⟨os,hos,hcs,hds⟩:=id hs
 unfold Builtin.Slice.sliceApplied Builtin.Slice.sliceFields
 refine Æ (Æ (wpAny_field hos hds (x:=vl) rfl (Æ (wpAny_field hos hds (x:=vu) rfl (Æ (wpAny_field hos hds (x:=.none) rfl (Ø ?_)))))))
 refine Æ (slicePart_none ?_)
 show wpAny _ _ (if ((1:Int) == 0)=true then _ else _) _ _ s
 rw[if_neg (by decide)]
 refine Æ (pU pl (Æ (pU pu (Æ (Ø ?_)))))
 show wpAny _ _ (match Builtin.Slice.sliceAdjust lo hi 1 (n:Int) with|(lo,hi)=>pure (lo,(1:Int),ş lo hi 1)) _ _ s
 rw[Am lo hi n]
 show wpAny _ _ (pure (((sIx n 0 lo:Nat):Int),(1:Int),ş ((sIx n 0 lo:Nat):Int) ((sIx n n hi:Nat):Int) 1)) _ _ s
 rw[yO]
 exact Ø h
def GD(xs:Array Value)(i k:Nat):((ä k).filterMap λ(m:Nat)=>xs[((i:Int)+(m:Int) * 1).toNat]?).toArray=((xs.toList.drop i).take k).toArray:=by
 have e:(λ(m:Nat)=>xs[((i:Int)+(m:Int) * 1).toNat]?)=λm=>xs[i+m]?:=by
  funext m
  have:((i:Int)+(m:Int) * 1).toNat=i+m:=by omega
  rw[this]
 rw[e]
 have:=pick_run xs i k
 rw[List.filterMap_map] at this
 have e2:((λx=>xs[x]?) ∘ λx=>i+x)=λm=>xs[i+m]?:=rfl
 rw[e2] at this
 rw[this]
def mj{t sl:Addr}{items:Array Value}{vl vu:Value}{lo hi:Option Int}{Q:Value->Shared->Prop}(ht:IsTup s.heap t items)(hs:s.heap.IsSliceOf sl vl vu .none)(pl:IsPart vl lo)(pu:IsPart vu hi)(hw:¬(sIx items.size 0 lo=0/\sIx items.size items.size hi=items.size))(h:Q (.ref s.heap.objs.size) { s with heap:=s.heap.push { cls:=.type "tuple",data:=.seq ((items.toList.drop (sIx items.size 0 lo)).take (sIx items.size items.size hi - sIx items.size 0 lo)).toArray } })(hsz:items.size<=sizeLine):wpAny (model prog w) A (getItem (.ref t) (.ref sl)) Q E s:=by
 have htake:sizeOk (.seq ((items.toList.drop (sIx items.size 0 lo)).take (sIx items.size items.size hi - sIx items.size 0 lo)).toArray):=by
  show((items.toList.drop (sIx items.size 0 lo)).take (sIx items.size items.size hi - sIx items.size 0 lo)).toArray.size<=sizeLine
  rw[Ï,ģ,Ņ,ď]
  omega
 have hj:sIx items.size items.size hi<=items.size:=O6 _ _ (Ç _) hi
 obtain⟨os,hos,hcs,hds⟩:=id hs
 have hTs:s.TypeIs (.ref sl) "slice":=⟨os,hos,hcs⟩
 unfold getItem
 try with_reducible refine Ĭ ?_
 first|refine Æ (Ø ?_)|skip
 refine Æ (wpAny_sequenceKey ht.typeIs (by decide) ?_)
 refine Æ (wpAny_callSpecial?_slot (name:=ú "__getitem__") ht.typeIs PyProof.Rows.slot_tuple_getitem
  (wpAny_call_entry PyProof.Rows.slot_tuple_getitem ht.typeIs entry_tuple_getitem ?_ (args_tuple_getitem _ _)))
 show wpAny _ _ (Builtin.Tuple.tupleItemsOf (.ref t) >>= _) _ _ s
 refine Æ (tupleItemsOf_ ht ?_)
 refine Æ (wpAny_typeOf hTs ?_)
 rw[if_pos (by decide)]
 refine Æ (mW hs pl pu ?_)
 have hno:¬((((sIx items.size 0 lo:Nat):Int) == 0&&(1:Int) == 1&&(sIx items.size items.size hi - sIx items.size 0 lo) == items.size)=true):=by
  intro q
  rw[Ê,Ê] at q
  have q1:((sIx items.size 0 lo:Nat):Int)=0:=eq_of_beq q.1.1
  have q2:sIx items.size items.size hi - sIx items.size 0 lo=items.size:=eq_of_beq q.2
  exact hw ⟨by omega,by omega⟩
 show wpAny _ _ (if (((sIx items.size 0 lo:Nat):Int) == 0&&(1:Int) == 1&&(sIx items.size items.size hi - sIx items.size 0 lo) == items.size)=true then _ else _) _ _ s
 rw[if_neg hno,GD]
 first
  |exact Æ (m:=Ť _) (wpAny_newObj_type (Ø ⟨_,rfl,Ø h⟩) htake)
  |exact Æ (m:=Ť _) (wpAny_newObj_type (Æ (Ø (Ø ⟨_,rfl,Ø h⟩))) htake)
  |exact Æ (Æ (m:=Ť _) (wpAny_newObj_type (Ø (Ø ⟨_,rfl,Ø h⟩)) htake))
  |exact Æ (Æ (m:=Ť _) (wpAny_newObj_type (Ø ⟨_,rfl,Ø h⟩) htake))
end
end HT
namespace L2
open PySem PySem.Spec PyProof.Rows
abbrev TO:=St->Hp->(Option Int->Hp->Prop)->Prop
def PO(X:Cx)(e:Option Expr)(t:TO):Prop :=
 ∀(pins:List (Addr×Obj)) (s:Shared) (σ:St) (H:Hp) (Q:Option Int->Hp->Prop),Inv X pins σ H s->t σ H Q ->
  wpAny (model X.prog X.w) X.A (evalPart e X.env) (λu s'=>∃o H',Inv X pins σ H' s'/\IsPart u o/\Q o H') X.xe s
def JT:TO:=λ_ H Q=>Q none H
def RM(t:TE):TO:=λσ H Q=>t σ H λx H1=>∃i,x=.int i/\Q (some i) H1
def intsAre_of{ns:List Int}:∀{us:List Value},Vals (ns.map V.int) us->IntsAre us ns:=by
 induction ns with
 |nil=>intro us r;rw[List.map_nil] at r;cases r;exact .nil
 |cons n ns ih =>
  intro us r
  rw[û] at r
  cases r with
  |cons r1 r2 =>
   obtain⟨t,e⟩:=r1
   subst e
   exact .cons n t (ih r2)
section
variable {X:Cx}{e:Expr}{te:TE}{lo hi:Option Expr}{tl th:TO}{pos p2:Pos}
def Kl:PO X none JT:=by
 intro pins s σ H Q I h
 rw[evalPart_none]
 exact Ø ⟨none,H,I,.none,h⟩
def Kh(h:PE X e te):PO X (some e) (RM te):=by
 intro pins s σ H Q I hw
 rw[evalPart_some]
 refine thn (h pins s σ H _ I hw) λu s1 ⟨x,H1,I1,r1,q1⟩=>?_
 obtain⟨i,rfl,q⟩:=q1
 obtain⟨t,rfl⟩:=r1
 exact⟨some i,H1,I1,.int i t,q⟩
def SlR(X:Cx)(r:V->Option Int->Option Int->Hp->VK->Prop):Prop :=
 ∀(pins:List (Addr×Obj)) (s:Shared) (σ:St) (H:Hp) (x:V) (v vl vu:Value) (lo hi:Option Int) (sl:Addr) (Q:VK),Inv X pins σ H s->RelV x v->s.heap.IsSliceOf sl vl vu .none->IsPart vl lo->IsPart vu hi->r x lo hi H Q ->
  ∃T id,typeLookup (.type T) "__getitem__"=pure (some (.builtin id))/\s.TypeIs v T/\wpAny (model X.prog X.w) X.A (getItem v (.ref sl)) (EP X pins σ Q) X.xe s
def SlR.or{r r':V->Option Int->Option Int->Hp->VK->Prop}(h:SlR X r)(h':SlR X r'):SlR X (λx lo hi H Q=>r x lo hi H Q\/r' x lo hi H Q):=by
 intro pins s σ H x v vl vu lo hi sl Q I rx hs pl pu q
 rcases q with q|q
 ·exact h pins s σ H x v vl vu lo hi sl Q I rx hs pl pu q
 ·exact h' pins s σ H x v vl vu lo hi sl Q I rx hs pl pu q
def tSl(r:V->Option Int->Option Int->Hp->VK->Prop)(te:TE)(tl th:TO):TE:=λσ H Q=>te σ H λx H1=>tl σ H1 λl H2=>th σ H2 λu H3=>r x l u H3 Q
def wM{r:V->Option Int->Option Int->Hp->VK->Prop}(hr:SlR X r)(he:PE X e te)(hl:PO X lo tl)(hu:PO X hi th):PE X (.Subscript e (.Slice lo hi none p2) pos) (tSl r te tl th):=by
 intro pins s σ H Q I h
 refine Subscript_ (thn (he pins s σ H _ I h) λv s1 ⟨x,H1,I1,r1,q1⟩=>?_)
 refine wpAny_Slice (thn (hl pins s1 σ H1 _ I1 q1) λvl s2 ⟨l,H2,I2,pl,q2⟩=>thn (hu pins s2 σ H2 _ I2 q2) λvu s3 ⟨u,H3,I3,pu,q3⟩=>?_)
 rw[evalPart_none]
 refine Ø ?_
 have I4:Inv X pins σ H3 { s3 with heap:=s3.heap.push { cls:=.type "slice",data:=.fields #[vl,vu,.none] } }:=I3.kept (t':=s3.toks) λb ob q=>Ë _ q
 obtain⟨T,id,hT,ht,hg⟩:=hr pins { s3 with heap:=s3.heap.push { cls:=.type "slice",data:=.fields #[vl,vu,.none] } } σ H3 x v vl vu l u s3.heap.objs.size Q I4 r1 (Heap.IsSliceOf.new ..) pl pu q3
 show wpAny (model X.prog X.w) X.A (subscriptTail e (.Slice lo hi none p2) v (.ref s3.heap.objs.size)) (EP X pins σ Q) X.xe { s3 with heap:=s3.heap.push { cls:=.type "slice",data:=.fields #[vl,vu,.none] } }
 exact tail_any (ops:=[.ref s3.heap.objs.size,v]) ht hT hg (by with_unfolding_all rfl)
def q9(xs:List V)(lo hi:Option Int):List V:=(xs.drop (HT.sIx xs.length 0 lo)).take (HT.sIx xs.length xs.length hi - HT.sIx xs.length 0 lo)
def oJ(xs:List V)(lo hi:Option Int):(q9 xs lo hi).length<=xs.length:=by
 unfold q9
 rw[ģ,Ņ]
 omega
def Vb(K:Ô):V->Option Int->Option Int->Hp->VK->Prop:=λx lo hi H Q=>∃a xs,x=.ref a/\SqT K H a xs /\
 ¬(HT.sIx xs.length 0 lo=0/\HT.sIx xs.length xs.length hi=xs.length)/\∀p,H p=none->Q (.ref p) (upd H p (.tup (q9 xs lo hi)))
def Oz:SlR X (Vb X.K):=by
 intro pins s σ H x v vl vu lo hi sl Q I rx hs pl pu h
 obtain⟨a,xs,rfl,hx,hw,q⟩:=h
 cases rx
 obtain⟨its,r,ht,hz⟩:=I.tuple hx
 have hlen:its.toArray.size=xs.length:=by rw[Ï];exact r.length.symm
 refine⟨"tuple",_,PyProof.Rows.slot_tuple_getitem.lookup,ht.typeIs,?_⟩
 refine HT.mj ht hs pl pu (by rw[hlen];exact hw) ?_ (by rw[hlen];exact hz)
 rw[hlen]
 refine⟨.ref s.heap.objs.size,_,I.laid (t':=s.toks) (o:=.tup (q9 xs lo hi)) (λb ob q=>Ë _ q) (Ç _) ?_,rfl,q _ (I.hok.fresh (Ç _))⟩
 exact⟨é (oJ xs lo hi) hz,_,(r.drop (HT.sIx xs.length 0 lo)).take (HT.sIx xs.length xs.length hi - HT.sIx xs.length 0 lo),IsTup.new _ _⟩
def SM(K:Ô):R2:=λx y H Q=>∃a b xs ys,x=.ref a/\y=.ref b/\SqT K H a xs/\SqT K H b ys/\xs≠[]/\xs.length+ys.length<=sizeLine /\
 (ys=[]->Q (.ref a) H)/\(ys≠[]->∀p,H p=none->Q (.ref p) (upd H p (.tup (xs++ys))))
def Vals.vg{xs:List V}{us:List Value}(r:Vals xs us):us=[]↔xs=[]:=by
 cases r with
 |nil=>simp
 |cons _ _=>simp
def Ky:OpR X (binaryOp .Add) (SM X.K):=by
 intro pins s σ H x y v u Q I rx ry h
 obtain⟨a,b,xs,ys,rfl,rfl,ha,hb,hx,hz,q1,q2⟩:=h
 cases rx
 cases ry
 obtain⟨its,r1,p1,_⟩:=I.tuple ha
 obtain⟨its2,r2,p2,_⟩:=I.tuple hb
 refine HT.Ms p1 p2 (λz=>hx (r1.vg.mp z)) (λz=>⟨.ref a,H,I,rfl,q1 (r2.vg.mp z)⟩) (λz=>?_) (by rw[←r1.length,←r2.length];exact hz)
 refine⟨.ref s.heap.objs.size,_,I.laid (t':=s.toks) (o:=.tup (xs++ys)) (λb ob q=>Ë _ q) (Ç _) ?_,rfl,q2 (λw=>z (r2.vg.mpr w)) _ (I.hok.fresh (Ç _))⟩
 exact⟨by rw[Î];exact hz,_,r1.append r2,IsTup.new _ _⟩
end
def ixN(n:Nat)(i:Int):Option Nat:=if 0<=i then (if i<n then some i.toNat else none) else if -(n:Int)<=i then some (i+n).toNat else none
def atI{α:Type}(xs:List α)(i:Int):Option α:=(ixN xs.length i).bind λj=>xs[j]?
def vH{n:Nat}{i:Int}{j:Nat}(h:ixN n i=some j):seqIndex? i n=some j/\j<n/\-(n:Int)<=i/\i<n:=by
 unfold ixN at h
 by_cases h0:0<=i
 ·rw[if_pos h0] at h
  by_cases h1:i<n
  ·rw[if_pos h1] at h
   have e:i.toNat=j:=á h
   exact⟨by rw[seqIndex_of h0 h1,e],by omega,by omega,h1⟩
  ·rw[if_neg h1] at h;cases h
 ·rw[if_neg h0] at h
  by_cases h1:-(n:Int)<=i
  ·rw[if_pos h1] at h
   have e:(i+n).toNat=j:=á h
   exact⟨by rw[seqIndex_neg (by omega) h1,e],by omega,h1,by omega⟩
  ·rw[if_neg h1] at h;cases h
def CZ{α:Type}{xs:List α}{i:Int}{v:α}(h:atI xs i=some v):∃j,seqIndex? i xs.length=some j/\xs[j]?=some v/\j<xs.length/\-(xs.length:Int)<=i/\i<xs.length:=by
 unfold atI at h
 cases e:ixN xs.length i with
 |none=>rw[e] at h;cases h
 |some j =>
  rw[e] at h
  obtain⟨h1,h2,h3,h4⟩:=vH e
  exact⟨j,h1,h,h2,h3,h4⟩
def Mw{α:Type}{xs:List α}{j:Nat}{v:α}(h:xs[j]?=some v):atI xs (j:Int)=some v:=by
 have hj:j<xs.length:=(Ý.mp h).1
 have e:ixN xs.length (j:Int)=some j:=by
  unfold ixN
  rw[if_pos (by omega),if_pos (by omega)];simp
 unfold atI;rw[e];exact h
def mO(b:Expr):Prop:=∀o i,subscripted b false o i=operate [o,i] (getItem o i)
def IxR(X:Cx)(r:R2):Prop :=
 ∀(value slice:Expr) (pins:List (Addr×Obj)) (s:Shared) (σ:St) (H:Hp) (x y:V) (v u:Value) (Q:VK),Inv X pins σ H s->RelV x v->RelV y u->r x y H Q ->
  subscripted slice false v u=operate [v,u] (getItem v u)->wpAny (model X.prog X.w) X.A (subscriptTail value slice v u) (EP X pins σ Q) X.xe s
def MtR(X:Cx)(id:String)(r:V->List V->Hp->VK->Prop):Prop :=
 ∀(pins:List (Addr×Obj)) (s:Shared) (σ:St) (H:Hp) (x:V) (xs:List V) (v:Value) (us:List Value) (Q:VK),Inv X pins σ H s->RelV x v->Vals xs us->r x xs H Q ->
  wpAny (model X.prog X.w) X.A (call (.builtin id) (v::us)) (EP X pins σ Q) X.xe s
section
variable {X:Cx}{a b:Expr}{ta tb:TE}{pos:Pos}
def IxR.or{r r':R2}(h:IxR X r)(h':IxR X r'):IxR X (λx y H Q=>r x y H Q\/r' x y H Q):=by
 intro value slice pins s σ H x y v u Q I rx ry q hs
 rcases q with q|q
 ·exact h value slice pins s σ H x y v u Q I rx ry q hs
 ·exact h' value slice pins s σ H x y v u Q I rx ry q hs
def fu{r:R2}(hr:IxR X r)(ha:PE X a ta)(hb:PE X b tb)(hs:mO b):PE X (.Subscript a b pos) (tOp r ta tb):=by
 intro pins s σ H Q I h
 exact Subscript_ (Ro ha hb I h λv u s2 x y H2 I2 rx ry q=>hr a b pins s2 σ H2 x y v u Q I2 rx ry q (hs _ _))
def SJ(K:Ô):R2:=λx y H Q=>∃p xs i v,x=.ref p/\y=.int i/\SqL K H p xs/\atI xs i=some v/\Q v H
def Sy(K:Ô):R2:=λx y H Q=>∃p xs i v,x=.ref p/\y=.int i/\SqT K H p xs/\atI xs i=some v/\Q v H
def cH:IxR X (SJ X.K):=by
 intro value slice pins s σ H x y v u Q I rx ry h hs
 obtain⟨p,xs,i,z,rfl,rfl,hq,he,q⟩:=h
 cases rx
 obtain⟨t,rfl⟩:=ry
 obtain⟨its,r,pl,hz⟩:=I.list hq
 obtain⟨j,h1,h2,h3,h4,h5⟩:=CZ he
 obtain⟨w,ew,rw'⟩:=r.get h2
 have hl:=r.length
 have hn:=vB
 have fin:EP X pins σ Q w s:=⟨z,H,I,rw',q⟩
 by_cases h0:0<=i
 ·have hj:i.toNat=j:=by
   rw[seqIndex_of h0 h5] at h1
   exact á h1
  exact item_listR pl.isList h0 (by omega) (by rw[hj];simpa using ew) fin hs
 ·have hj:(i+(its.toArray.size:Int)).toNat=j:=by
   rw[seqIndex_neg (by omega) h4] at h1
   rw[Ï,←hl]
   exact á h1
  exact subscriptTail_builtinR (x:=w) pl.isList.typeIs slot_list_getitem.lookup
   (wpAny_getItem_list_neg (Q:=λr s'=>r=w/\EP X pins σ Q r s') pl.isList (by omega) (by rw[Ï] <;> omega) (by omega) (by rw[hj];simpa using ew) ⟨rfl,fin⟩) hs
def zO:IxR X (Sy X.K):=by
 intro value slice pins s σ H x y v u Q I rx ry h hs
 obtain⟨p,xs,i,z,rfl,rfl,hq,he,q⟩:=h
 cases rx
 obtain⟨t,rfl⟩:=ry
 obtain⟨its,r,pl,hz⟩:=I.tuple hq
 obtain⟨j,h1,h2,h3,h4,h5⟩:=CZ he
 obtain⟨w,ew,rw'⟩:=r.get h2
 have hl:=r.length
 have hn:=vB
 have fin:EP X pins σ Q w s:=⟨z,H,I,rw',q⟩
 exact subscriptTail_builtinR (x:=w) pl.typeIs slot_tuple_getitem.lookup
  (getItem_tuple (j:=j) (Q:=λr s'=>r=w/\EP X pins σ Q r s') pl (by omega) (by omega) (by rw[Ï,←hl];exact h1) (by simpa using ew) ⟨rfl,fin⟩) hs
def zE(its:List Value)(n j:Nat)(u:Value):Ü (·.setIfInBounds j u) { cls:=.type "list",data:=.seq its.toArray n }={ cls:=.type "list",data:=.seq (its.set j u).toArray n }:=by
 simp[Ü]
def Inv.lst{pins:List (Addr×Obj)}{σ:St}{H:Hp}{s:Shared}{p:Addr}{xs:List V}(I:Inv X pins σ H s)(h:H p=some (.lst xs)) :
  ∃(its:List Value) (n:Nat),Vals xs its/\s.heap.get? p=some { cls:=.type "list",data:=.seq its.toArray n }/\xs.length<=sizeLine:=by
 obtain⟨z,its,n,r,e⟩:=I.hok p _ h
 exact⟨its,n,r,e,z⟩
def Inv.QF{pins:List (Addr×Obj)}{σ:St}{H:Hp}{s:Shared}{p:Addr}{xs ys:List V}{its its':List Value}{n n':Nat}{f:Obj->Obj}(I:Inv X pins σ H s)(h:H p=some (.lst xs))(ho:s.heap.get? p=some { cls:=.type "list",data:=.seq its.toArray n })(hf:f { cls:=.type "list",data:=.seq its.toArray n }={ cls:=.type "list",data:=.seq its'.toArray n' })(r:Vals ys its')(hz:ys.length<=sizeLine)(t:Nat) :
  Inv X pins σ (upd H p (.lst ys)) { s with heap:=s.heap.update p f,toks:=t }:=by
 have e:(s.heap.update p f).get? p=some { cls:=.type "list",data:=.seq its'.toArray n' }:=by
  rw[Š f ho (by rw[hf] <;> rfl),hf]
 refine I.write (x:=p) (e:=p) (by rw[h];trivial) (.inl rfl) (λb u hb q=>(Ĳ _ _ (Ĩ hb)).trans q) ⟨_,e⟩ ?_
 exact⟨hz,its',n',r,e⟩
def Nk:V->V->V->Hp->(Hp->Prop)->Prop:=λo i v H Q=>∃p xs k j,o=.ref p/\i=.int k/\H p=some (.lst xs)/\ixN xs.length k=some j/\Q (upd H p (.lst (xs.set j v)))
def set_list:Uo X Nk:=by
 intro pins s σ H o i v ov iv u Q I ro ri rv h
 obtain⟨p,xs,k,j,rfl,rfl,hp,hj,q⟩:=h
 cases ro
 obtain⟨t,rfl⟩:=ri
 obtain⟨its,n,r,ho,hz⟩:=I.lst hp
 obtain⟨h1,h2,h3,h4⟩:=vH hj
 have hl:=r.length
 have hn:=vB
 have I':Inv X pins σ (upd H p (.lst (xs.set j v))) { s with heap:=s.heap.update p (Ü (·.setIfInBounds j u)) } :=
  I.QF hp ho (zE its n j u) (r.set rv j) (by rw[List.length_set];exact hz) s.toks
 by_cases h0:0<=k
 ·have hk:k.toNat=j:=by
   rw[seqIndex_of h0 h4] at h1
   exact á h1
  exact W.ki_setAt ho h0 (by omega) (by rw[Ï,←hl];exact h4) (by rw[hk];exact⟨_,I',q⟩)
 ·have hk:(k+(its.toArray.size:Int)).toNat=j:=by
   rw[seqIndex_neg (by omega) h3] at h1
   rw[Ï,←hl]
   exact á h1
  exact W.ki_setBack ho (by omega) (by rw[Ï,←hl];exact h3) (by omega) (by rw[hk];exact⟨_,I',q⟩)
def uH(lo hi:Option Int)(n:Nat):(sliceBounds lo hi none n).1=((HT.sIx n 0 lo:Nat):Int)/\(sliceBounds lo hi none n).2.1=((HT.sIx n n hi:Nat):Int)/\(sliceBounds lo hi none n).2.2=1:=by
 refine⟨?_,?_,rfl⟩
 ·cases lo with
  |none=>simp[sliceBounds,HT.sIx]
  |some i =>
   simp only[sliceBounds,HT.sIx,Option.getD_none,show(1:Int) > 0 by decide,if_true]
   by_cases h:i<0
   ·simp only[h,if_true] <;> omega
   ·simp only[h,if_false] <;> omega
 ·cases hi with
  |none=>simp[sliceBounds,HT.sIx]
  |some i =>
   simp only[sliceBounds,HT.sIx,Option.getD_none,show(1:Int) > 0 by decide,if_true]
   by_cases h:i<0
   ·simp only[h,if_true] <;> omega
   ·simp only[h,if_false] <;> omega
def rG(its:List Value)(lo hi:Option Int):slicePick its.toArray lo hi none=((its.drop (HT.sIx its.length 0 lo)).take (HT.sIx its.length its.length hi - HT.sIx its.length 0 lo)).toArray:=by
 obtain⟨h1,h2,h3⟩:=uH lo hi its.toArray.size
 unfold slicePick
 rw[h1,h2,h3]
 simp only[sliceRange_one,pick_run,Ï] <;> rfl
def Vc(K:Ô):V->Option Int->Option Int->Hp->VK->Prop:=λx lo hi H Q=>∃a xs,x=.ref a/\SqL K H a xs/\∀p,H p=none->Q (.ref p) (upd H p (.lst (q9 xs lo hi)))
def Bc:SlR X (Vc X.K):=by
 intro pins s σ H x v vl vu lo hi sl Q I rx hs pl pu h
 obtain⟨a,xs,rfl,hx,q⟩:=h
 cases rx
 obtain⟨its,r,ht,hz⟩:=I.list hx
 have hlen:=r.length
 refine⟨"list",_,slot_list_getitem.lookup,ht.isList.typeIs,?_⟩
 refine wpAny_getItem_list_slice ht.isList hs pl pu .none (by simp) ?_ (by rw[Ï] <;> omega)
 rw[rG,←hlen]
 refine⟨.ref s.heap.objs.size,_,I.laid (t':=s.toks) (o:=.lst (q9 xs lo hi)) (λb ob q=>Ë _ q) (Ç _) ?_,rfl,q _ (I.hok.fresh (Ç _))⟩
 exact⟨é (oJ xs lo hi) hz,_,0,(r.drop (HT.sIx xs.length 0 lo)).take (HT.sIx xs.length xs.length hi - HT.sIx xs.length 0 lo),Þ _ rfl⟩
def dG:bM X (.builtin "len") (λxs H Q=>∃p ys,xs=[.ref p]/\(SqL X.K H p ys\/SqT X.K H p ys)/\Q (.int ys.length) H):=by
 intro pins s σ H xs us Q I r h
 obtain⟨p,ys,rfl,hq,q⟩:=h
 obtain⟨u,rfl,rx⟩:=vals1 r
 cases rx
 have hn:=vB
 rcases hq with hq|hq
 ·obtain⟨its,r',pl,hz⟩:=I.list hq
  have hlen:=r'.length
  exact Calls.call_len_list pl.isList (by simp only[Ï] <;> omega) ⟨.int ys.length,H,I.tok _,⟨s.toks+1,by rw[Ï,hlen]⟩,q⟩
 ·obtain⟨its,r',pl,hz⟩:=I.tuple hq
  have hlen:=r'.length
  exact len_tuple pl (by simp only[Ï] <;> omega) ⟨.int ys.length,H,I.tok _,⟨s.toks+1,by rw[Ï,hlen]⟩,q⟩
def vR:bM X (.type "list") (λxs H Q=>∃p ys,xs=[.ref p]/\(SqL X.K H p ys\/SqT X.K H p ys)/\∀l,H l=none->Q (.ref l) (upd H l (.lst ys))):=by
 intro pins s σ H xs us Q I r h
 obtain⟨p,ys,rfl,hq,q⟩:=h
 obtain⟨u,rfl,rx⟩:=vals1 r
 cases rx
 have fin:∀(its:List Value),Vals ys its->ys.length<=sizeLine->∀(h':Heap) (c':Nat),(∀b o',s.heap.get? b=some o'->h'.get? b=some o') ->
   h'.get? s.heap.objs.size=some { cls:=.type "list",dict:=none,data:=.seq its.toArray c',slots:=#[] }->EP X pins σ Q (.ref s.heap.objs.size) { s with heap:=h' }:=λits r' hz h' c' kp e =>
  ⟨.ref s.heap.objs.size,_,I.laid (t':=s.toks) kp (Ç _) (show bx X.prog X.w _ h' _ (.lst ys) from⟨hz,its,c',r',e⟩),rfl,q _ (I.hok.fresh (Ç _))⟩
 rcases hq with hq|hq
 ·obtain⟨its,r',pl,hz⟩:=I.list hq
  have hlen:=r'.length
  obtain⟨o,ho,hc,n,hd⟩:=pl.isList
  exact call_list_seq p (.inl rfl) ho hc hd (λh' c' kp e=>fin its r' hz h' c' kp e) (by simp only[Ï] <;> omega)
 ·obtain⟨its,r',pl,hz⟩:=I.tuple hq
  have hlen:=r'.length
  obtain⟨o,ho,hc,n,hd⟩:=pl
  exact call_list_seq p (.inr rfl) ho hc hd (λh' c' kp e=>fin its r' hz h' c' kp e) (by simp only[Ï] <;> omega)
def rZ:bM X (.type "tuple") (λxs H Q=>∃p ys,xs=[.ref p]/\((SqL X.K H p ys/\∀l,H l=none->Q (.ref l) (upd H l (.tup ys)))\/(SqT X.K H p ys/\Q (.ref p) H))):=by
 intro pins s σ H xs us Q I r h
 obtain⟨p,ys,rfl,h⟩:=h
 obtain⟨u,rfl,rx⟩:=vals1 r
 cases rx
 rcases h with ⟨hq,q⟩|⟨hq,q⟩
 ·obtain⟨its,r',pl,hz⟩:=I.list hq
  have hlen:=r'.length
  refine call_tuple_list pl.isList (λh' kp=>?_) (by simp only[Ï] <;> omega)
  have I1:Inv X pins σ H { s with heap:=h' }:=I.kept (t':=s.toks) kp
  have I2:Inv X pins σ (upd H h'.objs.size (.tup ys)) { s with heap:=h'.push { cls:=.type "tuple",data:=.seq its.toArray } } :=
   I1.laid (t':=s.toks) (λb o e=>Ë _ e) (Ç _) (show bx X.prog X.w _ _ _ (.tup ys) from⟨hz,its,r',IsTup.new _ _⟩)
  exact⟨.ref h'.objs.size,_,I2,rfl,q _ (I1.hok.fresh (Ç _))⟩
 ·obtain⟨its,r',pl,hz⟩:=I.tuple hq
  exact call_tuple_same pl ⟨.ref p,H,I,rfl,q⟩
def tyV(K:Ô)(T:String)(x:V)(H:Hp):Prop:=match x with
 |.str _=>T="str"
 |.int _=>T="int"
 |.ref p=>(T="list"/\∃xs,SqL K H p xs)\/(T="tuple"/\∃o,K.lookup p=some o/\o.cls=.type "tuple"/\o.dict=none) ∨
   (T="dict"/\((∃kvs,H p=some (.dK kvs))\/∃kvs,H p=some (.dT kvs)))\/(T="set"/\∃S n,H p=some (.set S n))
 |_=>False
def Ol{pins:List (Addr×Obj)}{σ:St}{H:Hp}{s:Shared}{T:String}{x:V}{v:Value}(I:Inv X pins σ H s)(r:RelV x v)(ty:tyV X.K T x H) :
  s.TypeIs v T/\∀a,v=.ref a->∃ob,s.heap.get? a=some ob/\ob.dict=none:=by
 cases x with
 |str z =>
  obtain⟨t,rfl⟩:=r
  cases (show T="str" from ty)
  exact⟨typeIs_str s z t,λ_ e=>nomatch e⟩
 |int i =>
  obtain⟨t,rfl⟩:=r
  cases (show T="int" from ty)
  exact⟨typeIs_int s i t,λ_ e=>nomatch e⟩
 |ref p =>
  cases r
  rcases ty with ⟨rfl,xs,hq⟩|⟨rfl,o,hk,hc,hd⟩|⟨rfl,hk⟩|⟨rfl,S,n,hk⟩
  ·obtain⟨its,_,pl,_⟩:=I.list hq
   refine⟨pl.isList.typeIs,λa e=>?_⟩
   cases e
   obtain⟨o,n,e,c,hd,_⟩:=pl
   exact⟨o,e,hd⟩
  ·refine⟨⟨o,I.kIn p o hk,hc⟩,λa e=>?_⟩
   cases e
   exact⟨o,I.kIn _ o hk,hd⟩
  ·have z:∃o,s.heap.get? p=some o/\o.ExactDict:=by
    rcases hk with ⟨kvs,hk⟩|⟨kvs,hk⟩
    ·obtain⟨_,_,_,_,o,_,_,e,ex,_⟩:=I.hok p _ hk
     exact⟨o,e,ex⟩
    ·obtain⟨_,_,_,_,o,_,_,e,ex,_⟩:=I.hok p _ hk
     exact⟨o,e,ex⟩
   obtain⟨o,e,ex⟩:=z
   refine⟨⟨o,e,ex.1⟩,λa e2=>?_⟩
   cases e2
   exact⟨o,e,ex.2.1⟩
  ·obtain⟨o,_,_,_,e,ex,_⟩:=I.hok p _ hk
   refine⟨⟨o,e,ex.1⟩,λa e2=>?_⟩
   cases e2
   exact⟨o,e,ex.2.1⟩
 |_=>exact Ġ ty
def tBM(K:Ô)(T:String)(r:V->List V->Hp->VK->Prop)(to:TE)(t:TA):TE:=λσ H Q=>to σ H λx H1=>tyV K T x H1/\t σ H1 λxs H2=>r x xs H2 Q
variable {o e:Expr}{es:List Expr}{to:TE}{t:TA}{name:Str}{apos cpos:Pos}{T id:String}{r:V->List V->Hp->VK->Prop}
def BK(pa:PlainAttrs T)(slot:Slot T name id)(hty:typeOf (.builtin id)=pure (.type "method_descriptor"))(hm:MtR X id r)(ho:PE X o to)(ha:PA X (e::es) t)(hbase:attributeBase o name X.env (eval o X.env)=eval o X.env:=by rfl)(hfew:((backTo cpos (starEach (e::es) X.env)).all (λx=>!x.1)&&(backToKw cpos (keywordEach [] X.env)).all (λx=>x.1.isSome)
  &&decide ((e::es).length+([]:List Keyword).length+(if ([]:List Keyword).isEmpty then 0 else 1)<30))=true:=by rfl)(hline:(apos.endLine == cpos.line)=true:=by rfl)(hs:starEach (e::es) X.env=(false,eval e X.env)::starEach es X.env:=by rfl)(hplain:(backTo cpos (starEach es X.env)).any (·.1)=false:=by rfl) :
  PE X (.Call (.Attribute o name apos) (e::es) [] cpos) (tBM X.K T r to t):=by
 intro pins s σ H Q I h
 refine wpAny_Call_method_late hbase hfew hline rfl (thn (ho pins s σ H _ I h) λv s1 ⟨x,H1,I1,r1,ty,q1⟩=>?_)
 obtain⟨h1,h2⟩:=Ol I1 r1 ty
 refine⟨T,id,pa,slot,hty,h1,h2,?_⟩
 have hA:=ha cpos pins s1 σ H1 _ I1 q1
 rw[hs] at hA ⊢
 refine Calls.callWith_builtin (by show(false || (backTo cpos (starEach es X.env)).any (·.1))=false;rw[hplain] <;> rfl) (Calls.evalArgs_plain ?_)
 exact thn hA λus s2 ⟨vs,H2,I2,r2,q2⟩=>hm pins s2 σ H2 x vs v us Q I2 r1 r2 q2
/- xs.append(e),list.index on a module's tuple .. are MtR facts of 06m -/
end
def MtM(X:Cx)(id:String)(r:V->List V->Hp->VK->Prop):Prop :=
 ∀(pins:List (Addr×Obj)) (s:Shared) (σ:St) (H:Hp) (x:V) (xs:List V) (v:Value) (us:List Value) (Q:VK),Inv X pins σ H s->RelV x v->Vals xs us->r x xs H Q ->
  wpAny (model X.prog X.w) X.A (call (.builtin id) (v::us)) (EP X pins σ Q) X.xe s
def Vals.one:∀{x:V}{us:List Value},Vals [x] us->∃u,us=[u]/\RelV x u
 |_,_,.cons r .nil=>⟨_,rfl,r⟩
def Vals.eraseIdx:∀{xs:List V}{us:List Value} (i:Nat),Vals xs us->Vals (xs.eraseIdx i) (us.eraseIdx i)
 |_,_,_,.nil=>.nil
 |_,_,0,.cons _ t=>t
 |_,_,i+1,.cons r t=>.cons r (Vals.eraseIdx i t)
def Vals.rep{xs:List V}{us:List Value}(h:Vals xs us):∀k:Nat,Vals (Í k xs).flatten (Í k us).flatten
 |0=>.nil
 |k+1=>by
  rw[Ń,Ń,ŧ,ŧ]
  exact Vals.append h (Vals.rep h k)
def tL{α:Type}:∀(l:List α) (i:Nat),(l.eraseIdx i).length<=l.length
 |[],_=>Ç _
 |_::_,0=>Ķ _
 |_::r,i+1=>Nat.succ_le_succ (tL r i)
def foldl_rep(its:List Value):∀(k:Nat) (acc:List Value),
  List.foldl (λx1 x2=>x1++x2) acc.toArray (Í k its.toArray)=(acc++(Í k its).flatten).toArray
 |0,acc=>by simp
 |k+1,acc=>by
  have e:acc.toArray++its.toArray=(acc++its).toArray:=by simp
  have e2:(acc++its)++(Í k its).flatten=acc++(Í (k+1) its).flatten:=by
   rw[Ń,ŧ,List.append_assoc]
  rw[←e2,←foldl_rep its k (acc++its),←e,Ń,List.foldl_cons]
section
variable {X:Cx}{pins:List (Addr×Obj)}{σ:St}{H:Hp}{s:Shared}{l b:Addr}{xs ys zs:List V}
def Inv.QG{its its':List Value}{n:Nat}{f:Array Value->Array Value}{t':Nat}(I:Inv X pins σ H s)(hH:H l=some (.lst xs))(e:s.heap.get? l=some { cls:=.type "list",data:=.seq its.toArray n })(hf:f its.toArray=its'.toArray)(hv:Vals ys its')(hz:ys.length<=sizeLine) :
  Inv X pins σ (upd H l (.lst ys)) { s with heap:=s.heap.update l (Ü f),toks:=t' }:=by
 have q:=PySem.IsL.update e f
 rw[hf] at q
 refine I.write (x:=l) (e:=l) (by rw[hH];exact trivial) (.inl rfl) (λb' u hb hu=>(Ĳ s.heap (Ü f) (Ĩ hb)).trans hu) ⟨_,q⟩ ?_
 exact⟨hz,its',_,hv,q⟩
def Inv.Tq{its:List Value}{t':Nat}(I:Inv X pins σ H s)(hv:Vals ys its)(hz:ys.length<=sizeLine) :
  Inv X pins σ (upd H s.heap.objs.size (.lst ys)) { s with heap:=s.heap.push { cls:=.type "list",data:=.seq its.toArray },toks:=t' } :=
 I.laid (λ_ _ q=>Ë _ q) (Ç _) ⟨hz,its,0,hv,Þ _ rfl⟩
def Inv.fresh(I:Inv X pins σ H s):H s.heap.objs.size=none:=I.hok.fresh (Ç _)
def Inv.zG(I:Inv X pins σ H s)(hH:H l=some (.lst xs)):xs.length<=sizeLine/\∃(its:List Value) (n:Nat),Vals xs its/\xs.length=its.length/\s.heap.get? l=some { cls:=.type "list",data:=.seq its.toArray n }:=by
 obtain⟨z,its,n,r,e⟩:=I.hok l _ hH
 exact⟨z,its,n,r,r.length,e⟩
def xq{n:Nat}(h:n<=sizeLine):ũ n=false:=by
 unfold ũ
 exact decide_eq_false (by omega)
end
section
variable {X:Cx}
def uM:V->List V->Hp->VK->Prop:=λx vs H Q=>∃l xs y,x=.ref l/\vs=[y]/\H l=some (.lst xs)/\xs.length<sizeLine/\Q .non (upd H l (.lst (xs++[y])))
def tE:MtM X "list.append" uM:=by
 intro pins s σ H x vs v us Q I rx rv h
 obtain⟨l,xs,y,rfl,rfl,hH,hz,q⟩:=h
 cases rx
 obtain⟨u,rfl,ru⟩:=rv.one
 obtain⟨z,its,n,r,hl,e⟩:=I.zG hH
 refine call_meets F.slot_list_append ⟨_,e,rfl⟩ F.entry_list_append (F.args_list_append_2 _ _) (PySem.list_append l its.toArray n u (by rw[Ï];omega)) ⟨e,?_⟩
 refine⟨.non,_,I.QG (its':=its++[u]) hH e (by simp) (r.append (.cons ru .nil)) ?_,rfl,q⟩
 rw[Î,ň]
 omega
def Br:V->List V->Hp->VK->Prop:=λx vs H Q=>∃l b xs zs,x=.ref l/\vs=[.ref b]/\H l=some (.lst xs)/\H b=some (.lst zs)/\xs.length+zs.length<=sizeLine/\Q .non (upd H l (.lst (xs++zs)))
def Eb:MtM X "list.extend" Br:=by
 intro pins s σ H x vs v us Q I rx rv h
 obtain⟨l,b,xs,zs,rfl,rfl,hH,hB,hz,q⟩:=h
 cases rx
 obtain⟨u,rfl,ru⟩:=rv.one
 cases ru
 obtain⟨z,its,n,r,hl,e⟩:=I.zG hH
 obtain⟨z2,its2,n2,r2,hl2,e2⟩:=I.zG hB
 have hsz:its.toArray.size+its2.toArray.size<=sizeLine:=by rw[Ï,Ï];omega
 have hlong:¬(!its.toArray.isEmpty&&ũ (its.toArray.size+its2.toArray.size))=true:=by
  rw[xq hsz,ļ]
  exact Ì
 refine call_meets F.slot_list_extend ⟨_,e,rfl⟩ F.entry_list_extend (F.args_list_extend_2 _ _)
  (AutoSeq1.list_extend_list_list_0 l its.toArray n b its2.toArray n2 hlong (by rw[Ï];omega) (by omega)) ⟨e,e2,?_⟩
 refine⟨.non,_,I.QG (its':=its++its2) hH e (by simp) (r.append r2) ?_,rfl,q⟩
 rw[Î]
 omega
def Pa:V->List V->Hp->VK->Prop:=λx vs H Q=>∃l xs i k y,x=.ref l/\vs=[.int i]/\H l=some (.lst xs)/\-(2 ^ 63)<=i/\i<2 ^ 63/\seqIndex? i xs.length=some k/\xs[k]?=some y/\Q y (upd H l (.lst (xs.eraseIdx k)))
def HD:MtM X "list.pop" Pa:=by
 intro pins s σ H x vs v us Q I rx rv h
 obtain⟨l,xs,i,k,y,rfl,rfl,hH,h1,h2,hk,hy,q⟩:=h
 cases rx
 obtain⟨u,rfl,ru⟩:=rv.one
 obtain⟨t,rfl⟩:=ru
 obtain⟨z,its,n,r,hl,e⟩:=I.zG hH
 obtain⟨w,hw,rw'⟩:=r.get hy
 refine call_meets F.slot_list_pop ⟨_,e,rfl⟩ F.entry_list_pop (F.args_list_pop_2 _ _)
  (MeetsSeq.list_pop_at l its.toArray n i t k w (fitsIndex_both h1 h2) (by rw[Ï,←hl];exact hk) (by rw[←Array.getElem?_toList];exact hw) (by rw[Ï];omega)) ⟨e,?_⟩
 refine⟨y,_,I.QG (its':=its.eraseIdx k) hH e ?_ (r.eraseIdx k) ?_,rw',q⟩
 ·show its.toArray.eraseIdxIfInBounds k=(its.eraseIdx k).toArray
  rw[List.eraseIdxIfInBounds_toArray]
 ·have:=tL xs k
  omega
def SN:R2:=λx y H Q=>∃l b xs zs,x=.ref l/\y=.ref b/\H l=some (.lst xs)/\H b=some (.lst zs)/\xs.length+zs.length<=sizeLine/\∀p,H p=none->Q (.ref p) (upd H p (.lst (xs++zs)))
def zp:OpR X (binaryOp .Add) SN:=by
 intro pins s σ H x y v u Q I rx ry h
 obtain⟨l,b,xs,zs,rfl,rfl,hH,hB,hz,q⟩:=h
 cases rx
 cases ry
 obtain⟨z,its,n,r,hl,e⟩:=I.zG hH
 obtain⟨z2,its2,n2,r2,hl2,e2⟩:=I.zG hB
 refine PySem.P.add_list e e2 ?_ (by rw[Ï,Ï];omega)
 have ea:its.toArray++its2.toArray=(its++its2).toArray:=by simp
 rw[ea]
 exact⟨.ref _,_,I.Tq (t':=s.toks) (r.append r2) (by rw[Î];omega),rfl,q _ I.fresh⟩
def Sx:R2:=λx y H Q=>∃l k xs,x=.ref l/\y=.int k/\H l=some (.lst xs)/\-(2 ^ 63)<=k/\k<2 ^ 63/\xs.length * k.toNat<=sizeLine /\
 ∀p,H p=none->Q (.ref p) (upd H p (.lst (Í k.toNat xs).flatten))
def len_rep{α:Type}(xs:List α)(k:Nat):(Í k xs).flatten.length=k * xs.length:=by
 induction k with
 |zero=>simp
 |succ k ih=>rw[Ń,ŧ,Î,ih,Nat.succ_mul,Nat.add_comm]
def G6:OpR X (binaryOp .Mult) Sx:=by
 intro pins s σ H x y v u Q I rx ry h
 obtain⟨l,k,xs,rfl,rfl,hH,h1,h2,hz,q⟩:=h
 cases rx
 obtain⟨t,rfl⟩:=ry
 obtain⟨z,its,n,r,hl,e⟩:=I.zG hH
 have hlen:its.toArray.size * k.toNat<=sizeLine:=by rw[Ï,←hl];exact hz
 have hcap:¬its.toArray.size * k.toNat > (2 ^ 63 - 1) / 8:=by
  have:(sizeLine:Nat)<=(2 ^ 63 - 1) / 8:=by decide
  omega
 have hfit:¬(!Builtin.List.listFitsIndex k)=true:=by
  rw[fitsIndex_both h1 h2]
  exact Ì
 have hlong:¬ũ (its.toArray.size * k.toNat)=true:=by
  rw[xq hlen]
  exact Ì
 have hnew:List.foldl (λx1 x2=>x1++x2) #[] (Í (if its.toArray.isEmpty=true then 0 else k.toNat) its.toArray)=(Í k.toNat its).flatten.toArray:=by
  have f0:∀m:Nat,List.foldl (λx1 x2=>x1++x2) #[] (Í m its.toArray)=(Í m its).flatten.toArray:=λm=>by
   have:=foldl_rep its m []
   rw[List.nil_append] at this
   exact this
  rw[f0]
  cases its with
  |nil=>simp
  |cons a r'=>rw[if_neg (by simp)]
 refine wpAny_binaryOp_repeat_ref (T:="list") (U:="int") (by decide) ⟨_,e,rfl⟩ (λs'=>typeIs_int s' k t) noFill_list_mul F.fills_int_mul F.slot_int_rmul repeat_list F.slot_int_index.lookup
  (call_meets F.slot_int_rmul (typeIs_int s k t) F.entry_int_rmul (F.args_int_rmul_2 _ _) (int___rmul___int_list k t l its.toArray n)
   ⟨e,rfl,⟨_,e,rfl⟩,call_meets F.slot_list_mul ⟨_,e,rfl⟩ F.entry_list_mul (F.args_list_mul_2 _ _) (AutoListH.list___mul___list_int_3 l its.toArray n k t hfit hcap hlong) ⟨e,?_⟩⟩)
 rw[hnew]
 exact⟨.ref _,_,I.Tq (t':=s.toks) (r.rep k.toNat) (by rw[len_rep,Nat.mul_comm];exact hz),rfl,q _ I.fresh⟩
end
section
variable {prog:Program}{w:World}{A:Around}{E:Value->Shared->Prop}{s:Shared}
end
section
variable {X:Cx}
end
end L2
namespace Att
open PySem PySem.W PySem.Calls PyProof.Rows
def oX{P:Params}{h:Heap}:∀(ns:List Int) (vs:List Value),WellAll P h vs (ns.map WData.int)->IntsAre vs ns:=by
 intro ns
 induction ns with
 |nil =>
  intro vs w
  rw[List.map_nil] at w
  cases w
  exact .nil
 |cons n ns ih =>
  intro vs w
  rw[û] at w
  cases w with
  |cons a b =>
   cases a
   exact .cons _ _ (ih _ b)
def Dq{l:OpenLaw}{n:Nat}(hn:l.most=some n){P:Params}{h:Heap}{args:List WData}{vals:List Value}(hpre:l.row.toRowW.claim.pre args=true)(hwl:WellAll P h vals args) :
  ∃a vs ns,vals=[ħ a]/\args=[WData.list (ns.map WData.int)]/\h.get? a=some { cls:=.type "list",data:=.seq vs.toArray }/\IntsAre vs ns/\ns.length<=n:=by
 have hsh:WShape.hasAll [] args [.list .int]=true:=(pre_splitW hpre).1
 have hc:l.pre.holds [] { args:=args }=true:=(pre_splitW hpre).2
 obtain⟨d,r,rfl,h1,h2⟩:=hasAllW_cons hsh
 obtain rfl:=hasAllW_nil h2
 obtain⟨xs,rfl,h3⟩:=hasW_list h1
 obtain⟨ns,rfl⟩:=items_int h3
 have hlen:ns.length<=n:=by
  unfold OpenLaw.pre at hc
  have h4:(WTm.not (.lt (.lit (.int (n:Int))) (.len (.arg 0)))).holds [] { args:=[.list (ns.map .int)] }=true:=by
   have h4:=(holds_andW hc).1
   rw[hn] at h4
   exact h4
  have h5:=condW_of h4 (w_not (w_lt w_lit (w_len_list (w_arg rfl))))
  rw[Â] at h5
  refine Nat.le_of_not_lt λq=>?_
  have q':(n:Int)<((ns.length:Nat):Int):=by omega
  first
   |(rw[decide_eq_true q'] at h5;exact absurd h5 (by decide))
   |(simp at h5;omega)
 cases hwl with
 |cons w1 w2 =>
  cases w2
  cases w1 with
  |list ho hall=>exact⟨_,_,ns,rfl,rfl,ho,oX ns _ hall,hlen⟩
def Ds(l:OpenLaw)(args:List WData):l.row.toRowW.claim.post args (.bool true) args=true :=
 postW_of (r:=l.row.toRowW) (X:=(true == true))
  (show WShape.has [] (.bool true) .bool=true by first|rfl|decide|simp[WShape.has,WShape.arms,WShape.armsAll])
  (show(WTm.eq .res (.lit (.bool true))).value [] { args:=args,res:=some (.bool true),after:=args }=some (.bool (true == true)) from w_eq_bool (w_res rfl) w_lit) rfl
def yc{l:OpenLaw}{n:Nat}{q:Program}{loose:List Str}{XP:(Str->Option Value)->Heap->Prop}{YP:World->Heap->Prop}{d:DefRec}(hn:l.most=some n)(hdf:d.params.defaults=[])(call:∀(w:World) (s₀ s₁:Shared) (mg mb:Str->Option Value) (fa:Addr) (o:Obj) (pm cd doc:Value) (a:Addr) (vs:List Value) (ns:List Int),
   Ground q loose [] XP w s₀ mg mb s₁.heap->YP w s₁.heap ->
   s₁.heap.get? fa=some o->o.data=.func (docDef d.name d.params d.body d.scope pm cd doc)->s₁.heap.CodeRec cd d.name->mg d.name=some (.ref fa) ->
   s₁.heap.get? a=some { cls:=.type "list",data:=.seq vs.toArray }->IntsAre vs ns->ns.length<=n->s₁.gens=#[] ->
   codeAny (model l.prog w) callerA (.call (.ref fa) ⟨[.ref a],[]⟩) (λr s'=>r=.ok (.ret (.bool true))/\OldK s₁.heap s'.heap/\s'.os=s₁.os/\AllBare s'.gens) s₁) :
  WalkO q loose XP YP l.row.toRowW d [] (λf vs=>PySem.call f vs):=by
 intro w s₀ s₁ mg mb G Y fa o pm cd doc dV kV ho hd hcd hD hmg hg args vals as hpre hlay hrd hwl hlo
 obtain rfl:dV=.none:=Dflts.none hD hdf
 obtain rfl:kV=.none:=Dflts.noKw hD
 obtain⟨a,vs,ns,rfl,rfl,hobj,hints,hlen⟩:=Dq hn hpre hwl
 refine enter_call (codeAny_mono (call w s₀ s₁ mg mb fa o pm cd doc a vs ns G Y ho (fd_plain hd) hcd hmg hobj hints hlen hg) λr s' hq=>?_)
 obtain⟨rfl,h2,h3,h4⟩:=hq
 exact⟨.inl ⟨.bool true,.bool true,[],rfl,λ_=>rfl,.bool true,Ds l _,λ_=>⟨List.Pairwise.nil,λ_ hm=>(nomatch hm)⟩⟩,h2,h3,h4⟩
section
variable {prog:Program}{w:World}{A:Around}{E:Value->Shared->Prop}{s:Shared}{K:Frag}
def ledger(h:Heap)(L d:Addr):List (Addr×Obj):=(ä h.objs.size).filterMap λa=>if a=L\/a=d then none else (h.get? a).map λo=>(a,o)
end
end Att
namespace L2
open PySem PySem.Spec PyProof.Rows
def su:∀{vs:List Value}{ns:List Int},IntsAre vs ns->Vals (ns.map V.int) vs
 |_,_,.nil=>.nil
 |_,_,.cons n t h=>.cons ⟨t,rfl⟩ (su h)
def fJ(s:Stmt):Arguments:=match s with
 |.FunctionDef _ a _ _ _ _ _ _ _ _=>a
 |_=>{ posonlyargs:=[],args:=[],vararg:=none,kwonlyargs:=[],kw_defaults:=[],kwarg:=none,defaults:=[] }
def cJ(s:Stmt):List Stmt:=match s with
 |.FunctionDef _ _ b _ _ _ _ _ _ _=>b
 |_=>[]
def aj(s:Stmt):Scope:=match s with
 |.FunctionDef _ _ _ _ _ _ sc _ _ _=>sc
 |_=>{ kind:=.function,names:=[],isGenerator:=false,isCoroutine:=false }
abbrev CX0:CXT:=λ_ _ _ _ _ _=>False
abbrev E0:XK:=λ_ _ _=>False
def S9{X:Cx}:Passes CX0 X E0:=λ_ _ _ _ _ _ _ h=>h.elim
structure Fun(K:Ô)(x qual:Str)(st:Stmt)(f:Addr)(fd:FuncData):Prop where
 ex:∃(oc:Value) (od:Option Addr) (kV doc pm:Value) (an:Option Addr) (cdv ct:Value) (osl:Array (Option Value)),
  fd=W.fnOf x qual (fJ st) (cJ st) (aj st) .none kV doc pm an cdv ct/\K.lookup f=some ⟨oc,od,.func fd,osl⟩/\W.codeIn K cdv qual=true
 kp:W.keepIn K (.ref f)=true
section
variable {P:Program}{w:World}{K:Ô}{mg:Str->Option Value}{base:Heap}
def Fun.ok{x qual:Str}{st:Stmt}{f:Addr}{fd:FuncData}{N ps:List Str}{k:Nat}{sp:Sp}(F:Fun K x qual st f fd)(S:FnScope N ps (aj st))(len:∀vs H Q E,sp vs H Q E->vs.length=ps.length)(hbody:∀(cdv:Value) (A:Around) (outer:List Env) (s:Shared) (H:Hp) (vs:List V) (Q:VK) (E:XK),Room k (A.deeper (envOfC qual (aj st) s.heap.objs.size f cdv))->sp vs H Q E ->
   ∃t,PSs (Ad CX0 P w K mg base N qual (aj st) f cdv A outer s H E).nox (cJ st) t/\t { nx:=λ_ H'=>Q .non H',rt:=Q } (start N vs) H):FnOk P w K mg base CX0 (k+1) f fd ps sp:=by
 obtain⟨oc,od,kV,doc,pm,an,cdv,ct,osl,rfl,lk,hcd⟩:=F.ex
 refine N7 lk hcd S len λA outer s H vs Q E hr hsp=>?_
 obtain⟨t,h,q⟩:=hbody cdv A outer s H vs Q E hr hsp
 exact⟨t,h.nox,q⟩
def Fun.binds{x qual:Str}{st:Stmt}{f:Addr}{fd:FuncData}{ps:List Str}(F:Fun K x qual st f fd)(h:∀(kV doc pm:Value) (an:Option Addr) (cdv ct:Value) (us:List Value),us.length=ps.length->bindArgs (W.fnOf x qual (fJ st) (cJ st) (aj st) .none kV doc pm an cdv ct) ⟨us,[]⟩=pure (ps.zip us):=by intro _ _ _ _ _ _ us hl;first|(obtain⟨_,rfl⟩:=Nf.len1 us hl;rfl)|(obtain⟨_,_,rfl⟩:=Nf.len2 us hl;rfl)|(obtain⟨_,_,_,rfl⟩:=Nf.Vo us hl;rfl)):Binds K fd ps []:=by
 obtain⟨oc,od,kV,doc,pm,an,cdv,ct,osl,rfl,lk,hcd⟩:=F.ex
 exact .all (h kV doc pm an cdv ct)
def Ra{x qual:Str}{st:Stmt}{f:Addr}{oc:Value}{od an:Option Addr}{osl:Array (Option Value)}{kV doc pm cdv ct:Value}(l:K.lookup f=some ⟨oc,od,.func (W.fnOf x qual (fJ st) (cJ st) (aj st) .none kV doc pm an cdv ct),osl⟩)(c:W.codeIn K cdv qual=true)(k:W.keepIn K (.ref f)=true):Fun K x qual st f (W.fnOf x qual (fJ st) (cJ st) (aj st) .none kV doc pm an cdv ct):=⟨⟨oc,od,kV,doc,pm,an,cdv,ct,osl,rfl,l,c⟩,k⟩
end
section
variable {X:Cx}
def pv(i:Nat){x:Str}{pos:Pos}(hN:X.N[i]?=some x:=by rfl)(hv:Vis X.env.scope x:=by first|exact Œ rfl|exact Or.inr (Œ rfl)|exact Or.inr (Or.inr rfl))(hd:(x == ("__debug__":Str))=false:=by decide)(hcd:(x == ("__classdict__":Str))=false:=by decide):PE X (.Name x pos) (wz i):=Pu hN hv hd hcd
end
def ak{A B:Prop}(h:B):if false=true then A else B:=by
 rw[if_neg Ì]
 exact h
def aF{A B:Prop}(h:A):if true=true then A else B:=by
 rw[if_pos rfl]
 exact h
def bH{c A B:Prop}[Decidable c](h1:c->A)(h2:¬c->B):if c then A else B:=by
 by_cases h:c
 ·rw[if_pos h]
  exact h1 h
 ·rw[if_neg h]
  exact h2 h
def Same(H H':Hp):Prop:=∀b o,H b=some o->H' b=some o
def Same.refl(H:Hp):Same H H:=λ_ _ h=>h
def Same.trans{H H1 H2:Hp}(a:Same H H1)(b:Same H1 H2):Same H H2:=λc o h=>b c o (a c o h)
structure CB where
 cl:List (Str×Addr)
 C:Addr
 s:Shared
 H:Hp
 ex:List Addr
abbrev Cx.aO(X:Cx)(own M:List Str)(scope:Scope)(c:CB):Cx where
 prog:=X.prog
 w:=X.w
 K:=X.K
 mg:=X.mg
 base:=X.base
 A:=X.A
 N:=own++M
 s₀:=c.s
 H₀:=c.H
 env:=compEnvC scope c.cl c.C X.env
 outer:=X.stack
 stack:=X.stack
 ex:=c.ex
 fn:=λx=>scope.names.lookup x == some .cell
 calm:=X.calm
 pn:=[]
 sf:=X.sf
 xe:=λ_ _=>False
abbrev Cx.comp(X:Cx)(own:List Str)(scope:Scope)(c:CB):Cx:=X.aO own X.N scope c
def cY(cells:List (Str×Addr)):List (Str×NameKind)->List (Str×Addr)->List (Str×Addr)
 |[],acc=>acc
 |(n,k)::r,acc=>if k == .free then cY cells r ((n,(cells.lookup n).getD 0)::acc) else cY cells r acc
def gP{env:Env}:∀(names:List (Str×NameKind)) (acc:List (Str×Addr)),(∀x∈names,x.2=.free->∃c,env.cells.lookup x.1=some c) ->
  (forIn names acc λ(p:Str×NameKind) (r:List (Str×Addr))=>match p with
   |(name,kind)=>if (kind == ð)=true then do let a ←cellOf env name;pure (ğ ((name,a)::r)) else pure (ğ r):Sem (List (Str×Addr)))=pure (cY env.cells names acc)
 |[],acc,_=>by simp[cY]
 |(n,k)::r,acc,h=>by
  rw[List.forIn_cons]
  by_cases hk:(k == ð)=true
  ·obtain⟨c,hc⟩:=h (n,k) Ú (by simpa using hk)
   have e:cellOf env n=pure c:=by unfold cellOf;rw[hc]
   have ih:=gP (env:=env) r ((n,c)::acc) λx hx=>h x (Ó _ hx)
   show((if (k == ð)=true then do let a ←cellOf env n;pure (ğ ((n,a)::acc)) else pure (ğ acc)) >>= _:Sem _)=_
   rw[if_pos hk,e]
   unfold cY
   rw[if_pos hk,hc]
   exact ih
  ·have ih:=gP (env:=env) r acc λx hx=>h x (Ó _ hx)
   show((if (k == ð)=true then do let a ←cellOf env n;pure (ğ ((n,a)::acc)) else pure (ğ acc)) >>= _:Sem _)=_
   rw[if_neg hk]
   unfold cY
   rw[if_neg hk]
   exact ih
def Ag{scope:Scope}{env:Env}(h:∀x∈scope.names,x.2=.free->∃c,env.cells.lookup x.1=some c):closureFor scope env=pure (cY env.cells scope.names []):=by
 have e:=gP (env:=env) scope.names [] h
 unfold closureFor
 show(forIn scope.names [] _ >>= λcs=>pure cs:Sem _)=_
 have e2:(forIn scope.names ([]:List (Str×Addr)) λ(p:Str×NameKind) (r:List (Str×Addr))=>match p with
   |(name,kind)=>if (kind == ð)=true then do let a ←cellOf env name;pure (ğ ((name,a)::r)) else pure (ğ r):Sem (List (Str×Addr)))=pure (cY env.cells scope.names []):=e
 rw[e2]
 rfl
def mJ{cells:List (Str×Addr)}{x:Str}{c:Addr}:∀{names:List (Str×NameKind)}{acc:List (Str×Addr)},(cY cells names acc).lookup x=some c->acc.lookup x=some c\/((x,ð)∈names/\c=(cells.lookup x).getD 0)
 |[],acc,h=>.inl h
 |(n,k)::r,acc,h=>by
  unfold cY at h
  by_cases hk:(k == ð)=true
  ·rw[if_pos hk] at h
   have hk':k=.free:=by simpa using hk
   rcases mJ h with q|⟨q1,q2⟩
   ·rw[þ] at q
    cases hx:x == n with
    |true =>
     rw[hx] at q
     have e:x=n:=by simpa using hx
     subst e hk'
     exact .inr ⟨Ú,(á q).symm⟩
    |false=>rw[hx] at q;exact .inl q
   ·exact .inr ⟨Ó _ q1,q2⟩
  ·rw[if_neg hk] at h
   rcases mJ h with q|⟨q1,q2⟩
   ·exact .inl q
   ·exact .inr ⟨Ó _ q1,q2⟩
def rB{cells:List (Str×Addr)}{x:Str}:∀{names:List (Str×NameKind)}{acc:List (Str×Addr)},(acc.lookup x).isSome=true->((cY cells names acc).lookup x).isSome=true
 |[],_,h=>h
 |(n,k)::r,acc,h=>by
  unfold cY
  split
  ·refine rB ?_
   rw[þ]
   cases hx:x == n <;> simp[h]
  ·exact rB h
def jo{cells:List (Str×Addr)}{x:Str}:∀{names:List (Str×NameKind)}{acc:List (Str×Addr)},(x,ð)∈names->((cY cells names acc).lookup x).isSome=true
 |(n,k)::r,acc,h=>by
  unfold cY
  rcases è.mp h with e|h
  ·cases e
   rw[if_pos (by rfl)]
   exact rB (by simp[þ])
  ·split
   ·exact jo h
   ·exact jo h
def eX(env:Env)(scope:Scope)(N:List Str):Bool :=
 (scope.kind == .function)&&scope.names.all λy=>match y.2 with
  |.local=>!(N.contains y.1)&&(scope.names.lookup y.1 == some .local)
  |.cell=>!(N.contains y.1)&&(scope.names.lookup y.1 == some .cell)
  |.free=>(scope.names.lookup y.1 == some .free)&&(env.kindOf y.1 == some .cell || env.kindOf y.1 == some .free)
  |_=>true
def cV{env:Env}:∀{names:List (Str×NameKind)}{x:Str}{q:NameKind},(names.map λ(n,k)=>if (k == ð&&env.scope.kind == .function&&env.kindOf n == some .cell) then (n,ā) else (n,k)).lookup x=some q ->
  ∃k,(x,k)∈names/\names.lookup x=some k/\(q=k\/(q=.cell/\k=.free))
 |[],_,_,h=>by simp at h
 |(n,k)::r,x,q,h=>by
  have ih:=@cV env r x q
  have h':List.lookup x ((if (k == ð&&env.scope.kind == .function&&env.kindOf n == some .cell)=true then (n,ā) else (n,k))::(r.map λ(n,k)=>if (k == ð&&env.scope.kind == .function&&env.kindOf n == some .cell) then (n,ā) else (n,k)))=some q:=h
  by_cases hc:(k == ð&&env.scope.kind == .function&&env.kindOf n == some .cell)=true
  ·rw[if_pos hc,þ] at h'
   cases hx:x == n with
   |true =>
    rw[hx] at h'
    have e:x=n:=by simpa using hx
    subst e
    have hk:k=.free:=by simp at hc;exact hc.1.1
    exact⟨k,Ú,by simp[þ],.inr ⟨(á h').symm,hk⟩⟩
   |false =>
    rw[hx] at h'
    obtain⟨k',h1,h2,h3⟩:=ih h'
    exact⟨k',Ó _ h1,by rw[þ,hx];exact h2,h3⟩
  ·rw[if_neg hc,þ] at h'
   cases hx:x == n with
   |true =>
    rw[hx] at h'
    have e:x=n:=by simpa using hx
    subst e
    exact⟨k,Ú,by simp[þ],.inl (á h').symm⟩
   |false =>
    rw[hx] at h'
    obtain⟨k',h1,h2,h3⟩:=ih h'
    exact⟨k',Ó _ h1,by rw[þ,hx];exact h2,h3⟩
def HOk.track{P:Program}{w:World}{H:Hp}{h:Heap}{a:Addr}{o:HO}(x:HOk P w H h)(hn:H a=none)(new:bx P w (upd H a o) h a o):HOk P w (upd H a o) h:=λb u e=>by
 by_cases hb:b=a
 ·subst hb;rw[aB] at e;cases e;exact new
 ·rw[ao hb] at e
  exact(x b u e).stay (λc v _ q=>q) (λc q=>by rw[ao (aK q hn)];exact q) λc xs q=>by rw[ao (aK q hn)];exact q
def Et{prog:Program}{w:World}{A:Around}{s:Shared}{elt target iter:Expr}{ifs:List Expr}{scope:Scope}{pos:Pos}{it acc:Value}{env:Env}{R:Result->Shared->Prop}(I:Nat->Shared->Prop)(turn:∀n s,I n s->wpAny (model prog w) A (pyNext it) (λr s₁=>match r with
   |none=>R (.ok .next) s₁
   |some v=>wpAny (model prog w) A (letOwnedTupleGo target it v) (λ_ s₀=>wpAny (model prog w) A (assign target env v) (λ_ s₂ =>
     wpAny (model prog w) A (forIn ifs true λc r=>if r=true then do let ok ←isTrue c env (eval c env);pure (ğ ok) else pure (ğ r)) (λok s₃ =>
      if ok=true then wpAny (model prog w) A (eval elt env) (λx s₄ =>
       wpAny (model prog w) A (call (.builtin "list.append") [acc,x]) (λ_ s₅=>∃m,m<n/\I m s₅) (λ_ _=>False) s₄) (λ_ _=>False) s₃
      else ∃m,m<n/\I m s₃) (λ_ _=>False) s₂) (λ_ _=>False) s₀) (λ_ _=>False) s₁) (λ_ _=>False) s)(n:Nat)(h:I n s):codeAny (model prog w) A (.compLoop (.ListComp elt [⟨target,iter,ifs,0⟩] scope pos) 0 it acc env) R s:=by
 refine codeAny_loop rfl I (λn s hI=>?_) n h
 show wpAny _ A ((compTurn (.ListComp elt [⟨target,iter,ifs,0⟩] scope pos) 0 it acc env).onRaise (λx=>do noteFrame x env;theTreesLotGoes x)) _ _ s
 refine wpAny_noted ?_
 rw[compTurn_list]
 refine Æ (wpAny_standAt (Æ (Ō (turn n s hI) (λr s₁ h₁=>?_) λ_ _ h'=>h'.elim)))
 cases r with
 |none=>exact Ø h₁
 |some v =>
  refine Æ (Ō h₁ (λ_ s₀ h₀'=>?_) λ_ _ h'=>h'.elim)
  refine Æ (Ō h₀' (λ_ s₂ h₂=>Æ (Ō h₂ (λok s₃ h₃=>?_) λ_ _ h'=>h'.elim)) λ_ _ h'=>h'.elim)
  cases ok with
  |false=>exact Ø ⟨rfl,h₃⟩
  |true =>
   exact Æ (Æ (Ō h₃ (λx s₄ h₄=>Æ (Ō h₄ (λ_ s₅ h₅=>Ø (Ø ⟨rfl,h₅⟩)) λ_ _ h'=>h'.elim)) λ_ _ h'=>h'.elim))
def PTs(X:Cx)(ifs:List Expr)(t:TT):Prop :=
 ∀(pins:List (Addr×Obj)) (s:Shared) (σ:St) (H:Hp) (Q:Bool->Hp->Prop),Inv X pins σ H s->t σ H Q ->
  wpAny (model X.prog X.w) X.A (forIn ifs true λc r=>if r=true then do let ok ←isTrue c X.env (eval c X.env);pure (ğ ok) else pure (ğ r)) (TP X pins σ Q) X.xe s
def Bv{X:Cx}:PTs X [] (λ_ H Q=>Q true H):=λ_ _ _ H _ I h=>wpAny_tests_nil ⟨H,I,h⟩
def Bu{X:Cx}{c:Expr}{t:TT}(hc:PT X c t):PTs X [c] t:=λpins s σ H Q I h=>wpAny_tests_one (hc pins s σ H Q I h)
def JL(J:It)(n:Nat)(g:CB->TG)(tt:CB->TT)(te:CB->TE)(σ:St)(Q:VK)(H:Hp):Prop:=∃W:Nat->Nat->List V->Hp->Prop,(∃m,W 0 m [] H)/\∀(c:CB) i m ys H,W i m ys H ->
 (J.stop i H/\∀p,H p=none->Q (.ref p) (upd H p (.lst ys))) ∨
 (J.go i H/\ys.length<sizeLine/\∃N:List V->Hp->Prop,(∀ys' H',N ys' H'->∃m',m'<m/\W (i+1) m' ys' H')/\∀x H',J.yld i H x H'->g c x (Í n none++σ) H' λσ2 H2=>tt c σ2 H2 λb H3 =>
  if b=true then te c σ2 H3 λv H4=>N (ys++[v]) H4 else N ys H3)
def tLC(n:Nat)(wi:TI)(g:CB->TG)(tt:CB->TT)(te:CB->TE):TE:=λσ H Q=>wi σ H λJ H1=>JL J n g tt te σ Q H1
section
variable {X:Cx}{own:List Str}{scope:Scope}{tg iter elt:Expr}{ifs:List Expr}{pos:Pos}{wi:TI}{g:CB->TG}{tt:CB->TT}{te:CB->TE}
def aU(env:Env)(scope:Scope)(N M:List Str):Bool :=
 eX env scope M&&((N.length == M.length)&&(N.zip M).all λy=>y.1 == y.2 || ((y.2 == ("":Str))&&scope.names.all λz=>!(z.1 == ("":Str))))
def xU{env:Env}{N:List Str}(h:eX env scope N=true):aU env scope N N=true:=by
 unfold aU
 rw[h,ĺ,beq_self_eq_true,ĺ,ï]
 rintro⟨a,b⟩ hy
 obtain⟨i,hi,e⟩:=List.mem_iff_getElem.mp hy
 rw[List.getElem_zip] at e
 cases e
 simp
variable {M:List Str}
def dZ(h:aU X.env scope X.N M=true):scope.kind=.function:=by
 unfold aU eX at h
 simp only[Ê,beq_iff_eq] at h
 exact h.1.1
def bU(h:aU X.env scope X.N M=true):∀y∈scope.names,(y.2=.local->y.1∉M/\scope.names.lookup y.1=some .local)/\(y.2=.cell->y.1∉M/\scope.names.lookup y.1=some .cell)/\(y.2=.free->scope.names.lookup y.1=some .free/\(X.env.kindOf y.1=some .cell\/X.env.kindOf y.1=some .free)):=by
 unfold aU at h
 rw[Ê] at h
 have h:=h.1
 unfold eX at h
 rw[Ê,ï] at h
 intro y hy
 have q:=h.2 y hy
 obtain⟨n,k⟩:=y
 cases k with
 |«local»=>simp at q ⊢;exact q
 |cell=>simp at q ⊢;exact q
 |free=>simp at q ⊢;exact q
 |globalExplicit=>simp
 |globalImplicit=>simp
def bw:∀(names:List (Str×NameKind)) (n:Nat) (acc:List (Str×Addr)),cellsFrom n names acc=cellsFrom n names []++acc
 |[],_,_=>rfl
 |(nm,k)::r,n,acc=>by
  show(if (k == ā)=true then cellsFrom (n+1) r ((nm,n)::acc) else cellsFrom n r acc)=(if (k == ā)=true then cellsFrom (n+1) r [(nm,n)] else cellsFrom n r [])++acc
  split
  ·rw[bw r (n+1) ((nm,n)::acc),bw r (n+1) [(nm,n)],List.append_assoc]
   rfl
  ·exact bw r n acc
def d9:∀(names:List (Str×NameKind)) (n:Nat) (x:Str) (c:Addr),(x,c)∈cellsFrom n names []->(x,ā)∈names/\n<=c
 |[],_,_,_,h=>nomatch h
 |(nm,k)::r,n,x,c,h=>by
  have h:(x,c)∈(if (k == ā)=true then cellsFrom (n+1) r [(nm,n)] else cellsFrom n r []):=h
  split at h
  ·rename_i hk
   rw[bw] at h
   rcases Ù.mp h with z|z
   ·obtain⟨h1,h2⟩:=d9 r (n+1) x c z
    exact⟨Ó _ h1,by omega⟩
   ·have z:(x,c)=(nm,n):=by simpa using z
    cases z
    have hk:k=.cell:=by simpa using hk
    subst hk
    exact⟨Ú,Ç _⟩
  ·obtain⟨h1,h2⟩:=d9 r n x c h
   exact⟨Ó _ h1,h2⟩
def nO:∀(names:List (Str×NameKind)) (n:Nat) (x y:Str) (c:Addr),(x,c)∈cellsFrom n names []->(y,c)∈cellsFrom n names []->x=y
 |[],_,_,_,_,h,_=>nomatch h
 |(nm,k)::r,n,x,y,c,h,h'=>by
  have h:(x,c)∈(if (k == ā)=true then cellsFrom (n+1) r [(nm,n)] else cellsFrom n r []):=h
  have h':(y,c)∈(if (k == ā)=true then cellsFrom (n+1) r [(nm,n)] else cellsFrom n r []):=h'
  by_cases hk:(k == ā)=true
  ·rw[if_pos hk,bw] at h h'
   rcases Ù.mp h with z|z <;> rcases Ù.mp h' with z'|z'
   ·exact nO r (n+1) x y c z z'
   ·have:=(d9 r (n+1) x c z).2
    have z':(y,c)=(nm,n):=by simpa using z'
    cases z'
    exact absurd this (Nat.not_succ_le_self _)
   ·have:=(d9 r (n+1) y c z').2
    have z:(x,c)=(nm,n):=by simpa using z
    cases z
    exact absurd this (Nat.not_succ_le_self _)
   ·have z:(x,c)=(nm,n):=by simpa using z
    have z':(y,c)=(nm,n):=by simpa using z'
    cases z
    cases z'
    rfl
  ·rw[if_neg hk] at h h'
   exact nO r n x y c h h'
def jx:∀(names:List (Str×NameKind)) (h:Heap) (b:Addr) (o:Obj),h.get? b=some o->(pushCells h names).get? b=some o
 |[],_,_,_,e=>e
 |(nm,k)::r,h,b,o,e=>by
  show(if (k == ā)=true then pushCells (h.push { cls:=Đ "cell",data:=Data.cell none }) r else pushCells h r).get? b=some o
  split
  ·exact jx r _ b o (Ë _ e)
  ·exact jx r h b o e
def mY:∀(names:List (Str×NameKind)) (h:Heap) (x:Str) (c:Addr),(x,c)∈cellsFrom h.objs.size names []->(pushCells h names).IsCell c none
 |[],_,_,_,e=>nomatch e
 |(nm,k)::r,h,x,c,e=>by
  have e:(x,c)∈(if (k == ā)=true then cellsFrom (h.objs.size+1) r [(nm,h.objs.size)] else cellsFrom h.objs.size r []):=e
  show(if (k == ā)=true then pushCells (h.push { cls:=Đ "cell",data:=Data.cell none }) r else pushCells h r).IsCell c none
  by_cases hk:(k == ā)=true
  ·rw[if_pos hk,bw] at e
   rw[if_pos hk]
   rcases Ù.mp e with z|z
   ·exact mY r _ x c (by rw[ŕ];exact z)
   ·have z:(x,c)=(nm,h.objs.size):=by simpa using z
    cases z
    exact⟨_,jx r _ _ _ (Þ _ rfl),rfl⟩
  ·rw[if_neg hk] at e ⊢
   exact mY r h x c e
def zA{M:Model}{A:Around}{E:Value->Shared->Prop}{s:Shared}{scope:Scope}{globals:Addr}{closure:List (Str×Addr)}{qual:Str}{func:Option Addr}{code:Value}{around:Option Env}{builtins:Addr}{Q:Env->Shared->Prop}(h:Q (newEnv scope s.heap.objs.size globals (cellsFrom (s.heap.objs.size+1) scope.names closure) qual func code around builtins) { s with heap:=pushCells (s.heap.push { cls:=Đ (if around.isSome=true then "dict" else "frame"),data:=Data.dict #[] }) scope.names }) :
  wpAny M A (newFunctionEnv scope globals closure [] qual func code around builtins) Q E s:=by
 unfold newFunctionEnv
 refine Æ (wpAny_alloc ?_)
 refine Æ (wpAny_layCells _ (λ_ _ _=>rfl) _ _ _ _ ?_)
 rw[ŕ]
 exact Æ (Ø (Ø h))
def Rk{n:Nat}{names:List (Str×NameKind)}{cl:List (Str×Addr)}{x:Str}{c:Addr}(h:(cellsFrom n names cl).lookup x=some c):(x,c)∈cellsFrom n names []\/cl.lookup x=some c:=by
 rw[bw,List.lookup_append] at h
 cases e:(cellsFrom n names []).lookup x with
 |none=>rw[e] at h;exact .inr h
 |some d =>
  rw[e] at h
  cases h
  exact .inl (Ě e)
def JB{n:Nat}{names:List (Str×NameKind)}{cl:List (Str×Addr)}{x:Str}(h:∀c,(x,c)∈cellsFrom n names []->False):(cellsFrom n names cl).lookup x=cl.lookup x:=by
 rw[bw,List.lookup_append]
 cases e:(cellsFrom n names []).lookup x with
 |none=>rfl
 |some d=>exact(h d (Ě e)).elim
def xO(h:aU X.env scope X.N M=true){n:Nat}{x:Str}(hx:(x,ð)∈scope.names):∀c,(x,c)∈cellsFrom n scope.names []->False:=λc z=>by
 have h1:=((bU h _ hx).2.2 rfl).1
 have h2:=((bU h _ (d9 _ _ _ _ z).1).2.1 rfl).2
 rw[h1] at h2
 cases h2
def jm(h:aU X.env scope X.N M=true):X.N.length=M.length:=by
 unfold aU at h
 rw[Ê,Ê] at h
 exact eq_of_beq h.2.1
def tZ{i:Nat}{x:Str}{k:NameKind}(h:aU X.env scope X.N M=true)(hx:M[i]?=some x)(_:x∈M)(hn:(x,k)∈scope.names):X.N[i]?=some x:=by
 have hl:=jm h
 unfold aU at h
 rw[Ê,Ê,ï] at h
 have hi:i<M.length:=(Ý.mp hx).1
 have hx':M[i]=x:=(Ý.mp hx).2
 have hi':i<X.N.length:=by omega
 have q:=h.2.2 (X.N[i],M[i]) (by
  refine List.mem_iff_getElem.mpr ⟨i,by rw[Ż];omega,?_⟩
  rw[List.getElem_zip])
 rw[Bool.or_eq_true] at q
 rcases q with q|q
 ·have q:X.N[i]=M[i]:=eq_of_beq q
  rw[È hi',q,hx']
 ·rw[Ê,ï] at q
  have e:M[i]=("":Str):=eq_of_beq q.1
  have z:=q.2 (x,k) hn
  rw[←hx',e] at z
  simp at z
def Af{pins:List (Addr×Obj)}{σ:St}{H:Hp}{s:Shared}{fp:List Addr}{h₁:Heap}{tk:Nat}(hk:aU X.env scope X.N M=true)(I:Inv X pins σ H s)(hf:∀b∈fp,rE X pins H b)(hfo:∀b∈fp,∃o,s.heap.get? b=some o)(hns:h₁.Ns (s.heap.objs.size+1) λ_=>none)(old:∀b o,s.heap.get? b=some o->h₁.get? b=some o)(hD:h₁.get? s.heap.objs.size=some { cls:=.type "list",data:=.seq #[] 0 })(hnc:∀x c,(x,c)∈cellsFrom (s.heap.objs.size+2) scope.names []->h₁.IsCell c none) :
  Inv (X.aO own M scope ⟨cellsFrom (s.heap.objs.size+2) scope.names (cY X.env.cells scope.names []),s.heap.objs.size+1,s,H,fp⟩) [(s.heap.objs.size,{ cls:=.type "list",data:=.seq #[] 0 })] (Í own.length none++σ) H { s with heap:=h₁,toks:=tk }:=by
 have hkk:=dZ hk
 have hka:=bU hk
 have hhas:∀x,(x,ð)∈scope.names->∃c,X.env.cells.lookup x=some c:=λx hx=>I.ok.has x ((hka _ hx).2.2 rfl).2
 have hcl:∀x c,(cY X.env.cells scope.names []).lookup x=some c->X.env.cells.lookup x=some c/\(x,ð)∈scope.names:=λx c e=>by
  rcases mJ e with q|⟨q1,q2⟩
  ·simp at q
  ·obtain⟨c',e'⟩:=hhas x q1
   rw[e'] at q2
   exact⟨by rw[e',q2];rfl,q1⟩
 have hcc:∀x c,(cellsFrom (s.heap.objs.size+2) scope.names (cY X.env.cells scope.names [])).lookup x=some c->(X.env.cells.lookup x=some c/\(x,ð)∈scope.names/\c<s.heap.objs.size)\/((x,c)∈cellsFrom (s.heap.objs.size+2) scope.names []/\(x,ā)∈scope.names/\s.heap.objs.size+2<=c):=λx c e=>by
  rcases Rk e with z|z
  ·exact .inr ⟨z,d9 _ _ _ _ z⟩
  ·obtain⟨h1,h2⟩:=hcl x c z
   obtain⟨v,o,ho,_⟩:=I.cell x c h1
   exact .inl ⟨h1,h2,É ho⟩
 have hvis:∀x,(relabel scope X.env).names.lookup x=some .cell\/(relabel scope X.env).names.lookup x=some .free->(x,ð)∈scope.names\/(x,ā)∈scope.names:=λx hx=>by
  have key:∀q,(relabel scope X.env).names.lookup x=some q->q=.cell\/q=.free->(x,ð)∈scope.names\/(x,ā)∈scope.names:=λq hq hq'=>by
   obtain⟨k,h1,h2,h3⟩:=cV (env:=X.env) (names:=scope.names) hq
   rcases h3 with h3|⟨_,h3⟩
   ·subst h3
    rcases hq' with z|z
    ·rw[z] at h1;exact .inr h1
    ·rw[z] at h1;exact .inl h1
   ·rw[h3] at h1;exact .inl h1
  rcases hx with hx|hx
  ·exact key _ hx (.inl rfl)
  ·exact key _ hx (.inr rfl)
 have hlt:∀b o,s.heap.get? b=some o->b<s.heap.objs.size:=λb o e=>É e
 refine⟨⟨I.ok.mod,hkk,I.ok.glob,I.ok.blt,Ķ _,λx y c h1 h2=>?inj,λx hx=>?_,λx c z e=>?cab,I.ok.hd,I.ok.frames,.inl rfl,λb hb=>⟨?_,λx c e=>?exf⟩,I.bs,
   é I.ok.bsz I.sz,λb o e hb=>?_,λb hb hs=>?_,I.stack,I.Az,λq hq=>⟨(I.ok.sof q hq).1,I.base.frzs _ _ _ (I.ok.sof q hq).2.1,(I.ok.sof q hq).2.2⟩⟩,rfl,I.bare,Un.kept old,⟨_,hns,λi x v h1 h2 h3=>?_⟩,λx c e=>?_,?_,λx c e=>?frc,λp hp=>?_,I.hok.kept old,?_⟩
 case inj =>
  rcases hcc x c h1 with ⟨a1,_,a3⟩|⟨a1,_,a3⟩ <;> rcases hcc y c h2 with ⟨b1,_,b3⟩|⟨b1,_,b3⟩
  ·exact I.ok.inj x y c a1 b1
  ·exact absurd (ã a3 (é (Nat.le_add_right _ 2) b3)) (ü _)
  ·exact absurd (ã b3 (é (Nat.le_add_right _ 2) a3)) (ü _)
  ·exact nO _ _ _ _ _ a1 b1
 case cab =>
  show s.heap.objs.size<=c
  rcases hcc x c e with ⟨_,a2,_⟩|⟨_,_,a3⟩
  ·have h1:=((hka _ a2).2.2 rfl).1
   have z:(scope.names.lookup x == some ā)=true:=z
   rw[h1] at z
   exact absurd z (by decide)
  ·omega
 case exf =>
  rcases hcc x c e with ⟨a1,_,_⟩|⟨_,_,a3⟩
  ·exact(hf b hb).2.2.2.2.1 x c a1
  ·obtain⟨o,e⟩:=hfo b hb
   have:=hlt b o e
   intro z
   subst z
   exact absurd (ã this (é (Nat.le_add_right _ 2) a3)) (ü _)
 case frc =>
  rcases hcc x c e with ⟨a1,_,_⟩|⟨_,_,a3⟩
  ·exact I.freeC x c a1
  ·exact I.hok.fresh (by omega)
 ·have hx':(relabel scope X.env).names.lookup x=some .cell\/(relabel scope X.env).names.lookup x=some .free:=hx
  refine Ų.mp (W.cellsFrom_some _ _ _ ?_)
  rcases hvis x hx' with z|z
  ·exact .inr (jo z)
  ·exact .inl ((hka _ z).2.1 rfl).2
 ·obtain⟨o,e⟩:=hfo b hb
  exact æ (Ĕ (hlt b o e))
 ·have hb':b∈fp:=hb
  rcases(hf b hb').2.2.2.1 with z|z
  ·exact I.ok.noex b o e z
  ·exact absurd (ã (É (I.ok.bs b o e).1) z) (ü _)
 ·have hb':b∈fp:=hb
  rcases è.mp (I.uE b hs) with z|z
  ·exact(hf b hb').2.1 z
  ·exact(hf b hb').2.2.1 z
 ·have hi:own.length<=i:=by
   by_cases hi:i<own.length
   ·rw[ĕ (by simpa using hi),Ŀ] at h2
    split at h2 <;> cases h2
   ·omega
  have h1':M[i - own.length]?=some x:=by
   have q:(own++M)[i]?=some x:=h1
   rwa [ù hi] at q
  have h2':σ[i - own.length]?=some (some v):=by
   rw[ù (by simpa using hi)] at h2
   simpa using h2
  have h3':Vis (relabel scope X.env) x:=h3
  have hfr:(x,ð)∈scope.names:=by
   rcases h3' with z|z
   ·obtain⟨k,q1,q2,q3⟩:=cV (env:=X.env) (names:=scope.names) z
    rcases q3 with q3|⟨q3,_⟩
    ·subst q3
     exact absurd (Ð h1') ((hka _ q1).1 rfl).1
    ·cases q3
   ·rcases hvis x z with y|y
    ·exact y
    ·exact absurd (Ð h1') ((hka _ y).2.1 rfl).1
  have hkx:=((hka _ hfr).2.2 rfl).2
  obtain⟨m,hm,hl⟩:=I.loc
  obtain⟨u,ru,lu⟩:=hl _ x v (tZ hk h1' (Ð h1') hfr) h2' (by rcases hkx with z|z;exact .inr (.inl z);exact .inr (.inr z))
  refine⟨u,ru,.inr ⟨?_,?_⟩⟩
  ·rcases h3' with z|z|z
   ·obtain⟨k,q1,q2,q3⟩:=cV (env:=X.env) (names:=scope.names) z
    rcases q3 with q3|⟨q3,_⟩
    ·subst q3
     exact absurd (Ð h1') ((hka _ q1).1 rfl).1
    ·cases q3
   ·exact .inl z
   ·exact .inr z
  ·rcases lu with ⟨z,_⟩|⟨_,c,e,ic⟩
   ·rcases hkx with q|q
    ·rw[q] at z;cases z
    ·rw[q] at z;cases z
   ·obtain⟨c',e'⟩:=Ų.mp (jo (cells:=X.env.cells) (acc:=[]) hfr)
    have e2:=(hcl x c' e').1
    rw[e] at e2
    cases e2
    obtain⟨o,ho,hd⟩:=ic
    exact⟨c,(JB (xO hk hfr)).trans e',o,old _ _ ho,hd⟩
 ·rcases hcc x c e with ⟨z,_,_⟩|⟨z,_,_⟩
  ·obtain⟨v,o,ho,hd⟩:=I.cell x c z
   exact⟨v,o,old _ _ ho,hd⟩
  ·exact⟨none,hnc x c z⟩
 ·exact I.hok.fresh (Ķ _)
 ·have hp':p=(s.heap.objs.size,{ cls:=.type "list",data:=.seq #[] 0 }):=by simpa using hp
  subst hp'
  refine⟨hD,I.hok.fresh (Ç _),æ (Ű _),λz=>?_,λv z=>nomatch z⟩
  obtain⟨_,o,ho,_⟩:=I.stack.mem z
  exact absurd (É ho) (ü _)
 ·show(Í own.length none++σ).length=(own++M).length
  rw[Î,Î,š,I.len,jm hk]
def Ae{pins pn:List (Addr×Obj)}{σ σ':St}{H H':Hp}{s s':Shared}{fp:List Addr}{cl:List (Str×Addr)}{ys:List V}{us:List Value}{n:Nat}(I:Inv X pins σ H s)(hf:∀b∈fp,rE X pins H b)(J:Inv (X.aO own M scope ⟨cl,s.heap.objs.size+1,s,H,fp⟩) pn σ' H' s')(hp:(s.heap.objs.size,({ cls:=.type "list",data:=.seq us.toArray n }:Obj))∈pn)(hv:Vals ys us)(hz:ys.length<=sizeLine) :
  Inv X pins σ (upd H' s.heap.objs.size (.lst ys)) s'/\H' s.heap.objs.size=none:=by
 obtain⟨hD,hDn,_⟩:=J.pin _ (ë _ hp)
 refine⟨I.call' J.os ⟨λb o e n hb hx=>J.base.keep b o e n hb hx,λb o e n hb hx=>J.base.slot b o e n hb hx,λb o e n hx=>?_,λb o e hx=>J.base.there b o e hx,λb xs e=>?_,λb o u e=>?_,λb ps e=>?_⟩ ?_ J.bare ?_,hDn⟩
 ·rw[ao (æ (É e))]
  exact J.base.free b o e n hx
 ·have q:=J.base.tups b xs e
  rw[ao (aK q hDn)]
  exact q
 ·have q:=J.base.frzs b o u e
  rw[ao (aK q hDn)]
  exact q
 ·obtain⟨more,q⟩:=J.base.tbls b ps e
  exact⟨more,by rw[ao (aK q hDn)];exact q⟩
 ·exact J.hok.track hDn ⟨hz,us,n,hv,hD⟩
 ·intro b hb
  exact⟨(hf b hb).2.2.2.1,(hf b hb).2.1,(hf b hb).2.2.2.2.1,(hf b hb).2.2.2.2.2⟩
def rm{pins pn:List (Addr×Obj)}{σ σ':St}{H H':Hp}{s s':Shared}{fp:List Addr}{cl:List (Str×Addr)}(hk:aU X.env scope X.N M=true)(I:Inv X pins σ H s)(hf:∀b∈fp,rE X pins H b)(hcl:∀x,(x,ð)∈scope.names->∃c,cl.lookup x=some c/\X.env.cells.lookup x=some c)(J:Inv (X.aO own M scope ⟨cl,s.heap.objs.size+1,s,H,fp⟩) pn σ' H' s'):Inv (X.aO own M scope ⟨cl,s.heap.objs.size+1,s,H,fp⟩) pn (Í own.length none++σ) H' s':=by
 have hka:=bU hk
 refine⟨J.ok,J.os,J.bare,J.base,?_,J.cell,J.free,J.freeC,J.pin,J.hok,?_⟩
 ·obtain⟨mC,hmC,_⟩:=J.loc
  refine⟨mC,hmC,λi x v h1 h2 h3=>?_⟩
  have hi:own.length<=i:=by
   by_cases hi:i<own.length
   ·rw[ĕ (by simpa using hi),Ŀ] at h2
    split at h2 <;> cases h2
   ·omega
  have h1':M[i - own.length]?=some x:=by
   have q:(own++M)[i]?=some x:=h1
   rwa [ù hi] at q
  have h2':σ[i - own.length]?=some (some v):=by
   rw[ù (by simpa using hi)] at h2
   simpa using h2
  have h3':Vis (relabel scope X.env) x:=h3
  have nloc:¬(relabel scope X.env).names.lookup x=some .local:=λz=>by
   obtain⟨k,q1,q2,q3⟩:=cV (env:=X.env) (names:=scope.names) z
   rcases q3 with q3|⟨q3,_⟩
   ·subst q3
    exact absurd (Ð h1') ((hka _ q1).1 rfl).1
   ·cases q3
  have hkk:(relabel scope X.env).names.lookup x=some .cell\/(relabel scope X.env).names.lookup x=some .free:=by
   rcases h3' with z|z
   ·exact absurd z nloc
   ·exact z
  have hfr:(x,ð)∈scope.names:=by
   have key:∀q,(relabel scope X.env).names.lookup x=some q->q=.cell\/q=.free->(x,ð)∈scope.names:=λq hq hq'=>by
    obtain⟨k,h1,h2,h3⟩:=cV (env:=X.env) (names:=scope.names) hq
    rcases h3 with h3|⟨_,h3⟩
    ·subst h3
     rcases hq' with z|z
     ·rw[z] at h1;exact absurd (Ð h1') ((hka _ h1).2.1 rfl).1
     ·rw[z] at h1;exact h1
    ·rw[h3] at h1;exact h1
   rcases hkk with hx|hx
   ·exact key _ hx (.inl rfl)
   ·exact key _ hx (.inr rfl)
  have hkx:=((hka _ hfr).2.2 rfl).2
  obtain⟨m,hm,hl⟩:=I.loc
  obtain⟨u,ru,lu⟩:=hl _ x v (tZ hk h1' (Ð h1') hfr) h2' (by rcases hkx with z|z;exact .inr (.inl z);exact .inr (.inr z))
  refine⟨u,ru,.inr ⟨hkk,?_⟩⟩
  rcases lu with ⟨z,_⟩|⟨_,c,e,ic⟩
  ·rcases hkx with q|q
   ·rw[q] at z;cases z
   ·rw[q] at z;cases z
  ·obtain⟨c',e',e2⟩:=hcl x hfr
   rw[e] at e2
   cases e2
   obtain⟨o,ho,hd⟩:=ic
   obtain⟨sl,q⟩:=J.base.any ho (I.freeC x c e) λz=>(hf c z).2.2.2.2.1 x c e rfl
   exact⟨c,e',_,q,hd⟩
 ·show(Í own.length none++σ).length=(own++M).length
  rw[Î,Î,š,I.len,jm hk]
def tW{pins:List (Addr×Obj)}{σ:St}{H:Hp}{s:Shared}{it:Addr}{fp:List Addr}{tn:Nat->Heap->Prop}{J:It}{W:Nat->Nat->List V->Hp->Prop}{E:Value->Shared->Prop}{RR:Value->Addr->Result->Shared->Prop}{Cm:Cx->Prop}(hc:∀c,Cm (X.aO own M scope c))(hk:aU X.env scope X.N M=true)(hg:∀c,PG (X.aO own M scope c) tg (g c))(ht:∀c,PTs (X.aO own M scope c) ifs (tt c))(he:∀c,PE (X.aO own M scope c) elt (te c))(I:Inv X pins σ H s)(T:TurnG Cm X.prog X.w X.K tg J fp it tn)(st:tn 0 s.heap)(hf:∀b∈fp,rE X pins H b){m0:Nat}(w0:W 0 m0 [] H){D:List V->Hp->Prop}(turn:∀(c:CB) i m ys H,W i m ys H->(J.stop i H/\D ys H) ∨
   (J.go i H/\ys.length<sizeLine/\∃N:List V->Hp->Prop,(∀ys' H',N ys' H'->∃m',m'<m/\W (i+1) m' ys' H')/\∀x H',J.yld i H x H'->g c x (Í own.length none++σ) H' λσ2 H2=>tt c σ2 H2 λb H3 =>
    if b=true then te c σ2 H3 λv H4=>N (ys++[v]) H4 else N ys H3))(fin:∀s' m' ys H',(s'.heap.Ns (s.heap.objs.size+1) m')->H' (s.heap.objs.size+1)=none->H' s.heap.objs.size=none->Inv X pins σ (upd H' s.heap.objs.size (.lst ys)) s'->D ys H'->RR (.ref s.heap.objs.size) (s.heap.objs.size+1) (.ok .next) s') :
  wpAny (model X.prog X.w) X.A (newList []) (λacc s₃=>wpAny (model X.prog X.w) X.A (newFunctionEnv scope X.env.globals (cY X.env.cells scope.names []) [] X.env.qual none .none (some X.env)) (λcenv s₄ =>
   codeAny (model X.prog X.w) X.A (.compStart (.ListComp elt [⟨tg,iter,ifs,0⟩] scope pos) 0 (.ref it) acc { cenv with scope:=relabel scope X.env }) (RR acc cenv.locals) s₄) E s₃) E s:=by
 have hkk:=dZ hk
 have hka:=bU hk
 refine wpAny_newObj_type (zA ?_)
 dsimp only
 have hC:(s.heap.push { cls:=.type "list",dict:=none,data:=.seq ([]:List Value).toArray }).objs.size=s.heap.objs.size+1:=ŕ ..
 rw[hC]
 generalize hH2:s.heap.push { cls:=.type "list",dict:=none,data:=.seq ([]:List Value).toArray }=H2 at hC ⊢
 generalize hH3:H2.push { cls:=Đ (if (some X.env:Option Env).isSome=true then "dict" else "frame"),data:=Data.dict #[] }=H3
 generalize hh1:pushCells H3 scope.names=h₁
 have hC3:H3.objs.size=s.heap.objs.size+2:=by rw[←hH3,ŕ,hC]
 have old3:∀b o,H3.get? b=some o->h₁.get? b=some o:=λb o e=>hh1 ▸ jx _ _ _ _ e
 have old2:∀b o,H2.get? b=some o->h₁.get? b=some o:=λb o e=>old3 b o (hH3 ▸ Ë _ e)
 have old:∀b o,s.heap.get? b=some o->h₁.get? b=some o:=λb o e=>old2 b o (hH2 ▸ Ë _ e)
 have hacc:h₁.get? s.heap.objs.size=some { cls:=.type "list",data:=.seq #[] 0 }:=old2 _ _ (hH2 ▸ Þ _ rfl)
 have hns:h₁.Ns (s.heap.objs.size+1) λ_=>none:=by
  have z:=Heap.Ns.new H2 (Đ (if (some X.env:Option Env).isSome=true then "dict" else "frame"))
  rw[hC,hH3] at z
  exact z.keeps old3
 have hnc:∀x c,(x,c)∈cellsFrom (s.heap.objs.size+2) scope.names []->h₁.IsCell c none:=λx c e=>by
  rw[←hC3] at e
  exact hh1 ▸ mY _ _ _ _ e
 have hfo:∀b∈fp,∃o,s.heap.get? b=some o:=λb hb=>let ⟨o,e,_⟩:=T.obj 0 _ st b hb;⟨o,e⟩
 have st₁:tn 0 h₁:=T.keep 0 _ _ st λb _ o e=>old b o e
 have I₁:=Af (own:=own) (tk:=s.toks) hk I hf hfo hns old hacc hnc
 have loop:∀s₃:Shared,s₃={ s with heap:=h₁,toks:=s.toks } ->
   codeAny (model X.prog X.w) X.A (.compLoop (.ListComp elt [⟨tg,iter,ifs,0⟩] scope pos) 0 (.ref it) (.ref s.heap.objs.size) (compEnvC scope (cellsFrom (s.heap.objs.size+2) scope.names (cY X.env.cells scope.names [])) (s.heap.objs.size+1) X.env))
    (RR (.ref s.heap.objs.size) (s.heap.objs.size+1)) s₃:=by
  rintro s₃ rfl
  have neD:∀b∈fp,b≠s.heap.objs.size:=λb hb=>by
   obtain⟨o,e⟩:=hfo b hb
   exact æ (É e)
  have stat:∀{H':Hp}{o:Obj},(∀b∈fp,H' b=none)->∀b∈fp,rE (X.aO own M scope ⟨cellsFrom (s.heap.objs.size+2) scope.names (cY X.env.cells scope.names []),s.heap.objs.size+1,s,H,fp⟩) [(s.heap.objs.size,o)] H' b:=λ{H' o} hn b hb =>
   ⟨hn b hb,(I₁.ok.exf b hb).1,I₁.ok.exfs b hb,.inl hb,(I₁.ok.exf b hb).2,λp hp=>by
    have hp':p=(s.heap.objs.size,o):=by simpa using hp
    subst hp'
    exact Ĩ (neD b hb)⟩
  refine Et (λk s'=>∃i ys us n H',Inv (X.aO own M scope ⟨cellsFrom (s.heap.objs.size+2) scope.names (cY X.env.cells scope.names []),s.heap.objs.size+1,s,H,fp⟩) [(s.heap.objs.size,{ cls:=.type "list",data:=.seq (us:List Value).toArray n })] (Í own.length none++σ) H' s' /\
    Vals ys us/\ys.length<=sizeLine/\tn i s'.heap/\(∀b∈fp,H' b=none)/\W i k ys H') ?_ m0 ⟨0,[],[],0,H,I₁,.nil,à _,st₁,λb hb=>(hf b hb).1,w0⟩
  rintro k s3 ⟨i,ys,us,n,H3,I3,hv,hz,st3,fr3,w3⟩
  rcases turn ⟨cellsFrom (s.heap.objs.size+2) scope.names (cY X.env.cells scope.names []),s.heap.objs.size+1,s,H,fp⟩ i k ys H3 w3 with ⟨stop,d⟩|⟨go,hlt,N,hN,step⟩
  ·refine thn (T.done (X.aO own M scope ⟨cellsFrom (s.heap.objs.size+2) scope.names (cY X.env.cells scope.names []),s.heap.objs.size+1,s,H,fp⟩) rfl rfl rfl (hc _) i _ s3 _ H3 _ I3 (stat fr3) st3 stop) λr s4 ⟨hr,I4⟩=>?_
   subst hr
   obtain⟨m',hm',_⟩:=I4.loc
   obtain⟨J4,hDn⟩:=Ae I hf I4 (Ò.mpr rfl) hv hz
   exact fin s4 m' ys H3 hm' I4.free hDn J4 d
  ·refine thn (T.item (X.aO own M scope ⟨cellsFrom (s.heap.objs.size+2) scope.names (cY X.env.cells scope.names []),s.heap.objs.size+1,s,H,fp⟩) rfl rfl rfl (hc _) i _ s3 _ H3 _ I3 (stat fr3) st3 go) λr s4 ⟨u,hr,h4⟩=>?_
   subst hr
   refine thn h4 λ_ s5 ⟨x,H5,I5,r5,y5,st5,fr5⟩=>?_
   have I5':=I5.pinned (stat fr5) (T.obj _ _ st5)
   refine thn (hg _ _ s5 _ H5 x u _ I5' r5 (step x H5 y5)) λ_ s6 ⟨σ6,H6,I6,q6⟩=>?_
   refine thn (ht _ _ s6 σ6 H6 _ I6 q6) λb s7 ⟨H7,I7,q7⟩=>?_
   -- the turn's end: the iterator's records stand,the names are forgotten
   have clH:∀x,(x,ð)∈scope.names->∃c,(cellsFrom (s.heap.objs.size+2) scope.names (cY X.env.cells scope.names [])).lookup x=some c/\X.env.cells.lookup x=some c:=λx hx=>by
    obtain⟨c,e⟩:=I.ok.has x ((hka _ hx).2.2 rfl).2
    obtain⟨c',e'⟩:=Ų.mp (jo (cells:=X.env.cells) (acc:=[]) hx)
    rcases mJ e' with q|⟨_,q⟩
    ·simp at q
    ·rw[e] at q
     exact⟨c',(JB (xO hk hx)).trans e',by rw[e,q];rfl⟩
   have keepT:∀{H':Hp}{σ':St}{s':Shared}{pn:List (Addr×Obj)},(∀p∈iQ fp s5.heap,p∈pn)->Inv (X.aO own M scope ⟨cellsFrom (s.heap.objs.size+2) scope.names (cY X.env.cells scope.names []),s.heap.objs.size+1,s,H,fp⟩) pn σ' H' s'->tn (i+1) s'.heap/\∀b∈fp,H' b=none:=λ{H' σ' s' pn} hs I' =>
    ⟨T.keep _ _ _ st5 λb hb o e=>(I'.pin (b,o) (ë _ (hs _ (gG hb e)))).1,λb hb=>by
     obtain⟨o,e,_⟩:=T.obj _ _ st5 b hb
     exact(I'.pin (b,o) (ë _ (hs _ (gG hb e)))).2.1⟩
   cases b with
   |false =>
    rw[if_neg Ì]
    rw[if_neg Ì] at q7
    obtain⟨m',hm',w7⟩:=hN _ _ q7
    obtain⟨t7,f7⟩:=keepT (λp hp=>ë _ hp) I7
    exact⟨m',hm',i+1,ys,us,n,H7,rm hk I hf clH I7.j7,hv,hz,t7,f7,w7⟩
   |true =>
    rw[if_pos rfl]
    rw[if_pos rfl] at q7
    refine thn (he _ _ s7 σ6 H7 _ I7 q7) λu8 s8 ⟨v8,H8,I8,r8,q8⟩=>?_
    obtain⟨m',hm',w8⟩:=hN _ _ q8
    obtain⟨t8,f8⟩:=keepT (λp hp=>ë _ hp) I8
    obtain⟨hD8,nD8,lD8,fD8,_⟩:=I8.pin (s.heap.objs.size,{ cls:=.type "list",data:=.seq us.toArray n }) (ë _ (ū _ (Ò.mpr rfl)))
    refine append_at (hsz:=by rw[Ï,←hv.length];exact Nat.le_of_lt hlt) hD8 λh9 hs9 hD9=>?_
    have J8:Inv (X.aO own M scope ⟨cellsFrom (s.heap.objs.size+2) scope.names (cY X.env.cells scope.names []),s.heap.objs.size+1,s,H,fp⟩) (iQ fp s5.heap) σ6 H8 s8:=I8.pA λp hp=>I8.pin p (ë _ (ë _ hp))
    have J9:Inv (X.aO own M scope ⟨cellsFrom (s.heap.objs.size+2) scope.names (cY X.env.cells scope.names []),s.heap.objs.size+1,s,H,fp⟩) (iQ fp s5.heap) σ6 H8 { s8 with heap:=h9 }:=J8.turned (t':=s8.toks) (it:=s.heap.objs.size) (λb o hb e=>(hs9.2 b hb).trans e) nD8 lD8 (.inr (Ç _))
     (λx c e z=>by
      obtain⟨v,o,ho,hd⟩:=J8.cell x c e
      rw[z,hD8] at ho
      cases ho
      cases hd)
     (λp hp=>by
      have hp':p∈iQ fp s5.heap:=by simpa using hp
      exact neD _ (tD hp').1)
    obtain⟨t9,f9⟩:=keepT (λp hp=>hp) J9
    have e9:h9.get? s.heap.objs.size=some { cls:=.type "list",data:=.seq (us++[u8]).toArray (n+1) }:=by
     rw[hD9,List.push_toArray]
    have J9':Inv (X.aO own M scope ⟨cellsFrom (s.heap.objs.size+2) scope.names (cY X.env.cells scope.names []),s.heap.objs.size+1,s,H,fp⟩) [(s.heap.objs.size,{ cls:=.type "list",data:=.seq (us++[u8]).toArray (n+1) })] σ6 H8 { s8 with heap:=h9 }:=J9.pA λp hp=>by
     have hp':p=(s.heap.objs.size,{ cls:=.type "list",data:=.seq (us++[u8]).toArray (n+1) }):=by simpa using hp
     subst hp'
     exact⟨e9,nD8,lD8,fD8,λv z=>nomatch z⟩
    exact⟨m',hm',i+1,ys++[v8],us++[u8],n+1,H8,rm hk I hf clH J9',hv.append (.cons r8 .nil),by rw[Î,ň];exact hlt,t9,f9,w8⟩
 exact codeAny_compStart_list (loop _ rfl) (T.self _ 0 _ _ _ st₁ (loop _ rfl))
def tY{pins:List (Addr×Obj)}{σ:St}{H:Hp}{s:Shared}(hk:aU X.env scope X.N M=true)(I:Inv X pins σ H s):closureFor scope X.env=pure (cY X.env.cells scope.names []) :=
 Ag λx hx hf=>I.ok.has x.1 ((bU hk x hx).2.2 hf).2
def tX{pins:List (Addr×Obj)}{σ:St}{H:Hp}{s s':Shared}{C:Addr}{h':Heap}{m:Str->Option Value}(I:Inv X pins σ H s')(hs:X.s₀.heap.objs.size<=C)(hC:C≠X.env.locals)(hcl:∀x c,X.env.cells.lookup x=some c->c≠C)(hp:∀p∈X.pn++pins,p.1≠C)(hn:H C=none)(hb:Heap.SameBut C s'.heap h'):Inv X pins σ H { s' with heap:=h' }:=I.turned (t':=s'.toks) (λb o hb' e=>(hb.2 b hb').trans e) hn hC (.inr hs) hcl hp
def GK(own M:List Str)(hc:X.calm=true)(hi:PI X tg iter wi)(hg:∀c,PG (X.aO own M scope c) tg (g c))(ht:∀c,PTs (X.aO own M scope c) ifs (tt c))(he:∀c,PE (X.aO own M scope c) elt (te c))(hk:aU X.env scope X.N M=true:=by rfl)(hs:∀x,foldedSetIterable iter X.env x=pure x:=by intro _;rfl) :
  PE X (.ListComp elt [⟨tg,iter,ifs,0⟩] scope pos) (tLC own.length wi g tt te):=by
 intro pins s σ H Q I h
 rw[eval_ListComp]
 have hka:=bU hk
 refine wpAny_comprehension_free (use:=none) rfl hs (tY hk I) (dZ hk) (λx hx hl=>((hka x hx).1 hl).2) (thn (hi pins s σ H _ I h) λv s1 h1=>thn h1 λitv s2 h2=>?_)
 obtain⟨it,fp,tn,J,H2,e,I2,T,st2,f2,W,⟨m0,w0⟩,turn⟩:=h2
 subst e
 refine tW (RR:=λacc C=>compPost (model X.prog X.w) X.A X.xe none (EP X pins σ Q) acc C) (D:=λys H=>∀p,H p=none->Q (.ref p) (upd H p (.lst ys))) (λ_=>hc) hk hg ht he I2 T st2 f2 w0 turn ?_
 intro s' m' ys H' hns hCn hDn J' d
 have lt2:∀{b:Addr}{o:Obj},s2.heap.get? b=some o->b≠s2.heap.objs.size+1:=λe=>æ (Ĕ (É e))
 refine⟨m',hns,λh' hb=>⟨.ref s2.heap.objs.size,_,tX (m:=m') (s:=s2) J' (é I2.sz (Ķ _)) (Ĩ (æ (Ĕ I2.lt))) (λx c e=>?_) (λp hp=>?_) ?_ hb,rfl,d _ hDn⟩⟩
 ·obtain⟨v,o,ho,_⟩:=I2.cell x c e
  exact lt2 ho
 ·exact lt2 (I2.pin p hp).1
 ·rw[ao (ŝ (Ű _))]
  exact hCn
def Kf{Cm:Cx->Prop}(own M:List Str){i:Nat}{y:Str}{py spos:Pos}(hc:∀c,Cm (X.aO own M scope c))(hN:X.N.Nodup)(hiN:X.N[i]?=some y)(hx:Loc X.env.scope y)(hi:PIG Cm X tg iter wi)(hg:∀c,PG (X.aO own M scope c) tg (g c))(ht:∀c,PTs (X.aO own M scope c) ifs (tt c))(he:∀c,PE (X.aO own M scope c) elt (te c))(hsw:swapsWith (.ListComp elt [⟨tg,iter,ifs,0⟩] scope pos) (some (.Name y py)) spos.line X.env=pure true:=by rfl)(hk:aU X.env scope X.N M=true:=by rfl)(hs:∀x,foldedSetIterable iter X.env x=pure x:=by intro _;rfl)(hf:X.fn y=true\/X.env.scope.names.lookup y=some .local:=by first|exact .inl rfl|exact .inr rfl|assumption) :
  PS X (.Assign [.Name y py] (.ListComp elt [⟨tg,iter,ifs,0⟩] scope pos) spos) (rF (tLC own.length wi g tt te) (jh i)):=by
 intro pins s σ H D I h
 rw[exec_Assign_Name_used _ _ _ _ hsw]
 have hka:=bU hk
 refine Æ (wpAny_standAt (Æ ?_))
 show wpAny _ X.A (do let _ ←comprehension (.ListComp elt [⟨tg,iter,ifs,0⟩] scope pos) scope X.env _ (newList []) false (eval iter X.env) (some (assign (.Name y py) X.env))) _ _ s
 refine Æ (Ō (wpAny_comprehension_free (use:=some (assign (.Name y py) X.env)) (Q:=λ_ s'=>SP X pins D .next s') rfl hs (tY hk I) (dZ hk) (λx hx hl=>((hka x hx).1 hl).2)
  (thn (hi pins s σ H _ I h) λv s1 h1=>thn h1 λitv s2 h2=>?_)) (λ_ s' hq=>Ø (Ø hq)) λ_ _ e=>e)
 obtain⟨it,fp,tn,J,H2,e,I2,T,st2,f2,W,⟨m0,w0⟩,turn⟩:=h2
 subst e
 refine tW (RR:=λacc C=>compPost (model X.prog X.w) X.A X.xe (some (assign (.Name y py) X.env)) (λ_ s'=>SP X pins D .next s') acc C) (D:=λys H=>∀p,H p=none->jh i (.ref p) σ (upd H p (.lst ys)) D.nx) hc hk hg ht he I2 T st2 f2 w0 turn ?_
 intro s' m' ys H' hns hCn hDn J' d
 have lt2:∀{b:Addr}{o:Obj},s2.heap.get? b=some o->b≠s2.heap.objs.size+1:=λe=>æ (Ĕ (É e))
 show wpAny _ X.A (assign (.Name y py) X.env (.ref s2.heap.objs.size)) _ _ _
 refine wpAny_assign_Name (sI (v:=.ref s2.heap.objs.size) J' (λj h=>xu hN h hiN) hiN hx rfl (λs'' J'' ⟨a,hsb,ha⟩=>?_) hf)
 have hLne:X.env.locals≠s2.heap.objs.size+1:=æ (Ĕ I2.lt)
 have hCa:s2.heap.objs.size+1≠a:=by
  rcases ha with ha|ha
  ·rw[ha];exact Ĩ hLne
  ·obtain⟨v,o,ho,_⟩:=I2.cell _ _ ha
   exact Ĩ (lt2 ho)
 refine⟨m',hns.sameBut hsb hCa,λh' hb=>⟨_,_,tX (m:=m') (s:=s2) J'' (é I2.sz (Ķ _)) (Ĩ hLne) (λx c e=>?_) (λp hp=>?_) ?_ hb,d _ hDn⟩⟩
 ·obtain⟨v,o,ho,_⟩:=I2.cell x c e
  exact lt2 ho
 ·exact lt2 (I2.pin p hp).1
 ·rw[ao (ŝ (Ű _))]
  exact hCn
def Gw(own M:List Str){i:Nat}{y:Str}{py spos:Pos}(hc:X.calm=true)(hN:X.N.Nodup)(hiN:X.N[i]?=some y)(hx:Loc X.env.scope y)(hi:PI X tg iter wi)(hg:∀c,PG (X.aO own M scope c) tg (g c))(ht:∀c,PTs (X.aO own M scope c) ifs (tt c))(he:∀c,PE (X.aO own M scope c) elt (te c))(hsw:swapsWith (.ListComp elt [⟨tg,iter,ifs,0⟩] scope pos) (some (.Name y py)) spos.line X.env=pure true:=by rfl)(hk:aU X.env scope X.N M=true:=by rfl)(hs:∀x,foldedSetIterable iter X.env x=pure x:=by intro _;rfl)(hf:X.fn y=true\/X.env.scope.names.lookup y=some .local:=by first|exact .inl rfl|exact .inr rfl|assumption) :
  PS X (.Assign [.Name y py] (.ListComp elt [⟨tg,iter,ifs,0⟩] scope pos) spos) (rF (tLC own.length wi g tt te) (jh i)):=Kf own M (λ_=>hc) hN hiN hx hi hg ht he hsw hk hs hf
def GP(own:List Str)(hc:X.calm=true)(hi:PI X tg iter wi)(hg:∀c,PG (X.comp own scope c) tg (g c))(ht:∀c,PTs (X.comp own scope c) ifs (tt c))(he:∀c,PE (X.comp own scope c) elt (te c))(hk:eX X.env scope X.N=true:=by rfl)(hs:∀x,foldedSetIterable iter X.env x=pure x:=by intro _;rfl) :
  PE X (.ListComp elt [⟨tg,iter,ifs,0⟩] scope pos) (tLC own.length wi g tt te):=GK own X.N hc hi hg ht he (xU hk) hs
def SQ(own:List Str){i:Nat}{y:Str}{py spos:Pos}(hc:X.calm=true)(hN:X.N.Nodup)(hiN:X.N[i]?=some y)(hx:Loc X.env.scope y)(hi:PI X tg iter wi)(hg:∀c,PG (X.comp own scope c) tg (g c))(ht:∀c,PTs (X.comp own scope c) ifs (tt c))(he:∀c,PE (X.comp own scope c) elt (te c))(hsw:swapsWith (.ListComp elt [⟨tg,iter,ifs,0⟩] scope pos) (some (.Name y py)) spos.line X.env=pure true:=by rfl)(hk:eX X.env scope X.N=true:=by rfl)(hs:∀x,foldedSetIterable iter X.env x=pure x:=by intro _;rfl)(hf:X.fn y=true\/X.env.scope.names.lookup y=some .local:=by first|exact .inl rfl|exact .inr rfl|assumption) :
  PS X (.Assign [.Name y py] (.ListComp elt [⟨tg,iter,ifs,0⟩] scope pos) spos) (rF (tLC own.length wi g tt te) (jh i)):=Gw own X.N hc hN hiN hx hi hg ht he hsw (xU hk) hs hf
end
section
variable {X:Cx}{tg:Expr}{K:Ô}{g:CB->TG}{tt:CB->TT}{te:CB->TE}{σ:St}{H:Hp}{Q:VK}{n:Nat}
def Vq(K:Ô)(tl:TE):TI:=λσ H R=>tl σ H λx H1=>∃a,x=.ref a/\(((∃xs,SqL K H1 a xs)/\R (Itl K a) H1)\/((∃xs,SqT K H1 a xs)/\R (Itt K a) H1))
def Pk{l:Expr}{tl:TE}(hl:PE X l tl):PI X tg l (Vq X.K tl):=by
 intro pins s σ H R I h
 refine thn (hl pins s σ H _ I h) λv s1 ⟨x,H1,I1,r1,q1⟩=>?_
 obtain⟨a,e,q1⟩:=q1
 subst e
 cases r1
 rcases q1 with ⟨⟨xs,hq⟩,q⟩|⟨⟨xs,hq⟩,q⟩
 ·obtain⟨its,rv,p,hz⟩:=I1.list hq
  refine wpAny_pyIter_list p.isList ?_
  refine⟨s1.heap.objs.size,[s1.heap.objs.size],_,_,H1,rfl,I1.kept (t':=s1.toks) λb o e=>Ë _ e,Df a _,⟨_,Þ _ rfl,rfl,rfl⟩,λb hb=>?_,q⟩
  have e:b=s1.heap.objs.size:=by simpa using hb
  subst e
  exact I1.Rb (Ç _) (I1.hok.fresh (Ç _))
 ·obtain⟨its,rv,p,hz⟩:=I1.tuple hq
  refine wpAny_pyIter_tuple (show s1.heap.IsTuple a its.toArray from p) ?_
  refine⟨s1.heap.objs.size,[s1.heap.objs.size],_,_,H1,rfl,I1.kept (t':=s1.toks) λb o e=>Ë _ e,yx a _,⟨_,Þ _ rfl,rfl,rfl⟩,λb hb=>?_,q⟩
  have e:b=s1.heap.objs.size:=by simpa using hb
  subst e
  exact I1.Rb (Ç _) (I1.hok.fresh (Ç _))
def QM{J:It}(k:Nat)(hk:k<=1000)(Pv:Nat->List V->Hp->Prop)(h0:Pv 0 [] H)(hgo:∀i ys H,i<k->Pv i ys H->J.go i H)(hst:∀ys H,Pv k ys H->J.stop k H)(hl:∀i ys H,Pv i ys H->ys.length<=i)(hs:∀c i x ys H H',i<k->J.yld i H x H'->Pv i ys H->g c x (Í n none++σ) H' λσ2 H2=>tt c σ2 H2 λb H3=>if b=true then te c σ2 H3 λv H4=>Pv (i+1) (ys++[v]) H4 else Pv (i+1) ys H3)(hd:∀ys H,Pv k ys H->∀p,H p=none->Q (.ref p) (upd H p (.lst ys))):JL J n g tt te σ Q H:=by
 refine⟨λi m ys H=>m=k - i/\i<=k/\Pv i ys H,⟨k,by simp,à _,h0⟩,?_⟩
 rintro c i m ys H ⟨rfl,hi,p⟩
 by_cases hlt:i<k
 ·refine .inr ⟨hgo i ys H hlt p,?_,Pv (i+1),λys' H' p'=>⟨k - (i+1),by omega,rfl,hlt,p'⟩,λx H' y=>hs c i x ys H H' hlt y p⟩
  have:=hl i ys H p
  have h24:=õ
  omega
 ·have e:i=k:=by omega
  subst e
  exact .inl ⟨hst ys H p,hd ys H p⟩
def QL{lo:Int}{k:Nat}(hk:k<=1000)(Pv:Nat->List V->Hp->Prop)(h0:Pv 0 [] H)(hl:∀i ys H,Pv i ys H->ys.length<=i)(hs:∀c i ys H,i<k->Pv i ys H->g c (.int (lo+i)) (Í n none++σ) H λσ2 H2=>tt c σ2 H2 λb H3=>if b=true then te c σ2 H3 λv H4=>Pv (i+1) (ys++[v]) H4 else Pv (i+1) ys H3)(hd:∀ys H,Pv k ys H->∀p,H p=none->Q (.ref p) (upd H p (.lst ys))):JL (Itr lo k) n g tt te σ Q H :=
 QM k hk Pv h0 (λi ys H hi p=>hi) (λys H p=>Ç k) hl (λc i x ys H H' hi y p=>by
  obtain⟨e,y⟩:=y
  subst e y
  exact hs c i ys _ hi p) hd
end
end L2
namespace NfSort
open PySem PySem.W PyProof.Rows
def kwp{α:Type}(n:Nat)(key:Nat->Int):KasT α->(α->Prop)->Prop
 |.ret a,Q=>Q a
 |.ask i j k,Q=>i<n/\j<n/\kwp n key (k (decide (key i<key j))) Q
def bO{α:Type}{n:Nat}{key:Nat->Int}{Q Q':α->Prop}(h:∀a,Q a->Q' a):∀{t:KasT α},kwp n key t Q->kwp n key t Q'
 |.ret a,q=>h a q
 |.ask _ _ k,q=>⟨q.1,q.2.1,bO h q.2.2⟩
def eO{α β:Type}{n:Nat}{key:Nat->Int}{f:α->KasT β}{Q:β->Prop}:∀{t:KasT α},kwp n key t (λa=>kwp n key (f a) Q)->kwp n key (t.bind f) Q
 |.ret a,q=>q
 |.ask _ _ k,q=>⟨q.1,q.2.1,eO q.2.2⟩
def vC{α:Type}{n:Nat}{key:Nat->Int}{cmp:Nat->Nat->(Bool->Shared->Prop)->Shared->Prop}{s:Shared}{G:α->Shared->Prop}(hc:∀i j C,i<n->j<n->C (decide (key i<key j)) s->cmp i j C s) :
  ∀{t:KasT α},kwp n key t (λa=>G a s)->t.kasWp cmp G s
 |.ret _,q=>q
 |.ask i j k,q=>hc i j _ q.1 q.2.1 (vC hc q.2.2)
section
variable {n:Nat}{key:Nat->Int}{p:Array Nat}
def Pm(n:Nat)(p:Array Nat):Prop:=p.Perm (ä n).toArray
def kk(key:Nat->Int)(p:Array Nat)(i:Nat):Int:=key (p.getD i 0)
def Pm.size(h:Pm n p):p.size=n:=by
 have:=Array.Perm.size_eq h
 simpa using this
def getD_eq(p:Array Nat)(i:Nat):p.getD i 0=(p[i]?).getD 0:=by
 by_cases h:i<p.size <;> simp[Array.getD,h]
def Pm.lt(h:Pm n p){i:Nat}(hi:i<n):p.getD i 0<n:=by
 have hs:=h.size
 have hi':i<p.size:=by omega
 have hm:p[i]∈p.toList:=by
  have:=Array.getElem_mem hi'
  simpa using this
 have hp:p.toList.Perm (ä n):=by
  have:=Array.perm_iff_toList_perm.mp h
  simpa using this
 have e:p.getD i 0=p[i]:=by simp[Array.getD,hi']
 rw[e]
 exact ę.mp (hp.mem_iff.mp hm)
def Pm.rev(h:Pm n p)(i j:Nat):Pm n (kas_rev p i j):=Array.Perm.trans (mirror_perm _ _ _ _) h
def Pm.bub(h:Pm n p)(i j:Nat):Pm n (bubble p i j):=Array.Perm.trans (bubble_perm _ _ _) h
def vD(h:Pm n p){i j:Nat}(hj:j<=n)(t:Nat):kk key (kas_rev p i j) t=if i<=t/\t<j then kk key p (i+j - 1 - t) else kk key p t:=by
 unfold kk kas_rev
 rw[getD_eq,getElem?_mirror_all (by rw[h.size];exact hj)]
 split
 ·rw[getD_eq]
 ·rw[getD_eq]
def QT(h:Pm n p){k l:Nat}(hk:k<n)(hl:l<=k)(t:Nat):kk key (bubble p k (k - l)) t=if t=l then kk key p k else if l<t/\t<=k then kk key p (t - 1) else kk key p t:=by
 unfold kk
 rw[getD_eq,getElem?_bubble (by rw[h.size];exact hk) _ (by omega)]
 have e:k - (k - l)=l:=by omega
 rw[e]
 split
 ·rw[getD_eq]
 ·split
  ·rw[getD_eq]
  ·rw[getD_eq]
def Up(key:Nat->Int)(p:Array Nat)(m:Nat):Prop:=∀i j,i<=j->j<m->kk key p i<=kk key p j
def Dn(key:Nat->Int)(p:Array Nat)(m:Nat):Prop:=∀i j,i<=j->j<m->kk key p j<=kk key p i
def Rn(key:Nat->Int)(p:Array Nat)(m q:Nat):Prop:=q+1<=m/\∀t,m<=t+q+1->t<m->kk key p t=kk key p (m - 1)
def Up.more{a:Nat}(h:Up key p a)(h1:1<=a)(hx:kk key p (a - 1)<=kk key p a):Up key p (a+1):=λi j hij hj=>by
 by_cases hja:j<a
 ·exact h i j hij hja
 ·obtain rfl:j=a:=by omega
  by_cases hi:i=j
  ·subst hi;exact Int.le_refl _
  ·exact Int.le_trans (h i (j - 1) (by omega) (by omega)) hx
def Dn.more{a:Nat}(h:Dn key p a)(h1:1<=a)(hx:kk key p a<=kk key p (a - 1)):Dn key p (a+1):=λi j hij hj=>by
 by_cases hja:j<a
 ·exact h i j hij hja
 ·obtain rfl:j=a:=by omega
  by_cases hi:i=j
  ·subst hi;exact Int.le_refl _
  ·exact Int.le_trans hx (h i (j - 1) (by omega) (by omega))
def Ak(hp:Pm n p):∀(f a:Nat),1<=a->a+f<=n->Up key p a->kwp n key (kas_asc p f a) (λm=>a<=m/\m<=a+f/\Up key p m/\(m<a+f->kk key p m<kk key p (m - 1)))
 |0,a,h1,hf,hu=>⟨Ç _,Ç _,hu,λh=>absurd h (by omega)⟩
 |f+1,a,h1,hf,hu=>by
  refine⟨hp.lt (by omega),hp.lt (by omega),?_⟩
  by_cases hc:key (p.getD a 0)<key (p.getD (a - 1) 0)
  ·(rw[decide_eq_true hc];dsimp only;rw[if_pos rfl])
   exact⟨Ç _,by omega,hu,λ_=>hc⟩
  ·(rw[decide_eq_false hc];dsimp only;rw[if_neg Ì])
   refine bO (λm ⟨a1,a2,a3,a4⟩=>⟨by omega,by omega,a3,λh=>a4 (by omega)⟩) (Ak hp f (a+1) (by omega) (by omega) (hu.more h1 (Int.not_lt.mp hc)))
def Bq(hp:Pm n p){a q:Nat}(ha:a<=n)(hr:Rn key p a q)(t:Nat):kk key (kas_rev p (a - (q+1)) a) t=kk key p t:=by
 rw[vD hp ha]
 split
 ·rename_i h
  rw[hr.2 t (by omega) h.2]
  exact hr.2 _ (by have:=hr.1;omega) (by omega)
 ·rfl
def Dn.eq{p':Array Nat}{m:Nat}(h:Dn key p m)(e:∀t,kk key p' t=kk key p t):Dn key p' m:=λi j a b=>by rw[e,e];exact h i j a b
def CP:∀(f:Nat) (p:Array Nat) (a q:Nat),Pm n p->1<=a->a+f<=n->Dn key p a->Rn key p a q ->
  kwp n key (kas_desc f p a q) (λr=>Pm n r.1/\a<=r.2.1/\r.2.1<=a+f/\Dn key r.1 r.2.1/\Rn key r.1 r.2.1 r.2.2)
 |0,p,a,q,hp,h1,hf,hd,hr=>⟨hp,Ç _,Ç _,hd,hr⟩
 |f+1,p,a,q,hp,h1,hf,hd,hr=>by
  refine⟨hp.lt (by omega),hp.lt (by omega),?_⟩
  have fin:∀{p':Array Nat}{q':Nat},Pm n p'->Dn key p' (a+1)->Rn key p' (a+1) q'->kwp n key (kas_desc f p' (a+1) q') (λr=>Pm n r.1/\a<=r.2.1/\r.2.1<=a+(f+1)/\Dn key r.1 r.2.1/\Rn key r.1 r.2.1 r.2.2):=λx y z =>
   bO (λr ⟨a1,a2,a3,a4,a5⟩=>⟨a1,by omega,by omega,a4,a5⟩) (CP f _ (a+1) _ x (by omega) (by omega) y z)
  have rn0:∀p':Array Nat,Rn key p' (a+1) 0:=λp'=>⟨by omega,λt h1 h2=>by
   have e:t=a+1 - 1:=by omega
   rw[e]⟩
  by_cases hc:key (p.getD a 0)<key (p.getD (a - 1) 0)
  ·(rw[decide_eq_true hc];dsimp only;rw[if_pos rfl])
   have hc':kk key p a<kk key p (a - 1):=hc
   by_cases hq:q > 0
   ·rw[if_pos hq]
    have e:=Bq (key:=key) hp (by omega) hr
    exact fin (hp.rev _ _) ((hd.more h1 (Int.le_of_lt hc')).eq e) (rn0 _)
   ·rw[if_neg hq]
    exact fin hp (hd.more h1 (Int.le_of_lt hc')) (rn0 _)
  ·(rw[decide_eq_false hc];dsimp only;rw[if_neg Ì])
   refine⟨hp.lt (by omega),hp.lt (by omega),?_⟩
   by_cases hc2:key (p.getD (a - 1) 0)<key (p.getD a 0)
   ·(rw[decide_eq_true hc2];dsimp only;rw[if_pos rfl])
    exact⟨hp,Ç _,(by show a<=a+(f+1);omega),hd,hr⟩
   ·(rw[decide_eq_false hc2];dsimp only;rw[if_neg Ì])
    have e:kk key p a=kk key p (a - 1):=Int.le_antisymm (Int.not_lt.mp hc2) (Int.not_lt.mp hc)
    refine fin hp (hd.more h1 (Int.le_of_eq e)) ⟨by have:=hr.1;omega,λt t1 t2=>?_⟩
    show _=kk key p a
    by_cases ht:t=a
    ·rw[ht]
    ·rw[e]
     exact hr.2 t (by omega) (by omega)
def wu{a:Nat}(hp:Pm n p)(h1:1<=a)(ha:a<=n)(hd:Dn key p a):kwp n key (kas_tail3 a n p) (λr=>Pm n r.2/\1<=r.1/\r.1<=n/\Up key r.2 r.1):=by
 unfold kas_tail3
 have hu:Up key (kas_rev p 0 a) a:=λi j hij hj=>by
  rw[vD hp ha,vD hp ha,if_pos ⟨by omega,by omega⟩,if_pos ⟨by omega,hj⟩]
  exact hd _ _ (by omega) (by omega)
 refine eO (bO (λm ⟨a1,a2,a3,_⟩=>?_) (Ak (hp.rev 0 a) (n - a) a h1 (by omega) hu))
 exact⟨hp.rev 0 a,by omega,by omega,a3⟩
def oG{a:Nat}(hp:Pm n p)(ha:a+1<=n)(hd:Dn key p (a+1)):kwp n key (kas_descPart a n p) (λr=>Pm n r.2/\1<=r.1/\r.1<=n/\Up key r.2 r.1):=by
 unfold kas_descPart
 refine eO (bO (λr ⟨a1,a2,a3,a4,a5⟩=>?_) (CP (n - (a+1)) p (a+1) 0 hp (by omega) (by omega) hd ⟨by omega,λt h1 h2=>by
  have e:t=a+1 - 1:=by omega
  rw[e]⟩))
 split
 ·exact wu (a1.rev _ _) (by omega) (by omega) (a4.eq (Bq a1 (by omega) a5))
 ·exact wu a1 (by omega) (by omega) a4
def Jz(hp:Pm n p)(h1:1<=n):kwp n key (kas_count n p) (λr=>Pm n r.2/\1<=r.1/\r.1<=n/\Up key r.2 r.1):=by
 unfold kas_count
 have u1:Up key p 1:=λi j hij hj=>by
  have e:i=j:=by omega
  rw[e];exact Int.le_refl _
 refine eO (bO (λm ⟨a1,a2,a3,a4⟩=>?_) (Ak hp (n - 1) 1 (Ç _) (by omega) u1))
 by_cases hm:m=n
 ·rw[if_pos (by simpa using hm)]
  exact⟨hp,by omega,by omega,a3⟩
 ·rw[if_neg (by simpa using hm)]
  have hlt:=a4 (by omega)
  by_cases hm1:m > 1
  ·rw[if_pos hm1]
   refine⟨hp.lt (by omega),hp.lt (by omega),?_⟩
   by_cases hc:key (p.getD 0 0)<key (p.getD (m - 1) 0)
   ·(rw[decide_eq_true hc];dsimp only;rw[if_pos rfl])
    exact⟨hp,by omega,by omega,a3⟩
   ·(rw[decide_eq_false hc];dsimp only;rw[if_neg Ì])
    have hall:∀t,t<m->kk key p t=kk key p 0:=λt ht=>by
     have e1:=a3 0 t (by omega) ht
     have e2:=a3 t (m - 1) (by omega) (by omega)
     have e3:kk key p (m - 1)<=kk key p 0:=Int.not_lt.mp hc
     omega
    have e:∀t,kk key (kas_rev p 0 m) t=kk key p t:=λt=>by
     rw[vD hp (by omega)]
     split
     ·rename_i h
      rw[hall t h.2,hall _ (by omega)]
     ·rfl
    refine oG (hp.rev 0 m) (by omega) (Dn.eq (p:=p) (Dn.more (λi j hij hj=>?_) (by omega) (Int.le_of_lt hlt)) e)
    rw[hall i (by omega),hall j hj]
    exact Int.le_refl _
  ·rw[if_neg hm1]
   obtain rfl:m=1:=by omega
   refine oG hp (by omega) (Dn.more (λi j hij hj=>?_) (by omega) (Int.le_of_lt hlt))
   have e:i=j:=by omega
   rw[e];exact Int.le_refl _
def qe{k:Nat}(hp:Pm n p)(hk:k<n)(hu:Up key p k):∀(f l r:Nat),l<=r->r<=k->r<=l+f->(∀t,t<l->kk key p t<=kk key p k)->(∀t,r<=t->t<k->kk key p k<kk key p t) ->
  kwp n key (kas_place p k f l r) (λl'=>l'<=k/\(∀t,t<l'->kk key p t<=kk key p k)/\(∀t,l'<=t->t<k->kk key p k<kk key p t))
 |0,l,r,h1,h2,h3,h4,h5=>⟨by omega,h4,λt a b=>h5 t (by omega) b⟩
 |f+1,l,r,h1,h2,h3,h4,h5=>by
  unfold kas_place
  by_cases hlr:l ≥ r
  ·rw[if_pos hlr]
   exact⟨by omega,h4,λt a b=>h5 t (by omega) b⟩
  ·rw[if_neg hlr]
   have hm:(l+r) / 2<r:=by omega
   refine⟨hp.lt hk,hp.lt (by omega),?_⟩
   by_cases hc:key (p.getD k 0)<key (p.getD ((l+r) / 2) 0)
   ·(rw[decide_eq_true hc];dsimp only;rw[if_pos rfl])
    have hc':kk key p k<kk key p ((l+r) / 2):=hc
    exact qe hp hk hu f l _ (by omega) (by omega) (by omega) h4 λt a b=>Int.lt_of_lt_of_le hc' (hu _ t a b)
   ·(rw[decide_eq_false hc];dsimp only;rw[if_neg Ì])
    have hc':kk key p ((l+r) / 2)<=kk key p k:=Int.not_lt.mp hc
    exact qe hp hk hu f _ r (by omega) (by omega) (by omega) (λt a=>Int.le_trans (hu t _ (by omega) (by omega)) hc') h5
def JD:∀(f:Nat) (p:Array Nat) (k:Nat),Pm n p->k+f<=n->Up key p k->kwp n key (kas_bin f p k) (λp'=>Pm n p'/\Up key p' (k+f))
 |0,p,k,hp,hk,hu=>⟨hp,hu⟩
 |f+1,p,k,hp,hk,hu=>by
  unfold kas_bin
  refine eO (bO (λl ⟨a1,a2,a3⟩=>?_) (qe hp (by omega) hu k 0 k (à _) (Ç _) (by omega) (λt h=>absurd h (by omega)) (λt h1 h2=>absurd h1 (by omega))))
  have e:=QT (key:=key) hp (k:=k) (by omega) a1
  have hu':Up key (bubble p k (k - l)) (k+1):=λi j hij hj=>by
   rw[e,e]
   by_cases hi:i=l
   ·rw[if_pos hi]
    by_cases hj':j=l
    ·rw[if_pos hj'];exact Int.le_refl _
    ·rw[if_neg hj',if_pos ⟨by omega,by omega⟩]
     exact Int.le_of_lt (a3 _ (by omega) (by omega))
   ·rw[if_neg hi]
    by_cases hi2:l<i/\i<=k
    ·rw[if_pos hi2,if_neg (by omega),if_pos ⟨by omega,by omega⟩]
     exact hu _ _ (by omega) (by omega)
    ·rw[if_neg hi2]
     by_cases hj':j=l
     ·rw[if_pos hj']
      exact a2 i (by omega)
     ·rw[if_neg hj']
      by_cases hj2:l<j/\j<=k
      ·rw[if_pos hj2]
       exact hu _ _ (by omega) (by omega)
      ·rw[if_neg hj2]
       exact hu _ _ hij (by omega)
  refine bO (λp' ⟨b1,b2⟩=>⟨b1,?_⟩) (JD f _ (k+1) (hp.bub _ _) (by omega) hu')
  have e2:k+(f+1)=k+1+f:=by omega
  rw[e2];exact b2
def JZ(h1:1<=n):kwp n key (kas_sort n) (λp=>Pm n p/\Up key p n):=by
 unfold kas_sort
 refine eO (bO (λr ⟨a1,a2,a3,a4⟩=>?_) (Jz (p:=(ä n).toArray) (Array.Perm.refl _) h1))
 have e:max r.1 1=r.1:=by omega
 rw[e]
 split
 ·refine bO (λp' ⟨b1,b2⟩=>⟨b1,?_⟩) (JD (n - r.1) r.2 r.1 a1 (by omega) a4)
  have e2:r.1+(n - r.1)=n:=by omega
  rw[e2] at b2;exact b2
 ·have e2:r.1=n:=by omega
  rw[e2] at a4
  exact⟨a1,a4⟩
end
end NfSort
namespace L2
open PySem PySem.Spec PyProof.Rows
section
variable {prog:Program}{w:World}{A:Around}{E:Value->Shared->Prop}{s:Shared}
end
section
variable {X:Cx}{pos:Pos}
def Lx(K:Ô)(n:Nat)(t:TGs):TG:=λv σ H Q=>∃a xs,v=.ref a/\SqL K H a xs/\xs.length=n/\t xs σ H Q
end
section
variable {X:Cx}
def vV:bM X (.builtin "isinstance") (λxs H Q=>∃x c t b,xs=[x,.ty c]/\TyOf X.K H x t/\ů X.K t (.type c)=some b/\Q (.bl b) H):=by
 intro pins s σ H xs us Q I r h
 obtain⟨x,c,t,b,rfl,ty,e,q⟩:=h
 obtain⟨u,u2,rfl,rx,rc⟩:=vals2 r
 cases rc
 exact Em I rx ty e λtk=>⟨.bl b,H,I.tok _,rfl,q⟩
def vU:bM X (.builtin "isinstance") (λxs H Q=>∃x p c1 c2 t b,xs=[x,.ref p]/\TyOf X.K H x t/\SqT X.K H p [.ty c1,.ty c2]/\W.kitAny X.K t [.type c1,.type c2]=some b/\Q (.bl b) H):=by
 intro pins s σ H xs us Q I r h
 obtain⟨x,p,c1,c2,t,b,rfl,ty,hp,e,q⟩:=h
 obtain⟨u,u2,rfl,rx,rc⟩:=vals2 r
 cases rc
 obtain⟨its,rv,⟨o,ho,hcl,n,hd⟩,hz⟩:=I.tuple hp
 obtain⟨v1,v2,rfl,r1,r2⟩:=vals2 rv
 cases r1
 cases r2
 obtain⟨oc,od,odt,osl⟩:=o
 cases hcl
 cases hd
 have fin:∀tk,EP X pins σ Q (.bool b) { s with toks:=tk }:=λtk=>⟨.bl b,H,I.tok _,rfl,q⟩
 cases ty with
 |non=>cases (show u=ľ from rx);exact ŵ W.kitx_none I.kIn Ū ho e (λz=>nomatch z) fin
 |bl y=>cases (show u=Ś y from rx);exact ŵ W.kitx_bool I.kIn Ū ho e (λz=>nomatch z) fin
 |int i=>obtain⟨t,q⟩:=(show ∃t,u=ĝ i t from rx);cases q;exact ŵ W.kitx_int I.kIn Ū ho e (λz=>nomatch z) fin
 |str y=>obtain⟨t,q⟩:=(show ∃t,u=Value.str y t from rx);cases q;exact ŵ W.kitx_str I.kIn Ū ho e (λz=>nomatch z) fin
 |flt y=>obtain⟨t,q⟩:=(show ∃t,u=Value.float y t from rx);cases q;exact ŵ W.kitx_float I.kIn Ū ho e (λz=>nomatch z) fin
 |@lst a xs ea =>
  cases (show u=ħ a from rx)
  obtain⟨_,_,n,_,h1⟩:=(show bx X.prog X.w H s.heap a (.lst xs) from I.hok a _ ea)
  exact ŵ W.kitx_list I.kIn ⟨_,h1,rfl⟩ ho e (λz=>nomatch z) fin
 |@frz a ob xs ea =>
  cases (show u=ħ a from rx)
  obtain⟨_,_,_,n,_,h1⟩:=(show bx X.prog X.w H s.heap a (.frz ob (.lst xs)) from I.hok a _ ea)
  exact ŵ W.kitx_list I.kIn ⟨_,h1,rfl⟩ ho e (λz=>nomatch z) fin
 |@tup a xs ea =>
  cases (show u=ħ a from rx)
  obtain⟨_,_,_,p⟩:=(show bx X.prog X.w H s.heap a (.tup xs) from I.hok a _ ea)
  obtain⟨o,h1,h2,_⟩:=p
  exact ŵ W.kitx_tuple I.kIn ⟨o,h1,h2⟩ ho e (λz=>nomatch z) fin
 |@dK a kvs ea =>
  cases (show u=ħ a from rx)
  obtain⟨_,_,vs,_,p⟩:=(show bx X.prog X.w H s.heap a (.dK kvs) from I.hok a _ ea)
  obtain⟨o,es,ep,h1,h2,_⟩:=p
  exact ŵ W.kitx_dict I.kIn ⟨o,h1,h2.1⟩ ho e (λz=>nomatch z) fin
 |@dT a kvs ea =>
  cases (show u=ħ a from rx)
  obtain⟨_,_,xs,_,o,es,ep,h1,h2,_⟩:=(show bx X.prog X.w H s.heap a (.dT kvs) from I.hok a _ ea)
  exact ŵ W.kitx_dict I.kIn ⟨o,h1,h2.1⟩ ho e (λz=>nomatch z) fin
 |@ins a C dx fs ea cl ha hn htk hm =>
  cases (show u=ħ a from rx)
  obtain⟨mA,O,_⟩:=Cp I.hok ea
  obtain⟨od,J,_⟩:=O.look
  exact ŵ (W.kitx_own (cl.get _) cl.hd ha hn htk hm) I.kIn J ho e (λz=>nomatch z) fin
def uz:∀{bs:List Bool}{us:List Value},Vals (bs.map V.bl) us->us=bs.map Ś
 |[],_,h=>by cases h;rfl
 |b::bs,_,h=>by
  cases h with
  |cons r t =>
   cases r
   rw[uz t]
   rfl
def all_range(bs:List Bool):(ä bs.length).all (λi=>bs.getD i true)=bs.all id:=by
 rw[Ģ]
 simp only[ï,ę]
 constructor
 ·intro h x hx
  obtain⟨i,hi,e⟩:=List.mem_iff_getElem.mp hx
  have q:=h i hi
  simp[hi] at q
  rw[←e];exact q
 ·intro h i hi
  have q:=h bs[i] (ņ hi)
  simpa[hi] using q
def Fg(hc:X.calm=true):bM X (.builtin "all") (λxs H Q=>∃(p:Addr) (bs:List Bool),xs=[.ref p]/\SqL X.K H p (bs.map V.bl)/\Q (.bl (bs.all id)) H):=by
 intro pins s σ H xs us Q I r h
 obtain⟨p,bs,rfl,hp,q⟩:=h
 obtain⟨u,rfl,rx⟩:=vals1 r
 cases rx
 obtain⟨its,rv,pl,hz⟩:=I.list hp
 have e:=uz rv
 subst e
 have hlt:p≠s.heap.objs.size:=by obtain⟨o,ho,_⟩:=pl.isList;exact æ (É ho)
 refine call_all_walk (wpAny_pyIter_list pl.isList ?_)
 refine⟨_,_,_,_,_,_,λi=>bs.getD i true,rfl,Walks.list (A:=X.A.in1) (I.ok.hd hc) _ p hlt _,⟨⟨_,Þ _ rfl,rfl,rfl⟩,pl.isList.push _⟩,?_,λh' tk hk=>?_⟩
 ·intro i v s Q E hP hQ
  have hP':(bs.map Ś)[i]?=some v:=by simpa using hP
  rw[å] at hP'
  cases hb:bs[i]? with
  |none=>rw[hb] at hP';cases hP'
  |some b =>
   rw[hb] at hP'
   cases hP'
   refine Ī ?_
   have e:bs.getD i true=b:=by rw[ò,hb];rfl
   have hQ':Q (bs.getD i true) s:=hQ
   rw[e] at hQ'
   exact hQ'
 ·have e:(ä (bs.map Ś).toArray.size).all (λi=>bs.getD i true)=bs.all id:=by
   rw[Ï,Â]
   exact all_range bs
  rw[e]
  refine⟨.bl (bs.all id),H,I.kept λb o eb=>hk b o ?_ (Ë _ eb),rfl,q⟩
  intro hm
  have:b=s.heap.objs.size:=by simpa using hm
  exact absurd (É eb) (by rw[this];exact ü _)
def Ew(hc:X.calm=true):bM X (.builtin "min") (λxs H Q=>∃p a b,xs=[.ref p]/\SqT X.K H p [.int a,.int b]/\Q (.int (if b<a then b else a)) H):=by
 intro pins s σ H xs us Q I r h
 obtain⟨p,a,b,rfl,hp,q⟩:=h
 obtain⟨u,rfl,rx⟩:=vals1 r
 cases rx
 obtain⟨its,rv,pl,hz⟩:=I.tuple hp
 obtain⟨v1,v2,rfl,⟨t1,rfl⟩,⟨t2,rfl⟩⟩:=vals2 rv
 have pl':s.heap.IsTuple p (intItems #[(a,t1),(b,t2)]):=by
  have z:s.heap.IsTuple p #[ĝ a t1,ĝ b t2]:=pl
  simpa[intItems] using z
 have hlt:p<s.heap.objs.size:=by obtain⟨o,ho,_⟩:=pl;exact É ho
 refine call_min_walk (wpAny_pyIter_tuple pl' ?_)
 refine⟨_,[s.heap.objs.size,p],[s.heap.objs.size],_,_,_,_,rfl,Walks.tuple (A:=X.A.in1) (I.ok.hd hc) _ p (æ hlt) (intItems #[(a,t1),(b,t2)]),⟨⟨_,Þ _ rfl,rfl,rfl⟩,pl'.push _⟩,λc hc=>?_,by simp[intItems],
  CmpOf.ints_lt (numAt #[(a,t1),(b,t2)]) (λ_ _=>intItems_at),λv h' tk hP hk=>?_⟩
 ·show c<(s.heap.push _).objs.size
  rw[ŕ]
  rcases è.mp hc with rfl|hc
  ·exact Ű _
  ·have:c=p:=by simpa using hc
   rw[this];exact Ĕ hlt
 ·have hv:v=if b<a then ĝ b t2 else ĝ a t1:=by
   have hP':(intItems #[(a,t1),(b,t2)])[argBest (λi j=>decide (numAt #[(a,t1),(b,t2)] i<numAt #[(a,t1),(b,t2)] j)) 1]?=some v:=by
    have hsz2:(intItems #[(a,t1),(b,t2)]).size - 1=1:=by simp[intItems]
    rw[←hsz2];exact hP
   by_cases hba:b<a
   ·have e:argBest (λi j=>decide (numAt #[(a,t1),(b,t2)] i<numAt #[(a,t1),(b,t2)] j)) 1=1:=by simp[argBest,numAt,hba]
    rw[e] at hP'
    simpa[intItems,hba] using hP'.symm
   ·have e:argBest (λi j=>decide (numAt #[(a,t1),(b,t2)] i<numAt #[(a,t1),(b,t2)] j)) 1=0:=by simp[argBest,numAt,hba]
    rw[e] at hP'
    simpa[intItems,hba] using hP'.symm
  subst hv
  refine⟨.int (if b<a then b else a),H,I.kept λb o eb=>hk b o ?_ (Ë _ eb),?_,q⟩
  ·intro hm
   have:b=s.heap.objs.size:=by simpa using hm
   exact absurd (É eb) (by rw[this];exact ü _)
  ·by_cases hba:b<a
   ·rw[if_pos hba,if_pos hba];exact⟨_,rfl⟩
   ·rw[if_neg hba,if_neg hba];exact⟨_,rfl⟩
def Ez(hc:X.calm=true):bM X (.builtin "max") (λxs H Q=>∃p a b,xs=[.ref p]/\SqT X.K H p [.int a,.int b]/\Q (.int (if b > a then b else a)) H):=by
 intro pins s σ H xs us Q I r h
 obtain⟨p,a,b,rfl,hp,q⟩:=h
 obtain⟨u,rfl,rx⟩:=vals1 r
 cases rx
 obtain⟨its,rv,pl,hz⟩:=I.tuple hp
 obtain⟨v1,v2,rfl,⟨t1,rfl⟩,⟨t2,rfl⟩⟩:=vals2 rv
 have pl':s.heap.IsTuple p (intItems #[(a,t1),(b,t2)]):=by
  have z:s.heap.IsTuple p #[ĝ a t1,ĝ b t2]:=pl
  simpa[intItems] using z
 have hlt:p<s.heap.objs.size:=by obtain⟨o,ho,_⟩:=pl;exact É ho
 refine call_max_walk (wpAny_pyIter_tuple pl' ?_)
 refine⟨_,[s.heap.objs.size,p],[s.heap.objs.size],_,_,_,_,rfl,Walks.tuple (A:=X.A.in1) (I.ok.hd hc) _ p (æ hlt) (intItems #[(a,t1),(b,t2)]),⟨⟨_,Þ _ rfl,rfl,rfl⟩,pl'.push _⟩,λc hc=>?_,by simp[intItems],
  CmpOf.ints_gt (numAt #[(a,t1),(b,t2)]) (λ_ _=>intItems_at),λv h' tk hP hk=>?_⟩
 ·show c<(s.heap.push _).objs.size
  rw[ŕ]
  rcases è.mp hc with rfl|hc
  ·exact Ű _
  ·have:c=p:=by simpa using hc
   rw[this];exact Ĕ hlt
 ·have hv:v=if b > a then ĝ b t2 else ĝ a t1:=by
   have hP':(intItems #[(a,t1),(b,t2)])[argBest (λi j=>decide (numAt #[(a,t1),(b,t2)] i > numAt #[(a,t1),(b,t2)] j)) 1]?=some v:=by
    have hsz2:(intItems #[(a,t1),(b,t2)]).size - 1=1:=by simp[intItems]
    rw[←hsz2];exact hP
   by_cases hba:b > a
   ·have e:argBest (λi j=>decide (numAt #[(a,t1),(b,t2)] i > numAt #[(a,t1),(b,t2)] j)) 1=1:=by simp[argBest,numAt,hba]
    rw[e] at hP'
    simpa[intItems,hba] using hP'.symm
   ·have e:argBest (λi j=>decide (numAt #[(a,t1),(b,t2)] i > numAt #[(a,t1),(b,t2)] j)) 1=0:=by simp[argBest,numAt,hba]
    rw[e] at hP'
    simpa[intItems,hba] using hP'.symm
  subst hv
  refine⟨.int (if b > a then b else a),H,I.kept λb o eb=>hk b o ?_ (Ë _ eb),?_,q⟩
  ·intro hm
   have:b=s.heap.objs.size:=by simpa using hm
   exact absurd (É eb) (by rw[this];exact ü _)
  ·by_cases hba:b > a
   ·rw[if_pos hba,if_pos hba];exact⟨_,rfl⟩
   ·rw[if_neg hba,if_neg hba];exact⟨_,rfl⟩
def uf:bM X (.type "range") (λxs H Q=>∃j,xs=[.int j]/\∀p,H p=none->Q (.ref p) (upd H p (.rng 0 j))):=by
 intro pins s σ H xs us Q I r h
 obtain⟨j,rfl,q⟩:=h
 obtain⟨u,rfl,t,rfl⟩:=vals1 r
 refine call_range_1 ?_
 exact⟨.ref s.heap.objs.size,_,I.laid (o:=.rng 0 j) (λb o e=>Ë _ e) (Ç _) ⟨_,_,_,Þ _ rfl⟩,rfl,q _ I.fresh⟩
def oM(lo hi:Int):List V:=(ä (hi - lo).toNat).map λi=>V.int (lo+(i:Nat))
def yu{lo:Int}:∀{n:Nat}{us:List Value},us.length=n->(∀j v,us[j]?=some v->∃t,v=ĝ (lo+(j:Nat) * 1) t)->Vals ((ä n).map λi=>V.int (lo+(i:Nat))) us:=by
 intro n us hl h
 have key:∀(us:List Value) (k:Nat),(∀j v,us[j]?=some v->∃t,v=ĝ (lo+((k+j:Nat):Int)) t)->Vals ((List.range' k us.length).map λi=>V.int (lo+(i:Nat))) us:=by
  intro us
  induction us with
  |nil=>intro k _;exact .nil
  |cons u us ih =>
   intro k hk
   obtain⟨t,e⟩:=hk 0 u (by simp)
   rw[ÿ,List.range'_succ,û]
   refine .cons ⟨t,by simpa using e⟩ (ih (k+1) λj v hv=>?_)
   obtain⟨t,e⟩:=hk (j+1) v (by simpa using hv)
   exact⟨t,by rw[e];congr 2;omega⟩
 have q:=key us 0 λj v hv=>by
  obtain⟨t,e⟩:=h j v hv
  exact⟨t,by rw[e];simp⟩
 rw[hl,←List.range_eq_range'] at q
 exact q
def jU(hc:X.calm=true):bM X (.type "list") (λxs H Q=>∃p lo hi,xs=[.ref p]/\H p=some (.rng lo hi)/\(-1000<=lo/\lo<=1000/\-1000<=hi/\hi<=1000)/\∀l,H l=none->Q (.ref l) (upd H l (.lst (oM lo hi)))):=by
 intro pins s σ H xs us Q I r h
 obtain⟨p,lo,hi,rfl,hp,⟨b1,b2,b3,b4⟩,q⟩:=h
 obtain⟨u,rfl,rx⟩:=vals1 r
 cases rx
 obtain⟨t,u,v,e⟩:=I.hok p _ hp
 have hsz:Builtin.Range.rangeSize lo hi 1=(((hi - lo).toNat:Nat):Int):=by rw[rangeSize_one];split <;> omega
 refine call_list_range (I.ok.hd hc) (show IsRange s.heap p lo hi 1 t u v from e) (small_one (by omega) (by omega) (by omega) (by omega)) hsz (by omega) λh' tk acc' c' hk ho ⟨hn,hit⟩=>?_
 have hv:Vals (oM lo hi) acc'.toList:=yu (by simpa using hn) λj w hw=>hit j w (by simpa using hw)
 refine⟨.ref s.heap.objs.size,_,I.laid (o:=.lst (oM lo hi)) hk (Ç _) ⟨?_,acc'.toList,c',hv,by simpa using ho⟩,rfl,q _ I.fresh⟩
 unfold oM
 rw[Â,ĳ,õ]
 omega
end
abbrev Tie:=Int×Int
def Pr(H:Hp)(v:V)(t:Tie):Prop:=∃p,v=.ref p/\H p=some (.tup [.int t.1,.int t.2])
abbrev Prs(H:Hp):List V->List Tie->Prop:=Paired (Pr H)
def aV(t:Tie):Int:=64 * t.1+t.2
def yr(t:Tie):Prop:=0<=t.2/\t.2<64
def jt(h:Heap)(u:Value)(t:Tie):Prop:=∃a o t1 t2 n,u=.ref a/\h.get? a=some o/\o.cls=.type "tuple"/\o.data=.seq #[.int t.1 t1,.int t.2 t2] n
def jt.keep{h h':Heap}{u:Value}{t:Tie}(x:jt h u t)(k:∀a o,h.get? a=some o->o.cls=.type "tuple"->h'.get? a=some o):jt h' u t:=by
 obtain⟨a,o,t1,t2,n,e,ho,hc,hd⟩:=x
 exact⟨a,o,t1,t2,n,e,k a o ho hc,hc,hd⟩
def S5{α β:Type}{F:α->β->Prop}{l₁:List α}{l₂:List β}(h:Paired F l₁ l₂):∀{i:Nat}{b:β},l₂[i]?=some b->∃a,l₁[i]?=some a/\F a b:=by
 induction h with
 |nil=>intro i x e;simp at e
 |cons r t ih =>
  intro i x e
  cases i with
  |zero=>simp at e;subst e;exact⟨_,rfl,r⟩
  |succ i =>
   obtain⟨c,e1,f⟩:=ih (by simpa using e)
   exact⟨c,by simpa using e1,f⟩
def Gy{α β:Type}{F:α->β->Prop}{l₁:List α}{l₂:List β}(h:Paired F l₁ l₂)(da:α)(db:β):∀(p:List Nat),(∀i∈p,i<l₂.length)->Paired F (p.map λi=>l₁.getD i da) (p.map λi=>l₂.getD i db)
 |[],_=>.nil
 |i::p,hp=>by
  have hi:i<l₂.length:=hp i Ú
  obtain⟨a,e,f⟩:=S5 h (i:=i) (b:=l₂[i]) (by simp[hi])
  refine .cons ?_ (Gy h da db p λj hj=>hp j (Ó _ hj))
  have e1:l₁.getD i da=a:=by rw[ò,e];rfl
  have e2:l₂.getD i db=l₂[i]:=by simp[hi]
  show F (l₁.getD i da) (l₂.getD i db)
  rw[e1,e2]
  exact f
def R5{α:Type}:∀us:List α,List.map (λx=>x.snd) (us.zip us)=us
 |[]=>rfl
 |u::us=>by rw[List.zip_cons_cons,û,R5 us]
def jc{α:Type}(l:List α)(d:α):(ä l.length).map (λi=>l.getD i d)=l:=by
 apply List.ext_getElem
 ·simp
 ·intro i h1 h2
  simp at h1 ⊢
  simp[h1]
section
variable {X:Cx}{pins:List (Addr×Obj)}{σ:St}{H:Hp}{s:Shared}
def Inv.pairs(I:Inv X pins σ H s):∀{vs:List V}{ts:List Tie}{us:List Value},Prs H vs ts->Vals vs us->Paired (jt s.heap) us ts
 |_,_,_,.nil,r=>by cases r;exact .nil
 |_,_,_,.cons p q,r=>by
  cases r with
  |cons r rr =>
   refine .cons ?_ (I.pairs q rr)
   obtain⟨a,rfl,e⟩:=p
   cases r
   obtain⟨_,its,rv,⟨o,ho,hc,n,hd⟩⟩:=I.hok a _ e
   obtain⟨v1,v2,rfl,⟨t1,rfl⟩,⟨t2,rfl⟩⟩:=vals2 rv
   exact⟨a,o,t1,t2,n,rfl,ho,hc,hd⟩
end
section
variable {prog:Program}{w:World}{A:Around}{E:Value->Shared->Prop}{s:Shared}
def HW{x y:Value}{a b:Tie}{Q:Bool->Shared->Prop}(hx:jt s.heap x a)(hy:jt s.heap y b)(na:yr a)(nb:yr b)(h:Q (decide (aV a<aV b)) s):wpAny (model prog w) A (keyLt' (tuples' true) x y) Q E s:=by
 obtain⟨p,o,t1,t2,n,rfl,ho,hc,hd⟩:=hx
 obtain⟨p',o',t1',t2',n',rfl,ho',hc',hd'⟩:=hy
 obtain⟨a1,a2⟩:=a
 obtain⟨b1,b2⟩:=b
 unfold yr at na nb
 simp only at na nb
 refine W.kat_lt ho hd ho' hd' ?_
 refine W.kat_cons (wpAny_eqBool_int ?_)
 by_cases e1:a1=b1
 ·subst e1
  rw[beq_self_eq_true]
  refine W.kat_yes (W.kat_cons (wpAny_eqBool_int ?_))
  by_cases e2:a2=b2
  ·subst e2
   rw[beq_self_eq_true]
   refine W.kat_yes (W.kat_nil ?_)
   have e:decide (aV (a1,a2)<aV (a1,a2))=false:=decide_eq_false (Int.lt_irrefl _)
   rw[e] at h
   exact h
  ·rw[beq_eq_false_iff_ne.mpr e2]
   refine W.kat_no (W.kat_one _ _ (lt_int ?_))
   have e:decide (aV (a1,a2)<aV (a1,b2))=decide (a2<b2):=by
    apply decide_eq_decide.mpr
    unfold aV
    omega
   rw[e] at h
   exact h
 ·rw[beq_eq_false_iff_ne.mpr e1]
  refine W.kat_no (oneLt_int ?_)
  have e:decide (aV (a1,a2)<aV (b1,b2))=decide (a1<b1):=by
   apply decide_eq_decide.mpr
   unfold aV
   simp only
   constructor
   ·intro h;omega
   ·intro h;omega
  rw[e] at h
  exact h
def Ip:∀{us:List Value}{ts:List Tie},Paired (jt s.heap) us ts->∃fs,W.KatTups s.heap us fs/\fs.length=us.length/\∀v∈fs,∃i t,v=ĝ i t
 |_,_,.nil=>⟨[],.nil,rfl,λ_ h=>nomatch h⟩
 |_,_,.cons p q=>by
  obtain⟨a,o,t1,t2,n,rfl,ho,hc,hd⟩:=p
  obtain⟨fs,k,hl,hv⟩:=Ip q
  refine⟨_::fs,.cons ho hc hd (f:=ĝ _ t1) rfl k,by simp[hl],λv hv'=>?_⟩
  rcases è.mp hv' with rfl|h
  ·exact⟨_,_,rfl⟩
  ·exact hv v h
def RD{n:Nat}{key:Nat->Int}{p:Array Nat}(hp:NfSort.Pm n p)(h1:1<=n)(hs:NfSort.Up key p n):NfSort.kwp n key (W.kas_count n p) (λr=>r.1=n/\r.2=p):=by
 unfold W.kas_count
 have go:∀(f a:Nat),1<=a->a+f=n->NfSort.kwp n key (W.kas_asc p f a) (λm=>m=n):=by
  intro f
  induction f with
  |zero=>intro a _ h;exact h
  |succ f ih =>
   intro a ha h
   refine⟨hp.lt (by omega),hp.lt (by omega),?_⟩
   have hc:¬key (p.getD a 0)<key (p.getD (a - 1) 0):=Int.not_lt.mpr (hs (a - 1) a (by omega) (by omega))
   rw[decide_eq_false hc]
   exact ih (a+1) (by omega) (by omega)
 refine NfSort.eO (NfSort.bO (λm e=>?_) (go (n - 1) 1 (Ç _) (by omega)))
 rw[if_pos (by simpa using e)]
 exact⟨e,rfl⟩
open PySem.W in
def J6{prog:Program}{w:World}{A:Around}{E:Value->Shared->Prop}{κ:SortKind}{it:Array Keyed}{n:Nat}{Q:Unit->SortSt->Shared->Prop}{G:Array Nat->Shared->Prop}{s:Shared}(h2:2<=n)(hmr:minRun' n n 0<=n)(hG:∀p' st' s',p'.size=n->arrOf st'=p'.map (kas_item it)->failedOf st'=none->G p' s'->Q () st' s')(h:(kas_count n (ō (ä n))).kasWp (kas_cmp prog w A κ it) (λr s'=>r.1=n/\G r.2 s') s) :
  kasC (model prog w) A E sortRuns' Q (kas_st κ it (ō (ä n))) s:=by
 obtain⟨r,rfl⟩:∃r,n=r+2:=⟨n - 2,by omega⟩
 have hrs:(ō (ä (r+2))).size=r+2:=by simp
 rw[sortRuns'_eq]
 refine kasC_bind (kasC_get ?_)
 dsimp only
 have hsz:(arrOf (kas_st κ it (ō (ä (r+2))))).size=r+2:=by
  show((ō (ä (r+2))).map (kas_item it)).size=_
  rw[Array.size_map,hrs]
 simp only[hsz]
 refine kasC_bind (kasC_range ?_)
 show kasC _ _ _ (forIn (0::1::List.range' 2 r) _ _) _ _ _
 refine kasC_cons ?_
 dsimp only
 rw[if_neg (by omega)]
 simp only[Nat.sub_zero,Nat.zero_add]
 refine kasC_bind (kas_count_ (by omega) (by rw[hrs];exact Ç _) (λm p' s' hm1 hm2 hp hg=>?_) h)
 have hps:p'.size=r+2:=hp.trans hrs
 obtain⟨e,hg⟩:=hg
 have e':m=r+2:=e
 subst e'
 dsimp only
 rw[if_neg (by omega)]
 refine kasC_bind (kasC_get ?_)
 rw[show(pendingOf (kas_st κ it p')).back?=none from rfl]
 dsimp only
 refine kasC_bind (kasC_modify (kasC_pure ?_))
 show kasC _ _ _ (forIn (1::List.range' 2 r) _ _) _ _ _
 refine kasC_cons ?_
 dsimp only
 rw[if_pos (Ç _)]
 refine kasC_pure ?_
 dsimp only
 refine kasC_bind (kasC_range ?_)
 show kasC _ _ _ (forIn (0::1::List.range' 2 r) _ _) _ _ _
 refine kasC_cons ?_
 refine kasC_bind (kasC_get ?_)
 rw[if_pos (show(pendingOf (setPending (kas_st κ it p') ((pendingOf (kas_st κ it p')).push (0,r+2,0)))).size<=1 from Ç 1)]
 refine kasC_pure ?_
 dsimp only
 exact kasC_pure (hG p' _ _ hps rfl rfl hg)
def Srt(ts:List Tie):Prop:=ts.length<64\/ts.length=300/\∀i j,i<=j->j<ts.length->aV (ts.getD i (0,0))<=aV (ts.getD j (0,0))
def Srt.lt{ts:List Tie}:Srt ts->ts.length<512
 |.inl h=>by omega
 |.inr h=>by omega
def Dj{a:Addr}{us:List Value}{ts:List Tie}{n:Nat}{P:PySem.Fin->Shared->Prop}(ho:s.heap.get? a=some (seqObj "list" us.toArray n))(hp:Paired (jt s.heap) us ts)(hn:∀t∈ts,yr t)(h64:Srt ts)(h:∀p:List Nat,p.Perm (ä us.length)->(∀i j,i<=j->j<us.length->aV (ts.getD (p.getD i 0) (0,0))<=aV (ts.getD (p.getD j 0) (0,0))) ->
   P (.done (.ret .none)) { s with heap:=sortedHeap s.heap a us (p.map λi=>us.getD i ľ).toArray }) :
  wpAny (model prog w) A (Builtin.«list.sort» ⟨[.ref a],[]⟩) P E s:=by
 have hlen:=hp.length
 have hbig:=h64.lt
 have h24:=õ
 rw[list_sort_plain]
 have ha:a<s.heap.objs.size:=É ho
 refine Æ (listItems_at ho rfl ?_)
 refine Æ (listUpdate_at ho rfl ?_ (by rw[Ï,õ];omega) (à _))
 obtain⟨e1,ho1⟩:∃e1,(s.heap.update a (Ü λ_=>(#[]:Array Value))).get? a=some (seqObj "list" #[] e1):=⟨_,get?_update_seq ho (λ_=>#[])⟩
 refine Æ (seqEpoch_at ho1 rfl ?_)
 refine Æ (wpAny_newTuple ?_ (by show us.length<=_;rw[õ];omega))
 refine Æ (wpAny_newList ?_ (à _))
 refine Ĭ ?_
 have ho6:(((s.heap.update a (Ü λ_=>(#[]:Array Value))).push (seqObj "tuple" us.toArray 0)).push (seqObj "list" #[] 0)).get? a=some (seqObj "list" #[] e1):=by
  rw[ţ _ _ _ (by rw[size_push',Į];exact æ (Ĕ ha)),ţ _ _ _ (by rw[Į];exact æ ha)]
  exact ho1
 have kept:∀b o,s.heap.get? b=some o->o.cls=.type "tuple"->(((s.heap.update a (Ü λ_=>(#[]:Array Value))).push (seqObj "tuple" us.toArray 0)).push (seqObj "list" #[] 0)).get? b=some o:=λb o q hc=>by
  have hlt:b<s.heap.objs.size:=É q
  have hne:b≠a:=λz=>by
   rw[z,ho] at q
   cases q
   have z2:(Đ "list")=Đ "tuple":=hc
   injection z2 with z3
   exact absurd z3 (by decide)
  rw[ţ _ _ _ (by rw[size_push',Į];exact æ (Ĕ hlt)),ţ _ _ _ (by rw[Į];exact æ hlt),Heap.get?_update_ne _ _ _ _ hne]
  exact q
 show wpAny (model prog w) A _ P E { s with heap:=((s.heap.update a (Ü λ_=>(#[]:Array Value))).push (seqObj "tuple" us.toArray 0)).push (seqObj "list" #[] 0) }
 dsimp only
 have hsz:us.toArray.size=us.length:=by simp
 have hp6:Paired (jt (((s.heap.update a (Ü λ_=>(#[]:Array Value))).push (seqObj "tuple" us.toArray 0)).push (seqObj "list" #[] 0))) us ts:=Paired.HJ hp λu t x=>x.keep kept
 by_cases h2:us.toArray.size<2
 ·rw[if_pos h2,if_pos h2]
  refine Æ (Ø ?_)
  rw[StateT.run_pure]
  refine Æ (Ø ?_)
  dsimp only
  have eout:(arrOf (SortSt.mk' general' (us.toArray.zip us.toArray) #[] 7 none)).map (·.2)=((ä us.length).map λi=>us.getD i ľ).toArray:=by
   rw[jc]
   show(us.toArray.zip us.toArray).map (·.2)=us.toArray
   apply Array.toList_inj.mp
   simp
   exact R5 us
  rw[eout]
  refine Æ (seqEpoch_at ho6 rfl ?_)
  refine Æ (listUpdate_at ho6 rfl ?_ (à _) (by rw[Ï,Â,ĳ,õ];omega))
  simp only[bne_self_eq_false,Ň,if_false]
  refine Ø (h _ (List.Perm.refl _) λi j hij hj=>?_)
  have:i=j:=by omega
  subst this
  exact Int.le_refl _
 ·rw[if_neg h2,if_neg h2]
  have h2':2<=us.length:=by omega
  obtain⟨fs,hk,hfl,hfi⟩:=Ip (s:={ s with heap:=((s.heap.update a (Ü λ_=>(#[]:Array Value))).push (seqObj "tuple" us.toArray 0)).push (seqObj "list" #[] 0) }) hp6
  refine Æ (W.kat_kind (T:=.type "int") hk (by omega) (λv hv=>by obtain⟨i,t,rfl⟩:=hfi v hv;exact W.Looks.of_pure rfl) rfl ?_)
  have hcmp:∀i j C,i<us.length->j<us.length->C (decide (aV (ts.getD i (0,0))<aV (ts.getD j (0,0)))) { s with heap:=((s.heap.update a (Ü λ_=>(#[]:Array Value))).push (seqObj "tuple" us.toArray 0)).push (seqObj "list" #[] 0) } ->
    W.kas_cmp prog w A (tuples' true) (us.toArray.zip us.toArray) i j C { s with heap:=((s.heap.update a (Ü λ_=>(#[]:Array Value))).push (seqObj "tuple" us.toArray 0)).push (seqObj "list" #[] 0) }:=λi j C hi hj hC=>by
   unfold W.kas_cmp
   rw[W.kat_item rfl,W.kat_item rfl]
   have key:∀k,k<us.length->jt (((s.heap.update a (Ü λ_=>(#[]:Array Value))).push (seqObj "tuple" us.toArray 0)).push (seqObj "list" #[] 0)) (us.getD k ľ) (ts.getD k (0,0))/\yr (ts.getD k (0,0)):=λk hk=>by
    have hk':k<ts.length:=by omega
    have ek:ts.getD k (0,0)=ts[k]:=by simp[hk']
    obtain⟨u,eu,pu⟩:=S5 hp6 (i:=k) (b:=ts[k]) (by simp[hk'])
    have eu':us.getD k ľ=u:=by rw[ò,eu];rfl
    rw[ek,eu']
    exact⟨pu,hn _ (ņ hk')⟩
   exact HW (key i hi).1 (key j hj).1 (key i hi).2 (key j hj).2 hC
  have G:W.kasC (model prog w) A E sortRuns' (λ_ st' s'=>∃p:Array Nat,s'={ s with heap:=((s.heap.update a (Ü λ_=>(#[]:Array Value))).push (seqObj "tuple" us.toArray 0)).push (seqObj "list" #[] 0) }/\arrOf st'=p.map (W.kas_item (us.toArray.zip us.toArray))/\failedOf st'=none/\NfSort.Pm us.length p/\NfSort.Up (λi=>aV (ts.getD i (0,0))) p us.length) (W.kas_st (tuples' true) (us.toArray.zip us.toArray) (ō (ä us.length))) { s with heap:=((s.heap.update a (Ü λ_=>(#[]:Array Value))).push (seqObj "tuple" us.toArray 0)).push (seqObj "list" #[] 0) }:=by
   rcases h64 with h64|⟨h64,hs⟩
   ·exact W.kas_runs (G:=λp s'=>s'={ s with heap:=((s.heap.update a (Ü λ_=>(#[]:Array Value))).push (seqObj "tuple" us.toArray 0)).push (seqObj "list" #[] 0) }/\NfSort.Pm us.length p/\NfSort.Up (λi=>aV (ts.getD i (0,0))) p us.length) h2' (by omega) (λp' st' s' a1 a2 a3 a4=>⟨p',a4.1,a2,a3,a4.2⟩)
     (NfSort.vC hcmp (NfSort.bO (λp hp=>⟨rfl,hp⟩) (NfSort.JZ (by omega))))
   ·have hu:NfSort.Up (λi=>aV (ts.getD i (0,0))) (ō (ä us.length)) us.length:=λi j hij hj=>by
     unfold NfSort.kk
     have eg:∀k,k<us.length->(ō (ä us.length)).getD k 0=k:=λk hk=>by simp[Array.getD,hk]
     rw[eg i (by omega),eg j hj]
     exact hs i j hij (by omega)
    exact J6 (G:=λp s'=>s'={ s with heap:=((s.heap.update a (Ü λ_=>(#[]:Array Value))).push (seqObj "tuple" us.toArray 0)).push (seqObj "list" #[] 0) }/\NfSort.Pm us.length p/\NfSort.Up (λi=>aV (ts.getD i (0,0))) p us.length) h2' (by rw[hlen,h64];decide +kernel) (λp' st' s' a1 a2 a3 a4=>⟨p',a4.1,a2,a3,a4.2⟩)
     (NfSort.vC (G:=λr s'=>r.1=us.length/\s'={ s with heap:=((s.heap.update a (Ü λ_=>(#[]:Array Value))).push (seqObj "tuple" us.toArray 0)).push (seqObj "list" #[] 0) }/\NfSort.Pm us.length r.2/\NfSort.Up (λi=>aV (ts.getD i (0,0))) r.2 us.length) hcmp (NfSort.bO (λr ⟨e1,e2⟩=>⟨e1,rfl,by rw[e2];exact⟨Array.Perm.refl _,hu⟩⟩) (RD (Array.Perm.refl _) (by omega) hu)))
  have est:SortSt.mk' (tuples' true) (us.toArray.zip us.toArray) #[] 7 none=W.kas_st (tuples' true) (us.toArray.zip us.toArray) (ō (ä us.length)):=by
   have e:=W.kas_range (us.toArray.zip us.toArray)
   rw[show(us.toArray.zip us.toArray).size=us.length by simp] at e
   show SortSt.mk' (tuples' true) (us.toArray.zip us.toArray) #[] 7 none=SortSt.mk' (tuples' true) ((ō (ä us.length)).map (W.kas_item (us.toArray.zip us.toArray))) #[] 7 none
   rw[e]
  have eT:tuples' (Đ "int" != Đ "tuple")=tuples' true:=rfl
  rw[eT,est]
  refine Æ (Ō G ?_ λ_ _ e=>e)
  rintro⟨⟨⟩,st'⟩ s' ⟨p,rfl,har,hf,hpm,hup⟩
  dsimp only
  have hout:=W.kat_snds (ks:=us) (vs:=us) rfl har
  rw[hout]
  have hsz2:p.size=us.length:=hpm.size
  refine Æ (seqEpoch_at ho6 rfl ?_)
  refine Æ (listUpdate_at ho6 rfl ?_ (à _) (by rw[Ï,Â,ď,hsz2,õ];omega))
  rw[hf]
  simp only[bne_self_eq_false,Ň,if_false]
  refine Ø (h p.toList ?_ λi j hij hj=>?_)
  ·have:=Array.perm_iff_toList_perm.mp hpm
   simpa using this
  ·have q:=hup i j hij hj
   unfold NfSort.kk at q
   have eg:∀k,p.toList.getD k 0=p.getD k 0:=λk=>by
    rw[NfSort.getD_eq,ò]
    simp
   rw[eg,eg]
   exact q
def rA{l:Addr}{vs:List Value}{Q:List Value->Shared->Prop}(hl:IsTup s.heap l vs.toArray)(h:Q vs { s with heap:=(s.heap.push (seqObj "list" #[] 0)).update s.heap.objs.size (Ü (·++vs.toArray)) })(hsz:vs.length<=sizeLine) :
  wpAny (model prog w) A (collect (.ref l)) Q E s:=by
 obtain⟨o,ho,hc,n,hd⟩:=id hl
 unfold collect
 refine Æ (wpAny_runValue (codeAny_builtin entry_proto_collect' ?_))
 show wpAny _ _ (do again (.builtin "list.__iadd__" ⟨[←newList [],.ref l],[]⟩)) _ _ s
 refine Æ (wpAny_newList (Ø ⟨Code.quiet_builtin _ (by decide +kernel),codeAny_builtin entry_list_iadd' ?_⟩))
 show wpAny _ _ (Ř (.ref s.heap.objs.size) (.ref l) (.ref s.heap.objs.size)) _ _ { s with heap:=s.heap.push (seqObj "list" #[] 0) }
 unfold Ř
 have ho':(s.heap.push (seqObj "list" #[] 0)).get? l=some o:=Ë _ ho
 refine Æ (wpAny_typeOf (T:="tuple") ⟨o,ho',hc⟩ ?_)
 have ht:(Đ "tuple" == Đ "tuple")=true:=by rfl
 rw[if_pos (by rw[ht];simp)]
 refine Æ (listItems_at ho' hd ?_)
 refine Æ (listItems_at (xs:=#[]) (n:=0) (Þ _ rfl) rfl ?_)
 rw[if_neg (by simp)]
 refine Æ (listUpdate_at (xs:=#[]) (n:=0) (Þ _ rfl) rfl ?_ (à _) (by show(#[]++vs.toArray).size<=sizeLine+1;simp only[Array.size_append,Ï,List.length_nil];omega))
 refine Ø ?_
 show wpAny (model prog w) A (do
   let o ←load s.heap.objs.size
   match o.data with
   |.seq xs _=>pure xs.toList
   |_=>unsupported "internal:collect") Q E { s with heap:=(s.heap.push (seqObj "list" #[] 0)).update s.heap.objs.size (Ü (·++vs.toArray)) }
 refine Æ (wpAny_load (get?_update_seq (Þ _ rfl) _) ?_)
 show wpAny _ _ (pure ((#[]:Array Value)++vs.toArray).toList) Q E _
 rw[show((#[]:Array Value)++vs.toArray).toList=vs by simp]
 exact Ø h
def uF{l:Addr}{us:List Value}{ts:List Tie}{Q:Value->Shared->Prop}(hl:s.heap.IsList l us.toArray\/IsTup s.heap l us.toArray)(hp:Paired (jt s.heap) us ts)(hn:∀t∈ts,yr t)(h64:Srt ts)(h:∀p:List Nat,p.Perm (ä us.length)->(∀i j,i<=j->j<us.length->aV (ts.getD (p.getD i 0) (0,0))<=aV (ts.getD (p.getD j 0) (0,0))) ->
   Q (.ref (s.heap.objs.size+1)) { s with heap:=sortedAll s.heap us (p.map λi=>us.getD i ľ).toArray }) :
  wpAny (model prog w) A (call (.builtin "sorted") [.ref l]) Q E s:=by
 have h24:=õ
 have hlen:=hp.length
 have hbig:=h64.lt
 refine Calls.call_function_entry kind_sorted plain_sorted entry_sorted (args_sorted1 _) ?_
 unfold Builtin.«sorted»
 refine Æ (m:=checkCount "sorted" 1 1 _) (Ø ?_)
 have hsz:((s.heap.push (seqObj "list" #[] 0)).update s.heap.objs.size (Ü (·++us.toArray))).objs.size=s.heap.objs.size+1:=by
  rw[Į,size_push']
 have hoL:(((s.heap.push (seqObj "list" #[] 0)).update s.heap.objs.size (Ü (·++us.toArray))).push (seqObj "list" us.toArray 0)).get? (s.heap.objs.size+1)=some (seqObj "list" us.toArray 0):=by
  rw[←hsz];exact Þ _ rfl
 have keep:∀b o,s.heap.get? b=some o->(((s.heap.push (seqObj "list" #[] 0)).update s.heap.objs.size (Ü (·++us.toArray))).push (seqObj "list" us.toArray 0)).get? b=some o:=λb o q=>by
  have hlt:b<s.heap.objs.size:=É q
  rw[ţ _ _ _ (by rw[hsz];exact æ (Ĕ hlt)),Heap.get?_update_ne _ _ _ _ (æ hlt),ţ _ _ _ (æ hlt)]
  exact q
 have go:∀{Q':List Value->Shared->Prop},Q' us { s with heap:=(s.heap.push (seqObj "list" #[] 0)).update s.heap.objs.size (Ü (·++us.toArray)) }->wpAny (model prog w) A.in1 (collect (.ref l)) Q' (λe s'=>E e s') s:=λ{Q'} hq=>by
  rcases hl with hl|hl
  ·exact collect_list hl hq (by omega)
  ·exact rA hl hq (by omega)
 refine Æ (go ?_)
 refine Æ (wpAny_newList ?_ (by omega))
 show wpAny _ _ _ _ _ { s with heap:=((s.heap.push (seqObj "list" #[] 0)).update s.heap.objs.size (Ü (·++us.toArray))).push (seqObj "list" us.toArray 0) }
 rw[hsz]
 refine Æ (Ĭ (wpAny_call_entry slot_list_sort ⟨_,hoL,rfl⟩ entry_list_sort (Dj hoL (Paired.HJ hp λu t x=>x.keep λa o e _=>keep a o e) hn h64 λp a1 a2=>⟨_,rfl,?_⟩) (args_list_sort _)))
 exact Ø ⟨_,rfl,h p a1 a2⟩
end
section
variable {X:Cx}
def wF{ts:List Tie}{p:List Nat}(hp:p.Perm (ä ts.length))(h:∀i j,i<=j->j<ts.length->aV (ts.getD (p.getD i 0) (0,0))<=aV (ts.getD (p.getD j 0) (0,0))) :
  (p.map λi=>ts.getD i (0,0)).Perm ts/\(p.map λi=>ts.getD i (0,0)).Pairwise (λa b=>aV a<=aV b):=by
 refine⟨?_,?_⟩
 ·have q:=hp.map λi=>ts.getD i (0,0)
  rw[jc] at q
  exact q
 ·have hl:p.length=ts.length:=by simpa using hp.length_eq
  rw[List.pairwise_iff_getElem]
  intro i j hi hj hij
  rw[Â] at hi hj
  have q:=h i j (by omega) (by omega)
  have ei:p.getD i 0=p[i]:=by simp[hi]
  have ej:p.getD j 0=p[j]:=by simp[hj]
  rw[ei,ej] at q
  simpa using q
def vQ:bM X (.builtin "sorted") (λxs H Q=>∃(p:Addr) (vs:List V) (ts:List Tie),xs=[.ref p]/\(SqL X.K H p vs\/SqT X.K H p vs)/\Prs H vs ts/\(∀t∈ts,yr t)/\Srt ts /\
  ∀l ws us,H l=none->Prs H ws us->us.Perm ts->us.Pairwise (λa b=>aV a<=aV b)->Q (.ref l) (upd H l (.lst ws))):=by
 intro pins s σ H xs us Q I r h
 obtain⟨p,vs,ts,rfl,hp,hpr,hn,h64,q⟩:=h
 obtain⟨u,rfl,rx⟩:=vals1 r
 cases rx
 have h24:=õ
 have fin:∀its:List Value,Vals vs its->(s.heap.IsList p its.toArray\/IsTup s.heap p its.toArray)->wpAny (model X.prog X.w) X.A (call (.builtin "sorted") [.ref p]) (EP X pins σ Q) X.xe s:=λits rv hl=>by
  have hpv:=I.pairs hpr rv
  have hlen:=hpr.length
  have hlen2:=rv.length
  have hbig:=h64.lt
  refine uF hl hpv hn h64 λpp hpp hord=>?_
  have eits:its.length=ts.length:=by omega
  rw[eits] at hpp hord
  obtain⟨hperm,hpw⟩:=wF hpp hord
  have hlt:∀i∈pp,i<ts.length:=λi hi=>ę.mp (hpp.mem_iff.mp hi)
  have hw:=Gy hpr V.non (0,0) pp hlt
  have hvv:Vals (pp.map λi=>vs.getD i V.non) (pp.map λi=>its.getD i ľ):=Gy rv V.non ľ pp λi hi=>by have:=hlt i hi;omega
  obtain⟨e,he⟩:=sortedAll_at s.heap its (pp.map λi=>its.getD i ľ).toArray
  refine⟨.ref (s.heap.objs.size+1),upd H (s.heap.objs.size+1) (.lst (pp.map λi=>vs.getD i V.non)),I.laid (t':=s.toks) (λb o eb=>sortedAll_old eb) (Ķ _) ?_,rfl,q _ _ _ (I.hok.fresh (Ķ _)) hw hperm hpw⟩
  refine⟨?_,_,e,hvv,he⟩
  have hl3:pp.length=ts.length:=by simpa using hpp.length_eq
  rw[Â]
  omega
 rcases hp with hp|hp
 ·obtain⟨its,rv,pl,hz⟩:=I.list hp
  exact fin its rv (.inl pl.isList)
 ·obtain⟨its,rv,pl,hz⟩:=I.tuple hp
  exact fin its rv (.inr pl)
def pD(t:Tie):PyData:=.tuple [.int t.1,.int t.2]
def Ih:∀ts:List Tie,Ĝ (ts.map pD)=true
 |[]=>rfl
 |t::ts=>by
  show(PyData.canLay0 (pD t)&&Ĝ (ts.map pD))=true
  rw[Ih ts]
  rfl
def xQ:∀ts:List Tie,ô (ts.map pD)<=1
 |[]=>à _
 |t::ts=>by
  show max (PyData.depth (pD t)) (ô (ts.map pD))<=1
  have h1:=xQ ts
  have h2:PyData.depth (pD t)=1:=rfl
  omega
inductive DatV(K:Ô)(H:Hp):V->PyData->Prop
 |lst {a:Addr}{vs:List V}{ts:List Tie}:SqL K H a vs->Prs H vs ts->DatV K H (.ref a) (.list (ts.map pD))
 |tup {a:Addr}{vs:List V}{ts:List Tie}:SqT K H a vs->Prs H vs ts->DatV K H (.ref a) (.tuple (ts.map pD))
 |web {a b:Addr}{n:Int}{vs:List V}{ts:List Tie}:SqT K H a [.int n,.ref b]->SqT K H b vs->Prs H vs ts->DatV K H (.ref a) (.tuple [.int n,.tuple (ts.map pD)])
end
end L2
namespace L2
open PySem PySem.Spec PyProof.Rows HT
section
variable {prog:Program}{w:World}{A:Around}{E:Value->Shared->Prop}{s:Shared}
end
section
variable {X:Cx}{e:Expr}{te:TE}{p1 p2 p3 pos:Pos}
end
end L2
namespace PySem
open Sem (wp)
open AutoSeq1 (wpAny_loadPart')
section
variable {prog:Program}{w:World}{A:Around}{E:Value->Shared->Prop}{s:Shared}
end
end PySem
namespace L2
open PySem PySem.Spec PyProof.Rows
section
variable {κ:Type} [DecidableEq κ]
end
section
variable {P:Program}{w:World}{H:Hp}{h:Heap}{a:Addr}
def Sw{u:HO}(ok:HOk P w H h)(e:Rd H a u):bx P w H h a u:=e.ok ok
def Ud{kvs:List (Key×V)}(ok:HOk P w H h)(e:Rd H a (.dK kvs)):kvs.length<=sizeLine/\(a == sysModules)=false/\∃vs,KV kvs vs/\h.DictOf (lK P w) a vs :=
 show bx P w H h a (.dK kvs) from Sw ok e
def Ue{kvs:List (Key×V)}(ok:HOk P w H h)(e:H a=some (.dK kvs)):kvs.length<=sizeLine/\(a == sysModules)=false/\∃vs,KV kvs vs/\h.DictOf (lK P w) a vs:=Ud ok (.inl e)
end
section
variable {X:Cx}{pins:List (Addr×Obj)}{σ:St}{H:Hp}{s:Shared}{a:Addr}{y v:V}{u r:Value}{o:Option V}{A:Around}{E:Value->Shared->Prop}
def Inv.big(I:Inv X pins σ H s):sysModules<s.heap.objs.size:=by
 have h:mainGlobals<s.heap.objs.size:=(I.mod.glob.keeps I.bk).lt
 exact Nat.lt_trans (by decide) h
end
section
variable {X:Cx}{pins:List (Addr×Obj)}{σ:St}{H:Hp}{s:Shared}{a:Addr}{kvs:List (Key×V)}{k:Key}{u:Value}{A:Around}{E:Value->Shared->Prop}
end
section
variable {X:Cx}{o i e value:Expr}{pos pos' tpos:Pos}{td ty tv:TE}
end
def Jp{P:Program}{w:World}{H:Hp}(h:Heap)(hb:sysModules<h.objs.size):bx P w H (h.push { cls:=.type "dict",data:=.dict #[] }) h.objs.size (.dK []) :=
 ⟨à _,beq_eq_false_iff_ne.mpr (Ĩ (æ hb)),[],.nil,Heap.DictOf.new h⟩
def Ov:TE:=λ_ H Q=>∀p,H p=none->Q (.ref p) (upd H p (.dK []))
section
variable {X:Cx}{pos:Pos}
def GR:PE X (.Dict [] [] pos) Ov:=λpins s σ H Q I h =>
 wpAny_Dict_empty ⟨.ref s.heap.objs.size,_,I.laid (a:=s.heap.objs.size) (o:=.dK []) (t':=s.toks) (λ_ _ q=>Ë _ q) (Ç _) (Jp s.heap I.big),rfl,h _ (I.hok.fresh (Ç _))⟩
end
structure M1(X:Cx)(o:Expr)(m:Str)(apos:Pos)(e:Expr)(cpos:Pos):Prop where
 base:attributeBase o m X.env (eval o X.env)=eval o X.env
 few:((backTo cpos (starEach [e] X.env)).all (λx=>!x.1)&&(backToKw cpos (keywordEach [] X.env)).all (λx=>x.1.isSome)
 &&decide (([e]:List Expr).length+([]:List Keyword).length+(if ([]:List Keyword).isEmpty then 0 else 1)<30))=true
 line:(apos.endLine == cpos.line)=true
 trees:backTo cpos (starEach [e] X.env)=[(false,eval e X.env)]
structure M2(X:Cx)(o:Expr)(m:Str)(apos:Pos)(e f:Expr)(cpos:Pos):Prop where
 base:attributeBase o m X.env (eval o X.env)=eval o X.env
 few:((backTo cpos (starEach [e,f] X.env)).all (λx=>!x.1)&&(backToKw cpos (keywordEach [] X.env)).all (λx=>x.1.isSome)
 &&decide (([e,f]:List Expr).length+([]:List Keyword).length+(if ([]:List Keyword).isEmpty then 0 else 1)<30))=true
 line:(apos.endLine == cpos.line)=true
 trees:backTo cpos (starEach [e,f] X.env)=[(false,eval e X.env),(false,eval f X.env)]
section
variable {X:Cx}{pins:List (Addr×Obj)}{σ:St}{H:Hp}{s:Shared}{a:Addr}{y d:V}{u r:Value}{o:Option V}{A:Around}{E:Value->Shared->Prop}
end
section
variable {X:Cx}{o e f:Expr}{apos cpos:Pos}{td ty tx:TE}
end
section
variable {X:Cx}{pins:List (Addr×Obj)}{σ:St}{H:Hp}{s:Shared}{a:Addr}{kvs:List (Key×V)}{A:Around}{E:Value->Shared->Prop}
end
section
variable {X:Cx}{pins:List (Addr×Obj)}{σ:St}{H:Hp}{s:Shared}{a:Addr}{y:V}{u:Value}{A:Around}{E:Value->Shared->Prop}
end
section
variable {prog:Program}{w:World}{A:Around}{E:Value->Shared->Prop}{s:Shared}
end
section
variable {X:Cx}
end
section
variable {X:Cx}
def iD(l:List Int):PyData:=.list (l.map Å)
inductive DatL(K:Ô)(H:Hp):V->PyData->Prop
 |flt {a:Addr}{l:List Int}:SqL K H a (l.map V.int)->DatL K H (.ref a) (iD l)
 |lists {a:Addr}{as:List Addr}{ls:List (List Int)}:SqL K H a (as.map V.ref)->Paired (λ(a:Addr) (l:List Int)=>SqL K H a (l.map V.int)) as ls->DatL K H (.ref a) (.list (ls.map iD))
end
end L2
namespace PySem
open PyProof.Rows
def VF(h:Heap)(e:Addr):Prop:=∃oe vs,h.get? e=some oe/\oe.data=.fields vs/\vs[2]?=some .none
section
variable {M:Model}{A:Around}{E:Value->Shared->Prop}{s:Shared}{base:Heap}{env:Env}{outer:List Env}{L e:Addr}{Q:Unit->Shared->Prop}
end
end PySem
namespace L2
open PySem PySem.Spec PyProof.Rows
def VG(base:Heap)(l:List Env)(e:Addr)(cls a0:Value)(h:Heap):Prop:=base.StaysIn h/\base.get? e=none/\h.FunFrames base l/\h.TracedW base e cls a0/\VF h e
def CX1(P:Program)(w:World):CXT:=λouter H s E e s'=>∃(a:Addr) (cls a0:Value) (H1:Hp) (hb:Heap),e=.ref a/\s'.os=s.os/\AllBare s'.gens/\Un (frs outer) [] H H1 s.heap s'.heap/\HOk P w H1 hb/\VG hb outer a cls a0 s'.heap /\
 (∀b o,s.heap.get? b=some o->H b=none->b∉frs outer->hb.get? b=some o)/\(∀b o,s.heap.get? b=some o->b∉frs outer->∃o',hb.get? b=some o')/\E cls none H1
structure Lets(X:Cx)(E:XK):Prop where
 xe:∀e s',wpAny (model X.prog X.w) X.A (leaving X.env e) (λ_ s''=>CX1 X.prog X.w X.outer X.H₀ X.s₀ E e s'') (λe' s''=>CX1 X.prog X.w X.outer X.H₀ X.s₀ E e' s'') s'->X.xe e s'
 stk:X.stack=X.env::X.outer
 fr:X.env.frame=some X.env.locals
 ex:X.ex=[]
section
variable {X:Cx}{pins:List (Addr×Obj)}{σ:St}{H H1:Hp}{s:Shared}{E:XK}
end
structure ExcCls(K:Ô)(C:Addr)(newId:String)(bmB:List Value):Prop where
 ex:∃(nm q:Str) (N:Addr) (bs bm:List Value) (hdct:Bool) (sn:List Str) (sub:List Value) (ab:Bool) (col:Option Bool) (dd:Option Addr) (k0 k1 k2 k3 k5:Option Value),
  K.lookup C=some (excClassObj nm q C N bs bm hdct sn sub ab col dd k0 k1 k2 k3 k5 newId)/\W.tailIn K bmB bm=true/\W.nsOkIn K N=true/\W.nsIn K N "__init__"=some none/\bm.contains (.type "BaseException")=true
section
variable {X:Cx}{E:XK}{x:Str}{C:Addr}{newId Bn initId:String}{bmB:List Value}{e:Expr}{es:List Expr}{t:TA}{np cpos pos:Pos}
end
section
variable {X:Cx}{pins:List (Addr×Obj)}{σ:St}{H:Hp}{s:Shared}{ev:Value}
def Us(a:Addr)(cls:Value):Heap->Prop:=λh=>∃oe vs,h.get? a=some oe/\oe.cls=cls/\oe.data=.fields vs
def Vv(a:Addr)(cls:Value):HO:=.ext (Us a cls)
def Inv.track{a:Addr}{o:HO}(I:Inv X pins σ H s)(hn:H a=none)(h0:∀ob,X.s₀.heap.get? a≠some ob)(hL:a≠X.env.locals)(hC:∀x c,X.env.cells.lookup x=some c->c≠a)(hp:∀p∈X.pn++pins,p.1≠a)(new:bx X.prog X.w (upd H a o) s.heap a o):Inv X pins σ (upd H a o) s:=by
 refine⟨I.ok,I.os,I.bare,⟨I.base.keep,I.base.slot,λb ob e n hx=>?_,I.base.there,λb xs e=>?_,λb ob u e=>?_,λb ps e=>?_⟩,I.loc,I.cell,?_,λx c e=>?_,λp q=>?_,I.hok.track hn new,I.len⟩
 ·rw[ao (show b≠a from λz=>h0 ob (by rw[←z];exact e))]
  exact I.base.free b ob e n hx
 ·have q:=I.base.tups b xs e
  rw[ao (aK q hn)]
  exact q
 ·have q:=I.base.frzs b ob u e
  rw[ao (aK q hn)]
  exact q
 ·obtain⟨m,q⟩:=I.base.tbls b ps e
  exact⟨m,by rw[ao (aK q hn)];exact q⟩
 ·rw[ao (Ĩ hL)]
  exact I.free
 ·rw[ao (hC x c e)]
  exact I.freeC x c e
 ·obtain⟨q1,q2,q3⟩:=I.pin p q
  exact⟨q1,by rw[ao (hp p q)];exact q2,q3⟩
end
section
variable {X:Cx}{k:Nat}{f CF:Addr}{fd:FuncData}{ps:List Str}{sp:Sp}{E:XK}{x hx n:Str}{p np cpos epos hpos pos:Pos}{e:Expr}{es:List Expr}{t:TA}{b₀:Stmt}{suite:List Stmt}{ts:TS}{j:Nat}
end
end L2
namespace L2
open PySem PySem.W PySem.Spec PyProof.Rows
structure ExcK(K:Ô)(C:Addr):Prop where
 ex:∃(nm q:Str) (N AF:Addr) (bs bmB:List Value) (hdct:Bool) (sn:List Str) (sub:List Value) (ab:Bool) (col:Option Bool) (dd ddF:Option Addr) (k0 k1 k2 k3 k5:Option Value) (newId B:String) (c0:Value) (cd:ClassData) (slF:Array (Option Value)),
  K.lookup C=some (excClassObj nm q C N bs (.ref AF::bmB) hdct sn sub ab col dd k0 k1 k2 k3 k5 newId)/\K.lookup AF=some ⟨c0,ddF,.cls cd,slF⟩/\nsOkIn K cd.ns=true/\(∀n∈quietNames,nsIn K cd.ns n=some none)/\ExcAttrBase B bmB
 ga:findIn K (.ref C) "__getattribute__"=some (some (.builtin "BaseException.__getattribute__"))
 hook:findIn K (.ref C) "__getattr__"=some none
 cls:findIn K (.ref C) "__class__"=some (some (.builtin "object.__class__"))
 mro:mroIn K C (.type "object")=some true
section
variable {prog:Program}{w:World}{K:Ô}{a C:Addr}{A:Around}{E:Value->Shared->Prop}{s:Shared}
end
section
variable {X:Cx}
def Nm:R2:=λx y H Q=>∃a b xs ys,x=.ref a/\y=.ref b/\H a=some (.tup xs)/\H b=some (.tup ys)/\xs.length+ys.length<=sizeLine/\∀c H',(∀d u,H d=some u->H' d=some u)->H' c=some (.tup (xs++ys))->Q (.ref c) H'
def BX:OpR X (binaryOp .Add) Nm:=by
 intro pins s σ H x y v u Q I rx ry h
 obtain⟨a,b,xs,ys,rfl,rfl,ha,hb,hz,q⟩:=h
 cases rx
 cases ry
 obtain⟨its,r1,p1,_⟩:=I.tuple (SqT.of ha)
 obtain⟨its2,r2,p2,_⟩:=I.tuple (SqT.of hb)
 by_cases hx:xs=[]
 ·subst hx
  cases r1
  obtain⟨m,F⟩:=I.fr
  refine add_tuples (vs:=[]) F Hy p1 p2 (λ_=>⟨.ref b,H,I,rfl,q b H (λ_ _ z=>z) (by simpa using hb)⟩) (λz=>absurd rfl z) (λz=>absurd rfl z) (by rw[←r2.length];simpa using hz)
 ·refine Ky pins s σ H (.ref a) (.ref b) (.ref a) (.ref b) Q I rfl rfl ⟨a,b,xs,ys,rfl,rfl,SqT.of ha,SqT.of hb,hx,hz,λe=>?_,λ_ p hp=>?_⟩
  ·subst e
   exact q a H (λ_ _ z=>z) (by rw[Ā];exact ha)
  ·exact q p _ (λd u z=>by rw[ao (aK z hp)];exact z) aB
end
section
variable {K:Ô}{C c:Addr}{dd:Option Addr}{cd:ClassData}{sl:Array (Option Value)}
end
end L2
namespace Dl
open PySem L2 PyProof.Rows
abbrev D:=PyData
def kD:Key->D
 |.inl i=>.int i
 |.inr x=>.str x
mutual
inductive Rp(ok:Addr->Prop)(H:Hp):V->D->Prop
 |non:Rp ok H .non .none
 |bl (b:Bool):Rp ok H (.bl b) (.bool b)
 |int (i:Int):Rp ok H (.int i) (.int i)
 |str (x:Str):Rp ok H (.str x) (.str x)
 |lst {a:Addr}{vs:List V}{ds:List D} (o:ok a) (h:H a=some (.lst vs)) (r:Rps ok H vs ds):Rp ok H (.ref a) (.list ds)
 |tup {a:Addr}{vs:List V}{ds:List D} (h:H a=some (.tup vs)) (r:Rps ok H vs ds):Rp ok H (.ref a) (.tuple ds)
 |dct {a:Addr}{kvs:List (Key×V)}{ds:List (D×D)} (o:ok a) (h:H a=some (.dK kvs)) (r:Rkv ok H kvs ds):Rp ok H (.ref a) (.dict ds)
inductive Rps(ok:Addr->Prop)(H:Hp):List V->List D->Prop
 |nil:Rps ok H [] []
 |cons {v:V}{d:D}{vs:List V}{ds:List D} (h:Rp ok H v d) (t:Rps ok H vs ds):Rps ok H (v::vs) (d::ds)
inductive Rkv(ok:Addr->Prop)(H:Hp):List (Key×V)->List (D×D)->Prop
 |nil:Rkv ok H [] []
 |cons {k:Key}{v:V}{d:D}{vs:List (Key×V)}{ds:List (D×D)} (h:Rp ok H v d) (t:Rkv ok H vs ds):Rkv ok H ((k,v)::vs) ((kD k,d)::ds)
end
section
variable {ok ok':Addr->Prop}{H H':Hp}
mutual
def Rp.mono(f:∀a,ok a->ok' a)(g:∀a o,ok a->H a=some o->H' a=some o)(t:∀a xs,H a=some (.tup xs)->H' a=some (.tup xs)):∀{v:V}{d:D},Rp ok H v d->Rp ok' H' v d
 |_,_,.non=>.non
 |_,_,.bl b=>.bl b
 |_,_,.int i=>.int i
 |_,_,.str x=>.str x
 |_,_,.lst o h r=>.lst (f _ o) (g _ _ o h) (Rps.mono f g t r)
 |_,_,.tup h r=>.tup (t _ _ h) (Rps.mono f g t r)
 |_,_,.dct o h r=>.dct (f _ o) (g _ _ o h) (Rkv.mono f g t r)
def Rps.mono(f:∀a,ok a->ok' a)(g:∀a o,ok a->H a=some o->H' a=some o)(t:∀a xs,H a=some (.tup xs)->H' a=some (.tup xs)):∀{v:List V}{d:List D},Rps ok H v d->Rps ok' H' v d
 |_,_,.nil=>.nil
 |_,_,.cons h r=>.cons (Rp.mono f g t h) (Rps.mono f g t r)
def Rkv.mono(f:∀a,ok a->ok' a)(g:∀a o,ok a->H a=some o->H' a=some o)(t:∀a xs,H a=some (.tup xs)->H' a=some (.tup xs)):∀{v:List (Key×V)}{d:List (D×D)},Rkv ok H v d->Rkv ok' H' v d
 |_,_,.nil=>.nil
 |_,_,.cons h r=>.cons (Rp.mono f g t h) (Rkv.mono f g t r)
end
def Rps.length:∀{vs:List V}{ds:List D},Rps ok H vs ds->vs.length=ds.length
 |_,_,.nil=>rfl
 |_,_,.cons _ t=>by rw[ÿ,ÿ,Rps.length t]
def Rps.getD:∀{vs:List V}{ds:List D}{i:Nat}{d:D},Rps ok H vs ds->ds[i]?=some d->∃v,vs[i]?=some v/\Rp ok H v d
 |_,_,i,v,.nil,e=>by simp at e
 |_,_,0,v,.cons h t,e=>by simp at e;subst e;exact⟨_,rfl,h⟩
 |_,_,i+1,v,.cons h t,e=>by
  obtain⟨d,a,b⟩:=Rps.getD (i:=i) (d:=v) t (by simpa using e)
  exact⟨d,by simpa using a,b⟩
def Rps.app:∀{vs ws:List V}{ds es:List D},Rps ok H vs ds->Rps ok H ws es->Rps ok H (vs++ws) (ds++es)
 |_,_,_,_,.nil,s=>s
 |_,_,_,_,.cons h t,s=>.cons h (Rps.app t s)
def Rps.snoc{vs:List V}{ds:List D}{v:V}{d:D}(h:Rps ok H vs ds)(r:Rp ok H v d):Rps ok H (vs++[v]) (ds++[d]):=h.app (.cons r .nil)
def Rps.set{v:V}{d:D}(r:Rp ok H v d):∀{vs:List V}{ds:List D} (i:Nat),Rps ok H vs ds->Rps ok H (vs.set i v) (ds.set i d)
 |_,_,_,.nil=>.nil
 |_,_,0,.cons _ t=>.cons r t
 |_,_,i+1,.cons q t=>.cons q (Rps.set r i t)
def Rps.take:∀{vs:List V}{ds:List D} (n:Nat),Rps ok H vs ds->Rps ok H (vs.take n) (ds.take n)
 |_,_,0,_=>by simp;exact .nil
 |_,_,_+1,.nil=>by simp;exact .nil
 |_,_,n+1,.cons r t=>.cons r (Rps.take n t)
def Rps.drop:∀{vs:List V}{ds:List D} (n:Nat),Rps ok H vs ds->Rps ok H (vs.drop n) (ds.drop n)
 |_,_,0,r=>r
 |_,_,_+1,.nil=>by simp;exact .nil
 |_,_,n+1,.cons _ t=>Rps.drop n t
def Rps.ofMap{α:Type}{f:α->V}{g:α->D}(h:∀x,Rp ok H (f x) (g x)):∀l:List α,Rps ok H (l.map f) (l.map g)
 |[]=>.nil
 |x::l=>.cons (h x) (Rps.ofMap h l)
def Rp.int'{v:V}{i:Int}(r:Rp ok H v (.int i)):v=.int i:=by cases r;rfl
def Rp.bl'{v:V}{i:Bool}(r:Rp ok H v (.bool i)):v=.bl i:=by cases r;rfl
def Rp.str'{v:V}{i:Str}(r:Rp ok H v (.str i)):v=.str i:=by cases r;rfl
def Rp.cW{v:V}{ds:List D}(r:Rp ok H v (.list ds)):∃a vs,v=.ref a/\ok a/\H a=some (.lst vs)/\Rps ok H vs ds:=by
 cases r with
 |lst o h r=>exact⟨_,_,rfl,o,h,r⟩
def Rp.fQ{v:V}{ds:List D}(r:Rp ok H v (.tuple ds)):∃a vs,v=.ref a/\H a=some (.tup vs)/\Rps ok H vs ds:=by
 cases r with
 |tup h r=>exact⟨_,_,rfl,h,r⟩
def Rps.ints:∀{vs:List V}{ns:List Int},Rps ok H vs (ns.map Å)->vs=ns.map V.int
 |[],[],_=>rfl
 |_,n::ns,.cons h t=>by
  have e:=h.int'
  subst e
  rw[Rps.ints t]
  rfl
def Rps.two{vs:List V}{d e:D}(r:Rps ok H vs [d,e]):∃v w,vs=[v,w]/\Rp ok H v d/\Rp ok H w e:=by
 cases r with
 |cons h t =>
  cases t with
  |cons h2 t2 =>
   cases t2
   exact⟨_,_,rfl,h,h2⟩
end
mutual
def cI:D->Bool
 |.none=>true
 |.bool _=>true
 |.int _=>true
 |.str _=>true
 |.list _=>false
 |.tuple ds=>cD ds
 |.dict _=>false
def cD:List D->Bool
 |[]=>true
 |d::ds=>cI d&&cD ds
end
section
variable {ok:Addr->Prop}{H:Hp}
mutual
def Rp.imm:∀{v:V}{d:D},Rp ok H v d->cI d=true->Rp (λ_=>False) H v d
 |_,_,.non,_=>.non
 |_,_,.bl b,_=>.bl b
 |_,_,.int i,_=>.int i
 |_,_,.str x,_=>.str x
 |_,_,.tup h r,e=>.tup h (Rps.imm r e)
def Rps.imm:∀{v:List V}{d:List D},Rps ok H v d->cD d=true->Rps (λ_=>False) H v d
 |_,_,.nil,_=>.nil
 |_,_,.cons h r,e=>.cons (Rp.imm h (by simp only[cD,Ê] at e;exact e.1)) (Rps.imm r (by simp only[cD,Ê] at e;exact e.2))
end
end
def Fxd(o:HO):Prop:=∃x φ,o=.frz x (.ext φ)
structure Pn where
 fp:Addr->Prop
 PI:Hp->Prop
 pv:V
 mono:∀H H',PI H->(∀b o,(fp b\/Fxd o)->H b=some o->H' b=some o)->PI H'
 is:∀H b,PI H->fp b->∃o,H b=some o/\(∀xs,o≠.tup xs)/\¬Fxd o
class Gr where
 G:Pn->Hp->Prop
instance (priority:=low) grT:Gr:=⟨λ_ _=>True⟩
def g8:Pn:=⟨λ_=>False,λ_=>True,.non,λ_ _ _ _=>trivial,λ_ _ _ h=>h.elim⟩
def Kp(p:Pn)(H H':Hp):Prop:=∀b o,H b=some o->¬p.fp b->H' b=some o
def Kp.refl{p:Pn}{H:Hp}:Kp p H H:=λ_ _ h _=>h
def Kp.trans{p:Pn}{H H1 H2:Hp}(a:Kp p H H1)(b:Kp p H1 H2):Kp p H H2:=λc o h n=>b c o (a c o h n) n
def Kp.of{p:Pn}{H H':Hp}(s:Same H H'):Kp p H H':=λb o h _=>s b o h
inductive Sl where
 |any
 |im (d:D)
 |sh (d:D)
 |sn (d:D)
 |dw (r:Nat) (d:D)
 |pen (C:Pn->Prop)
 |rw (r:Nat) (L:List (List D))
 |tw (r:Nat) (L:List (List D))
 |scr (v:V) (b:Bool)
 |sp (r:Nat) (b:Bool) (ds:List D)
inductive Kd where
 |imm|new|reg (r:Nat)|n0|snw|shr|wk
 deriving DecidableEq
def Kd.le:Kd->Kd->Bool
 |.imm,_=>true
 |.new,.new=>true
 |.new,.n0=>true
 |.new,.snw=>true
 |.new,.shr=>true
 |.new,.wk=>true
 |.reg r,.reg q=>r == q
 |.reg _,.n0=>true
 |.reg _,.wk=>true
 |.snw,.snw=>true
 |.snw,.n0=>true
 |.snw,.shr=>true
 |.snw,.wk=>true
 |.n0,.n0=>true
 |.n0,.wk=>true
 |.shr,.shr=>true
 |.shr,.wk=>true
 |.wk,.wk=>true
 |_,_=>false
def Kd.join(a b:Kd):Kd:=if a.le b then b else if b.le a then a else if a.le .n0&&b.le .n0 then .n0 else if a.le .shr&&b.le .shr then .shr else .wk
def norm(k:Kd)(d:D):Kd:=match k with
 |.imm=>.imm
 |k=>if cI d then .imm else k
def qG{k:Kd}{d:D}(h:cI d=true):norm k d=.imm:=by
 cases k <;> first
  |rfl
  |exact if_pos h
def qH{k:Kd}{d:D}(h:¬cI d=true):norm k d=k:=by
 cases k <;> first
  |rfl
  |exact if_neg h
def okK(p:Pn)(H0:Hp)(own:Addr->Option Nat)(Hb:Hp):Kd->Addr->Prop
 |.imm=>λ_=>False
 |.new=>λa=>Hb a=none
 |.reg r=>λa=>own a=some r
 |.n0=>λa=>H0 a=none/\¬p.fp a
 |.snw=>λa=>H0 a=none/\¬p.fp a/\own a=none
 |.shr=>λa=>¬p.fp a/\own a=none
 |.wk=>λa=>¬p.fp a
structure At(p:Pn)(H0:Hp)(own:Addr->Option Nat)(Hb H:Hp):Prop where
 k0:∀b o,H0 b=some o->¬p.fp b->Hb b=some o
 kp:Kp p Hb H
 penb:p.PI Hb
 pen:p.PI H
 ow:∀a r,own a=some r->H0 a=none/\¬p.fp a/\Hb a≠none
section
variable {p:Pn}{H0 Hb H H':Hp}{own:Addr->Option Nat}
def At.nfp(A:At p H0 own Hb H){a:Addr}(h:H a=none):¬p.fp a:=λz=>by
 obtain⟨o,e,_⟩:=p.is H a A.pen z
 rw[h] at e
 cases e
def At.free(A:At p H0 own Hb H){a:Addr}(h:H a=none):Hb a=none:=by
 have hn:=A.nfp h
 cases e:Hb a with
 |none=>rfl
 |some o=>rw[A.kp a o e hn] at h;cases h
def At.nfb(A:At p H0 own Hb H){a:Addr}(h:Hb a=none):¬p.fp a:=λz=>by
 obtain⟨o,e,_⟩:=p.is Hb a A.penb z
 rw[h] at e
 cases e
def At.Qa(A:At p H0 own Hb H){a:Addr}(h:Hb a=none):own a=none:=by
 cases e:own a with
 |none=>rfl
 |some r=>exact absurd h (A.ow a r e).2.2
def At.h0(A:At p H0 own Hb H){a:Addr}(h:Hb a=none):H0 a=none:=by
 cases e:H0 a with
 |none=>rfl
 |some o=>rw[A.k0 a o e (A.nfb h)] at h;cases h
def bK(A:At p H0 own Hb H){j k:Kd}(h:j.le k=true){a:Addr}(o:okK p H0 own Hb j a):okK p H0 own Hb k a:=by
 cases j with
 |imm=>exact Ġ o
 |new =>
  cases k with
  |imm=>cases h
  |new=>exact o
  |reg r=>cases h
  |n0=>exact⟨A.h0 o,A.nfb o⟩
  |snw=>exact⟨A.h0 o,A.nfb o,A.Qa o⟩
  |shr=>exact⟨A.nfb o,A.Qa o⟩
  |wk=>exact A.nfb o
 |reg r =>
  cases k with
  |reg q =>
   have e:r=q:=by simpa[Kd.le] using h
   subst e
   exact o
  |n0=>exact⟨(A.ow a r o).1,(A.ow a r o).2.1⟩
  |wk=>exact(A.ow a r o).2.1
  |_=>cases h
 |n0 =>
  cases k with
  |n0=>exact o
  |wk=>exact o.2
  |_=>cases h
 |snw =>
  cases k with
  |snw=>exact o
  |n0=>exact⟨o.1,o.2.1⟩
  |shr=>exact o.2
  |wk=>exact o.2.1
  |_=>cases h
 |shr =>
  cases k with
  |shr=>exact o
  |wk=>exact o.1
  |_=>cases h
 |wk =>
  cases k with
  |wk=>exact o
  |_=>cases h
def fG(A:At p H0 own Hb H){k:Kd}{a:Addr}(o:okK p H0 own Hb k a):¬p.fp a:=by
 have:k.le .wk=true:=by cases k <;> rfl
 exact bK A this o
def iI(A:At p H0 own Hb H){j k:Kd}(h:j.le k=true){v:V}{d:D}{H2:Hp}(r:Rp (okK p H0 own Hb j) H2 v d):Rp (okK p H0 own Hb k) H2 v d :=
 r.mono (λa o=>bK A h o) (λ_ _ _ e=>e) λ_ _ e=>e
def dJ(a b:Kd):a.le (a.join b)=true/\b.le (a.join b)=true:=by
 unfold Kd.join
 by_cases h:a.le b=true
 ·rw[if_pos h];exact⟨h,by cases b <;> simp[Kd.le]⟩
 ·rw[if_neg h]
  by_cases h2:b.le a=true
  ·rw[if_pos h2];exact⟨by cases a <;> simp[Kd.le],h2⟩
  ·rw[if_neg h2]
   by_cases h3:(a.le .n0&&b.le .n0)=true
   ·rw[if_pos h3];exact Ê _ _ ▸ h3
   ·rw[if_neg h3]
    by_cases h4:(a.le .shr&&b.le .shr)=true
    ·rw[if_pos h4];exact Ê _ _ ▸ h4
    ·rw[if_neg h4];exact⟨by cases a <;> rfl,by cases b <;> rfl⟩
def aR{k:Kd}{v:V}{d:D}{H2:Hp}(r:Rp (okK p H0 own Hb k) H2 v d):Rp (okK p H0 own Hb (norm k d)) H2 v d:=by
 by_cases h:cI d=true
 ·rw[qG h];exact r.imm h
 ·rw[qH h];exact r
def jg(A:At p H0 own Hb H)(k:Kp p H H'):∀a xs,H a=some (.tup xs)->H' a=some (.tup xs):=λa xs h=>k a _ h λz=>by
 obtain⟨o,e,n⟩:=p.is H a A.pen z
 rw[h] at e
 exact n.1 xs (á e).symm
def iJ(A:At p H0 own Hb H)(k:Kp p H H'){j:Kd}{v:V}{d:D}(r:Rp (okK p H0 own Hb j) H v d):Rp (okK p H0 own Hb j) H' v d :=
 r.mono (λ_ o=>o) (λa o h e=>k a o e (fG A h)) (jg A k)
def bF(A:At p H0 own Hb H)(k:Kp p H H'){j:Kd}{v:List V}{d:List D}(r:Rps (okK p H0 own Hb j) H v d):Rps (okK p H0 own Hb j) H' v d :=
 r.mono (λ_ o=>o) (λa o h e=>k a o e (fG A h)) (jg A k)
def At.go(A:At p H0 own Hb H)(k:Kp p H H')(i:p.PI H'):At p H0 own Hb H':=⟨A.k0,A.kp.trans k,A.penb,i,A.ow⟩
def At.base{H1:Hp}(A:At p H0 own Hb H)(B:At p H0 own H H1):At p H0 own Hb H1:=⟨A.k0,A.kp.trans B.kp,A.penb,B.pen,A.ow⟩
def Hs(A:At p H0 own Hb H){k:Kd}{a:Addr}(o:okK p H0 own H k a):okK p H0 own Hb k a:=by
 cases k <;> first
  |exact o
  |exact A.free o
def jw(A:At p H0 own Hb H){k:Kd}{v:V}{d:D}{H2:Hp}(r:Rp (okK p H0 own H k) H2 v d):Rp (okK p H0 own Hb k) H2 v d :=
 r.mono (λa o=>Hs A o) (λ_ _ _ e=>e) λ_ _ e=>e
def At.new(A:At p H0 own Hb H){a:Addr}(h:H a=none)(o:HO):Kp p H (upd H a o)/\p.PI (upd H a o)/\okK p H0 own Hb .new a :=
 have s:Same H (upd H a o):=λb u q=>by rw[ao (aK q h)];exact q
 ⟨Kp.of s,p.mono H _ A.pen λb u _ q=>s b u q,A.free h⟩
end
structure RowsH(own:Addr->Option Nat)(r:Nat)(H:Hp)(st:Addr)(as:List Addr)(L:List (List D)):Prop where
 top:H st=some (.lst (as.map V.ref))
 nd:(st::as).Nodup
 ow:∀a∈st::as,own a=some r
 len:as.length=L.length
 row:∀(j:Nat) (a:Addr) (ds:List D),as[j]?=some a->L[j]?=some ds->∃vs,H a=some (.lst vs)/\Rps (λ_=>False) H vs ds
def RowsH.mono{own own':Addr->Option Nat}{r:Nat}{H H':Hp}{st:Addr}{as:List Addr}{L:List (List D)}(h:RowsH own r H st as L)(g:∀a o,own a=some r->H a=some o->own' a=some r/\H' a=some o)(t:∀a xs,H a=some (.tup xs)->H' a=some (.tup xs)):RowsH own' r H' st as L:=by
 have live:∀a∈st::as,∃o,H a=some o:=λa ha=>by
  rcases è.mp ha with rfl|ha
  ·exact⟨_,h.top⟩
  ·obtain⟨j,hj⟩:=List.getElem?_of_mem ha
   have hl:=(Ý.mp hj).1
   obtain⟨vs,e,_⟩:=h.row j a _ hj (È (by rw[←h.len];exact hl))
   exact⟨_,e⟩
 refine⟨(g st _ (h.ow st Ú) h.top).2,h.nd,λa ha=>?_,h.len,λj a ds e1 e2=>?_⟩
 ·obtain⟨o,e⟩:=live a ha
  exact(g a o (h.ow a ha) e).1
 ·obtain⟨vs,e,r'⟩:=h.row j a ds e1 e2
  exact⟨vs,(g a _ (h.ow a (Ó _ (Ð e1))) e).2,r'.mono (λ_ o=>o) (λ_ _ o=>o.elim) t⟩
def mX{ok:Addr->Prop}{H:Hp}:∀(as:List Addr) (L:List (List D)),as.length=L.length->(∀a∈as,ok a)->(∀(j:Nat) (a:Addr) (ds:List D),as[j]?=some a->L[j]?=some ds->∃vs,H a=some (.lst vs)/\Rps (λ_=>False) H vs ds)->Rps ok H (as.map V.ref) (L.map Ď)
 |[],[],_,_,_=>.nil
 |a::as,d::L,hl,h,r=>by
  obtain⟨vs,e,rs⟩:=r 0 a d rfl rfl
  exact .cons (.lst (h a Ú) e (rs.mono (λ_ o=>o.elim) (λ_ _ o=>o.elim) λ_ _ e=>e)) (mX as L (by simpa using hl) (λb hb=>h b (Ó _ hb)) λj b ds e1 e2=>r (j+1) b ds e1 e2)
 |[],_::_,hl,_,_=>by cases hl
 |_::_,[],hl,_,_=>by cases hl
def RowsH.rp{own:Addr->Option Nat}{r:Nat}{H:Hp}{st:Addr}{as:List Addr}{L:List (List D)}(h:RowsH own r H st as L):Rp (λa=>own a=some r) H (.ref st) (.list (L.map Ď)) :=
 .lst (h.ow st Ú) h.top (mX as L h.len (λa ha=>h.ow a (Ó _ ha)) h.row)
structure RowsT(own:Addr->Option Nat)(r:Nat)(H:Hp)(st:Addr)(as:List Addr)(L:List (List D)):Prop where
 top:H st=some (.tup (as.map V.ref))
 nd:as.Nodup
 ow:∀a∈as,own a=some r
 len:as.length=L.length
 row:∀(j:Nat) (a:Addr) (ds:List D),as[j]?=some a->L[j]?=some ds->∃vs,H a=some (.lst vs)/\Rps (λ_=>False) H vs ds
def RowsT.mono{own own':Addr->Option Nat}{r:Nat}{H H':Hp}{st:Addr}{as:List Addr}{L:List (List D)}(h:RowsT own r H st as L)(g:∀a o,own a=some r->H a=some o->own' a=some r/\H' a=some o)(t:∀a xs,H a=some (.tup xs)->H' a=some (.tup xs)):RowsT own' r H' st as L:=by
 refine⟨t st _ h.top,h.nd,λa ha=>?_,h.len,λj a ds e1 e2=>?_⟩
 ·obtain⟨j,hj⟩:=List.getElem?_of_mem ha
  have hl:=(Ý.mp hj).1
  obtain⟨vs,e,_⟩:=h.row j a _ hj (È (by rw[←h.len];exact hl))
  exact(g a _ (h.ow a ha) e).1
 ·obtain⟨vs,e,r'⟩:=h.row j a ds e1 e2
  exact⟨vs,(g a _ (h.ow a (Ð e1)) e).2,r'.mono (λ_ o=>o) (λ_ _ o=>o.elim) t⟩
def RowsT.rp{own:Addr->Option Nat}{r:Nat}{H:Hp}{st:Addr}{as:List Addr}{L:List (List D)}(h:RowsT own r H st as L):Rp (λa=>own a=some r) H (.ref st) (.tuple (L.map Ď)) :=
 .tup h.top (mX as L h.len h.ow h.row)
def okS(p:Pn)(H0:Hp)(own:Addr->Option Nat)(b:Bool)(a:Addr):Prop:=(b=true->H0 a=none)/\¬p.fp a/\own a=none
def gQ(p:Pn)(H0:Hp)(own:Addr->Option Nat)(σ:L2.St)(H:Hp)(i:Nat):Sl->Prop
 |.any=>True
 |.im d=>∃v,σ[i]?=some (some v)/\Rp (λ_=>False) H v d
 |.sh d=>∃v,σ[i]?=some (some v)/\Rp (λa=>¬p.fp a/\own a=none) H v d
 |.sn d=>∃v,σ[i]?=some (some v)/\Rp (λa=>H0 a=none/\¬p.fp a/\own a=none) H v d
 |.dw r d=>∃v,σ[i]?=some (some v)/\Rp (λa=>own a=some r) H v d
 |.pen C=>σ[i]?=some (some p.pv)/\C p
 |.rw r L=>∃st as,σ[i]?=some (some (.ref st))/\RowsH own r H st as L
 |.tw r L=>∃st as,σ[i]?=some (some (.ref st))/\RowsT own r H st as L
 |.scr v b=>σ[i]?=some (some v)/\(b=true->p=g8)
 |.sp r b ds=>∃l vs,σ[i]?=some (some (.ref l))/\own l=some r/\H l=some (.lst vs)/\Rps (okS p H0 own b) H vs ds
structure EnvD[Gr](p:Pn)(H0:Hp)(own:Addr->Option Nat)(σ:L2.St)(H:Hp)(ρ:List Sl):Prop where
 k0:∀b o,H0 b=some o->¬p.fp b->H b=some o
 pen:p.PI H
 ow:∀a r,own a=some r->H0 a=none/\¬p.fp a/\H a≠none
 slot:∀i s,ρ[i]?=some s->gQ p H0 own σ H i s
 len:ρ.length=σ.length
 gr:Gr.G p H0
variable [Gr]
section
variable {p:Pn}{H0 H H':Hp}{own:Addr->Option Nat}{σ:L2.St}{ρ:List Sl}
def EnvD.at(E:EnvD p H0 own σ H ρ):At p H0 own H H:=⟨E.k0,Kp.refl,E.pen,E.pen,E.ow⟩
def EnvD.go(E:EnvD p H0 own σ H ρ)(k:Kp p H H')(i:p.PI H'):EnvD p H0 own σ H' ρ:=by
 have A:=E.at
 have tp:=jg A k
 refine⟨λb o e n=>k b o (E.k0 b o e n) n,i,λa r e=>?_,λj s e=>?_,E.len,E.gr⟩
 ·obtain⟨h1,h2,h3⟩:=E.ow a r e
  refine⟨h1,h2,λz=>?_⟩
  cases q:H a with
  |none=>exact h3 q
  |some o=>rw[k a o q h2] at z;cases z
 ·have q:=E.slot j s e
  cases s with
  |any=>trivial
  |im d=>exact let ⟨v,a,b⟩:=q;⟨v,a,b.mono (λ_ o=>o) (λ_ _ o=>o.elim) tp⟩
  |sh d=>exact let ⟨v,a,b⟩:=q;⟨v,a,b.mono (λ_ o=>o) (λc u o e=>k c u e o.1) tp⟩
  |sn d=>exact let ⟨v,a,b⟩:=q;⟨v,a,b.mono (λ_ o=>o) (λc u o e=>k c u e o.2.1) tp⟩
  |dw r d=>exact let ⟨v,a,b⟩:=q;⟨v,a,b.mono (λ_ o=>o) (λc u o e=>k c u e (E.ow c r o).2.1) tp⟩
  |pen C=>exact q
  |rw r L=>exact let ⟨st,as,a,b⟩:=q;⟨st,as,a,b.mono (λc u o e=>⟨o,k c u e (E.ow c r o).2.1⟩) tp⟩
  |tw r L=>exact let ⟨st,as,a,b⟩:=q;⟨st,as,a,b.mono (λc u o e=>⟨o,k c u e (E.ow c r o).2.1⟩) tp⟩
  |scr v b=>exact q
  |sp r b ds=>exact let ⟨l,vs,a,o,h,z⟩:=q;⟨l,vs,a,o,k l _ h (E.ow l r o).2.1,z.mono (λ_ o=>o) (λc u o e=>k c u e o.2.1) tp⟩
end
abbrev DK:=Kd->D->Prop
abbrev DE:=List Sl->DK->Prop
def bT(t:DE):TE:=λσ H Q=>∃p H0 own ρ P,EnvD p H0 own σ H ρ/\t ρ P/\∀k d v H',P k d->At p H0 own H H'->Rp (okK p H0 own H k) H' v d->Q v H'
abbrev PD(X:Cx)(e:Expr)(t:DE):Prop:=PE X e (bT t)
abbrev DA:=List Sl->(List (Kd×D)->Prop)->Prop
inductive RpK(p:Pn)(H0:Hp)(own:Addr->Option Nat)(Hb H:Hp):List V->List (Kd×D)->Prop
 |nil:RpK p H0 own Hb H [] []
 |cons {v:V}{kd:Kd×D}{vs:List V}{ks:List (Kd×D)} (h:Rp (okK p H0 own Hb kd.1) H v kd.2) (t:RpK p H0 own Hb H vs ks):RpK p H0 own Hb H (v::vs) (kd::ks)
def xJ(t:DA):TA:=λσ H Q=>∃p H0 own ρ P,EnvD p H0 own σ H ρ/\t ρ P/\∀ks vs H',P ks->At p H0 own H H'->RpK p H0 own H H' vs ks->Q vs H'
abbrev PDA(X:Cx)(es:List Expr)(t:DA):Prop:=PA X es (xJ t)
abbrev DT:=List Sl->(Bool->Prop)->Prop
def liftT(t:DT):TT:=λσ H Q=>∃p H0 own ρ P,EnvD p H0 own σ H ρ/\t ρ P/\∀b H',P b->At p H0 own H H'->Q b H'
abbrev PDT(X:Cx)(e:Expr)(t:DT):Prop:=PT X e (liftT t)
def PE.wk{X:Cx}{e:Expr}{t t':TE}(h:PE X e t)(w:∀σ H Q,t' σ H Q->t σ H Q):PE X e t':=λpins s σ H Q I q=>h pins s σ H Q I (w σ H Q q)
def PT.wk{X:Cx}{e:Expr}{t t':TT}(h:PT X e t)(w:∀σ H Q,t' σ H Q->t σ H Q):PT X e t':=λpins s σ H Q I q=>h pins s σ H Q I (w σ H Q q)
def PA.wk{X:Cx}{e:List Expr}{t t':TA}(h:PA X e t)(w:∀σ H Q,t' σ H Q->t σ H Q):PA X e t':=λpos pins s σ H Q I q=>h pos pins s σ H Q I (w σ H Q q)
section
variable {X:Cx}{pos:Pos}{a b:Expr}{ta tb:DE}
def RpK.go{p:Pn}{H0 Hb H H':Hp}{own:Addr->Option Nat}(A:At p H0 own Hb H)(k:Kp p H H'):∀{vs:List V}{ks:List (Kd×D)},RpK p H0 own Hb H vs ks->RpK p H0 own Hb H' vs ks
 |_,_,.nil=>.nil
 |_,_,.cons h t=>.cons (iJ A k h) (RpK.go A k t)
def RpK.base{p:Pn}{H0 Hb H H':Hp}{own:Addr->Option Nat}(A:At p H0 own Hb H):∀{vs:List V}{ks:List (Kd×D)},RpK p H0 own H H' vs ks->RpK p H0 own Hb H' vs ks
 |_,_,.nil=>.nil
 |_,_,.cons h t=>.cons (jw A h) (RpK.base A t)
def tV(i:Nat):DE:=λρ P=>match ρ[i]? with
 |some (.im d)=>P .imm d
 |some (.sh d)=>P .shr d
 |some (.sn d)=>P .snw d
 |some (.dw r d)=>P (.reg r) d
 |some (.rw r L)=>P (.reg r) (.list (L.map Ď))
 |some (.tw r L)=>P (.reg r) (.tuple (L.map Ď))
 |some (.sp r b ds)=>P (if b=true then .n0 else .wk) (.list ds)
 |_=>False
def PK{i:Nat}{x:Str}{ps:Pos}(h:PE X (.Name x ps) (wz i)):PD X (.Name x ps) (tV i):=PE.wk h (by
 rintro σ H Q ⟨p,H0,own,ρ,P,E,t,q⟩
 unfold tV at t
 split at t
 ·rename_i d e;obtain⟨v,e1,r⟩:=E.slot i _ e;exact⟨v,e1,q _ _ _ _ t E.at r⟩
 ·rename_i d e;obtain⟨v,e1,r⟩:=E.slot i _ e;exact⟨v,e1,q _ _ _ _ t E.at r⟩
 ·rename_i d e;obtain⟨v,e1,r⟩:=E.slot i _ e;exact⟨v,e1,q _ _ _ _ t E.at r⟩
 ·rename_i d e;obtain⟨v,e1,r⟩:=E.slot i _ e;exact⟨v,e1,q _ _ _ _ t E.at r⟩
 ·rename_i r L e;obtain⟨st,as,e1,h⟩:=E.slot i _ e;exact⟨_,e1,q _ _ _ _ t E.at h.rp⟩
 ·rename_i r L e;obtain⟨st,as,e1,h⟩:=E.slot i _ e;exact⟨_,e1,q _ _ _ _ t E.at h.rp⟩
 ·rename_i r b ds e
  obtain⟨l,vs,e1,o,h,z⟩:=E.slot i _ e
  refine⟨_,e1,q _ _ _ _ t E.at ?_⟩
  cases b with
  |true=>exact .lst ⟨(E.ow l r o).1,(E.ow l r o).2.1⟩ h (z.mono (λc n=>⟨n.1 rfl,n.2.1⟩) (λ_ _ _ e=>e) λ_ _ e=>e)
  |false=>exact .lst (E.ow l r o).2.1 h (z.mono (λc n=>n.2.1) (λ_ _ _ e=>e) λ_ _ e=>e)
 ·exact t.elim)
def tK(d:D):DE:=λ_ P=>P .imm d
def iW{e:Expr}{v:V}{d:D}(h:PE X e (tC v))(r:∀H,Rp (λ_=>False) H v d):PD X e (tK d):=PE.wk h (by
 rintro σ H Q ⟨p,H0,own,ρ,P,E,t,q⟩
 exact q _ _ _ _ t E.at (r H))
def bJ{i:Int}{j:Nat}:PD X (.Constant (.int i) j pos) (tK (.int i)):=iW GQ λ_=>.int i
def wN{i:Bool}{j:Nat}:PD X (.Constant (.bool i) j pos) (tK (.bool i)):=iW S7 λ_=>.bl i
def iV{j:Nat}:PD X (.Constant .none j pos) (tK .none):=iW PB λ_=>.non
def uT{x:Str}{j:Nat}:PD X (.Constant (.str x) j pos) (tK (.str x)):=iW Px λ_=>.str x
abbrev G2:=Kd->D->Kd->D->DK->Prop
def t2(g:G2)(ta tb:DE):DE:=λρ P=>ta ρ λk1 d1=>tb ρ λk2 d2=>g k1 d1 k2 d2 P
def Ok2(g:G2)(r:R2):Prop:=∀p H0 own Hb H x y k1 d1 k2 d2 P Q,At p H0 own Hb H->Rp (okK p H0 own Hb k1) H x d1->Rp (okK p H0 own Hb k2) H y d2->g k1 d1 k2 d2 P ->
 (∀k d v H',P k d->Kp p H H'->p.PI H'->Rp (okK p H0 own Hb k) H' v d->Q v H')->r x y H Q
def lQ{g:G2}{r:R2}(ok:Ok2 g r):∀σ H Q,bT (t2 g ta tb) σ H Q->tOp r (bT ta) (bT tb) σ H Q:=by
 rintro σ H Q ⟨p,H0,own,ρ,P,E,t,q⟩
 refine⟨p,H0,own,ρ,_,E,t,λk1 d1 v1 H1 t1 A1 r1=>?_⟩
 have E1:=E.go A1.kp A1.pen
 refine⟨p,H0,own,ρ,_,E1,t1,λk2 d2 v2 H2 t2 A2 r2=>?_⟩
 have A:At p H0 own H H2:=A1.base A2
 exact ok p H0 own H H2 v1 v2 k1 d1 k2 d2 P Q A (iJ A1 A2.kp r1) (jw A1 r2) t2 λk d v H' h k3 i3 r3=>q k d v H' h (A.go k3 i3) r3
def jQ{op:Operator}{r:R2}{g:G2}(ho:OpR X (binaryOp op) r)(ok:Ok2 g r)(ha:PD X a ta)(hb:PD X b tb):PD X (.BinOp a op b pos) (t2 g ta tb):=PE.wk (aW ho ha hb) (lQ ok)
def gF{op:CmpOp}{r:R2}{g:G2}(ho:OpR X (compareOp op) r)(ok:Ok2 g r)(ha:PD X a ta)(hb:PD X b tb)(hm:behindInMarks op b=false):PD X (.Compare a [op] [b] pos) (t2 g ta tb):=PE.wk (Kr ho ha hb hm) (lQ ok)
def dH(t:DE):DT:=λρ P=>t ρ λ_ d=>match d with
 |.bool b=>P b
 |_=>False
def jd{t:DE}:∀σ H Q,liftT (dH t) σ H Q->(bT t) σ H (λx H'=>∃k,x=.bl k/\Q k H'):=by
 rintro σ H Q ⟨p,H0,own,ρ,P,E,t,q⟩
 refine⟨p,H0,own,ρ,_,E,t,λk d v H' h A r=>?_⟩
 cases d with
 |bool b=>exact⟨b,r.bl',q b H' h A⟩
 |_=>exact h.elim
def fB{op:CmpOp}{r:R2}{g:G2}(ho:OpR X (compareOp op) r)(ok:Ok2 g r)(ha:PD X a ta)(hb:PD X b tb)(hm:behindInMarks op b=false):PDT X (.Compare a [op] [b] pos) (dH (t2 g ta tb)) :=
 PT.wk (jy ho ha hb hm) λσ H Q h=>lQ ok σ H _ (jd σ H Q h)
def gC{e:Expr}{t:DE}(h:PD X e t)(he:∀whole,isTrue e X.env whole=(do let v ←whole;standAt e.pos;holding [v] (truthy v)):=by intro _;rfl):PDT X e (dH t) :=
 PT.wk (Pg h he) λσ H Q q=>jd σ H Q q
def Uh(t:DT):DT:=λρ P=>t ρ λb=>P (!b)
def jz{t:DT}(ha:PDT X a t):PDT X (.UnaryOp .Not a pos) (Uh t):=PT.wk (Ph ha) (by
 rintro σ H Q ⟨p,H0,own,ρ,P,E,t,q⟩
 exact⟨p,H0,own,ρ,_,E,t,λb H' h A=>q _ H' h A⟩)
abbrev PDW(X:Cx)(e:Expr)(t:DT):Prop:=PW X e (liftT t)
def PW.wk{X:Cx}{e:Expr}{t t':TT}(h:PW X e t)(w:∀σ H Q,t' σ H Q->t σ H Q):PW X e t':=λwh pins s σ H Q I q=>h wh pins s σ H Q I (w σ H Q q)
def Jv(t u:DT):DT:=λρ P=>t ρ λb=>if b=true then u ρ P else P false
def dOr(t u:DT):DT:=λρ P=>t ρ λb=>if b=true then P true else u ρ P
section
variable {rest:List Expr}{t u:DT}
def dg(ha:PDT X a t):PDW X (.BoolOp .And [a] pos) t:=Bs ha
def pC(ha:PDT X a t):PDW X (.BoolOp .Or [a] pos) t:=Gq ha
def H9:∀σ H Q,liftT (Jv t u) σ H Q->R4 (liftT t) (liftT u) σ H Q:=by
 rintro σ H Q ⟨p,H0,own,ρ,P,E,t,q⟩
 refine⟨p,H0,own,ρ,_,E,t,λb H' h A=>?_⟩
 cases b with
 |true=>exact aF ⟨p,H0,own,ρ,P,E.go A.kp A.pen,by simpa using h,λc H2 h2 A2=>q c H2 h2 (A.base A2)⟩
 |false=>exact ak (q false H' (by simpa using h) A)
def Ld:∀σ H Q,liftT (dOr t u) σ H Q->tOr (liftT t) (liftT u) σ H Q:=by
 rintro σ H Q ⟨p,H0,own,ρ,P,E,t,q⟩
 refine⟨p,H0,own,ρ,_,E,t,λb H' h A=>?_⟩
 cases b with
 |true=>exact aF (q true H' (by simpa using h) A)
 |false=>exact ak ⟨p,H0,own,ρ,P,E.go A.kp A.pen,by simpa using h,λc H2 h2 A2=>q c H2 h2 (A.base A2)⟩
def dU(ha:PDT X a t)(hb:PDW X (.BoolOp .And (b::rest) pos) u):PDW X (.BoolOp .And (a::b::rest) pos) (Jv t u):=PW.wk (Gs ha hb) H9
def uN(ha:PDT X a t)(hb:PDW X (.BoolOp .Or (b::rest) pos) u):PDW X (.BoolOp .Or (a::b::rest) pos) (dOr t u):=PW.wk (Np ha hb) Ld
def PDW.pt{e:Expr}{t:DT}(h:PDW X e t):PDT X e t:=PW.pt h
end
end
variable [Gr]
section
variable {X:Cx}{pos:Pos}{a b e:Expr}{es:List Expr}{ta tb te:DE}{t:DA}
def vY:DA:=λ_ P=>P []
def jr(te:DE)(t:DA):DA:=λρ P=>te ρ λk d=>t ρ λks=>P ((k,d)::ks)
def aL:PDA X [] vY:=PA.wk cL (by
 rintro σ H Q ⟨p,H0,own,ρ,P,E,t,q⟩
 exact q [] [] H t E.at .nil)
def aC(ha:PD X e te)(hr:PDA X es t)(hs:zS X e es:=by rfl):PDA X (e::es) (jr te t):=PA.wk (dz ha hr hs) (by
 rintro σ H Q ⟨p,H0,own,ρ,P,E,t,q⟩
 refine⟨p,H0,own,ρ,_,E,t,λk d v H1 h A r=>?_⟩
 refine⟨p,H0,own,ρ,_,E.go A.kp A.pen,h,λks vs H2 h2 A2 r2=>?_⟩
 exact q _ _ H2 h2 (A.base A2) (.cons (iJ A A2.kp r) (RpK.base A r2)))
def joins:List (Kd×D)->Kd
 |[]=>.imm
 |kd::ks=>kd.1.join (joins ks)
def RpK.all{p:Pn}{H0 Hb H H2:Hp}{own:Addr->Option Nat}(A:At p H0 own Hb H):∀{vs:List V}{ks:List (Kd×D)}{k:Kd},(joins ks).le k=true->RpK p H0 own Hb H2 vs ks->Rps (okK p H0 own Hb (joins ks)) H2 vs (ks.map (·.2))
 |_,_,_,_,.nil=>.nil
 |_,kd::ks,k,e,.cons h t=>by
  have j:=dJ kd.1 (joins ks)
  exact .cons (iI A j.1 h) ((RpK.all A (k:=joins ks) (by cases joins ks <;> simp[Kd.le]) t).mono (λa o=>bK A j.2 o) (λ_ _ _ e=>e) λ_ _ e=>e)
def Kd.le_refl(k:Kd):k.le k=true:=by cases k <;> simp[Kd.le]
def RpK.length{p:Pn}{H0 Hb H2:Hp}{own:Addr->Option Nat}:∀{vs:List V}{ks:List (Kd×D)},RpK p H0 own Hb H2 vs ks->vs.length=ks.length
 |_,_,.nil=>rfl
 |_,_,.cons _ t=>by rw[ÿ,ÿ,RpK.length t]
def Ng(t:DA):DE:=λρ P=>t ρ λks=>ks.length<=1000/\P ((joins ks).join .new) (.list (ks.map (·.2)))
def yE(t:DA):DE:=λρ P=>t ρ λks=>ks.length<=1000/\P (norm (joins ks) (.tuple (ks.map (·.2)))) (.tuple (ks.map (·.2)))
def gD(h:PDA X es t):PD X (.List es pos) (Ng t):=PE.wk (yS h) (by
 rintro σ H Q ⟨p,H0,own,ρ,P,E,t,q⟩
 refine⟨p,H0,own,ρ,_,E,t,λks vs H1 h A r=>?_⟩
 have h24:=õ
 have hl:=r.length
 refine⟨by have:=h.1;omega,λl hl=>?_⟩
 obtain⟨k2,i2,nw⟩:=A.new hl (.lst vs)
 have j:=dJ (joins ks) .new
 refine q _ _ _ _ h.2 (A.go k2 i2) (.lst (bK A j.2 nw) aB ?_)
 exact(bF A k2 (RpK.all A (Kd.le_refl _) r)).mono (λa o=>bK A j.1 o) (λ_ _ _ e=>e) λ_ _ e=>e)
def lA{x1}(h:PDA X es t):PD X (.Tuple es x1 pos) (yE t):=PE.wk (yQ h) (by
 rintro σ H Q ⟨p,H0,own,ρ,P,E,t,q⟩
 refine⟨p,H0,own,ρ,_,E,t,λks vs H1 h A r=>?_⟩
 have h24:=õ
 have hl:=r.length
 refine⟨by have:=h.1;omega,λl hl=>?_⟩
 obtain⟨k2,i2,nw⟩:=A.new hl (.tup vs)
 exact q _ _ _ _ h.2 (A.go k2 i2) (aR (.tup aB (bF A k2 (RpK.all A (Kd.le_refl _) r)))))
abbrev GC:=List (Kd×D)->DK->Prop
def tCl(g:GC)(t:DA):DE:=λρ P=>t ρ λks=>g ks P
def OkC(g:GC)(r:List V->Hp->VK->Prop):Prop:=∀p H0 own Hb H vs ks P Q,At p H0 own Hb H->RpK p H0 own Hb H vs ks->g ks P ->
 (∀k d v H',P k d->Kp p H H'->p.PI H'->Rp (okK p H0 own Hb k) H' v d->Q v H')->r vs H Q
def NT{g:GC}{r:List V->Hp->VK->Prop}(ok:OkC g r):∀σ H Q,bT (tCl g t) σ H Q->tCB r (xJ t) σ H Q:=by
 rintro σ H Q ⟨p,H0,own,ρ,P,E,t,q⟩
 refine⟨p,H0,own,ρ,_,E,t,λks vs H1 h A r=>?_⟩
 exact ok p H0 own H H1 vs ks P Q A r h λk d v H' h2 k2 i2 r2=>q k d v H' h2 (A.go k2 i2) r2
def dh{r:List V->Hp->VK->Prop}{id:String}{x:Str}{ps:Pos}{g:GC}(hc:bM X (.builtin id) r)(ok:OkC g r)(hg:Gl X x)(hm:X.mg x=none)(hv:bootBuiltins x=some (.builtin id))(ha:PDA X (e::es) t)(hn:x≠"__name__":=by decide)(hdb:zB x:=by decide)(he:zS X e es:=by rfl)(hpl:zP X pos es:=by rfl):PD X (.Call (.Name x ps) (e::es) [] pos) (tCl g t):=PE.wk (eG hc hg hm hv ha hn hdb he hpl) (NT ok)
def qx{r:List V->Hp->VK->Prop}{id:String}{x:Str}{ps:Pos}{g:GC}(hc:bM X (.type id) r)(ok:OkC g r)(hg:Gl X x)(hm:X.mg x=none)(hv:bootBuiltins x=some (.type id))(ha:PDA X (e::es) t)(hn:x≠"__name__":=by decide)(hdb:zB x:=by decide)(he:zS X e es:=by rfl)(hpl:zP X pos es:=by rfl):PD X (.Call (.Name x ps) (e::es) [] pos) (tCl g t):=PE.wk (fY hc hg hm hv ha hn hdb he hpl) (NT ok)
def spD(t:List D->(D->Prop)->Prop):Sp:=λvs H Q _=>∃ds P,Rps (λ_=>True) H vs ds/\t ds P/\∀d v H',P d->Same H H'->Rp (λa=>H a=none) H' v d->Q v H'
def tFn(f:List D->(D->Prop)->Prop)(t:DA):DE:=λρ P=>t ρ λks=>f (ks.map (·.2)) λd=>P (norm .new d) d
def RpK.rps{p:Pn}{H0 Hb H H2:Hp}{own:Addr->Option Nat}(A:At p H0 own Hb H):∀{vs:List V}{ks:List (Kd×D)},RpK p H0 own Hb H2 vs ks->Rps (λa=>¬p.fp a) H2 vs (ks.map (·.2))
 |_,_,.nil=>.nil
 |_,_,.cons h t=>.cons (h.mono (λa o=>fG A o) (λ_ _ _ e=>e) λ_ _ e=>e) (RpK.rps A t)
def Le{f:List D->(D->Prop)->Prop}:∀σ H Q,bT (tFn f t) σ H Q->Ax (spD f) [] E0 (xJ t) σ H Q:=by
 rintro σ H Q ⟨p,H0,own,ρ,P,E,t,q⟩
 refine⟨p,H0,own,ρ,_,E,t,λks vs H1 h A r=>?_⟩
 show spD f (vs++[]) H1 Q E0
 rw[Ā]
 refine⟨ks.map (·.2),_,(RpK.rps A r).mono (λ_ _=>trivial) (λ_ _ _ e=>e) λ_ _ e=>e,h,λd v H' h2 s r2=>?_⟩
 have k2:Kp p H1 H':=Kp.of s
 refine q _ d v H' h2 (A.go k2 (p.mono H1 H' A.pen λb o _ e=>s b o e)) (aR ?_)
 exact r2.mono (λa o=>A.free o) (λ_ _ _ e=>e) λ_ _ e=>e
def U0(C:Pn->Prop)(f:List D->(D->Prop)->Prop)(i:Nat)(t:DA):DE:=λρ P=>ρ[i]?=some (.pen C)/\tFn f t ρ P
def gI(C:Int->Int->Prop)(f:Int->Int->D):G2:=λ_ d1 _ d2 P=>match d1,d2 with
 |.int i,.int j=>C i j/\P .imm (f i j)
 |_,_=>False
def gI0(f:Int->Int->D):G2:=λ_ d1 _ d2 P=>match d1,d2 with
 |.int i,.int j=>P .imm (f i j)
 |_,_=>False
def okI{C:Int->Int->Prop}{f:Int->Int->D}{g:Int->Int->V}(h:∀i j H,Rp (λ_=>False) H (g i j) (f i j)):Ok2 (gI C f) (rI C g):=by
 intro p H0 own Hb H x y k1 d1 k2 d2 P Q A r1 r2 t q
 unfold gI at t
 split at t
 ·rename_i i j
  exact⟨i,j,r1.int',r2.int',t.1,q _ _ _ _ t.2 Kp.refl A.pen (h i j H)⟩
 ·exact t.elim
def oV{f:Int->Int->D}{g:Int->Int->V}(h:∀i j H,Rp (λ_=>False) H (g i j) (f i j)):Ok2 (gI0 f) (rI0 g):=by
 intro p H0 own Hb H x y k1 d1 k2 d2 P Q A r1 r2 t q
 unfold gI0 at t
 split at t
 ·rename_i i j
  exact⟨i,j,r1.int',r2.int',q _ _ _ _ t Kp.refl A.pen (h i j H)⟩
 ·exact t.elim
def P0(ha:PD X a ta)(hb:PD X b tb):PD X (.BinOp a .Add b pos) (t2 (gI0 λi j=>.int (i+j)) ta tb):=jQ dO (oV λi j _=>.int _) ha hb
def qm(ha:PD X a ta)(hb:PD X b tb):PD X (.BinOp a .Sub b pos) (t2 (gI0 λi j=>.int (i - j)) ta tb):=jQ G5 (oV λi j _=>.int _) ha hb
def yW(ha:PD X a ta)(hb:PD X b tb):PD X (.BinOp a .Mod b pos) (t2 (gI (λ_ j=>0<j) λi j=>.int (i % j)) ta tb):=jQ eH (okI λi j _=>.int _) ha hb
def iU(ha:PD X a ta)(hb:PD X b tb):PD X (.BinOp a .Pow b pos) (t2 (gI JM λi j=>.int (i ^ j.toNat)) ta tb):=jQ G7 (okI λi j _=>.int _) ha hb
def BL(ha:PD X a ta)(hb:PD X b tb):PD X (.Compare a [.Lt] [b] pos) (t2 (gI0 λi j=>.bool (decide (i<j))) ta tb):=gF oF (oV λi j _=>.bl _) ha hb (bN _)
def GZ(ha:PD X a ta)(hb:PD X b tb):PD X (.Compare a [.LtE] [b] pos) (t2 (gI0 λi j=>.bool (decide (i<=j))) ta tb):=gF wO (oV λi j _=>.bl _) ha hb (bN _)
def sY(ha:PD X a ta)(hb:PD X b tb):PD X (.Compare a [.Gt] [b] pos) (t2 (gI0 λi j=>.bool (decide (j<i))) ta tb):=gF wQ (oV λi j _=>.bl _) ha hb (bN _)
def sZ(ha:PD X a ta)(hb:PD X b tb):PD X (.Compare a [.GtE] [b] pos) (t2 (gI0 λi j=>.bool (decide (j<=i))) ta tb):=gF Nq (oV λi j _=>.bl _) ha hb (bN _)
def qg(ha:PD X a ta)(hb:PD X b tb):PDT X (.Compare a [.Lt] [b] pos) (dH (t2 (gI0 λi j=>.bool (decide (i<j))) ta tb)):=fB oF (oV λi j _=>.bl _) ha hb (bN _)
def qj(ha:PD X a ta)(hb:PD X b tb):PDT X (.Compare a [.LtE] [b] pos) (dH (t2 (gI0 λi j=>.bool (decide (i<=j))) ta tb)):=fB wO (oV λi j _=>.bl _) ha hb (bN _)
def iR(ha:PD X a ta)(hb:PD X b tb):PDT X (.Compare a [.Gt] [b] pos) (dH (t2 (gI0 λi j=>.bool (decide (j<i))) ta tb)):=fB wQ (oV λi j _=>.bl _) ha hb (bN _)
def scD:D->D->Option Bool
 |.int i,.int j=>some (decide (i=j))
 |.bool i,.bool j=>some (decide (i=j))
 |.str i,.str j=>some (decide (i=j))
 |_,_=>none
def gEq(neg:Bool):G2:=λ_ d1 _ d2 P=>match scD d1 d2 with
 |some b=>P .imm (.bool (if neg then !b else b))
 |none=>False
def Vh:Ok2 (gEq false) rEq:=by
 intro p H0 own Hb H x y k1 d1 k2 d2 P Q A r1 r2 t q
 unfold gEq scD at t
 split at t
 ·rename_i b e
  split at e <;> first|cases e|skip
  ·rw[r1.int',r2.int']
   refine⟨rfl,?_⟩
   have e2:∀i j:Int,decide (V.int i=V.int j)=decide (i=j):=λi j=>by simp
   rw[e2];exact q _ _ _ _ t Kp.refl A.pen (.bl _)
  ·rw[r1.bl',r2.bl']
   refine⟨rfl,?_⟩
   have e2:∀i j:Bool,decide (V.bl i=V.bl j)=decide (i=j):=λi j=>by simp
   rw[e2];exact q _ _ _ _ t Kp.refl A.pen (.bl _)
  ·rw[r1.str',r2.str']
   refine⟨rfl,?_⟩
   have e2:∀i j:Str,decide (V.str i=V.str j)=decide (i=j):=λi j=>by simp
   rw[e2];exact q _ _ _ _ t Kp.refl A.pen (.bl _)
 ·exact t.elim
def Tg:Ok2 (gEq true) rNe:=by
 intro p H0 own Hb H x y k1 d1 k2 d2 P Q A r1 r2 t q
 unfold gEq scD at t
 split at t
 ·rename_i b e
  split at e <;> first|cases e|skip
  ·rw[r1.int',r2.int']
   refine⟨rfl,?_⟩
   have e2:∀i j:Int,decide (V.int i=V.int j)=decide (i=j):=λi j=>by simp
   rw[e2];exact q _ _ _ _ t Kp.refl A.pen (.bl _)
  ·rw[r1.bl',r2.bl']
   refine⟨rfl,?_⟩
   have e2:∀i j:Bool,decide (V.bl i=V.bl j)=decide (i=j):=λi j=>by simp
   rw[e2];exact q _ _ _ _ t Kp.refl A.pen (.bl _)
  ·rw[r1.str',r2.str']
   refine⟨rfl,?_⟩
   have e2:∀i j:Str,decide (V.str i=V.str j)=decide (i=j):=λi j=>by simp
   rw[e2];exact q _ _ _ _ t Kp.refl A.pen (.bl _)
 ·exact t.elim
def S8(ha:PD X a ta)(hb:PD X b tb):PD X (.Compare a [.NotEq] [b] pos) (t2 (gEq true) ta tb):=gF G9 Tg ha hb (bN _)
def gIx:G2:=λk1 d1 _ d2 P=>match d1,d2 with
 |.list ds,.int i=>∃d,atI ds i=some d/\P (norm k1 d) d
 |.tuple ds,.int i=>∃d,atI ds i=some d/\P (norm k1 d) d
 |_,_=>False
def Rps.atI{ok:Addr->Prop}{H:Hp}{vs:List V}{ds:List D}{i:Int}{d:D}(r:Rps ok H vs ds)(h:L2.atI ds i=some d):∃v,L2.atI vs i=some v/\Rp ok H v d:=by
 unfold L2.atI at h ⊢
 rw[r.length]
 cases e:ixN ds.length i with
 |none=>rw[e] at h;cases h
 |some j =>
  rw[e] at h
  obtain⟨v,h1,h2⟩:=r.getD (i:=j) (d:=d) h
  exact⟨v,h1,h2⟩
def T4:G2:=λk1 d1 _ d2 P=>match d1,d2 with
 |.tuple ds,.int i=>∃d,atI ds i=some d/\P (norm k1 d) d
 |_,_=>False
def jW(ha:PD X a ta)(hb:PD X b tb)(hs:mO b):PD X (.Subscript a b pos) (t2 T4 ta tb):=PE.wk (fu zO ha hb hs) (lQ (by
 intro p H0 own Hb H x y k1 d1 k2 d2 P Q A r1 r2 t q
 unfold T4 at t
 split at t
 ·rename_i ds i
  obtain⟨d,hd,t⟩:=t
  obtain⟨c,vs,rfl,hc,rs⟩:=r1.fQ
  obtain⟨v,hv,rv⟩:=rs.atI hd
  exact⟨c,vs,i,v,rfl,r2.int',SqT.of hc,hv,q _ _ _ _ t Kp.refl A.pen (aR rv)⟩
 ·exact t.elim))
def eE{p:Pn}{H0 Hb H:Hp}{own:Addr->Option Nat}{vs:List V}{kd:Kd×D}(r:RpK p H0 own Hb H vs [kd]):∃v,vs=[v]/\Rp (okK p H0 own Hb kd.1) H v kd.2:=by
 cases r with
 |cons h t=>cases t;exact⟨_,rfl,h⟩
def O8{p:Pn}{H0 Hb H:Hp}{own:Addr->Option Nat}{vs:List V}{kd ke:Kd×D}(r:RpK p H0 own Hb H vs [kd,ke]):∃v w,vs=[v,w]/\Rp (okK p H0 own Hb kd.1) H v kd.2/\Rp (okK p H0 own Hb ke.1) H w ke.2:=by
 cases r with
 |cons h t =>
  cases t with
  |cons h2 t2=>cases t2;exact⟨_,_,rfl,h,h2⟩
def Ly:GC:=λks P=>match ks with
 |[(_,.list ds)]=>P .imm (.int ds.length)
 |[(_,.tuple ds)]=>P .imm (.int ds.length)
 |_=>False
def Ti{K:Ô}:OkC Ly (λxs H Q=>∃p ys,xs=[.ref p]/\(SqL K H p ys\/SqT K H p ys)/\Q (.int ys.length) H):=by
 intro p H0 own Hb H vs ks P Q A r t q
 unfold Ly at t
 split at t
 ·obtain⟨v,rfl,r'⟩:=eE r
  obtain⟨c,vs,rfl,o,hc,rs⟩:=r'.cW
  exact⟨c,vs,rfl,.inl (SqL.of hc),by rw[rs.length];exact q _ _ _ _ t Kp.refl A.pen (.int _)⟩
 ·obtain⟨v,rfl,r'⟩:=eE r
  obtain⟨c,vs,rfl,hc,rs⟩:=r'.fQ
  exact⟨c,vs,rfl,.inr (SqT.of hc),by rw[rs.length];exact q _ _ _ _ t Kp.refl A.pen (.int _)⟩
 ·exact t.elim
def qt{ps:Pos}(hm:X.mg "len"=none)(ha:PDA X [a] t)(hg:Gl X "len":=by rfl)(he:zS X a []:=by rfl)(hpl:zP X pos []:=by rfl):PD X (.Call (.Name "len" ps) [a] [] pos) (tCl Ly t) :=
 dh dG Ti hg hm PySem.boot_len ha (by decide) (by decide) he hpl
def Q7:GC:=λks P=>match ks with
 |[(_,.int i)]=>P .imm (.int i)
 |[(_,.bool b)]=>P .imm (.int (if b then 1 else 0))
 |_=>False
def pH{ps:Pos}(hm:X.mg "int"=none)(hv:bootBuiltins "int"=some (.type "int"))(ha:PDA X [a] t)(hg:Gl X "int":=by rfl)(he:zS X a []:=by rfl)(hpl:zP X pos []:=by rfl):PD X (.Call (.Name "int" ps) [a] [] pos) (tCl Q7 t) :=
 qx Fd (by
  intro p H0 own Hb H vs ks P Q A r t q
  unfold Q7 at t
  split at t
  ·rename_i k i
   obtain⟨v,rfl,r'⟩:=eE r
   rw[r'.int']
   exact .inl ⟨i,rfl,q _ _ _ _ t Kp.refl A.pen (.int _)⟩
  ·rename_i k i
   obtain⟨v,rfl,r'⟩:=eE r
   rw[r'.bl']
   exact .inr ⟨i,rfl,q _ _ _ _ t Kp.refl A.pen (.int _)⟩
  ·exact t.elim) hg hm hv ha (by decide) (by decide) he hpl
end
variable [Gr]
section
variable {ok ok':Addr->Prop}{H H':Hp}
mutual
def Rp.dD(f:∀a o,ok a->H a=some o->ok' a/\H' a=some o)(t:∀a xs,H a=some (.tup xs)->H' a=some (.tup xs)):∀{v:V}{d:D},Rp ok H v d->Rp ok' H' v d
 |_,_,.non=>.non
 |_,_,.bl b=>.bl b
 |_,_,.int i=>.int i
 |_,_,.str x=>.str x
 |_,_,.lst o h r=>.lst (f _ _ o h).1 (f _ _ o h).2 (Rps.dD f t r)
 |_,_,.tup h r=>.tup (t _ _ h) (Rps.dD f t r)
 |_,_,.dct o h r=>.dct (f _ _ o h).1 (f _ _ o h).2 (Rkv.dD f t r)
def Rps.dD(f:∀a o,ok a->H a=some o->ok' a/\H' a=some o)(t:∀a xs,H a=some (.tup xs)->H' a=some (.tup xs)):∀{v:List V}{d:List D},Rps ok H v d->Rps ok' H' v d
 |_,_,.nil=>.nil
 |_,_,.cons h r=>.cons (Rp.dD f t h) (Rps.dD f t r)
def Rkv.dD(f:∀a o,ok a->H a=some o->ok' a/\H' a=some o)(t:∀a xs,H a=some (.tup xs)->H' a=some (.tup xs)):∀{v:List (Key×V)}{d:List (D×D)},Rkv ok H v d->Rkv ok' H' v d
 |_,_,.nil=>.nil
 |_,_,.cons h r=>.cons (Rp.dD f t h) (Rkv.dD f t r)
end
end
structure DEnds where
 nx:List Sl->Prop
 rt:D->Prop
 bk:List Sl->Prop:=λ_=>False
 ct:List Sl->Prop:=λ_=>False
abbrev DS:=DEnds->List Sl->Prop
structure FrS(p:Pn)(own:Addr->Option Nat)(H:Hp)(own':Addr->Option Nat)(H':Hp):Prop where
 keep:∀b o,H b=some o->¬p.fp b->own b=none->H' b=some o/\own' b=none
 tup:∀a xs,H a=some (.tup xs)->H' a=some (.tup xs)
def FrS.trans{p:Pn}{o1 o2 o3:Addr->Option Nat}{H1 H2 H3:Hp}(a:FrS p o1 H1 o2 H2)(b:FrS p o2 H2 o3 H3):FrS p o1 H1 o3 H3:=⟨λc o h n e=>let ⟨x,y⟩:=a.keep c o h n e;b.keep c o x n y,λc xs e=>b.tup c xs (a.tup c xs e)⟩
def FrS.refl{p:Pn}{o1:Addr->Option Nat}{H1:Hp}:FrS p o1 H1 o1 H1:=⟨λ_ _ h _ e=>⟨h,e⟩,λ_ _ e=>e⟩
def At.tups{p:Pn}{H0 H H':Hp}{own:Addr->Option Nat}(A:At p H0 own H H'):∀a xs,H a=some (.tup xs)->H' a=some (.tup xs):=jg (⟨A.k0,Kp.refl,A.penb,A.penb,A.ow⟩:At p H0 own H H) A.kp
structure RPost(p:Pn)(H0 H':Hp)(v:V)(d:D):Prop where
 k0:∀b o,H0 b=some o->¬p.fp b->H' b=some o
 pen:p.PI H'
 rp:Rp (λa=>H0 a=none/\¬p.fp a) H' v d
structure Wish(p:Pn)(H0:Hp)(own:Addr->Option Nat)(H:Hp)(P:DEnds)(Q:Ends):Prop where
 nx:∀own' σ' H' ρ',EnvD p H0 own' σ' H' ρ'->FrS p own H own' H'->P.nx ρ'->Q.nx σ' H'
 rt:∀d v H',P.rt d->RPost p H0 H' v d->Q.rt v H'
 bk:∀own' σ' H' ρ',EnvD p H0 own' σ' H' ρ'->FrS p own H own' H'->P.bk ρ'->Q.bk σ' H'
 ct:∀own' σ' H' ρ',EnvD p H0 own' σ' H' ρ'->FrS p own H own' H'->P.ct ρ'->Q.ct σ' H'
def Wish.go{p:Pn}{H0 H H':Hp}{own own':Addr->Option Nat}{P:DEnds}{Q:Ends}(w:Wish p H0 own H P Q)(f:FrS p own H own' H'):Wish p H0 own' H' P Q :=
 ⟨λo s h r e g n=>w.nx o s h r e (f.trans g) n,w.rt,λo s h r e g n=>w.bk o s h r e (f.trans g) n,λo s h r e g n=>w.ct o s h r e (f.trans g) n⟩
def tH(t:DS):TS:=λQ σ H=>∃p H0 own ρ P,EnvD p H0 own σ H ρ/\t P ρ/\Wish p H0 own H P Q
abbrev PDS(X:Cx)(st:Stmt)(t:DS):Prop:=PS X st (tH t)
abbrev mQ(X:Cx)(st:List Stmt)(t:DS):Prop:=PSs X st (tH t)
def PSs.wk'{X:Cx}{ss:List Stmt}{t t':TS}(h:PSs X ss t)(w:∀D σ H,t' D σ H->t D σ H):PSs X ss t':=λpins s σ H D I q=>h pins s σ H D I (w D σ H q)
def PS.wk'{X:Cx}{ss:Stmt}{t t':TS}(h:PS X ss t)(w:∀D σ H,t' D σ H->t D σ H):PS X ss t':=λpins s σ H D I q=>h pins s σ H D I (w D σ H q)
def At.frs{p:Pn}{H0 H H':Hp}{own:Addr->Option Nat}(A:At p H0 own H H'):FrS p own H own H':=⟨λb o h n e=>⟨A.kp b o h n,e⟩,A.tups⟩
section
variable {X:Cx}{pos:Pos}{st:Stmt}{rest:List Stmt}{e:Expr}{te:DE}{t u:DS}
def Ju:DS:=λP ρ=>P.nx ρ
def Js(t u:DS):DS:=λP ρ=>t { P with nx:=u P } ρ
def nJ:mQ X [] Ju:=PSs.wk' lg (by
 rintro Q σ H ⟨p,H0,own,ρ,P,E,t,w⟩
 exact w.nx own σ H ρ E FrS.refl t)
def dX(h1:PDS X st t)(h2:mQ X rest u):mQ X (st::rest) (Js t u):=PSs.wk' (aY h1 h2) (by
 rintro Q σ H ⟨p,H0,own,ρ,P,E,t,w⟩
 exact⟨p,H0,own,ρ,_,E,t,⟨λo s h r e g n=>⟨p,H0,o,r,P,e,n,w.go g⟩,w.rt,w.bk,w.ct⟩⟩)
def bL(h1:PDS X st t):mQ X [st] t:=cZ h1
def mD:PDS X st (λ_ _=>False):=PS.wk' Gv (by
 rintro Q σ H ⟨p,H0,own,ρ,P,E,t,w⟩
 exact t)
def Jt(te:DE):DS:=λP ρ=>te ρ λk d=>k.le .n0=true/\P.rt d
def cF(he:PD X e te):PDS X (.Return (some e) pos) (Jt te):=PS.wk' (iM he) (by
 rintro Q σ H ⟨p,H0,own,ρ,P,E,t,w⟩
 refine⟨p,H0,own,ρ,_,E,t,λk d v H' h A r=>w.rt d v H' h.2 ⟨λb o e n=>A.kp b o (A.k0 b o e n) n,A.pen,?_⟩⟩
 exact iI A h.1 r)
def dIf(c:DT)(t u:DS):DS:=λP ρ=>c ρ λb=>if b=true then t P ρ else u P ρ
def tU{c:Expr}{a b:List Stmt}{tc:DT}(hc:PDT X c tc)(ha:mQ X a t)(hb:mQ X b u):PDS X (.If c a b pos) (dIf tc t u):=PS.wk' (qd hc ha hb) (by
 rintro Q σ H ⟨p,H0,own,ρ,P,E,t,w⟩
 refine⟨p,H0,own,ρ,_,E,t,λb H' h A=>?_⟩
 cases b with
 |true=>exact aF ⟨p,H0,own,ρ,P,E.go A.kp A.pen,by simpa using h,w.go A.frs⟩
 |false=>exact ak ⟨p,H0,own,ρ,P,E.go A.kp A.pen,by simpa using h,w.go A.frs⟩)
def Oh(te:DE):DS:=λP ρ=>te ρ λ_ _=>P.nx ρ
def mG(he:PD X e te)(hs:swapsWith e none pos.line X.env=pure false:=by rfl):PDS X (.Expr e pos) (Oh te):=PS.wk' (o9 he hs) (by
 rintro Q σ H ⟨p,H0,own,ρ,P,E,t,w⟩
 exact⟨p,H0,own,ρ,_,E,t,λk d v H' h A r=>w.nx own σ H' ρ (E.go A.kp A.pen) A.frs h⟩)
def Sl.region:Sl->Option Nat
 |.dw r _=>some r
 |.rw r _=>some r
 |.tw r _=>some r
 |.sp r _ _=>some r
 |_=>none
def Jb(r:Nat)(ρ:List Sl)(i:Nat):Bool:=(ρ.set i .any).all λs=>s.region != some r
def stK(rg:Option Nat)(ρ:List Sl)(i:Nat)(k:Kd)(d:D):Option Sl:=match k with
 |.imm=>some (.im d)
 |.new=>match rg with
  |some r=>if Jb r ρ i=true then some (.dw r d) else none
  |none=>some (.sn d)
 |.reg r=>some (.dw r d)
 |.snw=>some (.sn d)
 |.shr=>some (.sh d)
 |_=>none
def rY(i:Nat)(rg:Option Nat)(te:DE):DS:=λP ρ=>te ρ λk d=>match stK rg ρ i (norm k d) d with
 |some s=>P.nx (ρ.set i s)
 |none=>False
section
variable {p:Pn}{H0 H H1:Hp}{own:Addr->Option Nat}{σ:L2.St}{ρ:List Sl}{i:Nat}
def EnvD.set{v:V}{s:Sl}(E:EnvD p H0 own σ H ρ)(hs:i<σ.length->gQ p H0 own (σ.set i (some v)) H i s):EnvD p H0 own (σ.set i (some v)) H (ρ.set i s):=by
 refine⟨E.k0,E.pen,E.ow,λj s' e=>?_,by simpa using E.len,E.gr⟩
 by_cases hj:j=i
 ·subst hj
  have hl:j<ρ.length:=by
   have:=(Ý.mp e).1
   simpa using this
  rw[Ĉ hl] at e
  cases e
  exact hs (by rw[←E.len];exact hl)
 ·rw[į (Ĩ hj)] at e
  have q:=E.slot j s' e
  have eq:(σ.set i (some v))[j]?=σ[j]?:=į (Ĩ hj)
  cases s' <;> simp only[gQ,eq] at q ⊢ <;> exact q
def cM(r:Nat)(H H1:Hp)(own:Addr->Option Nat):Addr->Option Nat:=λa=>match H a,H1 a with
 |none,some _=>some r
 |_,_=>own a
def bR{r:Nat}{a:Addr}{o:HO}(h:H a=some o):cM r H H1 own a=own a:=by unfold cM;rw[h]
def ux{r:Nat}{a:Addr}{o:HO}(h:H a=none)(h1:H1 a=some o):cM r H H1 own a=some r:=by unfold cM;rw[h,h1]
def EnvD.adopt(r:Nat)(E:EnvD p H0 own σ H ρ)(A:At p H0 own H H1):EnvD p H0 (cM r H H1 own) σ H1 ρ:=by
 have tp:=jg E.at A.kp
 refine⟨λb o e n=>A.kp b o (E.k0 b o e n) n,A.pen,λa q e=>?_,λj s e=>?_,E.len,E.gr⟩
 ·cases h:H a with
  |some o =>
   rw[bR h] at e
   obtain⟨x,y,z⟩:=E.ow a q e
   refine⟨x,y,by rw[A.kp a o h y];exact λz=>nomatch z⟩
  |none =>
   cases h1:H1 a with
   |none =>
    have e':own a=some q:=by rw[←e];unfold cM;rw[h,h1]
    exact absurd h (E.ow a q e').2.2
   |some o=>exact⟨E.at.h0 h,E.at.nfb h,λz=>nomatch z⟩
 ·have q:=E.slot j s e
  cases s with
  |any=>trivial
  |im d=>exact let ⟨v,a,b⟩:=q;⟨v,a,b.mono (λ_ o=>o) (λ_ _ o=>o.elim) tp⟩
  |sh d=>exact let ⟨v,a,b⟩:=q;⟨v,a,b.dD (λc o n h=>⟨⟨n.1,by rw[bR h];exact n.2⟩,A.kp c o h n.1⟩) tp⟩
  |sn d=>exact let ⟨v,a,b⟩:=q;⟨v,a,b.dD (λc o n h=>⟨⟨n.1,n.2.1,by rw[bR h];exact n.2.2⟩,A.kp c o h n.2.1⟩) tp⟩
  |dw r' d=>exact let ⟨v,a,b⟩:=q;⟨v,a,b.dD (λc o n h=>⟨by rw[bR h];exact n,A.kp c o h (E.ow c r' n).2.1⟩) tp⟩
  |pen C=>exact q
  |rw r' L=>exact let ⟨st,as,a,b⟩:=q;⟨st,as,a,b.mono (λc o n h=>⟨by rw[bR h];exact n,A.kp c o h (E.ow c r' n).2.1⟩) tp⟩
  |tw r' L=>exact let ⟨st,as,a,b⟩:=q;⟨st,as,a,b.mono (λc o n h=>⟨by rw[bR h];exact n,A.kp c o h (E.ow c r' n).2.1⟩) tp⟩
  |scr v b=>exact q
  |sp r' b ds=>exact let ⟨l,vs,a,o,h,z⟩:=q;⟨l,vs,a,by rw[bR h];exact o,A.kp l _ h (E.ow l r' o).2.1,z.dD (λc u n e=>⟨⟨n.1,n.2.1,by rw[bR e];exact n.2.2⟩,A.kp c u e n.2.1⟩) tp⟩
def yp{r:Nat}{k:Kd}{v:V}{d:D}(h:k.le .new=true)(A:At p H0 own H H1)(x:Rp (okK p H0 own H k) H1 v d):Rp (λa=>cM r H H1 own a=some r) H1 v d :=
 (iI A h x).dD (λa o n e=>⟨ux n e,e⟩) λ_ _ e=>e
def nQ{r:Nat}(A:At p H0 own H H1):FrS p own H (cM r H H1 own) H1:=⟨λb o h n e=>⟨A.kp b o h n,by rw[bR h];exact e⟩,A.tups⟩
def EnvD.drop(E:EnvD p H0 own σ H ρ):EnvD p H0 own σ H (ρ.set i .any):=by
 refine⟨E.k0,E.pen,E.ow,λj s' e=>?_,by simpa using E.len,E.gr⟩
 by_cases hj:j=i
 ·subst hj
  have hl:j<ρ.length:=by
   have:=(Ý.mp e).1
   simpa using this
  rw[Ĉ hl] at e
  cases e
  trivial
 ·rw[į (Ĩ hj)] at e
  exact E.slot j s' e
def bZ(r:Nat)(own:Addr->Option Nat):Addr->Option Nat:=λa=>if own a=some r then none else own a
def EnvD.clear{r:Nat}(E:EnvD p H0 own σ H ρ)(h:ρ.all (λs=>s.region != some r)=true):EnvD p H0 (bZ r own) σ H ρ:=by
 refine⟨E.k0,E.pen,λa q e=>?_,λj s e=>?_,E.len,E.gr⟩
 ·unfold bZ at e
  split at e
  ·cases e
  ·exact E.ow a q e
 ·have q:=E.slot j s e
  have z:=ï.mp h s (Ð e)
  have c0:∀a,own a=none->bZ r own a=none:=λa n=>by unfold bZ;rw[n];simp
  cases s with
  |any=>trivial
  |im d=>exact q
  |sh d=>exact let ⟨v,a,b⟩:=q;⟨v,a,b.mono (λc n=>⟨n.1,c0 c n.2⟩) (λ_ _ _ e=>e) λ_ _ e=>e⟩
  |sn d=>exact let ⟨v,a,b⟩:=q;⟨v,a,b.mono (λc n=>⟨n.1,n.2.1,c0 c n.2.2⟩) (λ_ _ _ e=>e) λ_ _ e=>e⟩
  |dw r' d =>
   have hne:r'≠r:=by simpa[Sl.region] using z
   exact let ⟨v,a,b⟩:=q;⟨v,a,b.mono (λc n=>by unfold bZ;rw[n,if_neg (by simpa using hne)]) (λ_ _ _ e=>e) λ_ _ e=>e⟩
  |pen C=>exact q
  |rw r' L =>
   have hne:r'≠r:=by simpa[Sl.region] using z
   exact let ⟨st,as,a,b⟩:=q;⟨st,as,a,b.mono (λc o n e=>⟨by unfold bZ;rw[n,if_neg (by simpa using hne)],e⟩) λ_ _ e=>e⟩
  |tw r' L =>
   have hne:r'≠r:=by simpa[Sl.region] using z
   exact let ⟨st,as,a,b⟩:=q;⟨st,as,a,b.mono (λc o n e=>⟨by unfold bZ;rw[n,if_neg (by simpa using hne)],e⟩) λ_ _ e=>e⟩
  |scr v b=>exact q
  |sp r' b ds =>
   have hne:r'≠r:=by simpa[Sl.region] using z
   exact let ⟨l,vs,a,o,h,y⟩:=q;⟨l,vs,a,by unfold bZ;rw[o,if_neg (by simpa using hne)],h,y.mono (λc n=>⟨n.1,n.2.1,c0 c n.2.2⟩) (λ_ _ _ e=>e) λ_ _ e=>e⟩
def ud{r:Nat}:FrS p own H (bZ r own) H:=⟨λb o h n e=>⟨h,by unfold bZ;rw[e];simp⟩,λ_ _ e=>e⟩
end
def j5{i:Nat}(rg:Option Nat)(h:PS X st (rF (bT te) (jh i))):PDS X st (rY i rg te):=PS.wk' h (by
 rintro Q σ H ⟨p,H0,own,ρ,P,E,t,w⟩
 refine⟨p,H0,own,ρ,_,E,t,λk d v H1 h A r=>?_⟩
 have r:=aR r
 generalize norm k d=k' at h r
 show Q.nx (σ.set i (some v)) H1
 have E1:=E.go A.kp A.pen
 have fin:∀s,gQ p H0 own (σ.set i (some v)) H1 i s\/¬i<σ.length->P.nx (ρ.set i s)->Q.nx (σ.set i (some v)) H1:=λs hs hn =>
  w.nx own _ H1 _ (E1.set λhl=>hs.elim id λz=>absurd hl z) A.frs hn
 have here:i<σ.length->(σ.set i (some v))[i]?=some (some v):=λhl=>Ĉ hl
 by_cases hl:i<σ.length
 ·cases k' with
  |imm=>exact fin (.im d) (.inl ⟨v,here hl,r⟩) h
  |new =>
   cases rg with
   |none=>exact fin (.sn d) (.inl ⟨v,here hl,iI A (k:=.snw) rfl r⟩) h
   |some q =>
    simp only[stK] at h
    by_cases hf:Jb q ρ i=true
    ·rw[if_pos hf] at h
     have E2:EnvD p H0 (bZ q own) σ H (ρ.set i .any):=(E.drop (i:=i)).clear hf
     have A2:At p H0 (bZ q own) H H1:=⟨A.k0,A.kp,A.penb,A.pen,E2.ow⟩
     have E3:=E2.adopt q A2
     have r2:Rp (okK p H0 (bZ q own) H .new) H1 v d:=r
     have E4:EnvD p H0 (cM q H H1 (bZ q own)) (σ.set i (some v)) H1 ((ρ.set i .any).set i (.dw q d)):=E3.set λ_=>⟨v,here hl,yp (k:=.new) rfl A2 r2⟩
     rw[List.set_set] at E4
     exact w.nx _ _ H1 _ E4 (ud.trans (nQ A2)) h
    ·rw[if_neg hf] at h
     exact h.elim
  |reg q=>exact fin (.dw q d) (.inl ⟨v,here hl,r⟩) h
  |n0=>exact h.elim
  |snw=>exact fin (.sn d) (.inl ⟨v,here hl,r⟩) h
  |shr=>exact fin (.sh d) (.inl ⟨v,here hl,r⟩) h
  |wk=>exact h.elim
 ·cases hs:stK rg ρ i k' d with
  |none=>rw[hs] at h;exact h.elim
  |some s=>rw[hs] at h;exact fin s (.inr hl) h)
end
variable [Gr]
section
variable {ok ok':Addr->Prop}{H:Hp}
mutual
def Rp.inj:∀{v:V}{d d':D},Rp ok H v d->Rp ok' H v d'->d=d'
 |_,_,_,.non,.non=>rfl
 |_,_,_,.bl b,.bl _=>rfl
 |_,_,_,.int i,.int _=>rfl
 |_,_,_,.str x,.str _=>rfl
 |_,_,_,.lst o h r,.lst o' h' r'=>by
  rw[h] at h';cases h'
  rw[Rps.inj r r']
 |_,_,_,.lst o h r,.tup h' r'=>by rw[h] at h';cases h'
 |_,_,_,.lst o h r,.dct o' h' r'=>by rw[h] at h';cases h'
 |_,_,_,.tup h r,.lst o' h' r'=>by rw[h] at h';cases h'
 |_,_,_,.tup h r,.tup h' r'=>by
  rw[h] at h';cases h'
  rw[Rps.inj r r']
 |_,_,_,.tup h r,.dct o' h' r'=>by rw[h] at h';cases h'
 |_,_,_,.dct o h r,.lst o' h' r'=>by rw[h] at h';cases h'
 |_,_,_,.dct o h r,.tup h' r'=>by rw[h] at h';cases h'
 |_,_,_,.dct o h r,.dct o' h' r'=>by
  rw[h] at h';cases h'
  rw[Rkv.inj r r']
def Rps.inj:∀{v:List V}{d d':List D},Rps ok H v d->Rps ok' H v d'->d=d'
 |_,_,_,.nil,.nil=>rfl
 |_,_,_,.cons h t,.cons h' t'=>by rw[Rp.inj h h',Rps.inj t t']
def Rkv.inj:∀{v:List (Key×V)}{d d':List (D×D)},Rkv ok H v d->Rkv ok' H v d'->d=d'
 |_,_,_,.nil,.nil=>rfl
 |_,_,_,.cons h t,.cons h' t'=>by rw[Rp.inj h h',Rkv.inj t t']
end
variable {l:Addr}{T:D}
mutual
def Rp.avoid(h0:Rp ok' H (.ref l) T):∀{v:V}{d:D},Rp ok H v d->sizeOf d<sizeOf T->Rp (λa=>ok a/\a≠l) H v d
 |_,_,.non,_=>.non
 |_,_,.bl b,_=>.bl b
 |_,_,.int i,_=>.int i
 |_,_,.str x,_=>.str x
 |_,_,.lst (ds:=ds) o h r,s=>.lst ⟨o,λz=>by
   subst z
   have e:=Rp.inj (Rp.lst o h r) h0
   rw[e] at s
   exact absurd s (ü _)⟩ h (Rps.avoid h0 r (by simp only[PyData.list.sizeOf_spec] at s;omega))
 |_,_,.tup (ds:=ds) h r,s=>.tup h (Rps.avoid h0 r (by simp only[PyData.tuple.sizeOf_spec] at s;omega))
 |_,_,.dct (ds:=ds) o h r,s=>.dct ⟨o,λz=>by
   subst z
   have e:=Rp.inj (Rp.dct o h r) h0
   rw[e] at s
   exact absurd s (ü _)⟩ h (Rkv.avoid h0 r (by simp only[PyData.dict.sizeOf_spec] at s;omega))
def Rps.avoid(h0:Rp ok' H (.ref l) T):∀{v:List V}{d:List D},Rps ok H v d->sizeOf d<sizeOf T->Rps (λa=>ok a/\a≠l) H v d
 |_,_,.nil,_=>.nil
 |_,_,.cons h t,s=>.cons (Rp.avoid h0 h (by simp only[List.cons.sizeOf_spec] at s;omega)) (Rps.avoid h0 t (by simp only[List.cons.sizeOf_spec] at s;omega))
def Rkv.avoid(h0:Rp ok' H (.ref l) T):∀{v:List (Key×V)}{d:List (D×D)},Rkv ok H v d->sizeOf d<sizeOf T->Rkv (λa=>ok a/\a≠l) H v d
 |_,_,.nil,_=>.nil
 |_,_,.cons h t,s=>.cons (Rp.avoid h0 h (by simp only[List.cons.sizeOf_spec,Prod.mk.sizeOf_spec] at s;omega)) (Rkv.avoid h0 t (by simp only[List.cons.sizeOf_spec] at s;omega))
end
end
def forget(r:Nat)(ρ:List Sl):List Sl:=ρ.map λs=>if s.region=some r then .any else s
section
variable {p:Pn}{H0 H H1:Hp}{own:Addr->Option Nat}{σ:L2.St}{ρ:List Sl}{i:Nat}
def EnvD.write{r:Nat}{l:Addr}{u o':HO}(E:EnvD p H0 own σ H ρ)(hl:own l=some r)(ho:H l=some u)(hu:∀xs,u≠.tup xs)(hc:¬Fxd u:=by rintro⟨_,_,z⟩;cases z):EnvD p H0 own σ (upd H l o') (forget r ρ):=by
 have h0:=E.ow l r hl
 have tp:∀a xs,H a=some (.tup xs)->upd H l o' a=some (.tup xs):=λa xs e=>by
  rw[ao];exact e
  intro z;subst z;rw[ho] at e;exact hu xs (á e)
 refine⟨λb o e n=>?_,p.mono H _ E.pen λb o f e=>?_,λa q e=>?_,λj s e=>?_,by unfold forget;rw[Â];exact E.len,E.gr⟩
 ·rw[ao];exact E.k0 b o e n
  intro z;subst z;rw[h0.1] at e;cases e
 ·rw[ao];exact e
  intro z;subst z;exact f.elim h0.2.1 λc=>hc (by rw[ho] at e;cases e;exact c)
 ·obtain⟨x,y,z⟩:=E.ow a q e
  refine⟨x,y,?_⟩
  by_cases hh:a=l
  ·subst hh;rw[aB];exact λz=>nomatch z
  ·rw[ao hh];exact z
 ·unfold forget at e
  rw[å] at e
  cases hr:ρ[j]? with
  |none=>rw[hr] at e;cases e
  |some s0 =>
   rw[hr] at e
   have e:=á e
   have q:=E.slot j s0 hr
   have ne:∀c,own c≠some r->c≠l:=λc n z=>by subst z;exact n hl
   cases s0 with
   |any=>simp only[Sl.region] at e;subst e;trivial
   |im d =>
    have e:Sl.im d=s:=e
    subst e
    exact let ⟨v,a,b⟩:=q;⟨v,a,b.mono (λ_ o=>o) (λ_ _ o=>o.elim) tp⟩
   |sh d =>
    have e:Sl.sh d=s:=e
    subst e
    exact let ⟨v,a,b⟩:=q;⟨v,a,b.mono (λ_ o=>o) (λc o n e=>by rw[ao (ne c (by rw[n.2];exact λz=>nomatch z))];exact e) tp⟩
   |sn d =>
    have e:Sl.sn d=s:=e
    subst e
    exact let ⟨v,a,b⟩:=q;⟨v,a,b.mono (λ_ o=>o) (λc o n e=>by rw[ao (ne c (by rw[n.2.2];exact λz=>nomatch z))];exact e) tp⟩
   |dw r' d =>
    by_cases hrr:r'=r
    ·subst hrr
     have e:(if (some r':Option Nat)=some r' then Sl.any else Sl.dw r' d)=s:=e
     rw[if_pos rfl] at e
     subst e
     trivial
    ·have e:(if (some r':Option Nat)=some r then Sl.any else Sl.dw r' d)=s:=e
     rw[if_neg (by simpa using hrr)] at e
     subst e
     exact let ⟨v,a,b⟩:=q;⟨v,a,b.mono (λ_ o=>o) (λc o n e=>by rw[ao (ne c (by rw[n];simpa using hrr))];exact e) tp⟩
   |pen C =>
    have e:Sl.pen C=s:=e
    subst e
    exact q
   |scr v b =>
    have e:Sl.scr v b=s:=e
    subst e
    exact q
   |sp r' b ds =>
    by_cases hrr:r'=r
    ·subst hrr
     have e:(if (some r':Option Nat)=some r' then Sl.any else Sl.sp r' b ds)=s:=e
     rw[if_pos rfl] at e
     subst e
     trivial
    ·have e:(if (some r':Option Nat)=some r then Sl.any else Sl.sp r' b ds)=s:=e
     rw[if_neg (by simpa using hrr)] at e
     subst e
     exact let ⟨l',vs,a,o,h,y⟩:=q;⟨l',vs,a,o,by rw[ao (ne l' (by rw[o];simpa using hrr))];exact h,y.mono (λ_ o=>o) (λc o n e=>by rw[ao (ne c (by rw[n.2.2];exact λz=>nomatch z))];exact e) tp⟩
   |rw r' L =>
    by_cases hrr:r'=r
    ·subst hrr
     have e:(if (some r':Option Nat)=some r' then Sl.any else Sl.rw r' L)=s:=e
     rw[if_pos rfl] at e
     subst e
     trivial
    ·have e:(if (some r':Option Nat)=some r then Sl.any else Sl.rw r' L)=s:=e
     rw[if_neg (by simpa using hrr)] at e
     subst e
     exact let ⟨st,as,a,b⟩:=q;⟨st,as,a,b.mono (λc o n e=>⟨n,by rw[ao (ne c (by rw[n];simpa using hrr))];exact e⟩) tp⟩
   |tw r' L =>
    by_cases hrr:r'=r
    ·subst hrr
     have e:(if (some r':Option Nat)=some r' then Sl.any else Sl.tw r' L)=s:=e
     rw[if_pos rfl] at e
     subst e
     trivial
    ·have e:(if (some r':Option Nat)=some r then Sl.any else Sl.tw r' L)=s:=e
     rw[if_neg (by simpa using hrr)] at e
     subst e
     exact let ⟨st,as,a,b⟩:=q;⟨st,as,a,b.mono (λc o n e=>⟨n,by rw[ao (ne c (by rw[n];simpa using hrr))];exact e⟩) tp⟩
def Dd{r:Nat}{l:Addr}{u o':HO}(hl:own l=some r)(ho:H l=some u)(hu:∀xs,u≠.tup xs):FrS p own H own (upd H l o'):=by
 refine⟨λb o h n e=>⟨?_,e⟩,λa xs e=>?_⟩
 ·rw[ao];exact h
  intro z;subst z;rw[hl] at e;cases e
 ·rw[ao];exact e
  intro z;subst z;rw[ho] at e;exact hu xs (á e)
def EnvD.put{v:V}{s:Sl}(E:EnvD p H0 own σ H ρ)(hs:gQ p H0 own σ H i s):EnvD p H0 own σ H (ρ.set i s):=by
 refine⟨E.k0,E.pen,E.ow,λj s' e=>?_,by simpa using E.len,E.gr⟩
 by_cases hj:j=i
 ·subst hj
  have hl:j<ρ.length:=by
   have:=(Ý.mp e).1
   simpa using this
  rw[Ĉ hl] at e
  cases e
  exact hs
 ·rw[į (Ĩ hj)] at e
  exact E.slot j s' e
def EnvD.uK{r:Nat}{l:Addr}{vs vs':List V}{ds ds':List D}(E:EnvD p H0 own σ H ρ)(A:At p H0 own H H1)(hv:σ[i]?=some (some (.ref l)))(hl:own l=some r)(ho:H l=some (.lst vs))(rs:Rps (λa=>own a=some r) H vs ds)(hs:∀H2,(∀{w:V}{d:D},Rp (λa=>own a=some r) H w d->sizeOf d<sizeOf (Ď ds)->Rp (λa=>cM r H H1 own a=some r) H2 w d)->(∀{w:V}{d:D},Rp (okK p H0 own H .new) H1 w d->Rp (λa=>cM r H H1 own a=some r) H2 w d)->Rps (λa=>cM r H H1 own a=some r) H2 vs' ds') :
  EnvD p H0 (cM r H H1 own) σ (upd H1 l (.lst vs')) ((forget r ρ).set i (.dw r (.list ds')))/\FrS p own H (cM r H H1 own) (upd H1 l (.lst vs')):=by
 have h1:H1 l=some (.lst vs):=A.kp l _ ho (E.ow l r hl).2.1
 have hl':cM r H H1 own l=some r:=by rw[bR ho];exact hl
 have E1:=(E.adopt r A).write (o':=.lst vs') hl' h1 (λxs z=>nomatch z)
 have tp:∀a xs,H1 a=some (.tup xs)->upd H1 l (.lst vs') a=some (.tup xs):=λa xs e=>by
  rw[ao];exact e
  intro z;subst z;rw[h1] at e;cases e
 refine⟨E1.put (v:=.ref l) ⟨.ref l,hv,.lst hl' aB (hs _ ?_ ?_)⟩,(nQ A).trans (Dd hl' h1 λxs z=>nomatch z)⟩
 ·intro w d x sz
  have x1:=Rp.avoid (Rp.lst (ok:=λa=>own a=some r) hl ho rs) x sz
  exact x1.dD (λa o n e=>⟨by rw[bR e];exact n.1,by rw[ao n.2];exact A.kp a o e (E.ow a r n.1).2.1⟩) λa xs e=>tp a xs (jg E.at A.kp a xs e)
 ·intro w d x
  exact x.dD (λa o n e=>⟨ux n e,by rw[ao (λz=>by subst z;rw[ho] at n;cases n)];exact e⟩) tp
end
section
variable {X:Cx}{pos:Pos}{st:Stmt}{e:Expr}{te:DE}{i:Nat}{ta:DA}
def ju{d:D}{ds:List D}(h:d∈ds):sizeOf d<sizeOf (Ď ds):=by
 have:=List.sizeOf_lt_of_mem h
 simp only[PyData.list.sizeOf_spec]
 omega
def kY{ok ok':Addr->Prop}{H H2:Hp}{T:D}(f:∀{w:V}{d:D},Rp ok H w d->sizeOf d<sizeOf T->Rp ok' H2 w d):∀{vs:List V}{ds:List D},Rps ok H vs ds->(∀d∈ds,sizeOf d<sizeOf T)->Rps ok' H2 vs ds
 |_,_,.nil,_=>.nil
 |_,_,.cons h t,s=>.cons (f h (s _ Ú)) (kY f t λd hd=>s d (Ó _ hd))
def Ac(i:Nat)(te:DE):DS:=λP ρ=>match ρ[i]? with
 |some (.dw r (.list ds))=>te ρ λk d=>(norm k d).le .new=true/\ds.length<1000/\P.nx ((forget r ρ).set i (.dw r (.list (ds++[d]))))
 |_=>False
def gb(h:PS X st (Aw (tBM X.K "list" uM (wz i) (xJ (jr te vY))))):PDS X st (Ac i te):=PS.wk' h (by
 rintro Q σ H ⟨p,H0,own,ρ,P,E,t,w⟩
 unfold Ac at t
 split at t
 ·rename_i r ds hr
  obtain⟨v,hv,x⟩:=E.slot i _ hr
  obtain⟨l,vs,rfl,hl,ho,rs⟩:=x.cW
  refine⟨.ref l,hv,.inl ⟨rfl,vs,SqL.of ho⟩,p,H0,own,ρ,λks=>∃k d,ks=[(k,d)]/\(norm k d).le .new=true/\ds.length<1000/\P.nx ((forget r ρ).set i (.dw r (.list (ds++[d])))),E,?_,?_⟩
  ·show te ρ λk d=>∃k' d',[(k,d)]=[(k',d')]/\_
   have e:(λk d=>∃k' d',[((k,d):Kd×D)]=[(k',d')]/\(norm k' d').le .new=true/\ds.length<1000/\P.nx ((forget r ρ).set i (.dw r (.list (ds++[d'])))))=λk d=>(norm k d).le .new=true/\ds.length<1000/\P.nx ((forget r ρ).set i (.dw r (.list (ds++[d])))):=by
    funext k d
    apply propext
    constructor
    ·rintro⟨k',d',e,h⟩
     cases e
     exact h
    ·exact λh=>⟨k,d,rfl,h⟩
   rw[e]
   exact t
  ·rintro ks ws H1 ⟨k,d,rfl,hk,hlen,hn⟩ A rk
   obtain⟨y,rfl,ry⟩:=eE rk
   have ry:=iI A hk (aR ry)
   have h1:H1 l=some (.lst vs):=A.kp l _ ho (E.ow l r hl).2.1
   have h24:=õ
   have hln:=rs.length
   refine⟨l,vs,y,rfl,rfl,h1,by omega,?_⟩
   obtain⟨E2,F2⟩:=E.uK (vs':=vs++[y]) (ds':=ds++[d]) A hv hl ho rs λH2 f g=>(kY f rs λd hd=>ju hd).snoc (g ry)
   exact w.nx _ σ _ _ E2 F2 hn
 ·exact t.elim)
end
variable [Gr]
abbrev DG:=Kd->D->List Sl->(List Sl->Prop)->Prop
abbrev DGs:=Kd->List D->List Sl->(List Sl->Prop)->Prop
def Bb(k:Kd)(d:D):Sl:=match k with
 |.imm=>.im d
 |.new=>.sn d
 |.reg r=>.dw r d
 |.snw=>.sn d
 |.shr=>.sh d
 |_=>.any
def okB(p:Pn)(H0:Hp)(own:Addr->Option Nat):Kd->Addr->Prop
 |.imm=>λ_=>False
 |.new=>λa=>H0 a=none/\¬p.fp a/\own a=none
 |.reg r=>λa=>own a=some r
 |.snw=>λa=>H0 a=none/\¬p.fp a/\own a=none
 |.shr=>λa=>¬p.fp a/\own a=none
 |.n0=>λ_=>True
 |.wk=>λ_=>True
def Ie(g:DG):TG:=λv σ H Q=>∃p H0 own ρ k d P,EnvD p H0 own σ H ρ/\Rp (okB p H0 own k) H v d/\g k d ρ P/\∀σ' ρ',EnvD p H0 own σ' H ρ'->P ρ'->Q σ' H
def qN(g:DGs):TGs:=λvs σ H Q=>∃p H0 own ρ k ds P,EnvD p H0 own σ H ρ/\Rps (okB p H0 own k) H vs ds/\g k ds ρ P/\∀σ' ρ',EnvD p H0 own σ' H ρ'->P ρ'->Q σ' H
abbrev PDG(X:Cx)(e:Expr)(g:DG):Prop:=PG X e (Ie g)
def PG.wk{X:Cx}{e:Expr}{t t':TG}(h:PG X e t)(w:∀v σ H Q,t' v σ H Q->t v σ H Q):PG X e t':=λpins s σ H v u Q I r q=>h pins s σ H v u Q I r (w v σ H Q q)
def PGs.wk{X:Cx}{e:List Expr}{t t':TGs}(h:PGs X e t)(w:∀v σ H Q,t' v σ H Q->t v σ H Q):PGs X e t':=λpins s σ H v u Q I r q=>h pins s σ H v u Q I r (w v σ H Q q)
def fU{p:Pn}{H0 H:Hp}{own:Addr->Option Nat}{k:Kd}{v:V}{d:D}(r:Rp (okB p H0 own k) H v d):Rp (okB p H0 own (norm k d)) H v d:=by
 by_cases h:cI d=true
 ·rw[qG h];exact r.imm h
 ·rw[qH h];exact r
section
variable {X:Cx}{pos:Pos}{e:Expr}{es:List Expr}
def gNm(i:Nat):DG:=λk d ρ P=>P (ρ.set i (Bb (norm k d) d))
def FT{p:Pn}{H0 H:Hp}{own:Addr->Option Nat}{σ:L2.St}{i:Nat}{k:Kd}{v:V}{d:D}(r:Rp (okB p H0 own k) H v d)(h:σ[i]?=some (some v)):gQ p H0 own σ H i (Bb k d):=by
 cases k with
 |imm=>exact⟨v,h,r⟩
 |new=>exact⟨v,h,r⟩
 |reg q=>exact⟨v,h,r⟩
 |n0=>trivial
 |snw=>exact⟨v,h,r⟩
 |shr=>exact⟨v,h,r⟩
 |wk=>trivial
def dY{i:Nat}{x:Str}(h:PG X (.Name x pos) (jh i)):PDG X (.Name x pos) (gNm i):=PG.wk h (by
 rintro v σ H Q ⟨p,H0,own,ρ,k,d,P,E,r,t,q⟩
 exact q _ _ (E.set λhl=>FT (fU r) (Ĉ hl)) t)
def Ir:DGs:=λ_ ds ρ P=>match ds with
 |[]=>P ρ
 |_=>False
def vL(g:DG)(gs:DGs):DGs:=λk ds ρ P=>match ds with
 |d::r=>g (norm k d) d ρ λρ'=>gs k r ρ' P
 |[]=>False
def gM:PGs X [] (qN Ir):=PGs.wk Km (by
 rintro v σ H Q ⟨p,H0,own,ρ,k,ds,P,E,r,t,q⟩
 cases ds with
 |nil=>cases r;exact⟨rfl,q _ _ E t⟩
 |cons d ds=>exact t.elim)
def qZ{g:DG}{gs:DGs}(h1:PDG X e g)(h2:PGs X es (qN gs))(hs:(assignEach (e::es) X.env).map (·.2)=assign e X.env::(assignEach es X.env).map (·.2):=by rfl):PGs X (e::es) (qN (vL g gs)):=PGs.wk (GF h1 h2 hs) (by
 rintro v σ H Q ⟨p,H0,own,ρ,k,ds,P,E,r,t,q⟩
 cases r with
 |nil=>exact t.elim
 |cons r rs =>
  exact⟨_,_,rfl,p,H0,own,ρ,_,_,_,E,fU r,t,λσ' ρ' E' t'=>⟨p,H0,own,ρ',k,_,P,E',rs,t',q⟩⟩)
def gTp(n:Nat)(gs:DGs):DG:=λk d ρ P=>match d with
 |.tuple ds=>ds.length=n/\gs k ds ρ P
 |_=>False
def j6{gs:DGs}{k n:Nat}(hc:X.calm=true)(h:PGs X es (qN gs))(hn:(assignEach es X.env).length=n:=by rfl)(hst:(assignEach es X.env).findIdx? (·.1)=none:=by rfl):PDG X (.Tuple es k pos) (gTp n gs):=PG.wk (Pq hc h hn hst) (by
 rintro v σ H Q ⟨p,H0,own,ρ,k,d,P,E,r,t,q⟩
 cases d with
 |tuple ds =>
  obtain⟨a,vs,rfl,ha,rs⟩:=r.fQ
  exact⟨a,vs,rfl,SqT.of ha,by rw[rs.length];exact t.1,p,H0,own,ρ,k,ds,P,E,rs,t.2,q⟩
 |_=>exact t.elim)
end
structure Wlk(Ok:Hp->Prop)(J:It)(ds:List D)(ok:Addr->Prop):Prop where
 go:∀i H,Ok H->i<ds.length->J.go i H
 stop:∀H,Ok H->J.stop ds.length H
 yld:∀i H x H',Ok H->J.yld i H x H'->Same H H'/\∀d,ds[i]?=some d->Rp ok H' x d
 stab:∀H H',Ok H->(∀b o,ok b->H b=some o->H' b=some o)->(∀a xs,H a=some (.tup xs)->H' a=some (.tup xs))->Ok H'
abbrev DI:=List Sl->(Kd->List D->Prop)->Prop
def okA(p:Pn)(H0:Hp)(own:Addr->Option Nat)(Hb:Hp)(k:Kd)(H:Hp)(a:Addr):Prop:=okK p H0 own Hb k a/\∃o,H a=some o
def NQ(t:DI):TI:=λσ H R=>∃p H0 own ρ P,EnvD p H0 own σ H ρ/\t ρ P/\∀k ds J H1 Ok,P k ds->At p H0 own H H1->Wlk Ok J ds (okA p H0 own H k H1)->Ok H1->R J H1
abbrev PDI(X:Cx)(tg e:Expr)(t:DI):Prop:=PI X tg e (NQ t)
def PI.wk{X:Cx}{tg e:Expr}{t t':TI}(h:PI X tg e t)(w:∀σ H R,t' σ H R->t σ H R):PI X tg e t':=λpins s σ H R I q=>h pins s σ H R I (w σ H R q)
section
variable {X:Cx}{tg l:Expr}{tl:DE}{pos:Pos}{ta:DA}
def Fy{K:Ô}{ok:Addr->Prop}{a:Addr}{ds:List D}:Wlk (λH=>Rp ok H (.ref a) (.list ds)) (Itl K a) ds ok where
 go:=λi H r hi=>by
  obtain⟨b,vs,e,o,h,rs⟩:=r.cW
  cases e
  have:i<vs.length:=by rw[rs.length];exact hi
  exact⟨vs,vs[i],SqL.of h,by simp[this]⟩
 stop:=λH r=>by
  obtain⟨b,vs,e,o,h,rs⟩:=r.cW
  cases e
  exact⟨vs,SqL.of h,by rw[rs.length];exact Ç _⟩
 yld:=λi H x H' r y=>by
  obtain⟨rfl,y⟩:=y
  obtain⟨b,vs,e,o,h,rs⟩:=r.cW
  cases e
  refine⟨Same.refl _,λd hd=>?_⟩
  obtain⟨v,hv,rv⟩:=rs.getD hd
  have:=y vs (SqL.of h)
  rw[hv] at this
  cases this
  exact rv
 stab:=λH H' r f t=>r.dD (λa o n e=>⟨n,f a o n e⟩) t
def Fw{K:Ô}{ok:Addr->Prop}{a:Addr}{ds:List D}:Wlk (λH=>Rp ok H (.ref a) (.tuple ds)) (Itt K a) ds ok where
 go:=λi H r hi=>by
  obtain⟨b,vs,e,h,rs⟩:=r.fQ
  cases e
  have:i<vs.length:=by rw[rs.length];exact hi
  exact⟨vs,vs[i],SqT.of h,by simp[this]⟩
 stop:=λH r=>by
  obtain⟨b,vs,e,h,rs⟩:=r.fQ
  cases e
  exact⟨vs,SqT.of h,by rw[rs.length];exact Ç _⟩
 yld:=λi H x H' r y=>by
  obtain⟨rfl,y⟩:=y
  obtain⟨b,vs,e,h,rs⟩:=r.fQ
  cases e
  refine⟨Same.refl _,λd hd=>?_⟩
  obtain⟨v,hv,rv⟩:=rs.getD hd
  have:=y vs (SqT.of h)
  rw[hv] at this
  cases this
  exact rv
 stab:=λH H' r f t=>r.dD (λa o n e=>⟨n,f a o n e⟩) t
def pP{ok:Addr->Prop}{lo:Int}{n:Nat}:Wlk (λ_=>True) (Itr lo n) ((ä n).map λi=>Å (lo+((i:Nat):Int))) ok where
 go:=λi H r hi=>by
  have h:i<n:=by simpa using hi
  exact h
 stop:=λH r=>by show n<=_;simp
 yld:=λi H x H' r y=>by
  obtain⟨rfl,rfl⟩:=y
  refine⟨Same.refl _,λd hd=>?_⟩
  rw[å] at hd
  cases h:(ä n)[i]? with
  |none=>rw[h] at hd;cases hd
  |some j =>
   rw[h] at hd
   have e:=á hd
   have hj:j=i:=by
    have:=Ý.mp h
    obtain⟨h1,h2⟩:=this
    simpa using h2.symm
   subst e hj
   exact .int _
 stab:=λ_ _ _ _ _=>trivial
def rpA{p:Pn}{H0 Hb H:Hp}{own:Addr->Option Nat}{k:Kd}{v:V}{d:D}(r:Rp (okK p H0 own Hb k) H v d):Rp (okA p H0 own Hb k H) H v d:=r.dD (λa o n e=>⟨⟨n,o,e⟩,e⟩) λ_ _ e=>e
def iSq(tl:DE):DI:=λρ P=>tl ρ λk d=>match d with
 |.list ds=>P k ds
 |.tuple ds=>P k ds
 |_=>False
def jl(hl:PD X l tl):PDI X tg l (iSq tl):=PI.wk (Pk hl) (by
 rintro σ H R ⟨p,H0,own,ρ,P,E,t,q⟩
 refine⟨p,H0,own,ρ,_,E,t,λk d v H1 h A r=>?_⟩
 cases d with
 |list ds =>
  obtain⟨a,vs,rfl,o,ha,rs⟩:=r.cW
  exact⟨a,rfl,.inl ⟨⟨vs,SqL.of ha⟩,q k ds _ H1 _ h A Fy (rpA r)⟩⟩
 |tuple ds =>
  obtain⟨a,vs,rfl,ha,rs⟩:=r.fQ
  exact⟨a,rfl,.inr ⟨⟨vs,SqT.of ha⟩,q k ds _ H1 _ h A Fw (rpA r)⟩⟩
 |_=>exact h.elim)
def bA(lo:Int)(n:Nat):List D:=(ä n).map λi=>Å (lo+((i:Nat):Int))
def iR1(ta:DA):DI:=λρ P=>ta ρ λks=>match ks with
 |[(_,.int j)]=>(-(2 ^ 62)<=j/\j<2 ^ 62)/\P .imm (bA 0 j.toNat)
 |_=>False
def bY{a:Expr}{ps:Pos}(hm:X.mg "range"=none)(ha:PDA X [a] ta)(hg:Gl X "range":=by rfl)(hs:starEach [a] X.env=[(false,eval a X.env)]:=by rfl):PDI X tg (.Call (.Name "range" ps) [a] [] pos) (iR1 ta):=PI.wk (mZ hg hm ha hs) (by
 rintro σ H R ⟨p,H0,own,ρ,P,E,t,q⟩
 refine⟨p,H0,own,ρ,_,E,t,λks vs H1 h A r=>?_⟩
 split at h
 ·rename_i k j
  obtain⟨v,rfl,r'⟩:=eE r
  exact⟨j,by rw[r'.int'],h.1.1,h.1.2,q _ _ _ H1 _ h.2 A pP trivial⟩
 ·exact h.elim)
def iR2(ta:DA):DI:=λρ P=>ta ρ λks=>match ks with
 |[(_,.int i),(_,.int j)]=>(-(2 ^ 62)<=i/\i<2 ^ 62/\-(2 ^ 62)<=j/\j<2 ^ 62)/\P .imm (bA i (j - i).toNat)
 |_=>False
def nM{a b:Expr}{ps:Pos}(hm:X.mg "range"=none)(ha:PDA X [a,b] ta)(hg:Gl X "range":=by rfl)(hs:starEach [a,b] X.env=[(false,eval a X.env),(false,eval b X.env)]:=by rfl)(hs2:starEach [b] X.env=[(false,eval b X.env)]:=by rfl):PDI X tg (.Call (.Name "range" ps) [a,b] [] pos) (iR2 ta):=PI.wk (Dt hg hm ha hs hs2) (by
 rintro σ H R ⟨p,H0,own,ρ,P,E,t,q⟩
 refine⟨p,H0,own,ρ,_,E,t,λks vs H1 h A r=>?_⟩
 split at h
 ·rename_i k i k' j
  obtain⟨v,w,rfl,r',r2⟩:=O8 r
  exact⟨i,j,by rw[r'.int',r2.int'],h.1,q _ _ _ H1 _ h.2 A pP trivial⟩
 ·exact h.elim)
end
variable [Gr]
def elK:Kd->Kd
 |.new=>.snw
 |k=>k
section
variable {X:Cx}{tg iter:Expr}{pos:Pos}{body:List Stmt}{ti:DI}{g:DG}{tb:DS}
def Mr(ti:DI)(g:DG)(tb:DS):DS:=λP ρ=>ti ρ λk ds=>k.le .shr=true/\∃Iv:Nat->List Sl->Prop,Iv 0 ρ /\
 (∀i d ρ',ds[i]?=some d->Iv i ρ'->g (norm (elK k) d) d ρ' λρ2=>tb { nx:=Iv (i+1),ct:=Iv (i+1),bk:=P.nx,rt:=P.rt } ρ2)/\∀ρ',Iv ds.length ρ'->P.nx ρ'
def Ny{p:Pn}{H0 Hb H1 H':Hp}{own own':Addr->Option Nat}{k:Kd}(hk:k.le .shr=true)(A:At p H0 own Hb H1)(F:FrS p own H1 own' H'){v:V}{d:D}{H2:Hp}(r:Rp (okA p H0 own Hb k H1) H2 v d):Rp (okB p H0 own' (elK k)) H2 v d:=by
 refine r.mono (λa n=>?_) (λ_ _ _ e=>e) λ_ _ e=>e
 obtain⟨o,u,hu⟩:=n
 have o2:¬p.fp a/\own a=none:=bK A (k:=.shr) hk o
 have f:=(F.keep a u hu o2.1 o2.2).2
 cases k with
 |imm=>exact o
 |new=>exact⟨A.h0 o,o2.1,f⟩
 |reg q=>cases hk
 |n0=>cases hk
 |snw=>exact⟨o.1,o2.1,f⟩
 |shr=>exact⟨o2.1,f⟩
 |wk=>cases hk
def gK(hp:PassesOwn (model X.prog X.w) X.A X.env X.xe)(hc:X.calm=true)(hi:PDI X tg iter ti)(hg:PDG X tg g)(hb:mQ X body tb)(hs:zF X iter:=by intro _;rfl):PDS X (.For tg iter body [] pos) (Mr ti g tb):=PS.wk' (Gx hp hc hi hg hb hs) (by
 rintro Q σ H ⟨p,H0,own,ρ,P,E,t,w⟩
 refine⟨p,H0,own,ρ,_,E,t,λk ds J H1 Ok h A W o1=>?_⟩
 obtain⟨hk,Iv,i0,step,done⟩:=h
 have w1:=w.go A.frs
 have okS:∀own' H',FrS p own H1 own' H'->Ok H':=λown' H' F=>W.stab H1 H' o1 (λb o n e=>by
  have o2:¬p.fp b/\own b=none:=bK A (k:=.shr) hk n.1
  exact(F.keep b o e o2.1 o2.2).1) F.tup
 refine⟨λi m σ' H'=>m=ds.length - i/\i<=ds.length/\∃own' ρ',EnvD p H0 own' σ' H' ρ'/\FrS p own H1 own' H'/\Iv i ρ',⟨_,rfl,à _,own,ρ,E.go A.kp A.pen,FrS.refl,i0⟩,?_⟩
 rintro i m σ' H' ⟨rfl,hi,own',ρ',E',F',iv⟩
 have oH:=okS own' H' F'
 by_cases hlt:i<ds.length
 ·refine .inr ⟨W.go i H' oH hlt,λσ2 H2=>∃own' ρ',EnvD p H0 own' σ2 H2 ρ'/\FrS p own H1 own' H2/\Iv (i+1) ρ',λσ2 H2 h=>⟨_,by omega,rfl,hlt,h⟩,λx H2 y=>?_⟩
  obtain⟨sm,rx⟩:=W.yld i H' x H2 oH y
  have rx:=rx ds[i] (È hlt)
  have E2:EnvD p H0 own' σ' H2 ρ':=E'.go (Kp.of sm) (p.mono H' H2 E'.pen λb o _ e=>sm b o e)
  have F2:FrS p own H1 own' H2:=⟨λb o e n z=>let ⟨x,y⟩:=F'.keep b o e n z;⟨sm b o x,y⟩,λa xs e=>sm a _ (F'.tup a xs e)⟩
  refine⟨p,H0,own',ρ',_,_,_,E2,fU (Ny hk A F2 rx),step i ds[i] ρ' (È hlt) iv,λσ3 ρ3 E3 t3=>?_⟩
  have nxt:∀own4 σ4 H4 ρ4,EnvD p H0 own4 σ4 H4 ρ4->FrS p own' H2 own4 H4->Iv (i+1) ρ4->∃own' ρ',EnvD p H0 own' σ4 H4 ρ'/\FrS p own H1 own' H4/\Iv (i+1) ρ':=λown4 σ4 H4 ρ4 E4 F4 v4=>⟨own4,ρ4,E4,F2.trans F4,v4⟩
  exact⟨p,H0,own',ρ3,_,E3,t3,⟨nxt,w.rt,λo s h r e f n=>w1.nx o s h r e (F2.trans f) n,nxt⟩⟩
 ·have e:i=ds.length:=by omega
  subst e
  exact .inl ⟨W.stop H' oH,w1.nx own' σ' H' ρ' E' F' (done ρ' iv)⟩)
end
def EnvD.comp{p:Pn}{H0 H:Hp}{own:Addr->Option Nat}{σ:L2.St}{ρ:List Sl}(n:Nat)(E:EnvD p H0 own σ H ρ):EnvD p H0 own (Í n none++σ) H (Í n .any++ρ):=by
 refine⟨E.k0,E.pen,E.ow,λj s e=>?_,by simp[E.len],E.gr⟩
 by_cases hj:j<n
 ·rw[ĕ (by simpa using hj)] at e
  have:s=.any:=by
   rw[Ŀ] at e
   rw[if_pos hj] at e
   exact(á e).symm
  subst this
  trivial
 ·have e1:(Í n Sl.any++ρ)[j]?=ρ[j - n]?:=by rw[ù (by simpa using hj)];simp
  have e2:(Í n (none:Option V)++σ)[j]?=σ[j - n]?:=by rw[ù (by simpa using hj)];simp
  rw[e1] at e
  have q:=E.slot _ s e
  cases s <;> simp only[gQ,e2] at q ⊢ <;> exact q
abbrev Aq(X:Cx)(es:List Expr)(t:DT):Prop:=PTs X es (liftT t)
def cj{X:Cx}:Aq X [] (λ_ P=>P true):=λpins s σ H Q I h=>by
 obtain⟨p,H0,own,ρ,P,E,t,q⟩:=h
 exact Bv pins s σ H Q I (q true H t E.at)
def pL{X:Cx}{c:Expr}{t:DT}(hc:PDT X c t):Aq X [c] t:=Bu hc
def elC(k:Kd):Kd:=elK k
def dLC(n:Nat)(ti:DI)(g:DG)(tt:DT)(te:DE):DE:=λρ P=>ti ρ λk ds=>ds.length<=1000/\∃(ke:Kd) (Iv:Nat->List D->Prop),Iv 0 [] /\
 (∀i d ys,ds[i]?=some d->Iv i ys->g (norm (elC k) d) d (Í n .any++ρ) λρ'=>tt ρ' λb=>if b=true then te ρ' λk' d'=>(norm k' d').le ke=true/\Iv (i+1) (ys++[d']) else Iv (i+1) ys) /\
 ∀ys,Iv ds.length ys->P (ke.join .new) (.list ys)
def Nx{p:Pn}{H0 Hb H1:Hp}{own:Addr->Option Nat}{k:Kd}(A:At p H0 own Hb H1){v:V}{d:D}{H2:Hp}(r:Rp (okA p H0 own Hb k H1) H2 v d):Rp (okB p H0 own (elC k)) H2 v d:=by
 refine r.mono (λa n=>?_) (λ_ _ _ e=>e) λ_ _ e=>e
 obtain⟨o,u,hu⟩:=n
 cases k with
 |imm=>exact o
 |new=>exact⟨A.h0 o,A.nfb o,A.Qa o⟩
 |reg q=>exact o
 |n0=>trivial
 |snw=>exact o
 |shr=>exact o
 |wk=>trivial
section
variable {X:Cx}{own:List Str}{scope:Scope}{tg iter elt:Expr}{ifs:List Expr}{pos:Pos}{ti:DI}{g:DG}{tt:DT}{te:DE}
def jD{n:Nat}:∀σ H Q,bT (dLC n ti g tt te) σ H Q->tLC n (NQ ti) (λ_=>Ie g) (λ_=>liftT tt) (λ_=>bT te) σ H Q:=by
 rintro σ H Q ⟨p,H0,own,ρ,P,E,t,q⟩
 refine⟨p,H0,own,ρ,_,E,t,λk ds J H1 Ok h A W o1=>?_⟩
 obtain⟨hlen,ke,Iv,i0,step,done⟩:=h
 have okS:∀H',Kp p H1 H'->p.PI H'->Ok H':=λH' K i=>W.stab H1 H' o1 (λb o n e=>K b o e (fG A n.1)) (jg A K)
 refine⟨λi m ys H'=>m=ds.length - i/\i<=ds.length/\Kp p H1 H'/\p.PI H'/\∃es,Rps (okK p H0 own H ke) H' ys es/\es.length<=i/\Iv i es,⟨_,rfl,à _,Kp.refl,A.pen,[],.nil,Ç _,i0⟩,?_⟩
 rintro c i m ys H' ⟨rfl,hi,K',I',es,rs,hl,iv⟩
 have oH:=okS H' K' I'
 have A':=A.go K' I'
 have h24:=õ
 by_cases hlt:i<ds.length
 ·refine .inr ⟨W.go i H' oH hlt,by have:=rs.length;omega,λys' H2=>Kp p H1 H2/\p.PI H2/\∃es,Rps (okK p H0 own H ke) H2 ys' es/\es.length<=i+1/\Iv (i+1) es,λys' H2 h=>⟨_,by omega,rfl,hlt,h⟩,λx H2 y=>?_⟩
  obtain⟨sm,rx⟩:=W.yld i H' x H2 oH y
  have rx:=rx ds[i] (È hlt)
  have I2:p.PI H2:=p.mono H' H2 I' λb o _ e=>sm b o e
  have K2:Kp p H1 H2:=K'.trans (Kp.of sm)
  have A2:=A.go K2 I2
  have E2:EnvD p H0 own σ H2 ρ:=E.go A2.kp A2.pen
  have rs2:=bF A' (Kp.of sm) rs
  refine⟨p,H0,own,_,_,_,_,E2.comp n,fU (Nx A rx),step i ds[i] es (È hlt) iv,λσ3 ρ3 E3 t3=>?_⟩
  refine⟨p,H0,own,ρ3,_,E3,t3,λb H4 h4 A4=>?_⟩
  have A5:At p H0 own H H4:=A2.base A4
  have rs4:=bF A2 A4.kp rs2
  cases b with
  |true =>
   refine aF ⟨p,H0,own,ρ3,_,E3.go A4.kp A4.pen,by simpa using h4,λk' d' v H6 h6 A6 r6=>?_⟩
   refine⟨(K2.trans A4.kp).trans A6.kp,A6.pen,es++[d'],(bF A5 A6.kp rs4).snoc (iI (A5.base A6) h6.1 (aR (jw A5 r6))),by simp;omega,h6.2⟩
  |false=>exact ak ⟨K2.trans A4.kp,A4.pen,es,rs4,by omega,by simpa using h4⟩
 ·have e:i=ds.length:=by omega
  subst e
  refine .inl ⟨W.stop H' oH,λl hl'=>?_⟩
  obtain⟨k7,i7,nw⟩:=A'.new hl' (.lst ys)
  have j:=dJ ke .new
  refine q _ _ _ _ (done es iv) (A'.go k7 i7) (.lst (bK A' j.2 nw) aB ?_)
  exact(bF A' k7 rs).mono (λa o=>bK A' j.1 o) (λ_ _ _ e=>e) λ_ _ e=>e
def qu(own:List Str)(hc:X.calm=true)(hi:PDI X tg iter ti)(hg:∀c,PDG (X.comp own scope c) tg g)(ht:∀c,Aq (X.comp own scope c) ifs tt)(he:∀c,PD (X.comp own scope c) elt te)(hk:eX X.env scope X.N=true:=by rfl)(hs:zF X iter:=by intro _;rfl) :
  PD X (.ListComp elt [⟨tg,iter,ifs,0⟩] scope pos) (dLC own.length ti g tt te):=PE.wk (GP own hc hi hg ht he hk hs) jD
def yZ(own M:List Str)(hc:X.calm=true)(hi:PDI X tg iter ti)(hg:∀c,PDG (X.aO own M scope c) tg g)(ht:∀c,Aq (X.aO own M scope c) ifs tt)(he:∀c,PD (X.aO own M scope c) elt te)(hk:aU X.env scope X.N M=true:=by decide +kernel)(hs:zF X iter:=by intro _;rfl) :
  PD X (.ListComp elt [⟨tg,iter,ifs,0⟩] scope pos) (dLC own.length ti g tt te):=PE.wk (GK own M hc hi hg ht he hk hs) jD
end
def aD(d:D):Sl:=if cI d then .im d else .sh d
def nG{p:Pn}{H:Hp}{N:List Str}{vs:List V}{ds:List D}(g:Gr.G p H)(hp:p.PI H)(r:Rps (λa=>¬p.fp a) H vs ds):EnvD p H (λ_=>none) (L2.start N vs) H (ds.map aD++Í (N.length - vs.length) .any):=by
 refine⟨λ_ _ e _=>e,hp,(λ_ _ e=>nomatch e),λj s e=>?_,by unfold L2.start;simp[r.length],g⟩
 by_cases hj:j<ds.length
 ·rw[ĕ (by simpa using hj),å] at e
  obtain⟨v,hv,rv⟩:=r.getD (È hj)
  rw[È hj] at e
  have e:=á e
  have hs:(L2.start N vs)[j]?=some (some v):=by
   unfold L2.start
   rw[ĕ (by rw[Â,r.length];exact hj),å,hv]
   rfl
  subst e
  unfold aD
  by_cases hi:cI ds[j]=true
  ·rw[if_pos hi];exact⟨v,hs,rv.imm hi⟩
  ·rw[if_neg hi];exact⟨v,hs,rv.mono (λ_ o=>⟨o,rfl⟩) (λ_ _ _ e=>e) λ_ _ e=>e⟩
 ·rw[ù (by simpa using hj),Ŀ] at e
  split at e
  ·cases e;trivial
  ·cases e
def vO{f:List D->(D->Prop)->Prop}{T:DS}{N:List Str}{vs:List V}{H:Hp}{Q:VK}{E:XK}(h:spD f vs H Q E)(body:∀ds P,f ds P->T { nx:=λ_=>P .none,rt:=P } (ds.map aD++Í (N.length - ds.length) .any))(g:Gr.G g8 H:=by trivial):tH T { nx:=λ_ H'=>Q .non H',rt:=Q } (L2.start N vs) H:=by
 obtain⟨ds,P,r,t,q⟩:=h
 have E:=nG (p:=g8) (N:=N) g trivial (r.mono (ok':=λa=>¬g8.fp a) (λ_ _ z=>z) (λ_ _ _ e=>e) λ_ _ e=>e)
 rw[r.length] at E
 have sm:∀H',(∀b o,H b=some o->¬g8.fp b->H' b=some o)->Same H H':=λH' k b o e=>k b o e λz=>z
 refine⟨g8,H,λ_=>none,_,_,E,body ds P t,⟨λo s h' r' e' _ n=>q _ _ h' n (sm h' e'.k0) .non,λd v h' n w=>q d v h' n (sm h' w.k0) (w.rp.mono (λ_ o=>o.1) (λ_ _ _ e=>e) λ_ _ e=>e),λ_ _ _ _ _ _ n=>n.elim,λ_ _ _ _ _ _ n=>n.elim⟩⟩
end Dl
namespace PySem
open PyProof.Rows
abbrev mR(f0:Value)(q:Bool)(TI TO:Addr):Obj:={ cls:=.type "zip",data:=.fields #[f0,.bool q,.bool false,.ref TI,.ref TO] }
section
variable {prog:Program}{w:World}{A:Around}{E:Value->Shared->Prop}{s:Shared}
def uy{z TI TO i1 i2 l1 l2 T:Addr}{q:Bool}{k:Nat}{xs ys:Array Value}{x y:Value}{oT:Obj}{Q:Value->Shared->Prop}(n1:i1≠z)(n2:i2≠z)(n12:i1≠i2)(m1:l1≠z)(m2:l2≠z)(m3:l2≠i1)(hZ:s.heap.get? z=some (mR (rawInt T) q TI TO))(hI:s.heap.get? TI=some { cls:=.type "tuple",data:=.seq #[.ref i1,.ref i2] })(hT:s.heap.get? T=some oT)(j1:s.heap.IsListIter i1 l1 k)(j2:s.heap.IsListIter i2 l2 k)(e1:s.heap.IsList l1 xs)(e2:s.heap.IsList l2 ys)(hx:xs[k]?=some x)(hy:ys[k]?=some y)(hQ:∀h',h'.get? z=some (mR (rawInt T) true TI TO)->h'.IsListIter i1 l1 (k+1)->h'.IsListIter i2 l2 (k+1)->h'.get? s.heap.objs.size=some { cls:=.type "tuple",data:=.seq #[x,y] } ->
   (∀c o,c≠z->c≠i1->c≠i2->s.heap.get? c=some o->h'.get? c=some o)->Q (.ref s.heap.objs.size) { s with heap:=h' }) :
  wpAny (model prog w) A (Builtin.«zip.__next__» ⟨[.ref z],[]⟩) (λfin s'=>∃v,fin=.done (.ret v)/\Q v s') E s:=by
 have fld:∀{i:Nat}{v:Value}{R:Value->Shared->Prop},(#[rawInt T,Ś q,.bool false,.ref TI,.ref TO]:Array Value)[i]?=some v->R v s->wpAny (model prog w) A (field (.ref z) i) R E s:=λh r=>wpAny_field hZ rfl h r
 show wpAny _ _ (field (.ref z) 2 >>= _) _ _ _
 refine Æ (fld (v:=.bool false) rfl ?_)
 show wpAny _ _ (field (.ref z) 3 >>= _) _ _ _
 refine Æ (fld (v:=.ref TI) rfl ?_)
 refine Æ (wpAny_seqItems hI rfl ?_)
 show wpAny _ _ (ķ (.ref z) >>= _) _ _ _
 refine Æ ?_
 unfold ķ
 refine Æ (fld (v:=rawInt T) rfl ?_)
 show wpAny _ _ (loadIfAlive ((T:Int).toNat) >>= _) _ _ _
 rw[ŀ]
 refine Æ (W.kdx_alive hT ?_)
 simp only[Option.isNone_some,Ň,if_false]
 refine Æ (fld (v:=.bool q) rfl ?_)
 refine L2.thn (Q:=λa s'=>a=false/\∃h1,s'={ s with heap:=h1 }/\h1.get? z=some (mR (rawInt T) true TI TO)/\h1.objs.size=s.heap.objs.size/\∀c o,c≠z->s.heap.get? c=some o->h1.get? c=some o) ?_ ?_
 ·cases q with
  |true=>exact Ø ⟨rfl,s.heap,rfl,hZ,rfl,λc o _ e=>e⟩
  |false =>
   rw[if_pos (by decide)]
   refine Æ (wpAny_setField_rec hZ (by simp) λh1 z1 b1=>Ø ⟨rfl,h1,rfl,z1,b1.1,λc o n e=>b1.extBut _ _ n e⟩)
 rintro a s' ⟨rfl,h1,rfl,z1,sz1,k1⟩
 simp only[Ň,if_false]
 refine Æ ?_
 simp only[←Array.forIn_toList,List.forIn_cons,List.forIn_nil]
 have at1:h1.IsListIter i1 l1 k:=j1.at λo e=>k1 i1 o n1 e
 have at2:h1.IsListIter i2 l2 k:=j2.at λo e=>k1 i2 o n2 e
 have f1:h1.IsList l1 xs:=e1.at λo e=>k1 l1 o m1 e
 have f2:h1.IsList l2 ys:=e2.at λo e=>k1 l2 o m2 e
 refine Æ (Æ (Ĭ ?_))
 show wpAny _ _ (ŗ (.ref i1) >>= _) _ _ _
 refine Æ (wpAny_nextOf_list_item at1 f1 hx λh2 c1 b2=>Ø (Ø ?_))
 refine Æ (Æ (Ĭ ?_))
 show wpAny _ _ (ŗ (.ref i2) >>= _) _ _ _
 refine Æ (wpAny_nextOf_list_item (at2.extBut b2.extBut n12.symm) (f2.extBut b2.extBut m3) hy λh3 c2 b3=>Ø (Ø (Ø ?_)))
 have sz3:h3.objs.size=s.heap.objs.size:=by rw[b3.1,b2.1,sz1]
 show wpAny _ _ (newTuple [x,y] >>= _) _ _ _
 refine Æ (wpAny_newTuple (Ø ⟨_,rfl,?_⟩))
 show Q (.ref h3.objs.size) _
 rw[sz3]
 have up:∀c o,c≠i1->c≠i2->h1.get? c=some o->(h3.push { cls:=.type "tuple",data:=.seq #[x,y] }).get? c=some o:=λc o a b e=>Ë _ (b3.extBut _ _ b (b2.extBut _ _ a e))
 refine hQ _ (up z _ n1.symm n2.symm z1) ((c1.extBut b3.extBut n12).at λo e=>Ë _ e) (c2.at λo e=>Ë _ e) ?_ λc o a b d e=>up c o b d (k1 c o a e)
 rw[←sz3]
 exact Þ _ rfl
def wg{z TI TO i1 i2 l1 l2 T:Addr}{q:Bool}{k:Nat}{xs ys:Array Value}{oT:Obj}{Q:Fin->Shared->Prop}(hh:A.handled=none)(n1:i1≠z)(n2:i2≠z)(n12:i1≠i2)(m1:l1≠z)(m2:l2≠z)(m3:l2≠i1)(hZ:s.heap.get? z=some (mR (rawInt T) q TI TO))(hI:s.heap.get? TI=some { cls:=.type "tuple",data:=.seq #[.ref i1,.ref i2] })(hT:s.heap.get? T=some oT)(j1:s.heap.IsListIter i1 l1 k)(j2:s.heap.IsListIter i2 l2 k)(e1:s.heap.IsList l1 xs)(e2:s.heap.IsList l2 ys)(hend:xs[k]?=none\/ys[k]?=none)(hE:∀h' e,(∀c o,c≠z->c≠i1->c≠i2->s.heap.get? c=some o->h'.get? c=some o)->(∃o,h'.get? e=some o/\o.cls=.type "StopIteration")->E (.ref e) { s with heap:=h' }) :
  wpAny (model prog w) A (Builtin.«zip.__next__» ⟨[.ref z],[]⟩) Q E s:=by
 have fld:∀{i:Nat}{v:Value}{R:Value->Shared->Prop},(#[rawInt T,Ś q,.bool false,.ref TI,.ref TO]:Array Value)[i]?=some v->R v s->wpAny (model prog w) A (field (.ref z) i) R E s:=λh r=>wpAny_field hZ rfl h r
 show wpAny _ _ (field (.ref z) 2 >>= _) _ _ _
 refine Æ (fld (v:=.bool false) rfl ?_)
 show wpAny _ _ (field (.ref z) 3 >>= _) _ _ _
 refine Æ (fld (v:=.ref TI) rfl ?_)
 refine Æ (wpAny_seqItems hI rfl ?_)
 show wpAny _ _ (ķ (.ref z) >>= _) _ _ _
 refine Æ ?_
 unfold ķ
 refine Æ (fld (v:=rawInt T) rfl ?_)
 show wpAny _ _ (loadIfAlive ((T:Int).toNat) >>= _) _ _ _
 rw[ŀ]
 refine Æ (W.kdx_alive hT ?_)
 simp only[Option.isNone_some,Ň,if_false]
 refine Æ (fld (v:=.bool q) rfl ?_)
 refine L2.thn (Q:=λa s'=>a=false/\∃h1,s'={ s with heap:=h1 }/\h1.get? z=some (mR (rawInt T) true TI TO)/\h1.objs.size=s.heap.objs.size/\∀c o,c≠z->s.heap.get? c=some o->h1.get? c=some o) ?_ ?_
 ·cases q with
  |true=>exact Ø ⟨rfl,s.heap,rfl,hZ,rfl,λc o _ e=>e⟩
  |false =>
   rw[if_pos (by decide)]
   refine Æ (wpAny_setField_rec hZ (by simp) λh1 z1 b1=>Ø ⟨rfl,h1,rfl,z1,b1.1,λc o n e=>b1.extBut _ _ n e⟩)
 rintro a s' ⟨rfl,h1,rfl,z1,sz1,k1⟩
 simp only[Ň,if_false]
 refine Æ ?_
 simp only[←Array.forIn_toList,List.forIn_cons,List.forIn_nil]
 have at1:h1.IsListIter i1 l1 k:=j1.at λo e=>k1 i1 o n1 e
 have at2:h1.IsListIter i2 l2 k:=j2.at λo e=>k1 i2 o n2 e
 have f1:h1.IsList l1 xs:=e1.at λo e=>k1 l1 o m1 e
 have f2:h1.IsList l2 ys:=e2.at λo e=>k1 l2 o m2 e
 refine Æ (Æ (Ĭ ?_))
 show wpAny _ _ (ŗ (.ref i1) >>= _) _ _ _
 cases hx:xs[k]? with
 |none=>exact Æ (wpAny_nextOf_list_end hh at1 f1 hx λh2 e b2 he=>hE h2 e (λc o a b _ x=>b2 c o b (k1 c o a x)) he)
 |some x =>
  have hy:ys[k]?=none:=hend.elim (λz=>by rw[hx] at z;cases z) id
  refine Æ (wpAny_nextOf_list_item at1 f1 hx λh2 c1 b2=>Ø (Ø ?_))
  refine Æ (Æ (Ĭ ?_))
  show wpAny _ _ (ŗ (.ref i2) >>= _) _ _ _
  exact Æ (wpAny_nextOf_list_end hh (at2.extBut b2.extBut n12.symm) (f2.extBut b2.extBut m3) hy λh3 e b3 he=>hE h3 e (λc o a b d x=>b3 c o d (b2.extBut _ _ b (k1 c o a x))) he)
structure ZSt(z TI TO i1 i2 l1 l2:Addr)(xs ys:Array Value)(i:Nat)(h:Heap):Prop where
 zip:(i=0/\h.get? z=some (mR .none false TI TO))\/∃(T:Addr) (q:Bool) (oT:Obj),h.get? z=some (mR (rawInt T) q TI TO)/\h.get? T=some oT/\T≠z/\T≠i1/\T≠i2
 ti:h.get? TI=some { cls:=.type "tuple",data:=.seq #[.ref i1,.ref i2] }
 to:∃a b,h.get? TO=some { cls:=.type "tuple",data:=.seq #[a,b] }
 j1:h.IsListIter i1 l1 i
 j2:h.IsListIter i2 l2 i
 e1:h.IsList l1 xs
 e2:h.IsList l2 ys
variable {z TI TO i1 i2 l1 l2:Addr}{xs ys:Array Value}
def ZSt.keeps{i:Nat}{h h':Heap}(Z:ZSt z TI TO i1 i2 l1 l2 xs ys i h){S:Addr}{oS:Obj}(hS:h.get? S=some oS)(hc:oS.cls=.type "list")(n1:S≠l1)(n2:S≠l2)(nT:∀(T:Addr) (q:Bool),h.get? z=some (mR (rawInt T) q TI TO)->S≠T)(k:∀b o,b≠S->h.get? b=some o->h'.get? b=some o):ZSt z TI TO i1 i2 l1 l2 xs ys i h':=by
 have ne:∀{b:Addr}{o:Obj},h.get? b=some o->o.cls≠.type "list"->b≠S:=λe n z=>by subst z;rw[hS] at e;cases e;exact n hc
 obtain⟨o1,a1,c1,d1⟩:=Z.j1
 obtain⟨o2,a2,c2,d2⟩:=Z.j2
 obtain⟨a,b,ab⟩:=Z.to
 have k1:=k i1 o1 (ne a1 (by rw[c1];decide)) a1
 have k2:=k i2 o2 (ne a2 (by rw[c2];decide)) a2
 refine⟨?_,k _ _ (ne Z.ti (show Đ "tuple"≠_ by decide)) Z.ti,⟨a,b,k _ _ (ne ab (show Đ "tuple"≠_ by decide)) ab⟩,⟨o1,k1,c1,d1⟩,⟨o2,k2,c2,d2⟩,Z.e1.at λo e=>k _ o n1.symm e,Z.e2.at λo e=>k _ o n2.symm e⟩
 rcases Z.zip with ⟨h0,hz⟩|⟨T,q,oT,hz,hT,r⟩
 ·exact .inl ⟨h0,k _ _ (ne hz (show Đ "zip"≠_ by decide)) hz⟩
 ·exact .inr ⟨T,q,oT,k _ _ (ne hz (show Đ "zip"≠_ by decide)) hz,k _ _ (nT T q hz).symm hT,r⟩
def Fv{i:Nat}{x y:Value}{Q:Option Value->Shared->Prop}(D:ZipApart z TI TO i1 i2 l1 l2)(Z:ZSt z TI TO i1 i2 l1 l2 xs ys i s.heap)(hx:xs[i]?=some x)(hy:ys[i]?=some y)(hQ:∀h',ZSt z TI TO i1 i2 l1 l2 xs ys (i+1) h'->h'.get? s.heap.objs.size=some { cls:=.type "tuple",data:=.seq #[x,y] }->(∀(T:Addr) (q:Bool),h'.get? z=some (mR (rawInt T) q TI TO)->T=s.heap.objs.size\/∃q',s.heap.get? z=some (mR (rawInt T) q' TI TO)) ->
   (∀c o,c≠z->c≠TO->c≠i1->c≠i2->s.heap.get? c=some o->h'.get? c=some o)->Q (some (.ref s.heap.objs.size)) { s with heap:=h' }):wpAny (model prog w) A (pyNext (.ref z)) Q E s:=by
 obtain⟨a,b,ab⟩:=Z.to
 have lt:∀{c:Addr}{o:Obj},s.heap.get? c=some o->s.heap.objs.size≠c:=λe=>ŝ (É e)
 obtain⟨o1,a1,_⟩:=id Z.j1
 obtain⟨o2,a2,_⟩:=id Z.j2
 rcases Z.zip with ⟨rfl,hz⟩|⟨T,q,oT,hz,hT,t1,t2,t3⟩
 ·refine wpAny_pyNext_zip_item D hz Z.ti ab Z.j1 Z.j2 Z.e1 Z.e2 hx hy λh' b1 b2 b3 b4 b5 b6 b7=>hQ h' ⟨.inr ⟨_,false,_,b1,b5,lt hz,lt a1,lt a2⟩,b7 _ _ D.TIz D.TITO D.TIi1 D.TIi2 Z.ti,⟨_,_,b2⟩,b3,b4,Z.e1.at λo e=>b7 _ o D.l1z D.l1TO D.l1i1 D.l1i2 e,Z.e2.at λo e=>b7 _ o D.l2z D.l2TO D.l2i1 D.l2i2 e⟩ b5 (λT q e=>?_) b7
  rw[b1] at e
  cases e
  exact .inl rfl
 ·have hTy:s.TypeIs (.ref z) "zip":=⟨_,hz,rfl⟩
  unfold pyNext
  refine Æ (wpAny_attempt (wpAny_callSpecial?_slot (name:=ú "__next__") hTy F.slot_zip_next (wpAny_call_entry F.slot_zip_next hTy F.entry_zip_next ?_ (F.args_zip_next_1 _))))
  refine uy D.i1z D.i2z D.i12 D.l1z D.l2z D.l2i1 hz Z.ti hT Z.j1 Z.j2 Z.e1 Z.e2 hx hy λh' b1 b3 b4 b5 b7=>Ø (hQ h' ⟨.inr ⟨T,true,oT,b1,b7 _ _ t1 t2 t3 hT,t1,t2,t3⟩,b7 _ _ D.TIz D.TIi1 D.TIi2 Z.ti,⟨a,b,b7 _ _ D.TOz D.TOi1 D.TOi2 ab⟩,b3,b4,Z.e1.at λo e=>b7 _ o D.l1z D.l1i1 D.l1i2 e,Z.e2.at λo e=>b7 _ o D.l2z D.l2i1 D.l2i2 e⟩ b5 (λT' q' e=>?_) λc o n1 _ n3 n4 e=>b7 c o n1 n3 n4 e)
  rw[b1] at e
  cases e
  exact .inr ⟨_,hz⟩
def JN{i:Nat}{Q:Option Value->Shared->Prop}(hh:A.handled=none)(D:ZipApart z TI TO i1 i2 l1 l2)(Z:ZSt z TI TO i1 i2 l1 l2 xs ys i s.heap)(hend:xs[i]?=none\/ys[i]?=none)(hQ:∀h',(∀c o,c≠z->c≠TO->c≠i1->c≠i2->s.heap.get? c=some o->h'.get? c=some o)->Q none { s with heap:=h' }):wpAny (model prog w) A (pyNext (.ref z)) Q E s:=by
 obtain⟨a,b,ab⟩:=Z.to
 rcases Z.zip with ⟨rfl,hz⟩|⟨T,q,oT,hz,hT,t1,t2,t3⟩
 ·exact wpAny_pyNext_zip_end hh D hz Z.ti ab Z.j1 Z.j2 Z.e1 Z.e2 hend hQ
 ·have hTy:s.TypeIs (.ref z) "zip":=⟨_,hz,rfl⟩
  unfold pyNext
  refine Æ (wpAny_attempt (wpAny_callSpecial?_slot (name:=ú "__next__") hTy F.slot_zip_next (wpAny_call_entry F.slot_zip_next hTy F.entry_zip_next ?_ (F.args_zip_next_1 _))))
  refine wg hh D.i1z D.i2z D.i12 D.l1z D.l2z D.l2i1 hz Z.ti hT Z.j1 Z.j2 Z.e1 Z.e2 hend λh' e k2 he=>?_
  obtain⟨o,ho,hc⟩:=he
  refine Æ (wpAny_isInstance (T:="StopIteration") (b:=true) ⟨o,ho,hc⟩ isSubtype_stop ?_)
  exact Ø (hQ _ λc o n1 _ n3 n4 e=>k2 c o n1 n3 n4 e)
def ItP(h:Heap):List Value->List (Value×Value)->Prop:=Paired λv p=>∃T,v=.ref T/\h.get? T=some { cls:=.type "tuple",data:=.seq #[p.1,p.2] }
def ItP.snoc{h:Heap}:∀{vs:List Value}{ps:List (Value×Value)}{v:Value}{p:Value×Value},ItP h vs ps->(∃T,v=.ref T/\h.get? T=some { cls:=.type "tuple",data:=.seq #[p.1,p.2] })->ItP h (vs++[v]) (ps++[p])
 |_,_,_,_,.nil,r=>.cons r .nil
 |_,_,_,_,.cons a t,r=>.cons a (ItP.snoc t r)
def ItP.keeps{h h':Heap}{vs:List Value}{ps:List (Value×Value)}(H:ItP h vs ps)(k:∀T o,h.get? T=some o->o.cls=.type "tuple"->(∃v∈vs,v=.ref T)->h'.get? T=some o):ItP h' vs ps:=by
 induction H with
 |nil=>exact .nil
 |cons a t ih =>
  obtain⟨T,e,hT⟩:=a
  exact .cons ⟨T,e,k T _ hT rfl ⟨_,Ú,e⟩⟩ (ih λT o h c ⟨v,hv,e⟩=>k T o h c ⟨v,Ó _ hv,e⟩)
end
section
variable {prog:Program}{w:World}{A:Around}{z TI TO i1 i2 l1 l2:Addr}{xs ys:Array Value}{R:Result->Shared->Prop}
abbrev K9(acc:Array Value)(c:Nat):Obj:={ cls:=.type "list",dict:=none,data:=.seq acc c,slots:=#[] }
def Fq(hh:A.in1.handled=none)(D:ZipApart z TI TO i1 i2 l1 l2)(hn:min xs.size ys.size<=1000)(S:Addr)(nS:S≠z/\S≠TO/\S≠i1/\S≠i2/\S≠l1/\S≠l2)(res:Value):∀(m i:Nat) (s:Shared) (acc:Array Value) (c:Nat),min xs.size ys.size - i=m->i<=min xs.size ys.size ->
  ZSt z TI TO i1 i2 l1 l2 xs ys i s.heap->(∀(T:Addr) (q:Bool),s.heap.get? z=some (mR (rawInt T) q TI TO)->S≠T)->s.heap.get? S=some (K9 acc c)->ItP s.heap acc.toList ((xs.toList.zip ys.toList).take i)->(∀v∈acc.toList,∀T,v=.ref T->T≠z/\T≠TO/\T≠i1/\T≠i2/\T≠S) ->
  (∀h' acc' c',(∀b o,b≠S->b≠z->b≠TO->b≠i1->b≠i2->s.heap.get? b=some o->h'.get? b=some o)->h'.get? S=some (K9 acc' c')->ItP h' acc'.toList (xs.toList.zip ys.toList)->(∀v∈acc'.toList,v∈acc.toList\/∃T,v=.ref T/\s.heap.objs.size<=T)->R (.ok (.ret res)) { s with heap:=h' }) ->
  codeAny (model prog w) A (.builtin "list.extend.loop" ⟨[.ref S,.ref z,res],[]⟩) R s:=by
 obtain⟨s1,s2,s3,s4,s5,s6⟩:=nS
 intro m
 induction m with
 |zero =>
  intro i s acc c hm hi Z nT hS hP hv hR
  have e:i=min xs.size ys.size:=by omega
  refine codeAny_builtin F.entry_extend_loop ?_
  rw[Around.under_plainId F.plain_extend_loop _]
  show wpAny _ A.in1 (pyNext (.ref z) >>= _) _ _ s
  refine Æ (JN hh D Z ?_ λh' k=>?_)
  ·rcases Nat.le_total xs.size ys.size with h|h
   ·exact .inl (Array.getElem?_eq_none (by omega))
   ·exact .inr (Array.getElem?_eq_none (by omega))
  ·have el:(xs.toList.zip ys.toList).take i=xs.toList.zip ys.toList:=List.take_of_length_le (by simp;omega)
   rw[el] at hP
   exact Ø (hR h' acc c (λb o n1 n2 n3 n4 n5 e=>k b o n2 n3 n4 n5 e) (k S _ s1 s2 s3 s4 hS) (hP.keeps λT o h _ ⟨v,hv',e⟩=>let ⟨a1,a2,a3,a4,_⟩:=hv v hv' T e;k T o a1 a2 a3 a4 h) λv hv=>.inl hv)
 |succ m ih =>
  intro i s acc c hm hi Z nT hS hP hv hR
  have hx:i<xs.size:=by omega
  have hy:i<ys.size:=by omega
  refine codeAny_builtin F.entry_extend_loop ?_
  rw[Around.under_plainId F.plain_extend_loop _]
  show wpAny _ A.in1 (pyNext (.ref z) >>= _) _ _ s
  refine Æ (Fv D Z (Array.getElem?_eq_getElem hx) (Array.getElem?_eq_getElem hy) λh1 Z1 hT hz1 k1=>?_)
  have hS1:=k1 S _ s1 s2 s3 s4 hS
  have lt:∀{b:Addr}{o:Obj},s.heap.get? b=some o->s.heap.objs.size≠b:=λe=>ŝ (É e)
  have hsz:=hP.length
  have hsz2:acc.size=i:=by
   have:acc.toList.length=i:=by rw[hsz,ģ,Ż];simp;omega
   simpa using this
  show wpAny _ A.in1 (updateSeq S (·.push (.ref s.heap.objs.size)) >>= _) _ _ _
  refine Æ ?_
  have h24:=õ
  have nT1:∀(T:Addr) (q:Bool),h1.get? z=some (mR (rawInt T) q TI TO)->S≠T:=λT q e=>by
   rcases hz1 T q e with z'|⟨q',e'⟩
   ·rw[z'];exact(lt hS).symm
   ·exact nT T q' e'
  have oth:∀b o,b≠S->h1.get? b=some o->(h1.update S (Ü (·.push (ħ s.heap.objs.size)))).get? b=some o:=λb o n e=>(Ĳ _ _ (Ĩ n)).trans e
  obtain⟨o1,a1,_⟩:=Z.j1
  obtain⟨o2,a2,_⟩:=Z.j2
  have az:∃o,s.heap.get? z=some o:=by
   rcases Z.zip with ⟨_,hz⟩|⟨_,_,_,hz,_⟩
   ·exact⟨_,hz⟩
   ·exact⟨_,hz⟩
  obtain⟨oz,az⟩:=az
  obtain⟨ta,tb,at'⟩:=Z.to
  have newT:s.heap.objs.size≠z/\s.heap.objs.size≠TO/\s.heap.objs.size≠i1/\s.heap.objs.size≠i2/\s.heap.objs.size≠S:=⟨lt az,lt at',lt a1,lt a2,lt hS⟩
  obtain⟨c2,hS2⟩:∃c2,(h1.update S (Ü (·.push (ħ s.heap.objs.size)))).get? S=some (K9 (acc.push (.ref s.heap.objs.size)) c2):=⟨_,Š _ hS1 rfl⟩
  have tk:(xs.toList.zip ys.toList).take (i+1)=(xs.toList.zip ys.toList).take i++[(xs[i],ys[i])]:=by
   rw[Ē]
   congr 1
   have:(xs.toList.zip ys.toList)[i]?=some (xs[i],ys[i]):=by
    rw[List.getElem?_zip_eq_some]
    simp[hx,hy]
   rw[this]
   rfl
  refine wpAny_updateSeq hS1 rfl (Ø ⟨plainId_quiet F.plain_extend_loop _,ih (i+1) { s with heap:=h1.update S (Ü (·.push (ħ s.heap.objs.size))) } (acc.push (.ref s.heap.objs.size)) c2 (by omega) (by omega) (Z1.keeps hS1 rfl s5 s6 nT1 oth) (λT q e=>nT1 T q ?_) hS2 ?_ ?_ ?_⟩) (by rw[hsz2];omega) (by show(acc.push _).size<=sizeLine+1;rw[Array.size_push,hsz2];omega)
  ·have zz:z≠S:=Ĩ s1
   rw[show(h1.update S (Ü (·.push (ħ s.heap.objs.size)))).get? z=h1.get? z from Ĳ _ _ (Ĩ zz)] at e
   exact e
  ·rw[tk,Array.toList_push]
   refine ItP.snoc (hP.keeps λT o h _ ⟨v,hv',e⟩=>?_) ⟨_,rfl,oth _ _ newT.2.2.2.2 hT⟩
   obtain⟨b1,b2,b3,b4,b5⟩:=hv v hv' T e
   exact oth _ _ b5 (k1 T o b1 b2 b3 b4 h)
  ·intro v hv' T e
   rw[Array.toList_push] at hv'
   rcases Ù.mp hv' with q|q
   ·exact hv v q T e
   ·have q':v=.ref s.heap.objs.size:=by simpa using q
    rw[q'] at e
    cases e
    exact newT
  ·intro h' acc' c' kk hS' hP' hn'
   refine hR h' acc' c' (λb o n1 n2 n3 n4 n5 e=>kk b o n1 n2 n3 n4 n5 (oth b o n1 (k1 b o n2 n3 n4 n5 e))) hS' hP' λv hv'=>?_
   rcases hn' v hv' with q|⟨T,e,hT'⟩
   ·rw[Array.toList_push] at q
    rcases Ù.mp q with q|q
    ·exact .inl q
    ·have q':v=.ref s.heap.objs.size:=by simpa using q
     exact .inr ⟨_,q',Ç _⟩
   ·exact .inr ⟨T,e,é (Nat.le_of_lt (É (oth _ _ newT.2.2.2.2 hT))) hT'⟩
def yt:typeLookup (.type "zip") "__len__"=pure none:=by rw[typeLookup_type,builtinLookup_eq_fast];kernel_rfl
def v7:typeLookup (.type "zip") "__length_hint__"=pure none:=by rw[typeLookup_type,builtinLookup_eq_fast];kernel_rfl
def Ft{s:Shared}{E:Value->Shared->Prop}{Q:Value->Shared->Prop}(hh:A.handled=none)(D:ZipApart z TI TO i1 i2 l1 l2)(hn:min xs.size ys.size<=1000)(hz:s.heap.get? z=some (mR .none false TI TO))(Z:ZSt z TI TO i1 i2 l1 l2 xs ys 0 s.heap)(hQ:∀h' acc' c',(∀b o,b≠z->b≠TO->b≠i1->b≠i2->s.heap.get? b=some o->h'.get? b=some o)->h'.get? s.heap.objs.size=some (K9 acc' c')->ItP h' acc'.toList (xs.toList.zip ys.toList)->(∀v∈acc'.toList,∃T,v=.ref T/\s.heap.objs.size<T)->Q (.ref s.heap.objs.size) { s with heap:=h' }) :
  wpAny (model prog w) A (call (.type "list") [.ref z]) Q E s:=by
 have lt:∀{b:Addr}{o:Obj},s.heap.get? b=some o->s.heap.objs.size≠b:=λe=>ŝ (É e)
 obtain⟨o1,a1,_⟩:=id Z.j1
 obtain⟨o2,a2,_⟩:=id Z.j2
 obtain⟨p1,b1,_⟩:=id Z.e1
 obtain⟨p2,b2,_⟩:=id Z.e2
 obtain⟨ta,tb,at'⟩:=id Z.to
 refine callType_codes (Q₁:=λobj s₁=>obj=.ref s.heap.objs.size/\s₁={ s with heap:=s.heap.push { cls:=.type "list",data:=.seq #[] } }) F.called_list (F.typeCall_list_1 _) F.entry_list_init (code_list_new _ ⟨rfl,rfl⟩) λobj sx hx=>?_
 obtain⟨rfl,rfl⟩:=hx
 have hS:(s.heap.push { cls:=.type "list",data:=.seq #[] }).get? s.heap.objs.size=some { cls:=.type "list",data:=.seq #[] }:=Þ _ rfl
 refine⟨⟨_,hS,rfl⟩,F.args_list_init_2 _ _,?_⟩
 show wpAny _ _ (Builtin.List.listItems (.ref s.heap.objs.size) >>= λold=>Builtin.List.listUpdate (.ref s.heap.objs.size) (λ_=>#[]) >>= λ_=>letGo old.toList.reverse >>= λ_=>Ř (.ref s.heap.objs.size) (.ref z) .none) _ _ _
 have old:∀b o,s.heap.get? b=some o->(s.heap.push { cls:=.type "list",data:=.seq #[] }).get? b=some o:=λb o e=>Ë _ e
 refine Æ ?_
 unfold Builtin.List.listItems
 refine Æ (wpAny_seqItems hS rfl (Ø ?_))
 refine Æ (m:=updateSeq s.heap.objs.size (λ_=>#[])) (wpAny_updateSeq hS rfl ?_)
 have hS2:=Š (Ü (λ_=>(#[]:Array Value))) hS rfl
 refine Æ (wpAny_letGo ?_)
 generalize hg:(s.heap.push { cls:=.type "list",data:=.seq #[] }).update s.heap.objs.size (Ü λ_=>(#[]:Array Value))=g at hS2
 have kg:∀b o,s.heap.get? b=some o->g.get? b=some o:=λb o e=>by rw[←hg];exact(Ĳ _ _ (lt e)).trans (old b o e)
 have sg:g.objs.size=s.heap.objs.size+1:=by rw[←hg,Į,ŕ]
 have Zg:∀{h:Heap},(∀b o,s.heap.get? b=some o->h.get? b=some o)->ZSt z TI TO i1 i2 l1 l2 xs ys 0 h:=λ{h} k=>⟨.inl ⟨rfl,k _ _ hz⟩,k _ _ Z.ti,⟨ta,tb,k _ _ at'⟩,Z.j1.at λo e=>k _ o e,Z.j2.at λo e=>k _ o e,Z.e1.at λo e=>k _ o e,Z.e2.at λo e=>k _ o e⟩
 have hT:∀{h:Heap},(∀b o,s.heap.get? b=some o->h.get? b=some o)->({ s with heap:=h }:Shared).TypeIs (.ref z) "zip":=λk=>⟨_,k _ _ hz,rfl⟩
 unfold Ř
 refine Æ (wpAny_typeOf (hT kg) ?_)
 have q1:Builtin.List.listSameRef (.ref s.heap.objs.size) (.ref z)=false:=by simp[Builtin.List.listSameRef,lt hz]
 have q2:(Đ "zip" == Đ "list")=false:=by decide
 have q3:(Đ "zip" == Đ "tuple")=false:=by decide
 simp only[q1,q2,q3,Bool.or_false,Ň,if_false]
 refine Æ (wpAny_pyIter_zip (kg _ _ hz) ?_)
 refine Æ (Ĭ ?_)
 unfold Builtin.List.listLengthHint
 refine Æ (wpAny_specialOf (hT kg) yt ?_)
 show wpAny _ _ (specialOf (ħ z) (ú "__length_hint__") >>= _) _ _ _
 refine Æ (wpAny_specialOf (hT kg) v7 ?_)
 refine Ø ?_
 show wpAny _ _ (rule "list.extend.makes-room" >>= λ_=>Builtin.List.listTouch (.ref s.heap.objs.size) >>= λ_=>again (.builtin "list.extend.loop" ⟨[.ref s.heap.objs.size,.ref z,.none],[]⟩)) _ _ _
 refine Æ (wpAny_rule (Æ ?_))
 show wpAny _ _ (updateSeq s.heap.objs.size (·.push .none) >>= λ_=>updateSeq s.heap.objs.size (·.pop)) _ _ _
 refine Æ (wpAny_updateSeq hS2 rfl ?_)
 have hS3:=Š (Ü (·.push ľ)) hS2 rfl
 refine wpAny_updateSeq hS3 rfl ?_
 have hS4:=Š (Ü (·.pop)) hS3 rfl
 generalize hk:(g.update s.heap.objs.size (Ü (·.push ľ))).update s.heap.objs.size (Ü (·.pop))=g' at hS4
 have kk:∀b o,b≠s.heap.objs.size->g.get? b=some o->g'.get? b=some o:=λb o n e=>by rw[←hk];exact(Ĳ _ _ (Ĩ n)).trans ((Ĳ _ _ (Ĩ n)).trans e)
 have kk2:∀b o,s.heap.get? b=some o->g'.get? b=some o:=λb o e=>kk b o (Ĩ (lt e)) (kg b o e)
 have sk:g'.objs.size=s.heap.objs.size+1:=by rw[←hk,Į,Į,sg]
 refine Ø ⟨plainId_quiet F.plain_extend_loop _,Fq (A:=A.in1) (xs:=xs) (ys:=ys) hh D hn s.heap.objs.size ⟨lt hz,lt at',lt a1,lt a2,lt b1,lt b2⟩ _ _ 0 { s with heap:=g' } #[] _ rfl (à _) (Zg kk2) (λT q e=>?_) hS4 .nil (λv hv=>nomatch hv) λh' acc' c' k' hS' hP' hn'=>?_⟩
 ·have e':=kk2 _ _ hz
  rw[e] at e'
  cases e'
 ·refine⟨rfl,hQ h' acc' c' (λb o n1 n2 n3 n4 e=>k' b o (Ĩ (lt e)) n1 n2 n3 n4 (kk2 b o e)) hS' hP' λv hv=>?_⟩
  rcases hn' v hv with q|⟨T,e,hT'⟩
  ·exact nomatch q
  ·refine⟨T,e,?_⟩
   have:g'.objs.size<=T:=hT'
   omega
end
end PySem
namespace L2
open PySem PySem.Spec PyProof.Rows
section
variable {X:Cx}{pins:List (Addr×Obj)}{σ:L2.St}{H:Hp}{s:Shared}
def Inv.FJ{a:Addr}{o:HO}{H0:Hp}{s0:Shared}{σ0:L2.St}(I:Inv X pins σ H s)(I0:Inv X pins σ0 H0 s0)(hle:s0.heap.objs.size<=a)(hn:H a=none)(new:bx X.prog X.w (upd H a o) s.heap a o):Inv X pins σ (upd H a o) s:=by
 have lt:∀{b:Addr}{u:Obj},s0.heap.get? b=some u->b≠a:=λe z=>absurd (ã (É e) hle) (by rw[z];exact ü _)
 refine I.track hn (λob e=>?_) (Ĩ (æ (ã I0.lt hle))) (λx c e=>?_) (λp hp=>lt (I0.pin p hp).1) new
 ·exact absurd (ã (É e) (é I0.sz hle)) (ü _)
 ·obtain⟨v,u,hu,_⟩:=I0.cell x c e
  exact lt hu
def Inv.tuples{H0:Hp}{s0:Shared}{σ0:L2.St}(I0:Inv X pins σ0 H0 s0):∀(vs:List Value) (ps:List (Value×Value)) (qs:List (V×V)) (H:Hp),Inv X pins σ H s->ItP s.heap vs ps->Paired (λ(q:V×V) (p:Value×Value)=>RelV q.1 p.1/\RelV q.2 p.2) qs ps->(∀v∈vs,∃T,v=.ref T/\s0.heap.objs.size<=T)->(∀T,s0.heap.objs.size<=T->H T=none\/∃xs,H T=some (.tup xs)) ->
  ∃(H':Hp) (ws:List V),Inv X pins σ H' s/\Same H H'/\Vals ws vs/\Paired (λw (q:V×V)=>∃t,w=.ref t/\H' t=some (.tup [q.1,q.2])) ws qs/\(∀T,s0.heap.objs.size<=T->H' T=none\/∃xs,H' T=some (.tup xs))/\(∀T,(∀v∈vs,v≠.ref T)->H' T=H T)
 |_,_,_,H,I,.nil,.nil,_,hN=>⟨H,[],I,Same.refl _,.nil,.nil,hN,λ_ _=>rfl⟩
 |_,_,_,H,I,.cons (a:=v) (l₁:=vs) (b:=p) (l₂:=ps) r t,.cons (a:=q) (l₁:=qs) rq tq,hv,hN=>by
  obtain⟨T,e,hT⟩:=r
  subst e
  obtain⟨T',e',hle⟩:=hv _ Ú
  cases e'
  have vq:Vals [q.1,q.2] [p.1,p.2]:=.cons rq.1 (.cons rq.2 .nil)
  have okT:∀H2:Hp,bx X.prog X.w H2 s.heap T (.tup [q.1,q.2]):=λH2=>⟨by show 2<=sizeLine;decide,[p.1,p.2],vq,⟨_,hT,rfl,0,rfl⟩⟩
  have key:∃H1,Inv X pins σ H1 s/\Same H H1/\H1 T=some (.tup [q.1,q.2])/\(∀U,s0.heap.objs.size<=U->H1 U=none\/∃xs,H1 U=some (.tup xs))/\∀U,U≠T->H1 U=H U:=by
   rcases hN T hle with hn|⟨xs,hx⟩
   ·refine⟨upd H T (.tup [q.1,q.2]),I.FJ I0 hle hn (okT _),λb u e=>by rw[ao (aK e hn)];exact e,aB,λU hU=>?_,λU hU=>ao hU⟩
    by_cases z:U=T
    ·subst z;exact .inr ⟨_,aB⟩
    ·rw[ao z];exact hN U hU
   ·refine⟨H,I,Same.refl _,?_,hN,λ_ _=>rfl⟩
    obtain⟨_,its,rv,o,ho,hc,n,hd⟩:=I.hok T _ hx
    rw[hT] at ho
    cases ho
    cases hd
    have:xs=[q.1,q.2]:=Vals.inj (by simpa using rv) vq
    rw[hx,this]
  obtain⟨H1,I1,s1,h1,N1,u1⟩:=key
  obtain⟨H2,ws,I2,s2,v2,p2,N2,u2⟩:=Inv.tuples I0 vs ps qs H1 I1 t tq (λv hv'=>hv v (Ó _ hv')) N1
  refine⟨H2,.ref T::ws,I2,s1.trans s2,.cons rfl v2,.cons ⟨T,rfl,s2 _ _ h1⟩ p2,N2,λU hU=>?_⟩
  rw[u2 U λv hv'=>hU v (Ó _ hv'),u1 U λz=>hU _ Ú (by rw[z])]
def tLZ(K:Ô)(ta:TA):TE:=λσ H Q=>ta σ H λvs H1=>∃p q xs ys,vs=[.ref p,.ref q]/\SqL K H1 p xs/\SqL K H1 q ys/\xs.length<=1000 /\
 ∀l ws H',Same H1 H'->H1 l=none->H' l=some (.lst ws)->Paired (λw (q:V×V)=>∃t,w=.ref t/\H' t=some (.tup [q.1,q.2])) ws (xs.zip ys)->Q (.ref l) H'
def wj:∀{xs ys:List V}{us vs:List Value},Vals xs us->Vals ys vs->Paired (λ(q:V×V) (p:Value×Value)=>RelV q.1 p.1/\RelV q.2 p.2) (xs.zip ys) (us.zip vs)
 |_,_,_,_,.nil,_=>.nil
 |_,_,_,_,.cons _ _,.nil=>.nil
 |_,_,_,_,.cons a b,.cons c d=>.cons ⟨a,c⟩ (wj b d)
def yU{a b:Expr}{ta:TA}{p1 p2 pos1 pos2:Pos}(hc:X.calm=true)(hgl:Gl X "list")(hml:X.mg "list"=none)(hgz:Gl X "zip")(hmz:X.mg "zip"=none)(ha:PA X [a,b] ta)(e1:starEach [.Call (.Name "zip" p2) [a,b] [] pos2] X.env=[(false,eval (.Call (.Name "zip" p2) [a,b] [] pos2) X.env)]:=by rfl)(e2:starEach [a,b] X.env=(false,eval a X.env)::starEach [b] X.env:=by rfl)(e3:(backTo pos2 (starEach [b] X.env)).any (·.1)=false:=by rfl) :
  PE X (.Call (.Name "list" p1) [.Call (.Name "zip" p2) [a,b] [] pos2] [] pos1) (tLZ X.K ta):=by
 intro pins s σ H Q I h
 refine Ţ (je I hgl hml boot_list ?_)
 refine Ļ ?_ e1 rfl
 rw[e1]
 refine Calls.spliced_cons ?_
 refine Ţ (je I hgz hmz PyProof.Rows.boot_zip ?_)
 refine Ļ (thn (ha pos2 pins s σ H _ I h) λus s1 ⟨vs,H1,I1,r1,q1⟩=>?_) e2 e3
 obtain⟨p,q,xs,ys,rfl,hp,hq,hlen,k⟩:=q1
 obtain⟨u,u2,rfl,rx,ry⟩:=vals2 r1
 cases rx
 cases ry
 obtain⟨its,rv,pl,_⟩:=I1.list hp
 obtain⟨its2,rv2,pl2,_⟩:=I1.list hq
 refine call_zip_2 pl.isList pl2.isList λh' hz hTI hTO hi1 hi2 hsz hk=>?_
 refine Calls.spliced_nil ?_
 have lp:p<s1.heap.objs.size:=by obtain⟨o,e,_⟩:=pl.isList;exact É e
 have lq:q<s1.heap.objs.size:=by obtain⟨o,e,_⟩:=pl2.isList;exact É e
 have D:=zipApart_new lp lq
 have Z:ZSt (s1.heap.objs.size+4) (s1.heap.objs.size+2) (s1.heap.objs.size+3) s1.heap.objs.size (s1.heap.objs.size+1) p q its.toArray its2.toArray 0 h' :=
  ⟨.inl ⟨rfl,hz⟩,hTI,⟨_,_,hTO⟩,hi1,hi2,pl.isList.at λo e=>hk _ o e,pl2.isList.at λo e=>hk _ o e⟩
 have hl1:=rv.length
 refine Ft (s:={ s1 with heap:=h' }) (I1.ok.hd hc) D (by simp;omega) hz Z λh2 acc c2 k2 hS hP hT=>?_
 have lt:∀{b:Addr}{o:Obj},s1.heap.get? b=some o->b<s1.heap.objs.size:=λe=>É e
 have kept:∀b o,s1.heap.get? b=some o->h2.get? b=some o:=λb o e=>by
  have l0:=lt e
  have l1:∀j,b≠s1.heap.objs.size+j:=λj=>æ (ã l0 (Nat.le_add_right _ _))
  exact k2 b o (l1 4) (l1 3) (l1 0) (l1 1) (hk b o e)
 have I2:Inv X pins σ H1 { s1 with heap:=h2 }:=I1.kept (t':=s1.toks) kept
 have hsz':h'.objs.size=s1.heap.objs.size+5:=hsz
 obtain⟨H3,ws,I3,s3,v3,p3,N3,u3⟩:=Inv.tuples I1 acc.toList _ _ H1 I2 hP (wj rv rv2) (λv hv=>by
  obtain⟨T,e,hT'⟩:=hT v hv
  have hT'':h'.objs.size<T:=hT'
  exact⟨T,e,by omega⟩) λT hT=>.inl (I1.hok.fresh hT)
 have hSn:H3 h'.objs.size=none:=by
  rw[u3 _ λv hv z=>?_]
  ·exact I1.hok.fresh (by omega)
  ·obtain⟨T,e,hT'⟩:=hT v hv
   rw[z] at e
   cases e
   exact absurd hT' (ü _)
 have hwl:ws.length<=sizeLine:=by
  have:=v3.length
  have h24:=õ
  have l3:=p3.length
  rw[l3,Ż]
  omega
 have I4:Inv X pins σ (upd H3 h'.objs.size (.lst ws)) { s1 with heap:=h2 }:=I3.FJ I1 (by omega) hSn ⟨hwl,acc.toList,c2,v3,hS⟩
 refine⟨.ref h'.objs.size,_,I4,rfl,k h'.objs.size ws _ (s3.trans λb u e=>by rw[ao (aK e hSn)];exact e) (I1.hok.fresh (by omega)) aB (Paired.HJ p3 λw q ⟨t,e,ht⟩=>⟨t,e,by rw[ao (aK ht hSn)];exact ht⟩)⟩
end
end L2
namespace Dl
open PySem L2 PyProof.Rows
variable [Gr]
section
variable {X:Cx}{pos:Pos}{a b c e:Expr}{es:List Expr}{ta tb tc te:DE}{t:DA}
def newP(k:Kd)(ds:List D)(P:Kd->Prop):Prop:=(cD ds=true/\P .new)\/P (k.join .new)
def jB{p:Pn}{H0 Hb H H2:Hp}{own:Addr->Option Nat}(A:At p H0 own Hb H){k:Kd}{vs:List V}{ds:List D}{P:Kd->Prop}{l:Addr}(r:Rps (okK p H0 own Hb k) H2 vs ds)(nw:okK p H0 own Hb .new l)(hl:H2 l=some (.lst vs))(h:newP k ds P):∃k',P k'/\Rp (okK p H0 own Hb k') H2 (.ref l) (.list ds):=by
 rcases h with ⟨i,h⟩|h
 ·exact⟨_,h,.lst nw hl ((Rps.imm r i).mono (λ_ o=>o.elim) (λ_ _ _ e=>e) λ_ _ e=>e)⟩
 ·exact⟨_,h,.lst (bK A (dJ k .new).2 nw) hl (r.mono (λa o=>bK A (dJ k .new).1 o) (λ_ _ _ e=>e) λ_ _ e=>e)⟩
def lZ:∀l:List Int,cD (l.map Å)=true
 |[]=>rfl
 |x::l=>by
  show(cI (.int x)&&cD (l.map Å))=true
  rw[lZ l]
  rfl
def nF:∀l:List Tie,cD (l.map pD)=true
 |[]=>rfl
 |x::l=>by
  show(cI (pD x)&&cD (l.map pD))=true
  rw[nF l]
  rfl
def prD(p:D×D):D:=.tuple [p.1,p.2]
def TY:GC:=λks P=>match ks with
 |[(k1,.list ds),(k2,.list es)]=>ds.length<=1000/\newP (k1.join k2) ((ds.zip es).map prD) λk=>P k (.list ((ds.zip es).map prD))
 |_=>False
def Rps.zip{ok:Addr->Prop}{H H':Hp}(m:∀{v:V}{d:D},Rp ok H v d->Rp ok H' v d):∀{xs ys:List V}{ds es:List D}{ws:List V},Rps ok H xs ds->Rps ok H ys es->Paired (λw (q:V×V)=>∃t,w=.ref t/\H' t=some (.tup [q.1,q.2])) ws (xs.zip ys)->Rps ok H' ws ((ds.zip es).map prD)
 |_,_,_,_,_,.nil,_,p=>by cases p;exact .nil
 |_,_,_,_,_,.cons _ _,.nil,p=>by cases p;exact .nil
 |_,_,_,_,_,.cons h t,.cons h2 t2,p=>by
  cases p with
  |cons r q =>
   obtain⟨t',rfl,ht⟩:=r
   exact .cons (.tup ht (.cons (m h) (.cons (m h2) .nil))) (Rps.zip m t t2 q)
def yX{p1 p2 pos1 pos2:Pos}(hc:X.calm=true)(hml:X.mg "list"=none)(hmz:X.mg "zip"=none)(ha:PDA X [a,b] t)(hgl:Gl X "list":=by rfl)(hgz:Gl X "zip":=by rfl)(e1:starEach [.Call (.Name "zip" p2) [a,b] [] pos2] X.env=[(false,eval (.Call (.Name "zip" p2) [a,b] [] pos2) X.env)]:=by rfl)(e2:starEach [a,b] X.env=(false,eval a X.env)::starEach [b] X.env:=by rfl)(e3:(backTo pos2 (starEach [b] X.env)).any (·.1)=false:=by rfl) :
  PD X (.Call (.Name "list" p1) [.Call (.Name "zip" p2) [a,b] [] pos2] [] pos1) (tCl TY t):=PE.wk (yU hc hgl hml hgz hmz ha e1 e2 e3) (by
 rintro σ H Q ⟨p,H0,own,ρ,P,E,t,q⟩
 refine⟨p,H0,own,ρ,_,E,t,λks vs H1 h A r=>?_⟩
 unfold TY at h
 split at h
 ·rename_i k1 ds k2 es'
  obtain⟨v,w,rfl,r1,r2⟩:=O8 r
  obtain⟨x,xs,e1,o1,h1,rs1⟩:=Rp.cW r1
  obtain⟨y,ys,e2,o2,h2,rs2⟩:=Rp.cW r2
  subst e1 e2
  refine⟨x,y,xs,ys,rfl,SqL.of h1,SqL.of h2,by rw[rs1.length];exact h.1,λl ws H' sm hl hl' hp=>?_⟩
  have K:Kp p H1 H':=Kp.of sm
  have i2:p.PI H':=p.mono H1 H' A.pen λb o _ e=>sm b o e
  have j2:=dJ k1 k2
  have m1:∀{k:Kd},k.le (k1.join k2)=true->∀{vs ds},Rps (okK p H0 own H k) H1 vs ds->Rps (okK p H0 own H (k1.join k2)) H1 vs ds:=λhk _ _ z=>z.mono (λa o=>bK A hk o) (λ_ _ _ e=>e) λ_ _ e=>e
  obtain⟨k',hk',rk'⟩:=jB A (Rps.zip (λz=>iJ A K z) (m1 j2.1 rs1) (m1 j2.2 rs2) hp) (A.free hl) hl' h.2
  exact q _ _ _ _ hk' (A.go K i2) rk'
 ·exact h.elim)
def tCh(f g:Int->Int->Bool)(ta tb tc:DE):DE:=λρ P=>ta ρ λ_ d1=>tb ρ λ_ d2=>match d1,d2 with
 |.int i,.int j=>if f i j=true then tc ρ λ_ d3=>(match d3 with
   |.int l=>P .imm (.bool (g j l))
   |_=>False) else P .imm (.bool false)
 |_,_=>False
def Ce{f g:Int->Int->Bool}:∀σ H Q,bT (tCh f g ta tb tc) σ H Q->pQ (rI0 λi j=>.bl (f i j)) (rI0 λi j=>.bl (g i j)) (bT ta) (bT tb) (bT tc) σ H Q:=by
 rintro σ H Q ⟨p,H0,own,ρ,P,E,t,q⟩
 refine⟨p,H0,own,ρ,_,E,t,λk1 d1 v1 H1 t1 A1 r1=>?_⟩
 refine⟨p,H0,own,ρ,_,E.go A1.kp A1.pen,t1,λk2 d2 v2 H2 t2 A2 r2=>?_⟩
 have A:=A1.base A2
 split at t2
 ·rename_i i j
  refine⟨i,j,r1.int',r2.int',_,rfl,?_⟩
  cases hf:f i j with
  |true =>
   rw[hf,if_pos rfl] at t2
   refine aF ⟨p,H0,own,ρ,_,(E.go A1.kp A1.pen).go A2.kp A2.pen,t2,λk3 d3 v3 H3 t3 A3 r3=>?_⟩
   cases d3 with
   |int l=>exact⟨j,l,r2.int',r3.int',q _ _ _ _ t3 (A.base A3) (.bl _)⟩
   |_=>exact t3.elim
  |false =>
   rw[hf,if_neg Ì] at t2
   exact ak (q _ _ _ _ t2 A (.bl _))
 ·exact t2.elim
def BP(ha:PD X a ta)(hb:PD X b tb)(hc:PD X c tc)(hm:lastMarks [.LtE,.Lt] [b,c]=false:=by with_unfolding_all rfl):PD X (.Compare a [.LtE,.Lt] [b,c] pos) (tCh (λi j=>decide (i<=j)) (λi j=>decide (i<j)) ta tb tc):=PE.wk (GX wO oF ha hb hc hm) Ce
def fZ{op op':CmpOp}{r r':R2}{g:DE}(h:PT X (.Compare a [op,op'] [b,c] pos) (FP (pQ r r' (bT ta) (bT tb) (bT tc))))(w:∀σ H Q,bT g σ H Q->pQ r r' (bT ta) (bT tb) (bT tc) σ H Q):PDT X (.Compare a [op,op'] [b,c] pos) (dH g) :=
 PT.wk h λσ H Q q=>w σ H _ (jd σ H Q q)
def Nb(ta:DE):DE:=λρ P=>ta ρ λ_ d=>match d with
 |.bool b=>P .imm (.bool (!b))
 |_=>False
def uV(ha:PD X a ta):PD X (.UnaryOp .Not a pos) (Nb ta):=PE.wk (Pz ha) (by
 rintro σ H Q ⟨p,H0,own,ρ,P,E,t,q⟩
 refine⟨p,H0,own,ρ,_,E,t,λk d v H' h A r=>?_⟩
 cases d with
 |bool b=>exact⟨b,r.bl',q _ _ _ _ h A (.bl _)⟩
 |_=>exact h.elim)
def nR(ta tb:DE):DE:=λρ P=>ta ρ λ_ d=>match d with
 |.bool b=>if b=true then tb ρ P else P .imm (.bool false)
 |_=>False
def ni{op}(h:PD X a ta):PD X (.BoolOp op [a] pos) ta:=Py h
def nq{rest:List Expr}(ha:PD X a ta)(hb:PD X (.BoolOp .And (b::rest) pos) tb):PD X (.BoolOp .And (a::b::rest) pos) (nR ta tb):=PE.wk (PJ ha hb) (by
 rintro σ H Q ⟨p,H0,own,ρ,P,E,t,q⟩
 refine⟨p,H0,own,ρ,_,E,t,λk d v H' h A r=>?_⟩
 cases d with
 |bool b =>
  refine⟨b,r.bl',?_⟩
  cases b with
  |true=>exact aF ⟨p,H0,own,ρ,P,E.go A.kp A.pen,by simpa using h,λk d v H2 h2 A2 r2=>q k d v H2 h2 (A.base A2) (jw A r2)⟩
  |false=>exact ak (q _ _ _ _ (by simpa using h) A (.bl _))
 |_=>exact h.elim)
def tyD:D->String
 |.none=>"NoneType"
 |.bool _=>"bool"
 |.int _=>"int"
 |.str _=>"str"
 |.list _=>"list"
 |.tuple _=>"tuple"
 |.dict _=>"dict"
def isT(c:String)(d:D):Bool:=tyD d == c || (c == "int"&&tyD d == "bool")
def tIs(c:String)(te:DE):DE:=λρ P=>te ρ λ_ d=>P .imm (.bool (isT c d))
def d8{T:String}{x:Str}{ps pt:Pos}(hk:∀t:Value,(t=.type "NoneType"\/t=.type "bool"\/t=.type "int"\/t=.type "str"\/t=.type "list"\/t=.type "tuple"\/t=.type "dict")->∃n,t=.type n/\ů X.K t (.type T)=some (n == T || (T == "int"&&n == "bool")))(hm:X.mg "isinstance"=none)(he:PD X e te)(hT:PE X (.Name x pt) (tC (.ty T)))(hg:Gl X "isinstance":=by rfl)(h1:starEach [e,.Name x pt] X.env=(false,eval e X.env)::starEach [.Name x pt] X.env:=by rfl)(h2:starEach [.Name x pt] X.env=(false,eval (.Name x pt) X.env)::starEach [] X.env:=by rfl)(hpl:(backTo pos (starEach [.Name x pt] X.env)).any (·.1)=false:=by rfl) :
  PD X (.Call (.Name "isinstance" ps) [e,.Name x pt] [] pos) (tIs T te):=PE.wk (eG vV hg hm boot_isinstance (dz he (dz hT cL h2) h1) (by decide) (by decide) h1 hpl) (by
 rintro σ H Q ⟨p,H0,own,ρ,P,E,t,q⟩
 refine⟨p,H0,own,ρ,_,E,t,λk d v H' h A r=>?_⟩
 have fin:∀n,TyOf X.K H' v (.type n)->n=tyD d->∃x' c' t' b,[v,V.ty T]=[x',.ty c']/\TyOf X.K H' x' t'/\ů X.K t' (.type c')=some b/\Q (.bl b) H':=λn ty en=>by
  obtain⟨n',e,hk'⟩:=hk (.type n) (by rw[en];cases d <;> simp[tyD])
  cases e
  refine⟨v,T,.type n,_,rfl,ty,hk',?_⟩
  rw[en]
  exact q _ _ _ _ h A (.bl _)
 show ∃x' c' t' b,_/\_
 cases r with
 |non=>exact fin _ .non rfl
 |bl b=>exact fin _ (.bl b) rfl
 |int i=>exact fin _ (.int i) rfl
 |str x=>exact fin _ (.str x) rfl
 |lst o hh rr=>exact fin _ (.lst hh) rfl
 |tup hh rr=>exact fin _ (.tup hh) rfl
 |dct o hh rr=>exact fin _ (.dK hh) rfl)
def Ck{K:Ô}:∀t:Value,(t=.type "NoneType"\/t=.type "bool"\/t=.type "int"\/t=.type "str"\/t=.type "list"\/t=.type "tuple"\/t=.type "dict")->∃n,t=.type n/\ů K t (.type "int")=some (n == "int" || ("int" == "int"&&n == "bool")):=by
 rintro t (rfl|rfl|rfl|rfl|rfl|rfl|rfl) <;> exact⟨_,rfl,rfl⟩
def qQ{K:Ô}:∀t:Value,(t=.type "NoneType"\/t=.type "bool"\/t=.type "int"\/t=.type "str"\/t=.type "list"\/t=.type "tuple"\/t=.type "dict")->∃n,t=.type n/\ů K t (.type "bool")=some (n == "bool" || ("bool" == "int"&&n == "bool")):=by
 rintro t (rfl|rfl|rfl|rfl|rfl|rfl|rfl) <;> exact⟨_,rfl,rfl⟩
def lW{K:Ô}:∀t:Value,(t=.type "NoneType"\/t=.type "bool"\/t=.type "int"\/t=.type "str"\/t=.type "list"\/t=.type "tuple"\/t=.type "dict")->∃n,t=.type n/\ů K t (.type "list")=some (n == "list" || ("list" == "int"&&n == "bool")):=by
 rintro t (rfl|rfl|rfl|rfl|rfl|rfl|rfl) <;> exact⟨_,rfl,rfl⟩
def kit_tuple{K:Ô}:∀t:Value,(t=.type "NoneType"\/t=.type "bool"\/t=.type "int"\/t=.type "str"\/t=.type "list"\/t=.type "tuple"\/t=.type "dict")->∃n,t=.type n/\ů K t (.type "tuple")=some (n == "tuple" || ("tuple" == "int"&&n == "bool")):=by
 rintro t (rfl|rfl|rfl|rfl|rfl|rfl|rfl) <;> exact⟨_,rfl,rfl⟩
def Cj{K:Ô}:∀t:Value,(t=.type "NoneType"\/t=.type "bool"\/t=.type "int"\/t=.type "str"\/t=.type "list"\/t=.type "tuple"\/t=.type "dict")->∃n,t=.type n/\ů K t (.type "str")=some (n == "str" || ("str" == "int"&&n == "bool")):=by
 rintro t (rfl|rfl|rfl|rfl|rfl|rfl|rfl) <;> exact⟨_,rfl,rfl⟩
def Q9:GC:=λks P=>match ks with
 |[(_,.list ds)]=>∃bs:List Bool,ds=bs.map PyData.bool/\P .imm (.bool (bs.all id))
 |_=>False
def Rps.bools{ok:Addr->Prop}{H:Hp}:∀{vs:List V}{bs:List Bool},Rps ok H vs (bs.map PyData.bool)->vs=bs.map V.bl
 |[],[],_=>rfl
 |_,b::bs,.cons h t=>by
  have e:=h.bl'
  subst e
  rw[Rps.bools t]
  rfl
def nu{ps:Pos}(hc:X.calm=true)(hm:X.mg "all"=none)(hv:bootBuiltins "all"=some (.builtin "all"))(ha:PDA X [a] t)(hg:Gl X "all":=by rfl)(he:zS X a []:=by rfl)(hpl:zP X pos []:=by rfl):PD X (.Call (.Name "all" ps) [a] [] pos) (tCl Q9 t) :=
 dh (Fg hc) (by
  intro p H0 own Hb H vs ks P Q A r t q
  unfold Q9 at t
  split at t
  ·obtain⟨bs,rfl,t⟩:=t
   obtain⟨v,rfl,r'⟩:=eE r
   obtain⟨x,xs,e1,o1,h1,rs1⟩:=Rp.cW r'
   subst e1
   have e2:=Rps.bools rs1
   subst e2
   exact⟨x,bs,rfl,SqL.of h1,q _ _ _ _ t Kp.refl A.pen (.bl _)⟩
  ·exact t.elim) hg hm hv ha (by decide) (by decide) he hpl
def gMM(f:Int->Int->Int):GC:=λks P=>match ks with
 |[(_,.int i),(_,.int j)]=>P .imm (.int (f i j))
 |_=>False
def lF{ps:Pos}(hc:X.calm=true)(hm:X.mg "max"=none)(ha:PDA X [a,b] t)(hg:Gl X "max":=by rfl)(he:starEach [a,b] X.env=(false,eval a X.env)::starEach [b] X.env:=by rfl)(hpl:(backTo pos (starEach [b] X.env)).any (·.1)=false:=by rfl):PD X (.Call (.Name "max" ps) [a,b] [] pos) (tCl (gMM λi j=>if j > i then j else i) t) :=
 dh (Fb hc) (by
  intro p H0 own Hb H vs ks P Q A r t q
  unfold gMM at t
  split at t
  ·rename_i k i k' j
   obtain⟨v,w,rfl,r1,r2⟩:=O8 r
   rw[Rp.int' r1,Rp.int' r2]
   exact⟨i,j,rfl,q _ _ _ _ t Kp.refl A.pen (.int _)⟩
  ·exact t.elim) hg hm boot_max ha (by decide) (by decide) he hpl
def Lx:GC:=λks P=>match ks with
 |[(k,.list ds)]=>newP k ds λk'=>P k' (.list ds)
 |[(k,.tuple ds)]=>newP k ds λk'=>P k' (.list ds)
 |_=>False
def uX{ps:Pos}(hm:X.mg "list"=none)(ha:PDA X [a] t)(hg:Gl X "list":=by rfl)(he:zS X a []:=by rfl)(hpl:zP X pos []:=by rfl):PD X (.Call (.Name "list" ps) [a] [] pos) (tCl Lx t) :=
 qx vR (by
  intro p H0 own Hb H vs ks P Q A r t q
  have fin:∀{k ds xs},Rps (okK p H0 own Hb k) H xs ds->newP k ds (λk'=>P k' (.list ds))->∀l,H l=none->Q (.ref l) (upd H l (.lst xs)):=λ{k ds xs} rs t l hl=>by
   obtain⟨k2,i2,nw⟩:=A.new hl (.lst xs)
   obtain⟨k',hk',rk'⟩:=jB A (bF A k2 rs) nw aB t
   exact q _ _ _ _ hk' k2 i2 rk'
  unfold Lx at t
  split at t
  ·obtain⟨v,rfl,r'⟩:=eE r
   obtain⟨x,xs,e1,o1,h1,rs1⟩:=Rp.cW r'
   subst e1
   exact⟨x,xs,rfl,.inl (SqL.of h1),fin rs1 t⟩
  ·obtain⟨v,rfl,r'⟩:=eE r
   obtain⟨x,xs,e1,h1,rs1⟩:=Rp.fQ r'
   subst e1
   exact⟨x,xs,rfl,.inr (SqT.of h1),fin rs1 t⟩
  ·exact t.elim) hg hm boot_list ha (by decide) (by decide) he hpl
def Iw:GC:=λks P=>match ks with
 |[(k,.list ds)]=>P (norm k (.tuple ds)) (.tuple ds)
 |[(k,.tuple ds)]=>P (norm k (.tuple ds)) (.tuple ds)
 |_=>False
def jA{ps:Pos}(hm:X.mg "tuple"=none)(ha:PDA X [a] t)(hg:Gl X "tuple":=by rfl)(he:zS X a []:=by rfl)(hpl:zP X pos []:=by rfl):PD X (.Call (.Name "tuple" ps) [a] [] pos) (tCl Iw t) :=
 qx rZ (by
  intro p H0 own Hb H vs ks P Q A r t q
  unfold Iw at t
  split at t
  ·rename_i k ds
   obtain⟨v,rfl,r'⟩:=eE r
   obtain⟨x,xs,e1,o1,h1,rs1⟩:=Rp.cW r'
   subst e1
   refine⟨x,xs,rfl,.inl ⟨SqL.of h1,λl hl=>?_⟩⟩
   obtain⟨k2,i2,nw⟩:=A.new hl (.tup xs)
   exact q _ _ _ _ t k2 i2 (aR (.tup aB (bF A k2 rs1)))
  ·rename_i k ds
   obtain⟨v,rfl,r'⟩:=eE r
   obtain⟨x,xs,e1,h1,rs1⟩:=Rp.fQ r'
   subst e1
   exact⟨x,xs,rfl,.inr ⟨SqT.of h1,q _ _ _ _ t Kp.refl A.pen (aR r')⟩⟩
  ·exact t.elim) hg hm boot_tuple ha (by decide) (by decide) he hpl
def zY:GC:=λks P=>match ks with
 |[(_,d)]=>∃ts:List Tie,(d=.list (ts.map pD)\/d=.tuple (ts.map pD))/\ts.length<64/\(∀t∈ts,yr t)/\∀us:List Tie,us.Perm ts->us.Pairwise (λa b=>aV a<=aV b)->P .new (.list (us.map pD))
 |_=>False
def Rps.prs{ok:Addr->Prop}{H:Hp}:∀{vs:List V}{ts:List Tie},Rps ok H vs (ts.map pD)->Prs H vs ts
 |[],[],_=>.nil
 |_,t::ts,.cons h r=>by
  obtain⟨x,xs,e,hx,rs⟩:=Rp.fQ h
  obtain⟨v1,v2,e2,q1,q2⟩:=Rps.two rs
  subst e e2
  rw[q1.int',q2.int'] at hx
  exact .cons ⟨x,rfl,hx⟩ (Rps.prs r)
def Prs.rps{ok:Addr->Prop}{H:Hp}:∀{vs:List V}{ts:List Tie},Prs H vs ts->Rps ok H vs (ts.map pD)
 |_,_,.nil=>.nil
 |_,_,.cons r t=>by
  obtain⟨x,e,hx⟩:=r
  subst e
  exact .cons (.tup hx (.cons (.int _) (.cons (.int _) .nil))) (Prs.rps t)
def lC{ps:Pos}(hm:X.mg "sorted"=none)(ha:PDA X [a] t)(hg:Gl X "sorted":=by rfl)(he:zS X a []:=by rfl)(hpl:zP X pos []:=by rfl):PD X (.Call (.Name "sorted" ps) [a] [] pos) (tCl zY t) :=
 dh vQ (by
  intro p H0 own Hb H vs ks P Q A r t q
  unfold zY at t
  split at t
  ·obtain⟨ts,hd,hl,hn,t⟩:=t
   obtain⟨v,rfl,r'⟩:=eE r
   have fin:∀l ws us,H l=none->Prs H ws us->us.Perm ts->us.Pairwise (λa b=>aV a<=aV b)->Q (.ref l) (upd H l (.lst ws)):=λl ws us hl' pr hp hs=>by
    obtain⟨k2,i2,nw⟩:=A.new hl' (.lst ws)
    exact q _ _ _ _ (t us hp hs) k2 i2 (.lst nw aB (bF A k2 (Prs.rps pr)))
   rcases hd with rfl|rfl
   ·obtain⟨x,xs,e1,o1,h1,rs1⟩:=Rp.cW r'
    subst e1
    exact⟨x,xs,ts,rfl,.inl (SqL.of h1),Rps.prs rs1,hn,.inl hl,fin⟩
   ·obtain⟨x,xs,e1,h1,rs1⟩:=Rp.fQ r'
    subst e1
    exact⟨x,xs,ts,rfl,.inr (SqT.of h1),Rps.prs rs1,hn,.inl hl,fin⟩
  ·exact t.elim) hg hm boot_sorted ha (by decide) (by decide) he hpl
end
variable [Gr]
section
variable {X:Cx}{pins:List (Addr×Obj)}{σ:L2.St}{H:Hp}{s:Shared}{ok:Addr->Prop}
mutual
def Rp.reads(I:Inv X pins σ H s):∀{v:V}{d:D}{u:Value},Rp ok H v d->RelV v u->d.canLay0=true->∃as,Reads s.heap u d as
 |_,_,_,.non,r,_=>by cases r;exact⟨_,.none⟩
 |_,_,_,.bl b,r,_=>by cases r;exact⟨_,.bool b⟩
 |_,_,_,.int i,r,_=>by obtain⟨t,rfl⟩:=r;exact⟨_,.int i t⟩
 |_,_,_,.str x,r,_=>by obtain⟨t,rfl⟩:=r;exact⟨_,.str x t⟩
 |_,_,_,.lst o h rs,r,c=>by
  cases r
  obtain⟨its,rv,pl,_⟩:=I.list (SqL.of h)
  obtain⟨as,ra⟩:=Rps.reads I rs rv (by simpa[PyData.canLay0] using c)
  obtain⟨ob,ho,hc,n,hd⟩:=pl.isList
  exact⟨_,.list ho hc hd (by simpa using ra)⟩
 |_,_,_,.tup h rs,r,c=>by
  cases r
  obtain⟨its,rv,pl,_⟩:=I.tuple (SqT.of h)
  obtain⟨as,ra⟩:=Rps.reads I rs rv (by simpa[PyData.canLay0] using c)
  obtain⟨ob,ho,hc,n,hd⟩:=pl
  exact⟨_,.tuple ho hc hd (by simpa using ra)⟩
 |_,_,_,.dct o h rs,r,c=>by simp[PyData.canLay0] at c
def Rps.reads(I:Inv X pins σ H s):∀{v:List V}{d:List D}{u:List Value},Rps ok H v d->Vals v u->Ĝ d=true->∃as,ReadsAll s.heap u d as
 |_,_,_,.nil,r,_=>by cases r;exact⟨[],.nil⟩
 |_,_,_,.cons h t,r,c=>by
  cases r with
  |cons a b =>
   simp only[Ĝ,Ê] at c
   obtain⟨as,ra⟩:=Rp.reads I h a c.1
   obtain⟨bs,rb⟩:=Rps.reads I t b c.2
   exact⟨_,.cons ra rb⟩
end
end
def okD(d:D):Bool:=d.canLay0&&decide (d.depth<=60)
section
variable {X:Cx}{pos:Pos}{a b e:Expr}{ta tb te:DE}
def Gp(K:Ô)(neg:Bool):R2:=λx y H Q=>∃ok ok' d e,Rp ok H x d/\Rp ok' H y e/\okD d=true/\okD e=true/\Q (.bl (if neg then !(ą d e) else ą d e)) H
def zm(hu:X.A.units+64<cLine):OpR X (compareOp .Eq) (Gp X.K false):=by
 intro pins s σ H x y v u Q I rx ry h
 obtain⟨ok,ok',d,e,hd,he,cd,ce,q⟩:=h
 simp only[okD,Ê,decide_eq_true_eq] at cd ce
 obtain⟨as,ra⟩:=hd.reads I rx cd.1
 obtain⟨bs,rb⟩:=he.reads I ry ce.1
 exact SeqAt.compareEq_reads ra rb cd.1 ce.1 (by omega) ⟨.bl _,H,I,rfl,q⟩
def G8(hu:X.A.units+64<cLine):OpR X (compareOp .NotEq) (Gp X.K true):=by
 intro pins s σ H x y v u Q I rx ry h
 obtain⟨ok,ok',d,e,hd,he,cd,ce,q⟩:=h
 simp only[okD,Ê,decide_eq_true_eq] at cd ce
 obtain⟨as,ra⟩:=hd.reads I rx cd.1
 obtain⟨bs,rb⟩:=he.reads I ry ce.1
 exact SeqAt.compareNe_reads ra rb cd.1 ce.1 (by omega) ⟨.bl _,H,I,rfl,q⟩
def T5(neg:Bool):G2:=λ_ d1 _ d2 P=>okD d1=true/\okD d2=true/\P .imm (.bool (if neg then !(ą d1 d2) else ą d1 d2))
def Nv{K:Ô}(neg:Bool):Ok2 (T5 neg) (Gp K neg):=by
 intro p H0 own Hb H x y k1 d1 k2 d2 P Q A r1 r2 t q
 exact⟨_,_,d1,d2,r1,r2,t.1,t.2.1,q _ _ _ _ t.2.2 Kp.refl A.pen (.bl _)⟩
def eqP(x:D)(h:Heap)(u:Value):Bool:=by
 classical
 exact decide (∃d as,Reads h u d as/\ą d x=true)
def Pb(neg:Bool):R2:=λx y H Q=>∃ok ok' d es,Rp ok H x d/\(Rp ok' H y (.list es)\/Rp ok' H y (.tuple es))/\okD d=true/\(es.all okD)=true/\Q (.bl (if neg then !(es.any λe=>ą e d) else es.any λe=>ą e d)) H
def Jl{x:D}{h:Heap}{u:Value}{d:D}{as:List Addr}(r:Reads h u d as):eqP x h u=ą d x:=by
 classical
 unfold eqP
 rw[Ģ,decide_eq_true_eq]
 constructor
 ·rintro⟨d',as',r',e⟩
  rw[(r.unique d' as' r').1]
  exact e
 ·exact λe=>⟨d,as,r,e⟩
def mK{x:D}{h:Heap}:∀{us:List Value}{ds:List D}{as:List Addr},ReadsAll h us ds as->us.any (eqP x h)=ds.any λe=>ą e x
 |_,_,_,.nil=>rfl
 |_,_,_,.cons a b=>by
  rw[List.any_cons,List.any_cons,Jl a,mK b]
def lM{A:Around}{s:Shared}{x:D}{v:Value}{bs:List Addr}(rx:Reads s.heap v x bs)(cx:okD x=true)(hu:A.units+60<cLine):∀{us:List Value}{ds:List D}{as:List Addr},ReadsAll s.heap us ds as->ds.all okD=true->∀u∈us,SeqAt.EqAt A s u v (eqP x s.heap u)
 |_,_,_,.nil,_,u,hu'=>nomatch hu'
 |_,d::ds,_,.cons a b,c,u,hu'=>by
  simp only[Ő,Ê] at c
  rcases è.mp hu' with rfl|hu'
  ·rw[Jl a]
   have c1:=c.1
   simp only[okD,Ê,decide_eq_true_eq] at c1 cx
   exact SeqAt.eqAt_reads _ _ A s _ _ _ _ a rx c1.1 cx.1 (by omega)
  ·exact lM rx cx hu b c.2 u hu'
def lX{A:Around}(hu:A.units+64<cLine):A.in1.units+60<cLine:=by
 have:A.in1.units<=A.units+1:=by first|exact Ç _|exact Ķ _|(unfold Around.in1;simp)
 omega
def lV:∀{es:List D},es.all okD=true->Ĝ es=true
 |[],_=>rfl
 |e::es,h=>by
  simp only[Ő,Ê,okD] at h
  simp only[Ĝ,Ê]
  exact⟨h.1.1,lV h.2⟩
def Hg(hu:X.A.units+64<cLine):OpR X (compareOp .In) (Pb false):=by
 intro pins s σ H x y v u Q I rx ry h
 obtain⟨ok,ok',d,es,hd,hs,cd,ce,q⟩:=h
 have cd':=cd
 simp only[okD,Ê,decide_eq_true_eq] at cd'
 obtain⟨bs,rb⟩:=hd.reads I rx cd'.1
 rcases hs with hs|hs
 ·obtain⟨c,vs,rfl,o,hc,rs⟩:=hs.cW
  cases ry
  obtain⟨its,r,pl,hz⟩:=I.list (SqL.of hc)
  obtain⟨as,ra⟩:=rs.reads I r (lV ce)
  refine SeqAt.in_listAt (eqP d s.heap) pl.isList (λw hw=>lM rb cd (lX hu) ra ce w (by simpa using hw)) ⟨.bl _,H,I,rfl,?_⟩
  rw[show its.toArray.any (eqP d s.heap)=its.any (eqP d s.heap) by simp,mK ra]
  exact q
 ·obtain⟨c,vs,rfl,hc,rs⟩:=hs.fQ
  cases ry
  obtain⟨its,r,pl,hz⟩:=I.tuple (SqT.of hc)
  obtain⟨as,ra⟩:=rs.reads I r (lV ce)
  refine SeqAt.in_tupleAt (eqP d s.heap) pl (λw hw=>lM rb cd (lX hu) ra ce w (by simpa using hw)) ⟨.bl _,H,I,rfl,?_⟩
  rw[show its.toArray.any (eqP d s.heap)=its.any (eqP d s.heap) by simp,mK ra]
  exact q
def Du(hu:X.A.units+64<cLine):OpR X (compareOp .NotIn) (Pb true):=by
 intro pins s σ H x y v u Q I rx ry h
 obtain⟨ok,ok',d,es,hd,hs,cd,ce,q⟩:=h
 have cd':=cd
 simp only[okD,Ê,decide_eq_true_eq] at cd'
 obtain⟨bs,rb⟩:=hd.reads I rx cd'.1
 rcases hs with hs|hs
 ·obtain⟨c,vs,rfl,o,hc,rs⟩:=hs.cW
  cases ry
  obtain⟨its,r,pl,hz⟩:=I.list (SqL.of hc)
  obtain⟨as,ra⟩:=rs.reads I r (lV ce)
  refine SeqAt.notIn_listAt (eqP d s.heap) pl.isList (λw hw=>lM rb cd (lX hu) ra ce w (by simpa using hw)) ⟨.bl _,H,I,rfl,?_⟩
  rw[show its.toArray.any (eqP d s.heap)=its.any (eqP d s.heap) by simp,mK ra]
  exact q
 ·obtain⟨c,vs,rfl,hc,rs⟩:=hs.fQ
  cases ry
  obtain⟨its,r,pl,hz⟩:=I.tuple (SqT.of hc)
  obtain⟨as,ra⟩:=rs.reads I r (lV ce)
  refine SeqAt.notIn_tupleAt (eqP d s.heap) pl (λw hw=>lM rb cd (lX hu) ra ce w (by simpa using hw)) ⟨.bl _,H,I,rfl,?_⟩
  rw[show its.toArray.any (eqP d s.heap)=its.any (eqP d s.heap) by simp,mK ra]
  exact q
def gIn(neg:Bool):G2:=λ_ d1 _ d2 P=>match d2 with
 |.list es=>okD d1=true/\es.all okD=true/\P .imm (.bool (if neg then !(es.any λe=>ą e d1) else es.any λe=>ą e d1))
 |.tuple es=>okD d1=true/\es.all okD=true/\P .imm (.bool (if neg then !(es.any λe=>ą e d1) else es.any λe=>ą e d1))
 |_=>False
def okIn(neg:Bool):Ok2 (gIn neg) (Pb neg):=by
 intro p H0 own Hb H x y k1 d1 k2 d2 P Q A r1 r2 t q
 cases d2 with
 |list es=>exact⟨_,_,d1,es,r1,.inl r2,t.1,t.2.1,q _ _ _ _ t.2.2 Kp.refl A.pen (.bl _)⟩
 |tuple es=>exact⟨_,_,d1,es,r1,.inr r2,t.1,t.2.1,q _ _ _ _ t.2.2 Kp.refl A.pen (.bl _)⟩
 |_=>exact t.elim
def sX(hu:X.A.units+64<cLine)(ha:PD X a ta)(hb:PD X b tb)(hm:behindInMarks .In b=false:=by rfl):PD X (.Compare a [.In] [b] pos) (t2 (gIn false) ta tb):=gF (Hg hu) (okIn false) ha hb hm
def ql(hu:X.A.units+64<cLine)(ha:PD X a ta)(hb:PD X b tb)(hm:behindInMarks .In b=false:=by rfl):PDT X (.Compare a [.In] [b] pos) (dH (t2 (gIn false) ta tb)):=fB (Hg hu) (okIn false) ha hb hm
def d7(hu:X.A.units+64<cLine)(ha:PD X a ta)(hb:PD X b tb)(hm:behindInMarks .NotIn b=false:=by rfl):PDT X (.Compare a [.NotIn] [b] pos) (dH (t2 (gIn true) ta tb)):=fB (Du hu) (okIn true) ha hb hm
end
variable [Gr]
section
variable {X:Cx}{pos p2:Pos}{a b c e:Expr}{es:List Expr}{ta tb tc te:DE}{t:DA}{st:Stmt}
abbrev DO:=List Sl->(Option Int->Prop)->Prop
def qM(t:DO):TO:=λσ H Q=>∃p H0 own ρ P,EnvD p H0 own σ H ρ/\t ρ P/\∀o H',P o->At p H0 own H H'->Q o H'
def PO.wk{e:Option Expr}{t t':TO}(h:PO X e t)(w:∀σ H Q,t' σ H Q->t σ H Q):PO X e t':=λpins s σ H Q I q=>h pins s σ H Q I (w σ H Q q)
def NK:DO:=λ_ P=>P none
def Nz(te:DE):DO:=λρ P=>te ρ λ_ d=>match d with
 |.int i=>P (some i)
 |_=>False
def cA:PO X none (qM NK):=PO.wk Kl (by
 rintro σ H Q ⟨p,H0,own,ρ,P,E,t,q⟩
 exact q _ _ t E.at)
def cu(h:PD X e te):PO X (some e) (qM (Nz te)):=PO.wk (Kh h) (by
 rintro σ H Q ⟨p,H0,own,ρ,P,E,t,q⟩
 refine⟨p,H0,own,ρ,_,E,t,λk d v H' h A r=>?_⟩
 cases d with
 |int i=>exact⟨i,r.int',q _ _ h A⟩
 |_=>exact h.elim)
def cX{α:Type}(ds:List α)(lo hi:Option Int):List α:=(ds.drop (HT.sIx ds.length 0 lo)).take (HT.sIx ds.length ds.length hi - HT.sIx ds.length 0 lo)
def Rps.cut{ok:Addr->Prop}{H:Hp}{vs:List V}{ds:List D}(r:Rps ok H vs ds)(lo hi:Option Int):Rps ok H (q9 vs lo hi) (cX ds lo hi):=by
 unfold q9 cX
 rw[r.length]
 exact(r.drop _).take _
def Uv(te:DE)(tl th:DO):DE:=λρ P=>te ρ λk d=>tl ρ λlo=>th ρ λhi=>match d with
 |.list ds=>newP k (cX ds lo hi) λk'=>P k' (.list (cX ds lo hi))
 |_=>False
def yV{lo hi:Option Expr}{tl th:DO}(he:PD X e te)(hl:PO X lo (qM tl))(hh:PO X hi (qM th)):PD X (.Subscript e (.Slice lo hi none p2) pos) (Uv te tl th):=PE.wk (wM Bc he hl hh) (by
 rintro σ H Q ⟨p,H0,own,ρ,P,E,t,q⟩
 refine⟨p,H0,own,ρ,_,E,t,λk d v H1 h A r=>?_⟩
 refine⟨p,H0,own,ρ,_,E.go A.kp A.pen,h,λo1 H2 h2 A2=>?_⟩
 refine⟨p,H0,own,ρ,_,(E.go A.kp A.pen).go A2.kp A2.pen,h2,λo2 H3 h3 A3=>?_⟩
 have A4:=(A.base A2).base A3
 have r3:=iJ (A.base A2) A3.kp (iJ A A2.kp r)
 cases d with
 |list ds =>
  obtain⟨x,xs,e1,o,h1,rs⟩:=Rp.cW r3
  subst e1
  refine⟨x,xs,rfl,SqL.of h1,λl hl=>?_⟩
  obtain⟨k2,i2,nw⟩:=A4.new hl (.lst (q9 xs o1 o2))
  obtain⟨k',hk',rk'⟩:=jB A4 (bF A4 k2 (rs.cut o1 o2)) nw aB h3
  exact q _ _ _ _ hk' (A4.go k2 i2) rk'
 |_=>exact h3.elim)
def Lz:G2:=λk1 d1 k2 d2 P=>match d1,d2 with
 |.list ds,.list es=>ds.length+es.length<=1000/\newP (k1.join k2) (ds++es) λk=>P k (.list (ds++es))
 |_,_=>False
def Hw:Ok2 Lz SN:=by
 intro p H0 own Hb H x y k1 d1 k2 d2 P Q A r1 r2 t q
 unfold Lz at t
 split at t
 ·obtain⟨c1,xs,e1,o1,h1,rs1⟩:=r1.cW
  obtain⟨c2,ys,e2,o2,h2,rs2⟩:=r2.cW
  subst e1 e2
  have h24:=õ
  refine⟨c1,c2,xs,ys,rfl,rfl,h1,h2,by rw[rs1.length,rs2.length];omega,λl hl=>?_⟩
  obtain⟨k3,i3,nw⟩:=A.new hl (.lst (xs++ys))
  have j:=dJ k1 k2
  have m:∀{k vs ds},k.le (k1.join k2)=true->Rps (okK p H0 own Hb k) H vs ds->Rps (okK p H0 own Hb (k1.join k2)) H vs ds:=λhk z=>z.mono (λa o=>bK A hk o) (λ_ _ _ e=>e) λ_ _ e=>e
  obtain⟨k',hk',rk'⟩:=jB A (bF A k3 ((m j.1 rs1).app (m j.2 rs2))) nw aB t.2
  exact q _ _ _ _ hk' k3 i3 rk'
 ·exact t.elim
def G4(ha:PD X a ta)(hb:PD X b tb):PD X (.BinOp a .Add b pos) (t2 Lz ta tb):=jQ zp Hw ha hb
def Ja:G2:=λk1 d1 k2 d2 P=>match d1,d2 with
 |.tuple ds,.tuple es=>ds.length+es.length<=1000/\P (norm (k1.join k2) (.tuple (ds++es))) (.tuple (ds++es))
 |_,_=>False
def Hv:Ok2 Ja Nm:=by
 intro p H0 own Hb H x y k1 d1 k2 d2 P Q A r1 r2 t q
 unfold Ja at t
 split at t
 ·obtain⟨c1,xs,e1,h1,rs1⟩:=r1.fQ
  obtain⟨c2,ys,e2,h2,rs2⟩:=r2.fQ
  subst e1 e2
  have h24:=õ
  refine⟨c1,c2,xs,ys,rfl,rfl,h1,h2,by rw[rs1.length,rs2.length];omega,λl H' sm hl=>?_⟩
  have K:Kp p H H':=Kp.of sm
  have j:=dJ k1 k2
  have m:∀{k vs ds},k.le (k1.join k2)=true->Rps (okK p H0 own Hb k) H vs ds->Rps (okK p H0 own Hb (k1.join k2)) H vs ds:=λhk z=>z.mono (λa o=>bK A hk o) (λ_ _ _ e=>e) λ_ _ e=>e
  exact q _ _ _ _ t.2 K (p.mono H H' A.pen λb o _ e=>sm b o e) (aR (.tup hl (bF A K ((m j.1 rs1).app (m j.2 rs2)))))
 ·exact t.elim
def RX(ta:DE):DE:=λρ P=>ta ρ λ_ d=>match d with
 |.int i=>P .imm (.int (-i))
 |_=>False
def nj(ha:PD X a ta):PD X (.UnaryOp .USub a pos) (RX ta):=PE.wk (S6 Oj ha) (by
 rintro σ H Q ⟨p,H0,own,ρ,P,E,t,q⟩
 refine⟨p,H0,own,ρ,_,E,t,λk d v H' h A r=>?_⟩
 cases d with
 |int i=>exact⟨i,r.int',q _ _ _ _ h A (.int _)⟩
 |_=>exact h.elim)
def Ri(i:Nat)(te:DE):DS:=λP ρ=>match ρ[i]? with
 |some (.dw r (.list ds))=>te ρ λk d=>match d with
  |.list es=>(k.le .new || cD es)=true/\ds.length+es.length<=1000/\P.nx ((forget r ρ).set i (.dw r (.list (ds++es))))
  |_=>False
 |_=>False
def BZ{te:DE}{ρ:List Sl}{R:Kd->D->Prop}(t:te ρ R):jr te vY ρ (λks=>∃k d,ks=[(k,d)]/\R k d):=by
 show te ρ λk d=>∃k' d',[((k,d):Kd×D)]=[(k',d')]/\R k' d'
 have e:(λk d=>∃k' d',[((k,d):Kd×D)]=[(k',d')]/\R k' d')=R:=by
  funext k d
  apply propext
  constructor
  ·rintro⟨k',d',e,h⟩
   cases e
   exact h
  ·exact λh=>⟨k,d,rfl,h⟩
 rw[e]
 exact t
def wH{ok ok':Addr->Prop}{H H2:Hp}(f:∀{w:V}{d:D},Rp ok H w d->Rp ok' H2 w d):∀{vs:List V}{ds:List D},Rps ok H vs ds->Rps ok' H2 vs ds
 |_,_,.nil=>.nil
 |_,_,.cons h t=>.cons (f h) (wH f t)
end
variable [Gr]
structure Cal(P:Program)(w:World)(K:Ô)(mg:Str->Option Value)(base:Heap)(k:Nat)(x:Str)(ps:List Str)(sp:Sp):Prop where
 ex:∃f fd,FnOk P w K mg base CX0 k f fd ps sp/\Binds K fd ps []/\W.keepIn K (.ref f)=true/\mg x=some (.ref f)
section
variable {X:Cx}{k j:Nat}{x:Str}{ps:List Str}{e:Expr}{es:List Expr}{t:DA}{p pos pq:Pos}
def pcS{sp:Sp}{ta:TA}(C:Cal X.prog X.w X.K X.mg X.base k x ps sp)(hr:Room j X.A)(ha:PA X (e::es) ta)(hk:k<=j)(hg:Gl X x)(hdb:zB x)(he:zS X e es)(hpl:zP X pos es) :
  PE X (.Call (.Name x p) (e::es) [] pos) (Ax sp [] E0 ta):=by
 obtain⟨f,fd,F,b,kp,m⟩:=C.ex
 exact Ks F (hr.mono hk) hg m kp b .nil S9 ha hdb he hpl
def dc{f:List D->(D->Prop)->Prop}(C:Cal X.prog X.w X.K X.mg X.base k x ps (spD f))(hr:Room j X.A)(ha:PDA X (e::es) t)(hk:k<=j:=by decide)(hg:Gl X x:=by rfl)(hdb:zB x:=by decide)(he:zS X e es:=by rfl)(hpl:zP X pos es:=by rfl) :
  PD X (.Call (.Name x p) (e::es) [] pos) (tFn f t):=PE.wk (pcS C hr ha hk hg hdb he hpl) Le
def dv(i:Nat){x:Str}{pos:Pos}(hN:X.N[i]?=some x:=by rfl)(hv:Vis X.env.scope x:=by first|exact Œ rfl|exact Or.inr (Œ rfl)|exact Or.inr (Or.inr rfl))(hd:zB x:=by decide)(hcd:(x == ("__classdict__":Str))=false:=by decide):PD X (.Name x pos) (tV i):=PK (pv i hN hv hd hcd)
end
structure Bn(mg:Str->Option Value):Prop where
 isinstance:mg "isinstance"=none
 int:mg "int"=none
 bool:mg "bool"=none
 tuple:mg "tuple"=none
 list:mg "list"=none
 len:mg "len"=none
 all:mg "all"=none
 min:mg "min"=none
 max:mg "max"=none
 sorted:mg "sorted"=none
 range:mg "range"=none
 abs:mg "abs"=none
def boot_all:bootBuiltins "all"=some (.builtin "all"):=by decide +kernel
def FN{i:Nat}{ρ:List Sl}{d:D}{P:DK}(h:ρ[i]?=some (aD d))(q:∀k,P k d):tV i ρ P:=by
 unfold tV
 rw[h]
 unfold aD
 by_cases hi:cI d=true
 ·rw[if_pos hi];exact q _
 ·rw[if_neg hi];exact q _
def Lf{f:List D->(D->Prop)->Prop}{n:Nat}(hn:∀ds P,f ds P->ds.length=n:=by intro _ _ h;repeat (first|(obtain⟨rfl,_⟩:=h;rfl)|obtain⟨_,h⟩:=h)):∀vs H Q E,spD f vs H Q E->vs.length=n:=λvs H Q E h=>by
 obtain⟨ds,P,r,t,_⟩:=h
 rw[r.length]
 exact hn ds P t
def aM{f:List D->(D->Prop)->Prop}{T:DS}{N:List Str}{vs:List V}{H:Hp}{Q:VK}{E:XK}(h:spD f vs H Q E)(body:∀ds P,f ds P->∃ρ,ds.map aD++Í (N.length - ds.length) .any=ρ/\T { nx:=λ_=>P .none,rt:=P } ρ)(g:Gr.G g8 H:=by trivial):tH T { nx:=λ_ H'=>Q .non H',rt:=Q } (L2.start N vs) H :=
 vO h (λds P t=>by
  obtain⟨ρ,e,q⟩:=body ds P t
  rw[e]
  exact q) g
def aA(n:Int)(us:List Tie):D:=.tuple [.int n,.tuple (us.map pD)]
def jE(n:Int)(us:List Tie):cI (aA n us)=true:=by
 show(cI (.int n)&&(cD (us.map pD)&&true))=true
 rw[nF]
 rfl
def Mx(n:Int)(us:List Tie):aD (aA n us)=.im (aA n us):=if_pos (jE n us)
def isW:D->Bool
 |.int _=>true
 |_=>false
def jZ(ds:List D)(P:D->Prop):Prop:=∃d,ds=[d]/\P (.bool (isW d))
def bV(m:Int):D->Bool
 |.int i=>decide (0<=i/\i<m)
 |_=>false
def zZ(ds:List D)(P:D->Prop):Prop:=∃m d,ds=[.int m,d]/\P (.bool (bV m d))
variable [Gr]
def LR{α β:Type}{ds:List α}{i:Nat}{d:α}(p:α->Bool)(f:α->β)(h:ds[i]?=some d):((ds.take (i+1)).filter p).map f=((ds.take i).filter p).map f++(if p d=true then [f d] else []):=by
 rw[Ē,h,ž,î]
 congr 1
 by_cases hp:p d=true
 ·simp[hp]
 ·simp[hp]
def vp{α β:Type}{ds:List α}{i:Nat}{d:α}(f:α->β)(h:ds[i]?=some d):(ds.take (i+1)).map f=(ds.take i).map f++[f d]:=by
 rw[Ē,h,î]
 rfl
def jC{α β:Type}{l:List α}{g:α->β}{i:Nat}{d:β}(h:(l.map g)[i]?=some d):∃x,l[i]?=some x/\g x=d:=by
 rw[å] at h
 cases e:l[i]? with
 |none=>rw[e] at h;cases h
 |some x=>rw[e] at h;exact⟨x,rfl,á h⟩
def take_all{α:Type}(l:List α){n:Nat}(h:l.length<=n):l.take n=l:=List.take_of_length_le h
def dI:∀l:List Int,(l.map Å).all okD=true
 |[]=>rfl
 |x::l=>by
  rw[û,Ő,dI l]
  rfl
def any_ints(x:Int):∀l:List Int,((l.map Å).any λe=>ą e (.int x))=decide (x∈l)
 |[]=>rfl
 |y::l=>by
  rw[û,List.any_cons,any_ints x l]
  have e:ą (.int y) (.int x)=(y == x):=rfl
  rw[e,Ģ,Bool.or_eq_true,beq_iff_eq,decide_eq_true_eq,decide_eq_true_eq,è]
  constructor
  ·rintro(h|h)
   ·exact .inl h.symm
   ·exact .inr h
  ·rintro(h|h)
   ·exact .inl h.symm
   ·exact .inr h
def Ef(lo:Int)(n:Nat):(bA lo n).length=n:=by unfold bA;simp
def bW{lo:Int}{n i:Nat}{d:D}(h:(bA lo n)[i]?=some d):i<n/\d=.int (lo+((i:Nat):Int)):=by
 unfold bA at h
 obtain⟨x,hx,e⟩:=jC h
 obtain⟨h1,h2⟩:=Ý.mp hx
 have h3:i<n:=by simpa using h1
 have h4:x=i:=by simpa using h2.symm
 subst h4
 exact⟨h3,e.symm⟩
variable [Gr]
section
variable {X:Cx}{pos p2:Pos}{a b e:Expr}{ta tb te:DE}
def Rps.rep{ok:Addr->Prop}{H:Hp}{vs:List V}{ds:List D}(r:Rps ok H vs ds):∀k:Nat,Rps ok H (Í k vs).flatten (Í k ds).flatten
 |0=>.nil
 |k+1=>by
  rw[Ń,Ń,ŧ,ŧ]
  exact r.app (Rps.rep r k)
def Q6:G2:=λk1 d1 _ d2 P=>match d1,d2 with
 |.list ds,.int k=>0<=k/\k<1000/\ds.length * k.toNat<=1000/\newP k1 (Í k.toNat ds).flatten λk'=>P k' (.list (Í k.toNat ds).flatten)
 |_,_=>False
def Nr:Ok2 Q6 Sx:=by
 intro p H0 own Hb H x y k1 d1 k2 d2 P Q A r1 r2 t q
 unfold Q6 at t
 split at t
 ·rename_i ds k
  obtain⟨c1,xs,e1,o1,h1,rs1⟩:=r1.cW
  subst e1
  have h24:=õ
  refine⟨c1,k,xs,rfl,r2.int',h1,by omega,by omega,by rw[rs1.length];omega,λl hl=>?_⟩
  obtain⟨k3,i3,nw⟩:=A.new hl (.lst (Í k.toNat xs).flatten)
  obtain⟨k',hk',rk'⟩:=jB A (bF A k3 (rs1.rep k.toNat)) nw aB t.2.2.2
  exact q _ _ _ _ hk' k3 i3 rk'
 ·exact t.elim
end
def Bw(ns:List Int):∀k,k<=ns.length->PySem.preSum (λi=>ns.getD i 0) k=(ns.take k).sum
 |0,_=>rfl
 |k+1,h=>by
  show PySem.preSum _ k+ns.getD k 0=_
  have hk:k<ns.length:=by omega
  have e:ns.take (k+1)=ns.take k++[ns[k]]:=by rw[Ē,È hk];rfl
  have e2:ns.getD k 0=ns[k]:=by rw[ò,È hk];rfl
  rw[Bw ns k (by omega),e,e2,List.sum_append,ź,List.sum_nil,Int.add_zero]
section
variable {X:Cx}{pos:Pos}{a:Expr}{t:DA}
variable [Gr]
def boot_sum:bootBuiltins "sum"=some (.builtin "sum"):=by decide +kernel
end
variable [Gr]
section
variable {X:Cx}{pos:Pos}{a b e:Expr}{ta tb te:DE}
def qw{x:Str}{i:Int}{u:Value}{ps:Pos}(hg:Gl X x)(hm:X.mg x=some u)(r:RelV (.int i) u)(hd:zB x:=by decide):PD X (.Name x ps) (tK (.int i)):=iW (Kq hg hm r hd) λ_=>.int i
def JV(te:DE):DE:=λρ P=>te ρ λ_ d=>P .imm (.bool (tyD d == "list" || tyD d == "tuple"))
def QV{K:Ô}(d:D):W.kitAny K (.type (tyD d)) [.type "list",.type "tuple"]=some (tyD d == "list" || tyD d == "tuple"):=by
 cases d <;> rfl
def uY{x y:Str}{ps pt pt' pp:Pos}{kk:Nat}(hm:X.mg "isinstance"=none)(he:PD X e te)(hT:PE X (.Name x pt) (tC (.ty "list")))(hT':PE X (.Name y pt') (tC (.ty "tuple")))(hg:Gl X "isinstance":=by rfl)(h1:starEach [e,.Tuple [.Name x pt,.Name y pt'] kk pp] X.env=(false,eval e X.env)::starEach [.Tuple [.Name x pt,.Name y pt'] kk pp] X.env:=by rfl)(h2:starEach [.Tuple [.Name x pt,.Name y pt'] kk pp] X.env=(false,eval (.Tuple [.Name x pt,.Name y pt'] kk pp) X.env)::starEach [] X.env:=by rfl)(h3:starEach [.Name x pt,.Name y pt'] X.env=(false,eval (.Name x pt) X.env)::starEach [.Name y pt'] X.env:=by rfl)(h4:starEach [.Name y pt'] X.env=(false,eval (.Name y pt') X.env)::starEach [] X.env:=by rfl)(hpl:(backTo pos (starEach [.Tuple [.Name x pt,.Name y pt'] kk pp] X.env)).any (·.1)=false:=by rfl) :
  PD X (.Call (.Name "isinstance" ps) [e,.Tuple [.Name x pt,.Name y pt'] kk pp] [] pos) (JV te):=PE.wk (eG vU hg hm boot_isinstance (dz he (dz (yQ (dz hT (dz hT' cL h4) h3)) cL h2) h1) (by decide) (by decide) h1 hpl) (by
 rintro σ H Q ⟨p,H0,own,ρ,P,E,t,q⟩
 refine⟨p,H0,own,ρ,_,E,t,λk d v H' h A r=>?_⟩
 refine⟨by show 2<=sizeLine;decide,λl hl=>?_⟩
 obtain⟨k2,i2,nw⟩:=A.new hl (.tup [.ty "list",.ty "tuple"])
 have r2:=iJ A k2 r
 have fin:TyOf X.K (upd H' l (.tup [.ty "list",.ty "tuple"])) v (.type (tyD d))->∃x p c1 c2 t b,[v,V.ref l]=[x,.ref p]/\TyOf X.K (upd H' l (.tup [.ty "list",.ty "tuple"])) x t/\SqT X.K (upd H' l (.tup [.ty "list",.ty "tuple"])) p [.ty c1,.ty c2]/\W.kitAny X.K t [.type c1,.type c2]=some b/\Q (.bl b) (upd H' l (.tup [.ty "list",.ty "tuple"])):=λty =>
  ⟨v,l,"list","tuple",_,_,rfl,ty,SqT.of aB,QV d,q _ _ _ _ h (A.go k2 i2) (.bl _)⟩
 show ∃x p c1 c2 t b,_/\_
 cases r2 with
 |non=>exact fin .non
 |bl b=>exact fin (.bl b)
 |int i=>exact fin (.int i)
 |str x=>exact fin (.str x)
 |lst o hh rr=>exact fin (.lst hh)
 |tup hh rr=>exact fin (.tup hh)
 |dct o hh rr=>exact fin (.dK hh))
end
variable [Gr]
section
variable {X:Cx}{pos:Pos}{a b e:Expr}{ta tb te:DE}
def Qz:D->Bool
 |.none=>true
 |_=>false
def I9:G2:=λ_ d1 _ d2 P=>match d2 with
 |.none=>P .imm (.bool (Qz d1))
 |_=>False
def Ka{ok:Addr->Prop}{H:Hp}{v:V}{d:D}(r:Rp ok H v d):decide (v=.non)=Qz d:=by
 cases r <;> simp[Qz]
def Nu:Ok2 I9 (λx y H Q=>y=.non/\Q (.bl (decide (x=.non))) H):=by
 intro p H0 own Hb H x y k1 d1 k2 d2 P Q A r1 r2 t q
 unfold I9 at t
 split at t
 ·cases r2
  rw[Ka r1]
  exact⟨rfl,q _ _ _ _ t Kp.refl A.pen (.bl _)⟩
 ·exact t.elim
def PX(ha:PD X a ta)(hb:PD X b tb):PD X (.Compare a [.Is] [b] pos) (t2 I9 ta tb):=gF Hf Nu ha hb (bN _)
def uQ(ha:PD X a ta)(hb:PD X b tb):PDT X (.Compare a [.Is] [b] pos) (dH (t2 I9 ta tb)):=fB Hf Nu ha hb (bN _)
end
variable [Gr]
section
variable {X:Cx}{pos:Pos}{st:Stmt}
end
@[reducible] def grX(H:Hp):Gr:=⟨λp H0=>p=g8/\H0=H⟩
structure Cal1(P:Program)(w:World)(K:Ô)(mg:Str->Option Value)(base:Heap)(k:Nat)(x:Str)(ps:List Str)(sp:Sp):Prop where
 ex:∃f fd,FnOk P w K mg base (CX1 P w) k f fd ps sp/\Binds K fd ps []/\W.keepIn K (.ref f)=true/\mg x=some (.ref f)
section
variable {X:Cx}{E:XK}{k j:Nat}{x:Str}{ps:List Str}{e:Expr}{es:List Expr}{p pos:Pos}
end
variable [Gr]
def boot_repr:bootBuiltins "repr"=some (.builtin "repr"):=by decide +kernel
section
variable {X:Cx}{pos:Pos}{a b e:Expr}{ta tb te:DE}{t:DA}
end
end Dl
namespace L2
open PySem PyProof.Rows
def once(ns:List Int):List Int:=ns.foldl step_dedup []
section
variable {X:Cx}
end
end L2
namespace Dl
open PySem L2 PyProof.Rows
variable [Gr]
section
variable {X:Cx}{pos pos':Pos}{a:Expr}{t:DA}
end
variable [Gr]
section
variable {X:Cx}{pos p2:Pos}{a b c e:Expr}{es:List Expr}{ta tb tc te:DE}{t:DA}{st:Stmt}
def OpR.or{f:Value->Value->Sem Value}{r r':R2}(h:OpR X f r)(h':OpR X f r'):OpR X f (λx y H Q=>r x y H Q\/r' x y H Q):=by
 intro pins s σ H x y v u Q I rx ry q
 rcases q with q|q
 ·exact h pins s σ H x y v u Q I rx ry q
 ·exact h' pins s σ H x y v u Q I rx ry q
def bM.or{f:Value}{r r':List V->Hp->VK->Prop}(h:bM X f r)(h':bM X f r'):bM X f (λx H Q=>r x H Q\/r' x H Q):=by
 intro pins s σ H x v Q I rx q
 rcases q with q|q
 ·exact h pins s σ H x v Q I rx q
 ·exact h' pins s σ H x v Q I rx q
def G3(ha:PD X a ta)(hb:PD X b tb)(hs:mO b:=by exact λ_ _=>rfl):PD X (.Subscript a b pos) (t2 gIx ta tb):=PE.wk (fu (IxR.or cH zO) ha hb hs) (lQ (by
 intro p H0 own Hb H x y k1 d1 k2 d2 P Q A r1 r2 t q
 unfold gIx at t
 split at t
 ·rename_i ds i
  obtain⟨d,hd,t⟩:=t
  obtain⟨c,vs,rfl,o,hc,rs⟩:=r1.cW
  obtain⟨v,hv,rv⟩:=rs.atI hd
  exact .inl ⟨c,vs,i,v,rfl,r2.int',SqL.of hc,hv,q _ _ _ _ t Kp.refl A.pen (aR rv)⟩
 ·rename_i ds i
  obtain⟨d,hd,t⟩:=t
  obtain⟨c,vs,rfl,hc,rs⟩:=r1.fQ
  obtain⟨v,hv,rv⟩:=rs.atI hd
  exact .inr ⟨c,vs,i,v,rfl,r2.int',SqT.of hc,hv,q _ _ _ _ t Kp.refl A.pen (aR rv)⟩
 ·exact t.elim))
def IV:G2:=λk1 d1 k2 d2 P=>match d1 with
 |.int i=>(match d2 with
  |.int j=>P .imm (.int (i+j))
  |_=>False)
 |.list ds=>Lz k1 (.list ds) k2 d2 P
 |.tuple ds=>Ja k1 (.tuple ds) k2 d2 P
 |_=>False
def uU(ha:PD X a ta)(hb:PD X b tb):PD X (.BinOp a .Add b pos) (t2 IV ta tb):=jQ (OpR.or dO (OpR.or zp BX)) (by
 intro p H0 own Hb H x y k1 d1 k2 d2 P Q A r1 r2 t q
 cases d1 with
 |int i =>
  cases d2 with
  |int j=>exact .inl ⟨i,j,r1.int',r2.int',q _ _ _ _ t Kp.refl A.pen (.int _)⟩
  |_=>exact t.elim
 |list ds=>exact .inr (.inl (Hw p H0 own Hb H x y k1 _ k2 d2 P Q A r1 r2 t q))
 |tuple ds=>exact .inr (.inr (Hv p H0 own Hb H x y k1 _ k2 d2 P Q A r1 r2 t q))
 |_=>exact t.elim) ha hb
def zX:G2:=λk1 d1 k2 d2 P=>match d1 with
 |.int i=>(match d2 with
  |.int j=>M9 i j/\P .imm (.int (i * j))
  |_=>False)
 |.list ds=>Q6 k1 (.list ds) k2 d2 P
 |_=>False
def lB(ha:PD X a ta)(hb:PD X b tb):PD X (.BinOp a .Mult b pos) (t2 zX ta tb):=jQ (OpR.or dB G6) (by
 intro p H0 own Hb H x y k1 d1 k2 d2 P Q A r1 r2 t q
 cases d1 with
 |int i =>
  cases d2 with
  |int j=>exact .inl ⟨i,j,r1.int',r2.int',t.1,q _ _ _ _ t.2 Kp.refl A.pen (.int _)⟩
  |_=>exact t.elim
 |list ds=>exact .inr (Nr p H0 own Hb H x y k1 _ k2 d2 P Q A r1 r2 t q)
 |_=>exact t.elim) ha hb
def jJ(neg:Bool):G2:=λk1 d1 k2 d2 P=>match scD d1 d2 with
 |some b=>P .imm (.bool (if neg then !b else b))
 |none=>T5 neg k1 d1 k2 d2 P
def Ht{K:Ô}:Ok2 (jJ false) (λx y H Q=>rEq x y H Q\/Gp K false x y H Q):=by
 intro p H0 own Hb H x y k1 d1 k2 d2 P Q A r1 r2 t q
 cases e:scD d1 d2 with
 |some b =>
  have t':gEq false k1 d1 k2 d2 P:=by
   unfold jJ at t
   unfold gEq
   rw[e] at t ⊢
   exact t
  exact .inl (Vh p H0 own Hb H x y k1 d1 k2 d2 P Q A r1 r2 t' q)
 |none =>
  unfold jJ at t
  rw[e] at t
  exact .inr (Nv false p H0 own Hb H x y k1 d1 k2 d2 P Q A r1 r2 t q)
def Nt{K:Ô}:Ok2 (jJ true) (λx y H Q=>rNe x y H Q\/Gp K true x y H Q):=by
 intro p H0 own Hb H x y k1 d1 k2 d2 P Q A r1 r2 t q
 cases e:scD d1 d2 with
 |some b =>
  have t':gEq true k1 d1 k2 d2 P:=by
   unfold jJ at t
   unfold gEq
   rw[e] at t ⊢
   exact t
  exact .inl (Tg p H0 own Hb H x y k1 d1 k2 d2 P Q A r1 r2 t' q)
 |none =>
  unfold jJ at t
  rw[e] at t
  exact .inr (Nv true p H0 own Hb H x y k1 d1 k2 d2 P Q A r1 r2 t q)
def uZ(hu:X.A.units+64<cLine)(ha:PD X a ta)(hb:PD X b tb):PD X (.Compare a [.Eq] [b] pos) (t2 (jJ false) ta tb):=gF (OpR.or Hi (zm hu)) Ht ha hb (bN _)
def uW(hu:X.A.units+64<cLine)(ha:PD X a ta)(hb:PD X b tb):PD X (.Compare a [.NotEq] [b] pos) (t2 (jJ true) ta tb):=gF (OpR.or G9 (G8 hu)) Nt ha hb (bN _)
def uR(hu:X.A.units+64<cLine)(ha:PD X a ta)(hb:PD X b tb):PDT X (.Compare a [.Eq] [b] pos) (dH (t2 (jJ false) ta tb)):=fB (OpR.or Hi (zm hu)) Ht ha hb (bN _)
def uO(hu:X.A.units+64<cLine)(ha:PD X a ta)(hb:PD X b tb):PDT X (.Compare a [.NotEq] [b] pos) (dH (t2 (jJ true) ta tb)):=fB (OpR.or G9 (G8 hu)) Nt ha hb (bN _)
end
section
variable {n:Nat}{g:DG}{tt:DT}{te:DE}{ρ:List Sl}{k:Kd}{ds:List D}{R:Kd->List D->Prop}
def K7{α β:Type}(f:α->β){l:List α}{i:Nat}{x:α}(h:l[i]?=some x):(l.take (i+1)).map f=(l.take i).map f++[f x]:=by
 rw[Ē,h]
 simp
def qP{α:Type}(xs:List α)(e f:α->D)(ke:Kd)(hd:ds=xs.map e)(hl:xs.length<=1000)(step:∀x∈xs,∀(A:D->Prop) (B:Prop),A (f x)->g (norm (elC k) (e x)) (e x) (Í n .any++ρ) λρ'=>if true=true then te ρ' λk' d'=>(norm k' d').le ke=true/\A d' else B)(q:R ke (xs.map f)) :
  ds.length<=1000/\∃(ke:Kd) (Iv:Nat->List D->Prop),Iv 0 [] /\
   (∀i d ys,ds[i]?=some d->Iv i ys->g (norm (elC k) d) d (Í n .any++ρ) λρ'=>if true=true then te ρ' λk' d'=>(norm k' d').le ke=true/\Iv (i+1) (ys++[d']) else Iv (i+1) ys) /\
   ∀ys,Iv ds.length ys->R ke ys:=by
 subst hd
 refine⟨by rw[Â];exact hl,ke,λi ys=>ys=(xs.take i).map f,rfl,?_,?_⟩
 ·rintro i d ys hd rfl
  rw[å] at hd
  cases hx:xs[i]? with
  |none=>rw[hx] at hd;cases hd
  |some x =>
   rw[hx] at hd
   have hd:=á hd
   subst hd
   exact step x (Ð hx) (λd'=>(xs.take i).map f++[d']=(xs.take (i+1)).map f) _ (K7 f hx).symm
 ·rintro ys rfl
  rw[Â,ě]
  exact q
def jf{α:Type}(xs:List α)(e:α->D)(p:α->Bool)(f:α->D)(ke:Kd)(hd:ds=xs.map e)(hl:xs.length<=1000)(step:∀x∈xs,∀(A:D->Prop) (B:Prop),(p x=true->A (f x))->(p x=false->B)->g (norm (elC k) (e x)) (e x) (Í n .any++ρ) λρ'=>tt ρ' λb=>if b=true then te ρ' λk' d'=>(norm k' d').le ke=true/\A d' else B)(q:R ke ((xs.filter p).map f)) :
  ds.length<=1000/\∃(ke:Kd) (Iv:Nat->List D->Prop),Iv 0 [] /\
   (∀i d ys,ds[i]?=some d->Iv i ys->g (norm (elC k) d) d (Í n .any++ρ) λρ'=>tt ρ' λb=>if b=true then te ρ' λk' d'=>(norm k' d').le ke=true/\Iv (i+1) (ys++[d']) else Iv (i+1) ys) /\
   ∀ys,Iv ds.length ys->R ke ys:=by
 subst hd
 refine⟨by rw[Â];exact hl,ke,λi ys=>ys=((xs.take i).filter p).map f,rfl,?_,?_⟩
 ·rintro i d ys hd rfl
  rw[å] at hd
  cases hx:xs[i]? with
  |none=>rw[hx] at hd;cases hd
  |some x =>
   rw[hx] at hd
   have hd:=á hd
   subst hd
   have sn:((xs.take (i+1)).filter p).map f=((xs.take i).filter p).map f++if p x=true then [f x] else []:=by
    rw[Ē,hx,ž,î]
    cases hp:p x <;> simp[hp]
   refine step x (Ð hx) (λd'=>((xs.take i).filter p).map f++[d']=((xs.take (i+1)).filter p).map f) _ (λh=>?_) (λh=>?_)
   ·rw[sn,if_pos h]
   ·show _=_
    rw[sn,h,if_neg Ì,Ā]
 ·rintro ys rfl
  rw[Â,ě]
  exact q
end
section
variable {g:DG}{tb:DS}{k:Kd}{ds:List D}{ρ:List Sl}{P:DEnds}
def LQ{α:Type}(xs:List α)(e:α->D)(ok:List Sl->Prop)(hd:ds=xs.map e)(hk:k.le .shr=true)(h0:ok ρ)(step:∀x∈xs,∀ρ',ok ρ'->g (norm (elK k) (e x)) (e x) ρ' λρ2=>tb { nx:=ok,ct:=ok,bk:=P.nx,rt:=P.rt } ρ2)(q:∀ρ',ok ρ'->P.nx ρ') :
  k.le .shr=true/\∃Iv:Nat->List Sl->Prop,Iv 0 ρ /\
   (∀i d ρ',ds[i]?=some d->Iv i ρ'->g (norm (elK k) d) d ρ' λρ2=>tb { nx:=Iv (i+1),ct:=Iv (i+1),bk:=P.nx,rt:=P.rt } ρ2)/\∀ρ',Iv ds.length ρ'->P.nx ρ':=by
 subst hd
 refine⟨hk,λ_ ρ'=>ok ρ',h0,?_,q⟩
 intro i d ρ' hd h
 rw[å] at hd
 cases hx:xs[i]? with
 |none=>rw[hx] at hd;cases hd
 |some x =>
  rw[hx] at hd
  have hd:=á hd
  subst hd
  exact step x (Ð hx) ρ' h
end
variable [Gr]
section
variable {X:Cx}{scope:Scope}{tg iter elt:Expr}{ifs:List Expr}{pos:Pos}{ti:DI}{g:DG}{tt:DT}{te:DE}
def Pj(own:List Str){i:Nat}{y:Str}{py spos:Pos}(hc:X.calm=true)(hN:X.N.Nodup)(hiN:X.N[i]?=some y)(hx:Loc X.env.scope y)(hi:PDI X tg iter ti)(hg:∀c,PDG (X.comp own scope c) tg g)(ht:∀c,Aq (X.comp own scope c) ifs tt)(he:∀c,PD (X.comp own scope c) elt te)(hsw:swapsWith (.ListComp elt [⟨tg,iter,ifs,0⟩] scope pos) (some (.Name y py)) spos.line X.env=pure true:=by rfl)(hk:eX X.env scope X.N=true:=by rfl)(hs:zF X iter:=by intro _;rfl)(hf:zL X y:=by first|exact .inl rfl|exact .inr rfl|assumption) :
  PS X (.Assign [.Name y py] (.ListComp elt [⟨tg,iter,ifs,0⟩] scope pos) spos) (rF (bT (dLC own.length ti g tt te)) (jh i)):=PS.wk' (SQ own hc hN hiN hx hi hg ht he hsw hk hs hf) λD σ H q=>jD σ H _ q
def Kg(own M:List Str){i:Nat}{y:Str}{py spos:Pos}(hc:X.calm=true)(hN:X.N.Nodup)(hiN:X.N[i]?=some y)(hx:Loc X.env.scope y)(hi:PDI X tg iter ti)(hg:∀c,PDG (X.aO own M scope c) tg g)(ht:∀c,Aq (X.aO own M scope c) ifs tt)(he:∀c,PD (X.aO own M scope c) elt te)(hsw:swapsWith (.ListComp elt [⟨tg,iter,ifs,0⟩] scope pos) (some (.Name y py)) spos.line X.env=pure true:=by rfl)(hk:aU X.env scope X.N M=true:=by rfl)(hs:zF X iter:=by intro _;rfl)(hf:zL X y:=by first|exact .inl rfl|exact .inr rfl|assumption) :
  PS X (.Assign [.Name y py] (.ListComp elt [⟨tg,iter,ifs,0⟩] scope pos) spos) (rF (bT (dLC own.length ti g tt te)) (jh i)):=PS.wk' (Gw own M hc hN hiN hx hi hg ht he hsw hk hs hf) λD σ H q=>jD σ H _ q
end
section
variable {n:Nat}{g:DG}{tt:DT}{te:DE}{ρ:List Sl}{k:Kd}{ds:List D}{R:Kd->List D->Prop}
end
variable [Gr]
section
variable {X:Cx}{pos:Pos}{st:Stmt}{rest:List Stmt}{te tj:DE}{ti:DI}{t:DS}
def Ab(js:List Nat)(t:DS):DS:=λP ρ=>t P (js.foldl (λρ j=>ρ.set j .any) ρ)
def EnvD.drops{p:Pn}{H0 H:Hp}{own:Addr->Option Nat}{σ:L2.St}:∀(js:List Nat) {ρ:List Sl},EnvD p H0 own σ H ρ->EnvD p H0 own σ H (js.foldl (λρ j=>ρ.set j .any) ρ)
 |[],_,E=>E
 |_::js,_,E=>EnvD.drops js E.drop
def qY(js:List Nat)(h:mQ X rest t):mQ X rest (Ab js t):=PSs.wk' h (by
 rintro Q σ H ⟨p,H0,own,ρ,P,E,q,w⟩
 exact⟨p,H0,own,_,P,E.drops js,q,w⟩)
def Ku:PD X (.Dict [] [] pos) (λ_ P=>P .new (.dict [])):=PE.wk GR (by
 rintro σ H Q ⟨p,H0,own,ρ,P,E,t,q⟩
 have A:=E.at
 exact λd hd=>let ⟨k2,i2,nw⟩:=A.new hd (.dK []);q _ _ _ _ t (A.go k2 i2) (.dct nw aB .nil))
end
@[reducible] def grL(K:Ô)(sc:Addr)(ns:List Int):Gr:=⟨λp H0=>SqL K H0 sc (ns.map V.int)/\∀b,p.fp b->H0 b=none⟩
section
variable {X:Cx}{k1 k2 j:Nat}{x y z:Str}{ps1 ps2:List Str}{e:Expr}{es1 es2:List Expr}{p1 p2 p3 pos pos1:Pos}{K:Ô}{sc:Addr}{ns:List Int}{C:Pn->Prop}{pre:List D->Prop}{g:List D->(D->Prop)->Prop}{i:Nat}
end
variable [Gr]
section
variable {X:Cx}{pos pos':Pos}{a b:Expr}{t:DA}
def J7{ok:Addr->Prop}{H:Hp}(lo hi:Int):Rps ok H (oM lo hi) (bA lo (hi - lo).toNat):=by
 unfold oM bA
 exact Rps.ofMap (λx=>.int _) _
def Ma{p:Pn}{H0 H H1:Hp}{own:Addr->Option Nat}{P:DK}{Q:VK}{lo hi:Int}(A:At p H0 own H H1)(h:P .new (.list (bA lo (hi - lo).toNat)))(b:-1000<=lo/\lo<=1000/\-1000<=hi/\hi<=1000)(q:∀k d v H',P k d->At p H0 own H H'->Rp (okK p H0 own H k) H' v d->Q v H')(r:Addr)(hr:H1 r=none) :
  ∃p' lo' hi',[V.ref r]=[.ref p']/\upd H1 r (.rng lo hi) p'=some (.rng lo' hi')/\(-1000<=lo'/\lo'<=1000/\-1000<=hi'/\hi'<=1000)/\∀l,upd H1 r (.rng lo hi) l=none->Q (.ref l) (upd (upd H1 r (.rng lo hi)) l (.lst (oM lo' hi'))):=by
 refine⟨r,lo,hi,rfl,aB,b,λl hl=>?_⟩
 obtain⟨k2,i2,_⟩:=A.new hr (.rng lo hi)
 have A2:=A.go k2 i2
 obtain⟨k3,i3,nw⟩:=A2.new hl (.lst (oM lo hi))
 exact q _ _ _ _ h (A2.go k3 i3) (.lst nw aB (J7 lo hi))
def RZ(t:DA):DE:=λρ P=>t ρ λks=>match ks with
 |[(_,.int j)]=>(-1000<=j/\j<=1000)/\P .new (.list (bA 0 (j - 0).toNat))
 |_=>False
def cR{ps ps':Pos}(hc:X.calm=true)(hml:X.mg "list"=none)(hmr:X.mg "range"=none)(ha:PDA X [a] t)(hgl:Gl X "list":=by rfl)(hgr:Gl X "range":=by rfl)(he:zS X a []:=by rfl)(hpl:(backTo pos' (starEach [] X.env)).any (·.1)=false:=by rfl)(he2:starEach [.Call (.Name "range" ps') [a] [] pos'] X.env=(false,eval (.Call (.Name "range" ps') [a] [] pos') X.env)::starEach [] X.env:=by rfl)(hpl2:zP X pos []:=by rfl) :
  PD X (.Call (.Name "list" ps) [.Call (.Name "range" ps') [a] [] pos'] [] pos) (RZ t):=PE.wk (fY (jU hc) hgl hml boot_list (dz (fY uf hgr hmr boot_range ha (by decide) (by decide) he hpl) cL he2) (by decide) (by decide) he2 hpl2) (by
 rintro σ H Q ⟨p,H0,own,ρ,P,E,t,q⟩
 refine⟨p,H0,own,ρ,_,E,t,λks vs H1 h A rk=>?_⟩
 split at h
 ·rename_i k j
  obtain⟨v,rfl,r'⟩:=eE rk
  have e:=Rp.int' r'
  subst e
  exact⟨j,rfl,Ma A h.2 ⟨by omega,by omega,h.1.1,h.1.2⟩ q⟩
 ·exact h.elim)
end
variable [Gr]
mutual
inductive Tm where
 |int (i:Int)
 |neg (i:Int)
 |bl (b:Bool)
 |non
 |str (s:Str)
 |var (i:Nat)
 |lst (ts:Tms)
 |tup (ts:Tms)
 |dct
inductive Tms where
 |nil
 |cons (t:Tm) (ts:Tms)
end
def Oi(sc:Scope)(x:Str):Bool:=sc.names.lookup x == some .local || sc.names.lookup x == some .cell || sc.names.lookup x == some .free
def JQ{sc:Scope}{x:Str}(h:Oi sc x=true):Vis sc x:=by
 unfold Oi at h
 rw[Bool.or_eq_true,Bool.or_eq_true,beq_iff_eq,beq_iff_eq,beq_iff_eq] at h
 rcases h with (h|h)|h
 ·exact .inl h
 ·exact .inr (.inl h)
 ·exact .inr (.inr h)
mutual
def okT(N:List Str)(sc:Scope):Tm->Expr->Bool
 |.int i,.Constant (.int j) _ _=>i == j
 |.neg i,.UnaryOp .USub (.Constant (.int j) _ _) _=>i == j
 |.bl b,.Constant (.bool c) _ _=>b == c
 |.non,.Constant .none _ _=>true
 |.str s,.Constant (.str u) _ _=>s == u
 |.var i,.Name x _=>N[i]? == some x&&(Oi sc x&&(!(x == ("__debug__":Str))&&!(x == ("__classdict__":Str))))
 |.lst ts,.List es _=>jX N sc ts es
 |.tup ts,.Tuple es _ _=>jX N sc ts es
 |.dct,.Dict [] [] _=>true
 |_,_=>false
def jX(N:List Str)(sc:Scope):Tms->List Expr->Bool
 |.nil,[]=>true
 |.cons t ts,e::es=>okT N sc t e&&jX N sc ts es
 |_,_=>false
end
mutual
def evT(ρ:List Sl):Tm->Option (Kd×D)
 |.int i=>some (.imm,.int i)
 |.neg i=>some (.imm,.int (-i))
 |.bl b=>some (.imm,.bool b)
 |.non=>some (.imm,.none)
 |.str s=>some (.imm,.str s)
 |.var i=>match ρ[i]? with
  |some (.im d)=>some (.imm,d)
  |some (.sh d)=>some (.shr,d)
  |some (.sn d)=>some (.snw,d)
  |some (.dw r d)=>some (.reg r,d)
  |_=>none
 |.lst ts=>match jj ρ ts with
  |some ks=>some ((joins ks).join .new,.list (ks.map (·.2)))
  |none=>none
 |.tup ts=>match jj ρ ts with
  |some ks=>some (norm (joins ks) (.tuple (ks.map (·.2))),.tuple (ks.map (·.2)))
  |none=>none
 |.dct=>some (.new,.dict [])
def jj(ρ:List Sl):Tms->Option (List (Kd×D))
 |.nil=>some []
 |.cons t ts=>match evT ρ t,jj ρ ts with
  |some k,some ks=>some (k::ks)
  |_,_=>none
end
mutual
def smT:Tm->Bool
 |.lst ts=>jH 1000 ts
 |.tup ts=>jH 1000 ts
 |_=>true
def jH:Nat->Tms->Bool
 |_,.nil=>true
 |n+1,.cons t ts=>smT t&&jH n ts
 |0,.cons _ _=>false
end
def Ou(tm:Tm):DE:=λρ P=>∃k d,evT ρ tm=some (k,d)/\P k d
def VD(ts:Tms):DA:=λρ P=>∃ks,jj ρ ts=some ks/\P ks
section
variable {X:Cx}{e:Expr}{es:List Expr}
def PD.wk{t t':DE}(h:PD X e t)(w:∀ρ P,t' ρ P->t ρ P):PD X e t':=PE.wk h (by
 rintro σ H Q ⟨p,H0,own,ρ,P,E,t,q⟩
 exact⟨p,H0,own,ρ,P,E,w _ _ t,q⟩)
def PDA.wk{t t':DA}(h:PDA X es t)(w:∀ρ P,t' ρ P->t ρ P):PDA X es t':=PA.wk h (by
 rintro σ H Q ⟨p,H0,own,ρ,P,E,t,q⟩
 exact⟨p,H0,own,ρ,P,E,w _ _ t,q⟩)
def Aa{ρ:List Sl}:∀{ts:Tms}{ks:List (Kd×D)}{n:Nat},jH n ts=true->jj ρ ts=some ks->ks.length<=n
 |.nil,ks,n,_,e=>by
  simp only[jj] at e
  cases e
  exact à _
 |.cons t ts,ks,0,h,e=>by simp[jH] at h
 |.cons t ts,ks,n+1,h,e=>by
  simp only[jH,Ê] at h
  simp only[jj] at e
  cases e1:evT ρ t with
  |none=>rw[e1] at e;cases e
  |some k =>
   cases e2:jj ρ ts with
   |none=>rw[e1,e2] at e;cases e
   |some ks' =>
    rw[e1,e2] at e
    cases e
    have:=Aa h.2 e2
    rw[ÿ]
    omega
def Ba{N:List Str}{sc:Scope}{t:Tm}(h:okT N sc t e=true):zS X e es:=by
 cases e <;> first
  |rfl
  |(cases t <;> simp[okT] at h)
section
variable {N:List Str}{sc:Scope}
def Ls{i:Int}(h:okT N sc (Tm.int i) e=true):∃k p,e=.Constant (.int i) k p:=by
 generalize ht:(Tm.int i)=t at h
 unfold okT at h
 split at h <;> first
  |exact absurd h Ì
  |(cases ht;rw[beq_iff_eq] at h;subst h;exact⟨_,_,rfl⟩)
  |cases ht
def Q5{i:Bool}(h:okT N sc (Tm.bl i) e=true):∃k p,e=.Constant (.bool i) k p:=by
 generalize ht:(Tm.bl i)=t at h
 unfold okT at h
 split at h <;> first
  |exact absurd h Ì
  |(cases ht;rw[beq_iff_eq] at h;subst h;exact⟨_,_,rfl⟩)
  |cases ht
def Lq(h:okT N sc Tm.non e=true):∃k p,e=.Constant .none k p:=by
 generalize ht:Tm.non=t at h
 unfold okT at h
 split at h <;> first
  |exact absurd h Ì
  |(cases ht;exact⟨_,_,rfl⟩)
  |cases ht
def Lp{i:Str}(h:okT N sc (Tm.str i) e=true):∃k p,e=.Constant (.str i) k p:=by
 generalize ht:(Tm.str i)=t at h
 unfold okT at h
 split at h <;> first
  |exact absurd h Ì
  |(cases ht;rw[beq_iff_eq] at h;subst h;exact⟨_,_,rfl⟩)
  |cases ht
def inv_neg{i:Int}(h:okT N sc (Tm.neg i) e=true):∃k p q,e=.UnaryOp .USub (.Constant (.int i) k p) q:=by
 generalize ht:(Tm.neg i)=t at h
 unfold okT at h
 split at h <;> first
  |exact absurd h Ì
  |(cases ht;rw[beq_iff_eq] at h;subst h;exact⟨_,_,_,rfl⟩)
  |cases ht
def Lk{i:Nat}(h:okT N sc (Tm.var i) e=true):∃x p,e=.Name x p/\N[i]?=some x/\Vis sc x/\zB x/\(x == ("__classdict__":Str))=false:=by
 generalize ht:(Tm.var i)=t at h
 unfold okT at h
 split at h <;> first
  |exact absurd h Ì
  |(cases ht;rw[Ê,Ê,Ê,beq_iff_eq,Ĵ,Ĵ] at h;exact⟨_,_,rfl,h.1,JQ h.2.1,h.2.2.1,h.2.2.2⟩)
  |cases ht
def Lr{ts:Tms}(h:okT N sc (Tm.lst ts) e=true):∃es p,e=.List es p/\jX N sc ts es=true:=by
 generalize ht:(Tm.lst ts)=t at h
 unfold okT at h
 split at h <;> first
  |exact absurd h Ì
  |(cases ht;exact⟨_,_,rfl,h⟩)
  |cases ht
def Ln{ts:Tms}(h:okT N sc (Tm.tup ts) e=true):∃es k p,e=.Tuple es k p/\jX N sc ts es=true:=by
 generalize ht:(Tm.tup ts)=t at h
 unfold okT at h
 split at h <;> first
  |exact absurd h Ì
  |(cases ht;exact⟨_,_,_,rfl,h⟩)
  |cases ht
def Lw(h:okT N sc Tm.dct e=true):∃p,e=.Dict [] [] p:=by
 generalize ht:Tm.dct=t at h
 unfold okT at h
 split at h <;> first
  |exact absurd h Ì
  |(cases ht;exact⟨_,rfl⟩)
  |cases ht
end
mutual
def zJ{N:List Str}{sc:Scope}(hN:X.N=N)(hs:X.env.scope=sc):∀(t:Tm) (e:Expr),okT N sc t e=true->smT t=true->PD X e (Ou t)
 |.int i,e,h,_=>by
  obtain⟨k,p,rfl⟩:=Ls h
  exact PD.wk bJ λρ P ⟨k,d,e,q⟩=>by simp only[evT] at e;cases e;exact q
 |.neg i,e,h,_=>by
  obtain⟨k,p,q,rfl⟩:=inv_neg h
  exact PD.wk (nj bJ) λρ P ⟨k,d,e,q⟩=>by simp only[evT] at e;cases e;exact q
 |.bl b,e,h,_=>by
  obtain⟨k,p,rfl⟩:=Q5 h
  exact PD.wk wN λρ P ⟨k,d,e,q⟩=>by simp only[evT] at e;cases e;exact q
 |.non,e,h,_=>by
  obtain⟨k,p,rfl⟩:=Lq h
  exact PD.wk iV λρ P ⟨k,d,e,q⟩=>by simp only[evT] at e;cases e;exact q
 |.str s,e,h,_=>by
  obtain⟨k,p,rfl⟩:=Lp h
  exact PD.wk uT λρ P ⟨k,d,e,q⟩=>by simp only[evT] at e;cases e;exact q
 |.var i,e,h,_=>by
  obtain⟨x,p,rfl,h1,h2,h3,h4⟩:=Lk h
  refine PD.wk (dv i (by rw[hN];exact h1) (by rw[hs];exact h2) h3 h4) λρ P ⟨k,d,e,q⟩=>?_
  simp only[evT] at e
  unfold tV
  split at e <;> first
   |(cases e;rename_i z;rw[z];exact q)
   |cases e
 |.lst ts,e,h,s=>by
  obtain⟨es,p,rfl,h1⟩:=Lr h
  have s1:jH 1000 ts=true:=by simpa only[smT] using s
  refine PD.wk (gD (vA hN hs ts es 1000 h1 s1)) λρ P ⟨k,d,e,q⟩=>?_
  simp only[evT] at e
  cases e1:jj ρ ts with
  |none=>rw[e1] at e;cases e
  |some ks =>
   rw[e1] at e
   cases e
   exact⟨ks,e1,Aa s1 e1,q⟩
 |.tup ts,e,h,s=>by
  obtain⟨es,k,p,rfl,h1⟩:=Ln h
  have s1:jH 1000 ts=true:=by simpa only[smT] using s
  refine PD.wk (lA (vA hN hs ts es 1000 h1 s1)) λρ P ⟨k,d,e,q⟩=>?_
  simp only[evT] at e
  cases e1:jj ρ ts with
  |none=>rw[e1] at e;cases e
  |some ks =>
   rw[e1] at e
   cases e
   exact⟨ks,e1,Aa s1 e1,q⟩
 |.dct,e,h,_=>by
  obtain⟨p,rfl⟩:=Lw h
  exact PD.wk Ku λρ P ⟨k,d,e,q⟩=>by simp only[evT] at e;cases e;exact q
def vA{N:List Str}{sc:Scope}(hN:X.N=N)(hs:X.env.scope=sc):∀(ts:Tms) (es:List Expr) (n:Nat),jX N sc ts es=true->jH n ts=true->PDA X es (VD ts)
 |.nil,es,n,h,_=>by
  cases es with
  |nil=>exact PDA.wk aL λρ P ⟨ks,e,q⟩=>by simp only[jj] at e;cases e;exact q
  |cons e es=>simp[jX] at h
 |.cons t ts,es,n,h,s=>by
  cases es with
  |nil=>simp[jX] at h
  |cons e es =>
   simp only[jX,Ê] at h
   cases n with
   |zero=>simp[jH] at s
   |succ n =>
    simp only[jH,Ê] at s
    refine PDA.wk (aC (zJ hN hs t e h.1 s.1) (vA hN hs ts es n h.2 s.2) (Ba h.1)) λρ P ⟨ks,e,q⟩=>?_
    simp only[jj] at e
    cases e1:evT ρ t with
    |none=>rw[e1] at e;cases e
    |some k =>
     cases e2:jj ρ ts with
     |none=>rw[e1,e2] at e;cases e
     |some ks' =>
      rw[e1,e2] at e
      cases e
      exact⟨k.1,k.2,e1,ks',e2,q⟩
end
def Rv(ts:Tms)(t:DA):DA:=λρ P=>∃ks,jj ρ ts=some ks/\t ρ λks'=>P (ks++ks')
def Gh{N:List Str}{sc:Scope}(hN:X.N=N)(hs:X.env.scope=sc){t2:DA}{es2:List Expr}(h2:PDA X es2 t2):∀(ts:Tms) (es1:List Expr) (n:Nat),jX N sc ts es1=true->jH n ts=true->PDA X (es1++es2) (Rv ts t2)
 |.nil,es,n,h,_=>by
  cases es with
  |nil=>exact PDA.wk h2 λρ P ⟨ks,e,q⟩=>by simp only[jj] at e;cases e;exact q
  |cons e es=>simp[jX] at h
 |.cons t ts,es,n,h,s=>by
  cases es with
  |nil=>simp[jX] at h
  |cons e es =>
   simp only[jX,Ê] at h
   cases n with
   |zero=>simp[jH] at s
   |succ n =>
    simp only[jH,Ê] at s
    refine PDA.wk (aC (zJ hN hs t e h.1 s.1) (Gh hN hs h2 ts es n h.2 s.2) (Ba h.1)) λρ P ⟨ks,e,q⟩=>?_
    simp only[jj] at e
    cases e1:evT ρ t with
    |none=>rw[e1] at e;cases e
    |some k =>
     cases e2:jj ρ ts with
     |none=>rw[e1,e2] at e;cases e
     |some ks' =>
      rw[e1,e2] at e
      cases e
      exact⟨k.1,k.2,e1,ks',e2,q⟩
def qp(N:List Str)(sc:Scope)(tm:Tm)(h:okT N sc tm e=true)(hN:X.N=N:=by rfl)(hs:X.env.scope=sc:=by rfl)(s:smT tm=true:=by decide +kernel):PD X e (Ou tm):=zJ hN hs tm e h s
def fC(n:Nat)(N:List Str)(sc:Scope)(ts:Tms){t2:DA}(h2:PDA X (es.drop n) t2)(h:jX N sc ts (es.take n)=true)(hN:X.N=N:=by rfl)(hs:X.env.scope=sc:=by rfl)(s:jH 1000 ts=true:=by decide +kernel):PDA X es (Rv ts t2):=by
 have r:=Gh hN hs h2 ts (es.take n) 1000 h s
 rw[List.take_append_drop] at r
 exact r
end
end Dl
namespace L2
open PySem PySem.Spec PyProof.Rows HT
section
variable {X:Cx}{e:Expr}{te:TE}{p1 p2 p3 pos:Pos}
end
end L2
namespace Dl
open PySem L2 PyProof.Rows
variable [Gr]
section
variable {X:Cx}{pos p1 p2 p3:Pos}{a b e:Expr}{es:List Expr}{ta tb te:DE}{t:DA}
def RK(te:DE)(tl th:DO):DE:=λρ P=>te ρ λk d=>tl ρ λlo=>th ρ λhi=>match d with
 |.list ds=>newP k (cX ds lo hi) λk'=>P k' (.list (cX ds lo hi))
 |.tuple ds=>¬(HT.sIx ds.length 0 lo=0/\HT.sIx ds.length ds.length hi=ds.length)/\P (norm k (.tuple (cX ds lo hi))) (.tuple (cX ds lo hi))
 |_=>False
def iT{lo hi:Option Expr}{tl th:DO}(he:PD X e te)(hl:PO X lo (qM tl))(hh:PO X hi (qM th)):PD X (.Subscript e (.Slice lo hi none p2) pos) (RK te tl th):=PE.wk (wM (SlR.or Bc Oz) he hl hh) (by
 rintro σ H Q ⟨p,H0,own,ρ,P,E,t,q⟩
 refine⟨p,H0,own,ρ,_,E,t,λk d v H1 h A r=>?_⟩
 refine⟨p,H0,own,ρ,_,E.go A.kp A.pen,h,λo1 H2 h2 A2=>?_⟩
 refine⟨p,H0,own,ρ,_,(E.go A.kp A.pen).go A2.kp A2.pen,h2,λo2 H3 h3 A3=>?_⟩
 have A4:=(A.base A2).base A3
 have r3:=iJ (A.base A2) A3.kp (iJ A A2.kp r)
 cases d with
 |list ds =>
  obtain⟨x,xs,e1,o,h1,rs⟩:=Rp.cW r3
  subst e1
  refine .inl ⟨x,xs,rfl,SqL.of h1,λl hl=>?_⟩
  obtain⟨k2,i2,nw⟩:=A4.new hl (.lst (q9 xs o1 o2))
  obtain⟨k',hk',rk'⟩:=jB A4 (bF A4 k2 (rs.cut o1 o2)) nw aB h3
  exact q _ _ _ _ hk' (A4.go k2 i2) rk'
 |tuple ds =>
  obtain⟨x,xs,e1,h1,rs⟩:=Rp.fQ r3
  subst e1
  refine .inr ⟨x,xs,rfl,SqT.of h1,by rw[rs.length];exact h3.1,λl hl=>?_⟩
  obtain⟨k2,i2,nw⟩:=A4.new hl (.tup (q9 xs o1 o2))
  exact q _ _ _ _ h3.2 (A4.go k2 i2) (aR (.tup aB (bF A4 k2 (rs.cut o1 o2))))
 |_=>exact h3.elim)
end
variable [Gr]
section
variable {X:Cx}{pos pos' p2:Pos}{a b e:Expr}{ta tb te tj tm:DE}{st st2:Stmt}{rest:List Stmt}{ti:DI}{g:DG}{t:DS}
end
variable [Gr]
section
variable {X:Cx}{te te1 te2 tj tm:DE}{st st2:Stmt}{rest:List Stmt}{t:DS}
end
variable [Gr]
section
variable {X:Cx}{te tj:DE}{st:Stmt}{t:DS}
end
end Dl
namespace L2
open PySem PySem.Spec PyProof.Rows
end L2
namespace Dl
open PySem L2 PyProof.Rows
variable [Gr]
section
variable {X:Cx}{tg:Expr}{pos:Pos}{ta:DA}
end
section
variable {X:Cx}
def Ey(hc:X.calm=true):bM X (.builtin "min") (λxs H Q=>∃(p:Addr) (ns:List Int),xs=[.ref p]/\SqL X.K H p (ns.map V.int)/\ns≠[]/\∀M,M∈ns->(∀a∈ns,M<=a)->Q (.int M) H):=by
 intro pins s σ H xs us Q I r h
 obtain⟨p,ns,rfl,hp,hne,q⟩:=h
 obtain⟨u,rfl,rx⟩:=vals1 r
 cases rx
 obtain⟨its,rv,pl,hz⟩:=I.list hp
 have hi:IntsAre its ns:=intsAre_of rv
 obtain⟨zs,e⟩:=hi.allInts.items
 have hns:ns=zs.toList.map (·.1):=by rw[←hi.numsOf,←nums_intItems,←e]
 have hsz:0<zs.size:=by
  have h3:=Ŕ.mpr hne
  rw[hns,Â,ď] at h3;exact h3
 have hl:=pl.isList
 rw[e] at hl
 refine min_intList (I.ok.hd hc) hl hsz λv h' tk hv hk=>?_
 obtain⟨t,rfl⟩:=intItems_at hv
 obtain⟨h1,h2⟩:=argBest_lt (numAt zs) (zs.size - 1)
 refine⟨.int _,H,I.kept λb o eb=>hk b o eb,⟨_,rfl⟩,q _ ?_ λa ha=>?_⟩
 ·rw[hns,numAt_eq];refine getD_mem ?_;rw[Â,ď];omega
 ·rw[hns] at ha
  obtain⟨j,hj,rfl⟩:=mem_getD ha
  rw[Â,ď] at hj
  have h3:=h2 j (by omega)
  rw[←numAt_eq];exact h3
def EY(hc:X.calm=true):bM X (.builtin "max") (λxs H Q=>∃(p:Addr) (ns:List Int),xs=[.ref p]/\SqL X.K H p (ns.map V.int)/\ns≠[]/\∀M,M∈ns->(∀a∈ns,a<=M)->Q (.int M) H):=by
 intro pins s σ H xs us Q I r h
 obtain⟨p,ns,rfl,hp,hne,q⟩:=h
 obtain⟨u,rfl,rx⟩:=vals1 r
 cases rx
 obtain⟨its,rv,pl,hz⟩:=I.list hp
 have hi:IntsAre its ns:=intsAre_of rv
 obtain⟨zs,e⟩:=hi.allInts.items
 have hns:ns=zs.toList.map (·.1):=by rw[←hi.numsOf,←nums_intItems,←e]
 have hsz:0<zs.size:=by
  have h3:=Ŕ.mpr hne
  rw[hns,Â,ď] at h3;exact h3
 have hl:=pl.isList
 rw[e] at hl
 refine max_intList (I.ok.hd hc) hl hsz λv h' tk hv hk=>?_
 obtain⟨t,rfl⟩:=intItems_at hv
 obtain⟨h1,h2⟩:=argBest_gt (numAt zs) (zs.size - 1)
 refine⟨.int _,H,I.kept λb o eb=>hk b o eb,⟨_,rfl⟩,q _ ?_ λa ha=>?_⟩
 ·rw[hns,numAt_eq];refine getD_mem ?_;rw[Â,ď];omega
 ·rw[hns] at ha
  obtain⟨j,hj,rfl⟩:=mem_getD ha
  rw[Â,ď] at hj
  have h3:=h2 j (by omega)
  rw[←numAt_eq];exact h3
end
section
variable {prog:Program}{w:World}{A:Around}{E:Value->Shared->Prop}
end
section
variable {X:Cx}{pos:Pos}
variable [Gr]
end
section
variable {X:Cx}{pos:Pos}{a:Expr}{t:DA} [Gr]
def Ep(f:Int->Int->Int)(le:Int->Int->Prop):GC:=λks P=>match ks with
 |[(_,.tuple [.int i,.int j])]=>P .imm (.int (f i j))
 |[(_,.list ds)]=>∃ns:List Int,ds=ns.map Å/\ns≠[]/\∀M,M∈ns->(∀a∈ns,le M a)->P .imm (.int M)
 |_=>False
def pF{ps:Pos}(hc:X.calm=true)(hm:X.mg "min"=none)(ha:PDA X [a] t)(hg:Gl X "min":=by rfl)(he:zS X a []:=by rfl)(hpl:zP X pos []:=by rfl):PD X (.Call (.Name "min" ps) [a] [] pos) (tCl (Ep (λi j=>if j<i then j else i) (λM a=>M<=a)) t) :=
 dh (bM.or (Ew hc) (Ey hc)) (by
  intro p H0 own Hb H vs ks P Q A r t q
  unfold Ep at t
  split at t
  ·rename_i k i j
   obtain⟨v,rfl,r'⟩:=eE r
   obtain⟨x,xs,e1,h1,rs1⟩:=Rp.fQ r'
   obtain⟨v1,v2,e2,q1,q2⟩:=Rps.two rs1
   subst e1 e2
   rw[q1.int',q2.int'] at h1
   exact .inl ⟨x,i,j,rfl,SqT.of h1,q _ _ _ _ t Kp.refl A.pen (.int _)⟩
  ·obtain⟨ns,rfl,hne,t⟩:=t
   obtain⟨v,rfl,r'⟩:=eE r
   obtain⟨x,xs,e1,o1,h1,rs1⟩:=Rp.cW r'
   subst e1
   have e2:=Rps.ints rs1
   subst e2
   exact .inr ⟨x,ns,rfl,SqL.of h1,hne,λM h1 h2=>q _ _ _ _ (t M h1 h2) Kp.refl A.pen (.int _)⟩
  ·exact t.elim) hg hm boot_min ha (by decide) (by decide) he hpl
def pG{ps:Pos}(hc:X.calm=true)(hm:X.mg "max"=none)(ha:PDA X [a] t)(hg:Gl X "max":=by rfl)(he:zS X a []:=by rfl)(hpl:zP X pos []:=by rfl):PD X (.Call (.Name "max" ps) [a] [] pos) (tCl (Ep (λi j=>if j > i then j else i) (λM a=>a<=M)) t) :=
 dh (bM.or (Ez hc) (EY hc)) (by
  intro p H0 own Hb H vs ks P Q A r t q
  unfold Ep at t
  split at t
  ·rename_i k i j
   obtain⟨v,rfl,r'⟩:=eE r
   obtain⟨x,xs,e1,h1,rs1⟩:=Rp.fQ r'
   obtain⟨v1,v2,e2,q1,q2⟩:=Rps.two rs1
   subst e1 e2
   rw[q1.int',q2.int'] at h1
   exact .inl ⟨x,i,j,rfl,SqT.of h1,q _ _ _ _ t Kp.refl A.pen (.int _)⟩
  ·obtain⟨ns,rfl,hne,t⟩:=t
   obtain⟨v,rfl,r'⟩:=eE r
   obtain⟨x,xs,e1,o1,h1,rs1⟩:=Rp.cW r'
   subst e1
   have e2:=Rps.ints rs1
   subst e2
   exact .inr ⟨x,ns,rfl,SqL.of h1,hne,λM h1 h2=>q _ _ _ _ (t M h1 h2) Kp.refl A.pen (.int _)⟩
  ·exact t.elim) hg hm boot_max ha (by decide) (by decide) he hpl
variable {b:Expr}{ta tb:DE}
end
section
variable {X:Cx}
def Fe(hc:X.calm=true):bM X (.builtin "any") (λxs H Q=>∃(p:Addr) (bs:List Bool),xs=[.ref p]/\SqL X.K H p (bs.map V.bl)/\Q (.bl (bs.any id)) H):=by
 intro pins s σ H xs us Q I r h
 obtain⟨p,bs,rfl,hp,q⟩:=h
 obtain⟨u,rfl,rx⟩:=vals1 r
 cases rx
 obtain⟨its,rv,pl,hz⟩:=I.list hp
 have e:=uz rv
 subst e
 have hlt:p≠s.heap.objs.size:=by obtain⟨o,ho,_⟩:=pl.isList;exact æ (É ho)
 refine call_any_walk (wpAny_pyIter_list pl.isList ?_)
 refine⟨_,_,_,_,_,_,λi=>bs.getD i false,rfl,Walks.list (A:=X.A.in1) (I.ok.hd hc) _ p hlt _,⟨⟨_,Þ _ rfl,rfl,rfl⟩,pl.isList.push _⟩,?_,λh' tk hk=>?_⟩
 ·intro i v s Q E hP hQ
  have hP':(bs.map Ś)[i]?=some v:=by simpa using hP
  rw[å] at hP'
  cases hb:bs[i]? with
  |none=>rw[hb] at hP';cases hP'
  |some b =>
   rw[hb] at hP'
   cases hP'
   refine Ī ?_
   have e:bs.getD i false=b:=by rw[ò,hb];rfl
   have hQ':Q (bs.getD i false) s:=hQ
   rw[e] at hQ'
   exact hQ'
 ·have e:(ä (bs.map Ś).toArray.size).any (λi=>bs.getD i false)=bs.any id:=by
   rw[Ï,Â,Ģ]
   simp only[List.any_eq_true,ę]
   constructor
   ·rintro⟨i,hi,h⟩
    simp[hi] at h
    exact⟨bs[i],ņ hi,h⟩
   ·rintro⟨x,hx,h⟩
    obtain⟨i,hi,e⟩:=List.mem_iff_getElem.mp hx
    exact⟨i,hi,by simp[hi,e];exact h⟩
  rw[e]
  refine⟨.bl (bs.any id),H,I.kept λb o eb=>hk b o ?_ (Ë _ eb),rfl,q⟩
  intro hm
  have:b=s.heap.objs.size:=by simpa using hm
  exact absurd (É eb) (by rw[this];exact ü _)
end
section
variable {X:Cx}{pos:Pos}{a e:Expr}{te ta:DE}{t:DA}{st st2:Stmt}{rest:List Stmt} [Gr]
def boot_any:bootBuiltins "any"=some (.builtin "any"):=by decide +kernel
def Q8:GC:=λks P=>match ks with
 |[(_,.list ds)]=>∃bs:List Bool,ds=bs.map PyData.bool/\P .imm (.bool (bs.any id))
 |_=>False
def zj{ps:Pos}(hc:X.calm=true)(hm:X.mg "any"=none)(ha:PDA X [a] t)(hg:Gl X "any":=by rfl)(he:zS X a []:=by rfl)(hpl:zP X pos []:=by rfl):PD X (.Call (.Name "any" ps) [a] [] pos) (tCl Q8 t) :=
 dh (Fe hc) (by
  intro p H0 own Hb H vs ks P Q A r t q
  unfold Q8 at t
  split at t
  ·obtain⟨bs,rfl,t⟩:=t
   obtain⟨v,rfl,r'⟩:=eE r
   obtain⟨x,xs,e1,o1,h1,rs1⟩:=Rp.cW r'
   subst e1
   have e2:=Rps.bools rs1
   subst e2
   exact⟨x,bs,rfl,SqL.of h1,q _ _ _ _ t Kp.refl A.pen (.bl _)⟩
  ·exact t.elim) hg hm boot_any ha (by decide) (by decide) he hpl
end
section
variable {X:Cx}{tg iter c:Expr}{pos pos1:Pos}{ret:Stmt}{ti:DI}{g:DG}{tc:DT} [Gr]
end
end Dl
namespace L2
open PySem PyProof.Rows
def Asc(xs:Array Nat):Prop:=xs.toList.Pairwise (·<·)
structure Good(w:World)(t:SetTable):Prop where
 asc:Asc t.place
 dum:t.dummies=#[]
 led:t.led=!w.params.followText "set-order"
section
variable {w:World}{t:SetTable}
end
section
variable {P:Program}{w:World}{A:Around}{E:Value->Shared->Prop}{s:Shared}
end
section
variable {P:Program}{w:World}{A:Around}{R:Result->Shared->Prop}{I:Addr}{fp wr:List Addr}{G:Array GenState->Array GenState->Prop}{n:Nat}{W:Nat->Value->Prop}{St:Nat->Shared->Prop}
end
section
variable {P:Program}{w:World}{A:Around}{E:Value->Shared->Prop}{s:Shared}
end
section
variable {P:Program}{w:World}{A:Around}{E:Value->Shared->Prop}{s:Shared}{I a:Addr}{f:Value}{i n ep:Nat}{o:Obj}{es:Array (Int×Value)}{t:SetTable}
end
section
variable {P:Program}{w:World}{A:Around}{E:Value->Shared->Prop}{s:Shared}
variable {a:Addr}{i ep:Nat}{o:Obj}{es:Array (Int×Value)}{t:SetTable}
end
section
variable {P:Program}{w:World}{A:Around}{E:Value->Shared->Prop}{s:Shared}{I a:Addr}{ep:Nat}{o:Obj}{es:Array (Int×Value)}{t:SetTable}
end
end L2
namespace L2
open PySem PySem.Spec PyProof.Rows
section
variable {P:Program}{w:World}{A:Around}{E:Value->Shared->Prop}{s:Shared}{a:Addr}{S:Int->Bool}{n:Nat}
end
end L2
set_option autoImplicit true
set_option relaxedAutoImplicit true
namespace Wr
open PySem L2 PyProof.Rows Dl
structure WD[Gr](X:Cx)(e:Expr)(t:DE):Prop where
 h:PD X e t
structure WDT[Gr](X:Cx)(e:Expr)(t:DT):Prop where
 h:PDT X e t
structure WDW[Gr](X:Cx)(e:Expr)(t:DT):Prop where
 h:PDW X e t
structure WDA[Gr](X:Cx)(e:List Expr)(t:DA):Prop where
 h:PDA X e t
structure WDS[Gr](X:Cx)(e:Stmt)(t:DS):Prop where
 h:PDS X e t
structure WDSs[Gr](X:Cx)(e:List Stmt)(t:DS):Prop where
 h:mQ X e t
structure WDI[Gr](X:Cx)(tg e:Expr)(t:DI):Prop where
 h:PDI X tg e t
structure WDG[Gr](X:Cx)(e:Expr)(t:DG):Prop where
 h:PDG X e t
structure WDGs[Gr](X:Cx)(e:List Expr)(t:DGs):Prop where
 h:PGs X e (qN t)
structure WDTs[Gr](X:Cx)(e:List Expr)(t:DT):Prop where
 h:Aq X e t
structure WDO[Gr](X:Cx)(e:Option Expr)(t:DO):Prop where
 h:PO X e (qM t)
structure WV(X:Cx)(e:Expr)(i:Nat):Prop where
 h:PE X e (wz i)
structure WC(X:Cx)(e:Expr)(v:V):Prop where
 h:PE X e (tC v)
section
variable [Gr]
def wv(i:Nat){x:Str}{pos:Pos}(hN:X.N[i]?=some x:=by rfl)(hv:Vis X.env.scope x:=by first|exact Œ rfl|exact Or.inr (Œ rfl)|exact Or.inr (Or.inr rfl))(hd:zB x:=by decide)(hcd:(x == ("__classdict__":Str))=false:=by decide):WV X (.Name x pos) i:=⟨pv i hN hv hd hcd⟩
def wpt{t:DT}(h:WDW X e t):WDT X e t:=⟨PDW.pt h.h⟩
def fZ{op op':CmpOp}{f f':Int->Int->Bool}(ho:OpR X (compareOp op) (rI0 λi j=>.bl (f i j)))(ho':OpR X (compareOp op') (rI0 λi j=>.bl (f' i j)))(ha:WD X a ta)(hb:WD X b tb)(hc:WD X c tc)(hm:lastMarks [op,op'] [b,c]=false:=by with_unfolding_all rfl):WDT X (.Compare a [op,op'] [b,c] pos) (dH (tCh f f' ta tb tc)):=⟨Dl.fZ (Gu ho ho' ha.h hb.h hc.h hm) Ce⟩
def wty{x:Str}{T:String}(hg:Gl X x)(hm:X.mg x=none)(hv:bootBuiltins x=some (.type T))(hn:x≠"__name__":=by decide)(hd:zB x:=by decide):WC X (.Name x ps) (.ty T):=⟨pB hg hm hv rfl hn hd⟩
def j5{i:Nat}{x:Str}{e:Expr}{te:DE}{pos' pos:Pos}(rg:Option Nat)(hN:X.N.Nodup)(hi:X.N[i]?=some x)(hx:Loc X.env.scope x)(he:WD X e te)(hs:swapsWith e (some (.Name x pos')) pos.line X.env=pure false:=by rfl)(hf:zL X x:=by first|exact .inl rfl|exact .inr rfl|assumption) :
  WDS X (.Assign [.Name x pos'] e pos) (rY i rg te):=⟨Dl.j5 rg (dN hN hi hx he.h hs hf)⟩
def jk(rg:Option Nat)(own:List Str){i:Nat}{y:Str}{py spos:Pos}(hc:X.calm=true)(hN:X.N.Nodup)(hiN:X.N[i]?=some y)(hx:Loc X.env.scope y)(hi:WDI X tg iter ti)(hg:∀c,WDG (X.comp own scope c) tg g)(ht:∀c,WDTs (X.comp own scope c) ifs tt)(he:∀c,WD (X.comp own scope c) elt te)(hsw:swapsWith (.ListComp elt [⟨tg,iter,ifs,0⟩] scope pos) (some (.Name y py)) spos.line X.env=pure true:=by rfl)(hk:eX X.env scope X.N=true:=by rfl)(hs:zF X iter:=by intro _;rfl)(hf:zL X y:=by first|exact .inl rfl|exact .inr rfl|assumption) :
  WDS X (.Assign [.Name y py] (.ListComp elt [⟨tg,iter,ifs,0⟩] scope pos) spos) (rY i rg (dLC own.length ti g tt te)):=⟨Dl.j5 rg (Pj own hc hN hiN hx hi.h (λc=>(hg c).h) (λc=>(ht c).h) (λc=>(he c).h) hsw hk hs hf)⟩
def Es(rg:Option Nat)(own M:List Str){i:Nat}{y:Str}{py spos:Pos}(hc:X.calm=true)(hN:X.N.Nodup)(hiN:X.N[i]?=some y)(hx:Loc X.env.scope y)(hi:WDI X tg iter ti)(hg:∀c,WDG (X.aO own M scope c) tg g)(ht:∀c,WDTs (X.aO own M scope c) ifs tt)(he:∀c,WD (X.aO own M scope c) elt te)(hsw:swapsWith (.ListComp elt [⟨tg,iter,ifs,0⟩] scope pos) (some (.Name y py)) spos.line X.env=pure true:=by rfl)(hk:aU X.env scope X.N M=true:=by rfl)(hs:zF X iter:=by intro _;rfl)(hf:zL X y:=by first|exact .inl rfl|exact .inr rfl|assumption) :
  WDS X (.Assign [.Name y py] (.ListComp elt [⟨tg,iter,ifs,0⟩] scope pos) spos) (rY i rg (dLC own.length ti g tt te)):=⟨Dl.j5 rg (Kg own M hc hN hiN hx hi.h (λc=>(hg c).h) (λc=>(ht c).h) (λc=>(he c).h) hsw hk hs hf)⟩
def gb{i:Nat}{x:Str}{e:Expr}{es:List Expr}{apos cpos np pos:Pos}(hv:WV X (.Name x np) i)(ha:WDA X (e::es) (jr te vY))(hbase:attributeBase (.Name x np) "append" X.env (eval (.Name x np) X.env)=eval (.Name x np) X.env:=by rfl)(hfew:zW X cpos (e::es):=by rfl)(hline:(apos.endLine == cpos.line)=true:=by rfl)(hst:zS X e es:=by rfl)(hplain:zP X cpos es:=by rfl)(hs:swapsWith (.Call (.Attribute (.Name x np) "append" apos) (e::es) [] cpos) none pos.line X.env=pure false:=by rfl) :
  WDS X (.Expr (.Call (.Attribute (.Name x np) "append" apos) (e::es) [] cpos) pos) (Ac i te):=⟨Dl.gb (o9 (BK Ź PySem.F.slot_list_append PySem.F.type_list_append tE hv.h ha.h hbase hfew hline hst hplain) hs)⟩
def qw{x:Str}{i:Int}{u:Value}{ps:Pos}(hg:Gl X x)(hm:X.mg x=some u)(r:RelV (.int i) u)(hd:zB x:=by decide):WD X (.Name x ps) (tK (.int i)):=⟨Dl.qw hg hm r hd⟩
def dY{i:Nat}{x:Str}(hN:X.N.Nodup)(hi:X.N[i]?=some x)(hx:Loc X.env.scope x)(hf:zL X x:=by first|exact .inl rfl|exact .inr rfl|assumption):WDG X (.Name x pos) (gNm i):=⟨Dl.dY (fj hN hi hx hf)⟩
def bJ{i:Int}{j:Nat}:WD X (.Constant (.int i) j pos) (tK (.int i)):=⟨Dl.bJ ⟩
def wN{i:Bool}{j:Nat}:WD X (.Constant (.bool i) j pos) (tK (.bool i)):=⟨Dl.wN ⟩
def iV{j:Nat}:WD X (.Constant .none j pos) (tK .none):=⟨Dl.iV ⟩
def uT{x:Str}{j:Nat}:WD X (.Constant (.str x) j pos) (tK (.str x)):=⟨Dl.uT ⟩
def gC{e:Expr}{t:DE}(h:WD X e t)(he:∀whole,isTrue e X.env whole=(do let v ←whole;standAt e.pos;holding [v] (truthy v)):=by intro _;rfl):WDT X e (dH t):=⟨Dl.gC (h:=h.h) (he:=he)⟩
def jz{t:DT}(ha:WDT X a t):WDT X (.UnaryOp .Not a pos) (Uh t):=⟨Dl.jz (ha:=ha.h)⟩
def dg(ha:WDT X a t):WDW X (.BoolOp .And [a] pos) t:=⟨Dl.dg (ha:=ha.h)⟩
def pC(ha:WDT X a t):WDW X (.BoolOp .Or [a] pos) t:=⟨Dl.pC (ha:=ha.h)⟩
def dU{rest:List Expr}(ha:WDT X a t)(hb:WDW X (.BoolOp .And (b::rest) pos) u):WDW X (.BoolOp .And (a::b::rest) pos) (Jv t u):=⟨Dl.dU (ha:=ha.h) (hb:=hb.h)⟩
def uN{rest:List Expr}(ha:WDT X a t)(hb:WDW X (.BoolOp .Or (b::rest) pos) u):WDW X (.BoolOp .Or (a::b::rest) pos) (dOr t u):=⟨Dl.uN (ha:=ha.h) (hb:=hb.h)⟩
def aL :WDA X [] vY:=⟨Dl.aL ⟩
def aC(ha:WD X e te)(hr:WDA X es t)(hs:zS X e es:=by rfl):WDA X (e::es) (jr te t):=⟨Dl.aC (ha:=ha.h) (hr:=hr.h) (hs:=hs)⟩
def gD(h:WDA X es t):WD X (.List es pos) (Ng t):=⟨Dl.gD (h:=h.h)⟩
def lA{x1}(h:WDA X es t):WD X (.Tuple es x1 pos) (yE t):=⟨Dl.lA (h:=h.h)⟩
def qm(ha:WD X a ta)(hb:WD X b tb):WD X (.BinOp a .Sub b pos) (t2 (gI0 λi j=>.int (i - j)) ta tb):=⟨Dl.qm (ha:=ha.h) (hb:=hb.h)⟩
def yW(ha:WD X a ta)(hb:WD X b tb):WD X (.BinOp a .Mod b pos) (t2 (gI (λ_ j=>0<j) λi j=>.int (i % j)) ta tb):=⟨Dl.yW (ha:=ha.h) (hb:=hb.h)⟩
def iU(ha:WD X a ta)(hb:WD X b tb):WD X (.BinOp a .Pow b pos) (t2 (gI JM λi j=>.int (i ^ j.toNat)) ta tb):=⟨Dl.iU (ha:=ha.h) (hb:=hb.h)⟩
def BL(ha:WD X a ta)(hb:WD X b tb):WD X (.Compare a [.Lt] [b] pos) (t2 (gI0 λi j=>.bool (decide (i<j))) ta tb):=⟨Dl.BL (ha:=ha.h) (hb:=hb.h)⟩
def GZ(ha:WD X a ta)(hb:WD X b tb):WD X (.Compare a [.LtE] [b] pos) (t2 (gI0 λi j=>.bool (decide (i<=j))) ta tb):=⟨Dl.GZ (ha:=ha.h) (hb:=hb.h)⟩
def sY(ha:WD X a ta)(hb:WD X b tb):WD X (.Compare a [.Gt] [b] pos) (t2 (gI0 λi j=>.bool (decide (j<i))) ta tb):=⟨Dl.sY (ha:=ha.h) (hb:=hb.h)⟩
def sZ(ha:WD X a ta)(hb:WD X b tb):WD X (.Compare a [.GtE] [b] pos) (t2 (gI0 λi j=>.bool (decide (j<=i))) ta tb):=⟨Dl.sZ (ha:=ha.h) (hb:=hb.h)⟩
def qg(ha:WD X a ta)(hb:WD X b tb):WDT X (.Compare a [.Lt] [b] pos) (dH (t2 (gI0 λi j=>.bool (decide (i<j))) ta tb)):=⟨Dl.qg (ha:=ha.h) (hb:=hb.h)⟩
def qj(ha:WD X a ta)(hb:WD X b tb):WDT X (.Compare a [.LtE] [b] pos) (dH (t2 (gI0 λi j=>.bool (decide (i<=j))) ta tb)):=⟨Dl.qj (ha:=ha.h) (hb:=hb.h)⟩
def iR(ha:WD X a ta)(hb:WD X b tb):WDT X (.Compare a [.Gt] [b] pos) (dH (t2 (gI0 λi j=>.bool (decide (j<i))) ta tb)):=⟨Dl.iR (ha:=ha.h) (hb:=hb.h)⟩
def qt{ps:Pos}(hm:X.mg "len"=none)(ha:WDA X [a] t)(hg:Gl X "len":=by rfl)(he:zS X a []:=by rfl)(hpl:zP X pos []:=by rfl):WD X (.Call (.Name "len" ps) [a] [] pos) (tCl Ly t):=⟨Dl.qt (hm:=hm) (ha:=ha.h) (hg:=hg) (he:=he) (hpl:=hpl)⟩
def pH{ps:Pos}(hm:X.mg "int"=none)(hv:bootBuiltins "int"=some (.type "int"))(ha:WDA X [a] t)(hg:Gl X "int":=by rfl)(he:zS X a []:=by rfl)(hpl:zP X pos []:=by rfl):WD X (.Call (.Name "int" ps) [a] [] pos) (tCl Q7 t):=⟨Dl.pH (hm:=hm) (hv:=hv) (ha:=ha.h) (hg:=hg) (he:=he) (hpl:=hpl)⟩
def nJ :WDSs X [] Ju:=⟨Dl.nJ ⟩
def dX{st:Stmt}{rest:List Stmt}(h1:WDS X st t)(h2:WDSs X rest u):WDSs X (st::rest) (Js t u):=⟨Dl.dX (h1:=h1.h) (h2:=h2.h)⟩
def bL{st:Stmt}(h1:WDS X st t):WDSs X [st] t:=⟨Dl.bL (h1:=h1.h)⟩
def mD{st:Stmt}:WDS X st (λ_ _=>False):=⟨Dl.mD ⟩
def cF(he:WD X e te):WDS X (.Return (some e) pos) (Jt te):=⟨Dl.cF (he:=he.h)⟩
def tU{c:Expr}{a b:List Stmt}{tc:DT}(hc:WDT X c tc)(ha:WDSs X a t)(hb:WDSs X b u):WDS X (.If c a b pos) (dIf tc t u):=⟨Dl.tU (hc:=hc.h) (ha:=ha.h) (hb:=hb.h)⟩
def mG(he:WD X e te)(hs:swapsWith e none pos.line X.env=pure false:=by rfl):WDS X (.Expr e pos) (Oh te):=⟨Dl.mG (he:=he.h) (hs:=hs)⟩
def gM :WDGs X [] Ir:=⟨Dl.gM ⟩
def qZ{g:DG}{gs:DGs}(h1:WDG X e g)(h2:WDGs X es gs)(hs:(assignEach (e::es) X.env).map (·.2)=assign e X.env::(assignEach es X.env).map (·.2):=by rfl):WDGs X (e::es) (vL g gs):=⟨Dl.qZ (h1:=h1.h) (h2:=h2.h) (hs:=hs)⟩
def j6{gs:DGs}{k n:Nat}(hc:X.calm=true)(h:WDGs X es gs)(hn:(assignEach es X.env).length=n:=by rfl)(hst:(assignEach es X.env).findIdx? (·.1)=none:=by rfl):WDG X (.Tuple es k pos) (gTp n gs):=⟨Dl.j6 (hc:=hc) (h:=h.h) (hn:=hn) (hst:=hst)⟩
def jl(hl:WD X l tl):WDI X tg l (iSq tl):=⟨Dl.jl (hl:=hl.h)⟩
def bY{a:Expr}{ps:Pos}(hm:X.mg "range"=none)(ha:WDA X [a] ta)(hg:Gl X "range":=by rfl)(hs:starEach [a] X.env=[(false,eval a X.env)]:=by rfl):WDI X tg (.Call (.Name "range" ps) [a] [] pos) (iR1 ta):=⟨Dl.bY (hm:=hm) (ha:=ha.h) (hg:=hg) (hs:=hs)⟩
def nM{a b:Expr}{ps:Pos}(hm:X.mg "range"=none)(ha:WDA X [a,b] ta)(hg:Gl X "range":=by rfl)(hs:starEach [a,b] X.env=[(false,eval a X.env),(false,eval b X.env)]:=by rfl)(hs2:starEach [b] X.env=[(false,eval b X.env)]:=by rfl):WDI X tg (.Call (.Name "range" ps) [a,b] [] pos) (iR2 ta):=⟨Dl.nM (hm:=hm) (ha:=ha.h) (hg:=hg) (hs:=hs) (hs2:=hs2)⟩
def gK{body:List Stmt}(hp:PassesOwn (model X.prog X.w) X.A X.env X.xe)(hc:X.calm=true)(hi:WDI X tg iter ti)(hg:WDG X tg g)(hb:WDSs X body tb)(hs:zF X iter:=by intro _;rfl):WDS X (.For tg iter body [] pos) (Mr ti g tb):=⟨Dl.gK (hp:=hp) (hc:=hc) (hi:=hi.h) (hg:=hg.h) (hb:=hb.h) (hs:=hs)⟩
def cj{X:Cx}:WDTs X [] (λ_ P=>P true):=⟨Dl.cj ⟩
def pL{X:Cx}{c:Expr}{t:DT}(hc:WDT X c t):WDTs X [c] t:=⟨Dl.pL (hc:=hc.h)⟩
def qu(own:List Str)(hc:X.calm=true)(hi:WDI X tg iter ti)(hg:∀c,WDG (X.comp own scope c) tg g)(ht:∀c,WDTs (X.comp own scope c) ifs tt)(he:∀c,WD (X.comp own scope c) elt te)(hk:eX X.env scope X.N=true:=by rfl)(hs:zF X iter:=by intro _;rfl):WD X (.ListComp elt [⟨tg,iter,ifs,0⟩] scope pos) (dLC own.length ti g tt te):=⟨Dl.qu (own:=own) (hc:=hc) (hi:=hi.h) (hg:=λc=>(hg c).h) (ht:=λc=>(ht c).h) (he:=λc=>(he c).h) (hk:=hk) (hs:=hs)⟩
def yZ(own M:List Str)(hc:X.calm=true)(hi:WDI X tg iter ti)(hg:∀c,WDG (X.aO own M scope c) tg g)(ht:∀c,WDTs (X.aO own M scope c) ifs tt)(he:∀c,WD (X.aO own M scope c) elt te)(hk:aU X.env scope X.N M=true:=by decide +kernel)(hs:zF X iter:=by intro _;rfl):WD X (.ListComp elt [⟨tg,iter,ifs,0⟩] scope pos) (dLC own.length ti g tt te):=⟨Dl.yZ (own:=own) (M:=M) (hc:=hc) (hi:=hi.h) (hg:=λc=>(hg c).h) (ht:=λc=>(ht c).h) (he:=λc=>(he c).h) (hk:=hk) (hs:=hs)⟩
def uV(ha:WD X a ta):WD X (.UnaryOp .Not a pos) (Nb ta):=⟨Dl.uV (ha:=ha.h)⟩
def ni{op}(h:WD X a ta):WD X (.BoolOp op [a] pos) ta:=⟨Dl.ni (h:=h.h)⟩
def nq{rest:List Expr}(ha:WD X a ta)(hb:WD X (.BoolOp .And (b::rest) pos) tb):WD X (.BoolOp .And (a::b::rest) pos) (nR ta tb):=⟨Dl.nq (ha:=ha.h) (hb:=hb.h)⟩
def nu{ps:Pos}(hc:X.calm=true)(hm:X.mg "all"=none)(hv:bootBuiltins "all"=some (.builtin "all"))(ha:WDA X [a] t)(hg:Gl X "all":=by rfl)(he:zS X a []:=by rfl)(hpl:zP X pos []:=by rfl):WD X (.Call (.Name "all" ps) [a] [] pos) (tCl Q9 t):=⟨Dl.nu (hc:=hc) (hm:=hm) (hv:=hv) (ha:=ha.h) (hg:=hg) (he:=he) (hpl:=hpl)⟩
def lF{ps:Pos}(hc:X.calm=true)(hm:X.mg "max"=none)(ha:WDA X [a,b] t)(hg:Gl X "max":=by rfl)(he:starEach [a,b] X.env=(false,eval a X.env)::starEach [b] X.env:=by rfl)(hpl:(backTo pos (starEach [b] X.env)).any (·.1)=false:=by rfl):WD X (.Call (.Name "max" ps) [a,b] [] pos) (tCl (gMM λi j=>if j > i then j else i) t):=⟨Dl.lF (hc:=hc) (hm:=hm) (ha:=ha.h) (hg:=hg) (he:=he) (hpl:=hpl)⟩
def uX{ps:Pos}(hm:X.mg "list"=none)(ha:WDA X [a] t)(hg:Gl X "list":=by rfl)(he:zS X a []:=by rfl)(hpl:zP X pos []:=by rfl):WD X (.Call (.Name "list" ps) [a] [] pos) (tCl Lx t):=⟨Dl.uX (hm:=hm) (ha:=ha.h) (hg:=hg) (he:=he) (hpl:=hpl)⟩
def jA{ps:Pos}(hm:X.mg "tuple"=none)(ha:WDA X [a] t)(hg:Gl X "tuple":=by rfl)(he:zS X a []:=by rfl)(hpl:zP X pos []:=by rfl):WD X (.Call (.Name "tuple" ps) [a] [] pos) (tCl Iw t):=⟨Dl.jA (hm:=hm) (ha:=ha.h) (hg:=hg) (he:=he) (hpl:=hpl)⟩
def lC{ps:Pos}(hm:X.mg "sorted"=none)(ha:WDA X [a] t)(hg:Gl X "sorted":=by rfl)(he:zS X a []:=by rfl)(hpl:zP X pos []:=by rfl):WD X (.Call (.Name "sorted" ps) [a] [] pos) (tCl zY t):=⟨Dl.lC (hm:=hm) (ha:=ha.h) (hg:=hg) (he:=he) (hpl:=hpl)⟩
def sX(hu:X.A.units+64<cLine)(ha:WD X a ta)(hb:WD X b tb)(hm:behindInMarks .In b=false:=by rfl):WD X (.Compare a [.In] [b] pos) (t2 (gIn false) ta tb):=⟨Dl.sX (hu:=hu) (ha:=ha.h) (hb:=hb.h) (hm:=hm)⟩
def ql(hu:X.A.units+64<cLine)(ha:WD X a ta)(hb:WD X b tb)(hm:behindInMarks .In b=false:=by rfl):WDT X (.Compare a [.In] [b] pos) (dH (t2 (gIn false) ta tb)):=⟨Dl.ql (hu:=hu) (ha:=ha.h) (hb:=hb.h) (hm:=hm)⟩
def d7(hu:X.A.units+64<cLine)(ha:WD X a ta)(hb:WD X b tb)(hm:behindInMarks .NotIn b=false:=by rfl):WDT X (.Compare a [.NotIn] [b] pos) (dH (t2 (gIn true) ta tb)):=⟨Dl.d7 (hu:=hu) (ha:=ha.h) (hb:=hb.h) (hm:=hm)⟩
def cA :WDO X none NK:=⟨Dl.cA ⟩
def cu(h:WD X e te):WDO X (some e) (Nz te):=⟨Dl.cu (h:=h.h)⟩
def nj(ha:WD X a ta):WD X (.UnaryOp .USub a pos) (RX ta):=⟨Dl.nj (ha:=ha.h)⟩
def dc{f:List D->(D->Prop)->Prop}(C:Cal X.prog X.w X.K X.mg X.base k x ps (spD f))(hr:Room j X.A)(ha:WDA X (e::es) t)(hk:k<=j:=by decide)(hg:Gl X x:=by rfl)(hdb:zB x:=by decide)(he:zS X e es:=by rfl)(hpl:zP X pos es:=by rfl):WD X (.Call (.Name x p) (e::es) [] pos) (tFn f t):=⟨Dl.dc (C:=C) (hr:=hr) (ha:=ha.h) (hk:=hk) (hg:=hg) (hdb:=hdb) (he:=he) (hpl:=hpl)⟩
def dv(i:Nat){x:Str}{pos:Pos}(hN:X.N[i]?=some x:=by rfl)(hv:Vis X.env.scope x:=by first|exact Œ rfl|exact Or.inr (Œ rfl)|exact Or.inr (Or.inr rfl))(hd:zB x:=by decide)(hcd:(x == ("__classdict__":Str))=false:=by decide):WD X (.Name x pos) (tV i):=⟨Dl.dv (i:=i) (hN:=hN) (hv:=hv) (hd:=hd) (hcd:=hcd)⟩
def uQ(ha:WD X a ta)(hb:WD X b tb):WDT X (.Compare a [.Is] [b] pos) (dH (t2 I9 ta tb)):=⟨Dl.uQ (ha:=ha.h) (hb:=hb.h)⟩
def G3(ha:WD X a ta)(hb:WD X b tb)(hs:mO b:=by exact λ_ _=>rfl):WD X (.Subscript a b pos) (t2 gIx ta tb):=⟨Dl.G3 (ha:=ha.h) (hb:=hb.h) (hs:=hs)⟩
def uU(ha:WD X a ta)(hb:WD X b tb):WD X (.BinOp a .Add b pos) (t2 IV ta tb):=⟨Dl.uU (ha:=ha.h) (hb:=hb.h)⟩
def lB(ha:WD X a ta)(hb:WD X b tb):WD X (.BinOp a .Mult b pos) (t2 zX ta tb):=⟨Dl.lB (ha:=ha.h) (hb:=hb.h)⟩
def uZ(hu:X.A.units+64<cLine)(ha:WD X a ta)(hb:WD X b tb):WD X (.Compare a [.Eq] [b] pos) (t2 (jJ false) ta tb):=⟨Dl.uZ (hu:=hu) (ha:=ha.h) (hb:=hb.h)⟩
def uW(hu:X.A.units+64<cLine)(ha:WD X a ta)(hb:WD X b tb):WD X (.Compare a [.NotEq] [b] pos) (t2 (jJ true) ta tb):=⟨Dl.uW (hu:=hu) (ha:=ha.h) (hb:=hb.h)⟩
def uR(hu:X.A.units+64<cLine)(ha:WD X a ta)(hb:WD X b tb):WDT X (.Compare a [.Eq] [b] pos) (dH (t2 (jJ false) ta tb)):=⟨Dl.uR (hu:=hu) (ha:=ha.h) (hb:=hb.h)⟩
def uO(hu:X.A.units+64<cLine)(ha:WD X a ta)(hb:WD X b tb):WDT X (.Compare a [.NotEq] [b] pos) (dH (t2 (jJ true) ta tb)):=⟨Dl.uO (hu:=hu) (ha:=ha.h) (hb:=hb.h)⟩
def qY{rest:List Stmt}(js:List Nat)(h:WDSs X rest t):WDSs X rest (Ab js t):=⟨Dl.qY (js:=js) (h:=h.h)⟩
def cR{ps ps':Pos}(hc:X.calm=true)(hml:X.mg "list"=none)(hmr:X.mg "range"=none)(ha:WDA X [a] t)(hgl:Gl X "list":=by rfl)(hgr:Gl X "range":=by rfl)(he:zS X a []:=by rfl)(hpl:(backTo pos' (starEach [] X.env)).any (·.1)=false:=by rfl)(he2:starEach [.Call (.Name "range" ps') [a] [] pos'] X.env=(false,eval (.Call (.Name "range" ps') [a] [] pos') X.env)::starEach [] X.env:=by rfl)(hpl2:zP X pos []:=by rfl):WD X (.Call (.Name "list" ps) [.Call (.Name "range" ps') [a] [] pos'] [] pos) (RZ t):=⟨Dl.cR (hc:=hc) (hml:=hml) (hmr:=hmr) (ha:=ha.h) (hgl:=hgl) (hgr:=hgr) (he:=he) (hpl:=hpl) (he2:=he2) (hpl2:=hpl2)⟩
def qp(N:List Str)(sc:Scope)(tm:Tm)(h:okT N sc tm e=true)(hN:X.N=N:=by rfl)(hs:X.env.scope=sc:=by rfl)(s:smT tm=true:=by decide +kernel):WD X e (Ou tm):=⟨Dl.qp (N:=N) (sc:=sc) (tm:=tm) (h:=h) (hN:=hN) (hs:=hs) (s:=s)⟩
def fC(n:Nat)(N:List Str)(sc:Scope)(ts:Tms){t2:DA}(h2:WDA X (es.drop n) t2)(h:jX N sc ts (es.take n)=true)(hN:X.N=N:=by rfl)(hs:X.env.scope=sc:=by rfl)(s:jH 1000 ts=true:=by decide +kernel):WDA X es (Rv ts t2):=⟨Dl.fC (n:=n) (N:=N) (sc:=sc) (ts:=ts) (h2:=h2.h) (h:=h) (hN:=hN) (hs:=hs) (s:=s)⟩
def iT{lo hi:Option Expr}{tl th:DO}(he:WD X e te)(hl:WDO X lo tl)(hh:WDO X hi th):WD X (.Subscript e (.Slice lo hi none p2) pos) (RK te tl th):=⟨Dl.iT (he:=he.h) (hl:=hl.h) (hh:=hh.h)⟩
def pF{ps:Pos}(hc:X.calm=true)(hm:X.mg "min"=none)(ha:WDA X [a] t)(hg:Gl X "min":=by rfl)(he:zS X a []:=by rfl)(hpl:zP X pos []:=by rfl):WD X (.Call (.Name "min" ps) [a] [] pos) (tCl (Ep (λi j=>if j<i then j else i) (λM a=>M<=a)) t):=⟨Dl.pF (hc:=hc) (hm:=hm) (ha:=ha.h) (hg:=hg) (he:=he) (hpl:=hpl)⟩
def pG{ps:Pos}(hc:X.calm=true)(hm:X.mg "max"=none)(ha:WDA X [a] t)(hg:Gl X "max":=by rfl)(he:zS X a []:=by rfl)(hpl:zP X pos []:=by rfl):WD X (.Call (.Name "max" ps) [a] [] pos) (tCl (Ep (λi j=>if j > i then j else i) (λM a=>a<=M)) t):=⟨Dl.pG (hc:=hc) (hm:=hm) (ha:=ha.h) (hg:=hg) (he:=he) (hpl:=hpl)⟩
def zj{ps:Pos}(hc:X.calm=true)(hm:X.mg "any"=none)(ha:WDA X [a] t)(hg:Gl X "any":=by rfl)(he:zS X a []:=by rfl)(hpl:zP X pos []:=by rfl):WD X (.Call (.Name "any" ps) [a] [] pos) (tCl Q8 t):=⟨Dl.zj (hc:=hc) (hm:=hm) (ha:=ha.h) (hg:=hg) (he:=he) (hpl:=hpl)⟩
end
section
def d8[Gr]{T:String}{x:Str}{e:Expr}{te:DE}{ps pt pos:Pos}(hk:∀t:Value,(t=.type "NoneType"\/t=.type "bool"\/t=.type "int"\/t=.type "str"\/t=.type "list"\/t=.type "tuple"\/t=.type "dict")->∃n,t=.type n/\ů X.K t (.type T)=some (n == T || (T == "int"&&n == "bool")))(hm:X.mg "isinstance"=none)(he:WD X e te)(hT:WC X (.Name x pt) (.ty T))(hg:Gl X "isinstance":=by rfl)(h1:starEach [e,.Name x pt] X.env=(false,eval e X.env)::starEach [.Name x pt] X.env:=by rfl)(h2:starEach [.Name x pt] X.env=(false,eval (.Name x pt) X.env)::starEach [] X.env:=by rfl)(hpl:(backTo pos (starEach [.Name x pt] X.env)).any (·.1)=false:=by rfl) :
  WD X (.Call (.Name "isinstance" ps) [e,.Name x pt] [] pos) (tIs T te):=⟨Dl.d8 hk hm he.h hT.h hg h1 h2 hpl⟩
def uY[Gr]{x y:Str}{ps pt pt' pp pos:Pos}{kk:Nat}{e:Expr}{te:DE}(hm:X.mg "isinstance"=none)(he:WD X e te)(hT:WC X (.Name x pt) (.ty "list"))(hT':WC X (.Name y pt') (.ty "tuple"))(hg:Gl X "isinstance":=by rfl)(h1:starEach [e,.Tuple [.Name x pt,.Name y pt'] kk pp] X.env=(false,eval e X.env)::starEach [.Tuple [.Name x pt,.Name y pt'] kk pp] X.env:=by rfl)(h2:starEach [.Tuple [.Name x pt,.Name y pt'] kk pp] X.env=(false,eval (.Tuple [.Name x pt,.Name y pt'] kk pp) X.env)::starEach [] X.env:=by rfl)(h3:starEach [.Name x pt,.Name y pt'] X.env=(false,eval (.Name x pt) X.env)::starEach [.Name y pt'] X.env:=by rfl)(h4:starEach [.Name y pt'] X.env=(false,eval (.Name y pt') X.env)::starEach [] X.env:=by rfl)(hpl:(backTo pos (starEach [.Tuple [.Name x pt,.Name y pt'] kk pp] X.env)).any (·.1)=false:=by rfl) :
  WD X (.Call (.Name "isinstance" ps) [e,.Tuple [.Name x pt,.Name y pt'] kk pp] [] pos) (JV te):=⟨Dl.uY hm he.h hT.h hT'.h hg h1 h2 h3 h4 hpl⟩
end
end Wr
set_option autoImplicit false
set_option autoImplicit true
namespace Wr
open PySem L2 PyProof.Rows Dl
section
variable [Gr] {X:Cx}{tj te:DE}
end
section
variable [Gr] {X:Cx}{tj te te1 te2 ta:DE}{t:DS}
end
end Wr
namespace Dl
open PySem L2 PyProof.Rows
section
variable {X:Cx}{pins:List (Addr×Obj)}{σ:L2.St}{H:Hp}{s:Shared}{ok ok':Addr->Prop}
mutual
def Rp.fM(I:Inv X pins σ H s):∀{v:V}{d:D}{u:Value},Rp ok H v d->RelV v u->∃as,Reads s.heap u d as/\∀a∈as,H a≠none
 |_,_,_,.non,r=>by cases r;exact⟨_,.none,λ_ h=>nomatch h⟩
 |_,_,_,.bl b,r=>by cases r;exact⟨_,.bool b,λ_ h=>nomatch h⟩
 |_,_,_,.int i,r=>by obtain⟨t,rfl⟩:=r;exact⟨_,.int i t,λ_ h=>nomatch h⟩
 |_,_,_,.str x,r=>by obtain⟨t,rfl⟩:=r;exact⟨_,.str x t,λ_ h=>nomatch h⟩
 |_,_,_,.lst o h rs,r=>by
  cases r
  obtain⟨its,rv,pl,_⟩:=I.list (SqL.of h)
  obtain⟨as,ra,na⟩:=Rps.fM I rs rv
  obtain⟨ob,ho,hc,n,hd⟩:=pl.isList
  refine⟨_,.list ho hc hd (by simpa using ra),λb hb=>?_⟩
  rcases è.mp hb with rfl|hb
  ·rw[h];exact λz=>nomatch z
  ·exact na b hb
 |_,_,_,.tup h rs,r=>by
  cases r
  obtain⟨its,rv,pl,_⟩:=I.tuple (SqT.of h)
  obtain⟨as,ra,na⟩:=Rps.fM I rs rv
  obtain⟨ob,ho,hc,n,hd⟩:=pl
  exact⟨_,.tuple ho hc hd (by simpa using ra),na⟩
 |_,_,_,.dct (a:=a) (kvs:=kvs) (ds:=ds) o h rs,r=>by
  cases r
  obtain⟨_,_,vs,rel,ob,es,ep,ho,hc,hd,_,hp,_⟩:=Ue I.hok h
  obtain⟨as,bs,ra,rb,na⟩:=Rkv.fM I rs rel hp
  refine⟨_,.dict ho hc.1 hd ra rb,λb hb=>?_⟩
  rcases Ù.mp hb with hb|hb
  ·rcases è.mp hb with rfl|hb
   ·rw[h];exact λz=>nomatch z
   ·exact na b (.inl hb)
  ·exact na b (.inr hb)
def Rps.fM(I:Inv X pins σ H s):∀{v:List V}{d:List D}{u:List Value},Rps ok H v d->Vals v u->∃as,ReadsAll s.heap u d as/\∀a∈as,H a≠none
 |_,_,_,.nil,r=>by cases r;exact⟨[],.nil,λ_ h=>nomatch h⟩
 |_,_,_,.cons h t,r=>by
  cases r with
  |cons a b =>
   obtain⟨as,ra,na⟩:=Rp.fM I h a
   obtain⟨bs,rb,nb⟩:=Rps.fM I t b
   exact⟨_,.cons ra rb,λc hc=>(Ù.mp hc).elim (na c) (nb c)⟩
def Rkv.fM(I:Inv X pins σ H s):∀{kvs:List (Key×V)}{ds:List (D×D)}{vs:List (Key×Value)}{es:List DictEntry},Rkv ok H kvs ds->KV kvs vs->Pairs (lK X.prog X.w) es vs->∃as bs,ReadsAll s.heap (es.map (·.key)) (ds.map (·.1)) as/\ReadsAll s.heap (es.map (·.val)) (ds.map (·.2)) bs/\∀a,a∈as\/a∈bs->H a≠none
 |_,_,_,_,.nil,r,p=>by
  cases r
  cases p
  exact⟨[],[],.nil,.nil,λ_ h=>h.elim (λh=>nomatch h) λh=>nomatch h⟩
 |_,_,_,_,.cons h t,r,p=>by
  cases r with
  |cons a b =>
   cases p with
   |cons p1 p2 p3 =>
    obtain⟨a1,a2⟩:=a
    obtain⟨as,bs,ra,rb,nb⟩:=Rkv.fM I t b p3
    obtain⟨cs,rc,nc⟩:=Rp.fM I h a2
    have p1':Io _ _=true:=p1
    rw[←a1] at p1'
    rw[←p2] at rc
    rcases bf p1' with ⟨i,tk,e1,e2⟩|⟨x,tk,e1,e2⟩
    ·refine⟨_,_,.cons (as:=[]) ?_ ra,.cons rc rb,λc hc=>?_⟩
     ·dsimp only at e1 ⊢;rw[e2,e1]
      exact .int i tk
     ·rcases hc with hc|hc
      ·exact nb c (.inl hc)
      ·exact(Ù.mp hc).elim (nc c) λz=>nb c (.inr z)
    ·refine⟨_,_,.cons (as:=[]) ?_ ra,.cons rc rb,λc hc=>?_⟩
     ·dsimp only at e1 ⊢;rw[e2,e1]
      exact .str x tk
     ·rcases hc with hc|hc
      ·exact nb c (.inl hc)
      ·exact(Ù.mp hc).elim (nc c) λz=>nb c (.inr z)
end
mutual
def Rp.jT(f:∀a o,ok a->((∀xs,o≠.tup xs)/\¬Fxd o)->H a=some o->ok' a):∀{v:V}{d:D},Rp ok H v d->Rp ok' H v d
 |_,_,.non=>.non
 |_,_,.bl b=>.bl b
 |_,_,.int i=>.int i
 |_,_,.str x=>.str x
 |_,_,.lst o h r=>.lst (f _ _ o ⟨(λ_ z=>by cases z),λ⟨_,_,z⟩=>by cases z⟩ h) h (Rps.jT f r)
 |_,_,.tup h r=>.tup h (Rps.jT f r)
 |_,_,.dct o h r=>.dct (f _ _ o ⟨(λ_ z=>by cases z),λ⟨_,_,z⟩=>by cases z⟩ h) h (Rkv.jT f r)
def Rps.jT(f:∀a o,ok a->((∀xs,o≠.tup xs)/\¬Fxd o)->H a=some o->ok' a):∀{v:List V}{d:List D},Rps ok H v d->Rps ok' H v d
 |_,_,.nil=>.nil
 |_,_,.cons h r=>.cons (Rp.jT f h) (Rps.jT f r)
def Rkv.jT(f:∀a o,ok a->((∀xs,o≠.tup xs)/\¬Fxd o)->H a=some o->ok' a):∀{v:List (Key×V)}{d:List (D×D)},Rkv ok H v d->Rkv ok' H v d
 |_,_,.nil=>.nil
 |_,_,.cons h r=>.cons (Rp.jT f h) (Rkv.jT f r)
end
end
def K3(d:D):Prop:=d.showable=true/\d.depth<=50/\d.shown.length<=sizeLine
def yq(base:Heap):Prop:=∃o,base.get? sysModules=some o
section
variable {X:Cx}{pos:Pos}{a e:Expr}{te:DE}{t:DA} [Gr]
def Ah(hS:yq X.base)(hg:X.A.guards=some [])(hu:X.A.units+64<cLine):bM X (.builtin "repr") (λxs H Q=>∃ok v d,xs=[v]/\Rp ok H v d/\K3 d/\Q (.str d.shown) H):=by
 intro pins s σ H xs us Q I r h
 obtain⟨ok,v,d,rfl,rd,⟨o2,o3,o4⟩,q⟩:=h
 obtain⟨u,rfl,r1⟩:=vals1 r
 have fin:∀(x:Str) (tk:Tok),x=d.shown->EP X pins σ Q (.str x tk) { s with toks:=s.toks+1 }:=λx tk e=>by subst e;exact⟨.str d.shown,H,I.tok _,⟨tk,rfl⟩,q⟩
 have big:∀a,v=.ref a->wpAny (model X.prog X.w) X.A (call (.builtin "repr") [u]) (EP X pins σ Q) X.xe s:=λa ea=>by
  subst ea
  obtain⟨as,ra,na⟩:=rd.fM I r1
  cases r1
  obtain⟨o,ho⟩:=hS
  refine repr_of_reads' (h₀:=s.heap) ra o2 (λ_ hm=>na _ hm (I.bs _ _ ho).2) hg (by omega) (λ_ _ e=>e) (λh' u tk k=>?_) o4
  exact⟨.str d.shown,H,I.kept k,⟨_,rfl⟩,q⟩
 cases rd with
 |non=>cases r1;exact PySem.P.repr_of_none (fin _ _ rfl)
 |bl b=>cases r1;exact PySem.P.repr_of_bool (fin _ _ (by cases b <;> rfl))
 |int i =>
  obtain⟨t,rfl⟩:=r1
  exact PySem.P.repr_of_int (of_decide_eq_true o2) (fin _ _ rfl)
 |str x =>
  obtain⟨t,rfl⟩:=r1
  exact PySem.P.repr_of_str (fin _ _ rfl) o4
 |lst o h rs=>exact big _ rfl
 |tup h rs=>exact big _ rfl
 |dct o h rs=>exact big _ rfl
def IK:GC:=λks P=>∃k d,ks=[(k,d)]/\K3 d/\P .imm (.str d.shown)
def lE{ps:Pos}(hS:yq X.base)(hgd:X.A.guards=some [])(hu:X.A.units+64<cLine)(hm:X.mg "repr"=none)(ha:PDA X [a] t)(hg:Gl X "repr":=by rfl)(he:zS X a []:=by rfl)(hpl:zP X pos []:=by rfl):PD X (.Call (.Name "repr" ps) [a] [] pos) (tCl IK t) :=
 dh (Ah hS hgd hu) (by
  intro p H0 own Hb H vs ks P Q A r t q
  obtain⟨k,d,rfl,o,t⟩:=t
  obtain⟨v,rfl,r'⟩:=eE r
  exact⟨_,v,d,rfl,r',o,q _ _ _ _ t Kp.refl A.pen (.str _)⟩) hg hm boot_repr ha (by decide) (by decide) he hpl
end
section
variable [Gr]
abbrev DR:=(D->Prop)->List Sl->Prop
structure WishR(p:Pn)(own:Addr->Option Nat)(H:Hp)(P:D->Prop)(Q:Ends):Prop where
 rt:∀d v H',P d->p.PI H'->(∀b o,H b=some o->¬p.fp b->own b=none->H' b=some o)->Rp (λa=>¬p.fp a) H' v d->Q.rt v H'
def Tv(t:DR):TS:=λQ σ H=>∃p H0 own ρ P,EnvD p H0 own σ H ρ/\t P ρ/\WishR p own H P Q
structure WR(X:Cx)(ss:List Stmt)(t:DR):Prop where
 h:PSs X ss (Tv t)
def Vd(te:DE):DR:=λP ρ=>te ρ λ_ d=>P d
variable {X:Cx}{pos:Pos}{e:Expr}{te:DE}{st:Stmt}{rest:List Stmt}{t:DS}{u:DR}
def Bo{p:Pn}{H0 Hb H H2:Hp}{own:Addr->Option Nat}(A:At p H0 own Hb H):∀{vs:List V}{ks:List (Kd×D)},RpK p H0 own Hb H2 vs ks->(ks.all λk=>k.1.le .shr)=true->Rps (okK p H0 own Hb .shr) H2 vs (ks.map (·.2))
 |_,_,.nil,_=>.nil
 |_,_,.cons h t,q=>by
  rw[Ő,Ê] at q
  exact .cons (iI A q.1 h) (Bo A t q.2)
variable {k j:Nat}{x:Str}{ps:List Str}{es:List Expr}{ta:DA}{p:Pos}
end
end Dl
namespace Wr
open PySem L2 PyProof.Rows Dl
variable [Gr] {X:Cx}{pos:Pos}{a:Expr}{t:DA}
def lE{ps:Pos}(hS:yq X.base)(hgd:X.A.guards=some [])(hu:X.A.units+64<cLine)(hm:X.mg "repr"=none)(ha:WDA X [a] t)(hg:Gl X "repr":=by rfl)(he:zS X a []:=by rfl)(hpl:zP X pos []:=by rfl):WD X (.Call (.Name "repr" ps) [a] [] pos) (tCl IK t):=⟨Dl.lE hS hgd hu hm ha.h hg he hpl⟩
end Wr
namespace Dl
open PySem L2 PyProof.Rows
variable [Gr]
section
variable {X:Cx}{pos:Pos}{st:Stmt}{rest:List Stmt}{t u:DS}{te tj t1 t2:DE}
end
end Dl
namespace Wr
open PySem L2 PyProof.Rows Dl
section
variable [Gr] {X:Cx}{tj te t1 t2:DE}{t u:DS}
end
end Wr
set_option autoImplicit false
namespace L2
open PySem PySem.Spec PyProof.Rows
section
variable {X:Cx}{k:Nat}{f CF:Addr}{fd:FuncData}{ps:List Str}{sp:Sp}{E:XK}{x hx n:Str}{p np cpos epos hpos pos:Pos}{e:Expr}{es:List Expr}{t:TA}{b₀:Stmt}{suite:List Stmt}{ts:TS}{j:Nat}
end
section
variable {X:Cx}{k:Nat}{f CF:Addr}{fd:FuncData}{ps:List Str}{sp:Sp}{E:XK}{x hx n:Str}{p np cpos epos hpos pos:Pos}{e:Expr}{es:List Expr}{t:TA}{b₀:Stmt}{suite:List Stmt}{ts:TS}{j:Nat}
end
end L2
namespace Dl
open PySem L2 PyProof.Rows
section
variable [Gr] {X:Cx}{pos:Pos}{a:Expr}{t:DA}
def boot_str:bootBuiltins "str"=some (.type "str"):=by decide +kernel
end
end Dl
namespace Wr
open PySem L2 PyProof.Rows Dl
section
variable [Gr] {X:Cx}{pos:Pos}{a:Expr}{t:DA}
end
end Wr
namespace Dl
open PySem L2 PyProof.Rows
structure Ext(p q:Pn):Prop where
 pv:q.pv=p.pv
 fp:∀a,p.fp a->q.fp a
 pi:∀H,q.PI H->p.PI H
 go:∀H H',q.PI H->Kp p H H'->p.PI H'->q.PI H'
def CE(C:Pn->Prop)(q:Pn):Prop:=∃p,C p/\Ext p q
section
variable [Gr]
def CJ{C:Pn->Prop}{p:Pn}{H:Hp}{N:List Str}{vs':List V}{ds:List D}(g:Gr.G p H)(c:C p)(pi:p.PI H)(r:Rps (λa=>¬p.fp a) H vs' ds):EnvD p H (λ_=>none) (L2.start N (p.pv::vs')) H (.pen C::(ds.map aD++Í (N.length - (ds.length+1)) .any)):=by
 have E0:=nG (p:=p) (N:=N.drop 1) g pi r
 refine⟨λ_ _ e _=>e,pi,(λ_ _ e=>nomatch e),λj s e=>?_,by unfold L2.start;simp[r.length],g⟩
 cases j with
 |zero =>
  have e:=á e
  subst e
  exact⟨rfl,c⟩
 |succ j =>
  rw[List.getElem?_cons_succ] at e
  have hl:N.length - (ds.length+1)=(N.drop 1).length - vs'.length:=by rw[r.length,Ņ];omega
  rw[hl] at e
  have q:=E0.slot j s e
  have es:(L2.start N (p.pv::vs'))[j+1]?=(L2.start (N.drop 1) vs')[j]?:=by
   unfold L2.start
   have:N.length - (p.pv::vs').length=(N.drop 1).length - vs'.length:=by rw[Ņ,ÿ];omega
   rw[this]
   simp
  cases s <;> simp only[gQ,es] at q ⊢ <;> exact q
def rIf(tc:DT)(t u:DR):DR:=λP ρ=>tc ρ λb=>if b=true then t P ρ else u P ρ
variable {X:Cx}{pos:Pos}{c:Expr}{a rest:List Stmt}{tc:DT}{t u:DR}
variable {k j i:Nat}{x y:Str}{ps:List Str}{es:List Expr}{ta:DA}{pp py:Pos}
end
end Dl
namespace L2
open PySem PySem.Spec PyProof.Rows Builtin
section
variable {X:Cx}
end
end L2
namespace Dl
open PySem L2 PyProof.Rows
section
variable [Gr]
variable {X:Cx}{pos:Pos}{a b e:Expr}{ta tb te:DE}{p1 p2 p3:Pos}
end
end Dl
namespace Wr
open PySem L2 PyProof.Rows Dl
section
variable [Gr] {X:Cx}{pos:Pos}{a b e:Expr}{ta tb te:DE}{p1 p2 p3:Pos}
end
end Wr
namespace L2
open PySem PySem.Spec PyProof.Rows Builtin
section
variable {X:Cx}
end
end L2
namespace Dl
open PySem L2 PyProof.Rows
section
variable [Gr] {X:Cx}{pos p2:Pos}{a b e:Expr}{t:DA}{ta tb te:DE}
end
end Dl
namespace Wr
open PySem L2 PyProof.Rows Dl
section
variable [Gr] {X:Cx}{pos p2:Pos}{a b e:Expr}{t:DA}{ta tb te:DE}
end
end Wr
namespace Dl
open PySem L2 PyProof.Rows
variable [Gr]
section
variable {X:Cx}{st st2:Stmt}{rest:List Stmt}{te1 te2:DE}{tt:DT}{tr:TS}{t:DS}
end
section
variable {X:Cx}{own:List Str}{scope:Scope}{tg iter elt:Expr}{ifs:List Expr}{pos:Pos}{g:DG}{tt:DT}{te:DE}
end
end Dl
namespace Wr
open PySem L2 PyProof.Rows Dl
variable [Gr]
section
variable {X:Cx}{te1 te2:DE}{tt:DT}{tr:TS}{t:DS}
end
end Wr
namespace PySem
open PySem.W PyProof.Rows PySem.Spec
section
variable {prog:Program}{w:World}{A:Around}{E:Value->Shared->Prop}{s:Shared}{it l:Addr}{items:Array Value}
end
end PySem
namespace L2
open PySem PySem.Spec PyProof.Rows
section
variable {X:Cx}
end
end L2
namespace Dl
open PySem L2 PyProof.Rows
section
variable [Gr] {X:Cx}{a:Expr}{t:DA}
end
end Dl
namespace Wr
open PySem L2 PyProof.Rows Dl
section
variable [Gr] {X:Cx}{a:Expr}{t:DA}
end
end Wr
namespace L2
open PySem PyProof.Rows
section
variable {X:Cx}{pins:List (Addr×Obj)}{σ:List (Option V)}{H:Hp}{s:Shared}
end
end L2
namespace Dl
open PySem L2 PyProof.Rows
variable [Gr]
section
variable {X:Cx}{pos pos':Pos}{a:Expr}{t:DA}
end
end Dl
namespace Wr
open PySem L2 PyProof.Rows Dl
section
variable [Gr] {X:Cx}{pos pos':Pos}{a:Expr}{t:DA}
end
end Wr
namespace L2
open PySem PySem.Spec PyProof.Rows
open PySem.AutoSeq1 (wpAny_loadPart')
open PySem.MeetsSeq PySem.MeetsSeq3
section
variable {prog:Program}{w:World}{A:Around}{E:Value->Shared->Prop}{s:Shared}
end
section
variable {X:Cx}
end
end L2
namespace Dl
open PySem L2 PyProof.Rows
section
variable {X:Cx}{pos:Pos}{a:Expr}{t:DA} [Gr]
end
end Dl
namespace L2
open PySem PySem.Spec PyProof.Rows
section
variable {prog:Program}{w:World}{A:Around}{E:Value->Shared->Prop}{s:Shared}
end
section
variable {X:Cx}
end
end L2
namespace Dl
open PySem L2 PyProof.Rows
section
variable {X:Cx}{pos:Pos}{a e:Expr}{t:DA} [Gr]
end
end Dl
namespace L2
open PySem PySem.Spec PyProof.Rows
open AutoSeq1 in
section
variable {X:Cx}
end
end L2
namespace Dl
open PySem L2 PyProof.Rows
variable [Gr]
section
variable {X:Cx}{st:Stmt}{te:DE}{pos:Pos}{ta:DA}
end
end Dl
namespace Wr
open PySem L2 PyProof.Rows Dl
section
variable [Gr] {X:Cx}{pos:Pos}{a:Expr}{ta t:DA}{te:DE}
end
end Wr
namespace Dl
open PySem L2 PyProof.Rows
variable [Gr]
section
variable {X:Cx}{st st2:Stmt}{rest:List Stmt}{tj te1 te2:DE}{tt:DT}{t:DS}{K:Ô}
end
end Dl
namespace Wr
open PySem L2 PyProof.Rows Dl
section
variable [Gr] {X:Cx}{tj te1 te2:DE}
end
end Wr
namespace L2
open PySem PySem.Spec PyProof.Rows
structure LamScope(ps ys:List Str)(sc:Scope)(cl:List (Str×Addr)):Prop where
 kind:sc.kind=.function
 co:sc.isCoroutine=false
 gen:sc.isGenerator=false
 nd:(ps++ys).Nodup
 par:∀x∈ps,sc.names.lookup x=some .local
 fre:∀y∈ys,sc.names.lookup y=some .free
 nocell:∀x∈sc.names,x.2≠.cell
 all:∀x,sc.names.lookup x=some .free->∃c,cl.lookup x=some c
 inj:∀x y c,cl.lookup x=some c->cl.lookup y=some c->x=y
def cxL(CX:CXT)(P:Program)(w:World)(K:Ô)(mg:Str->Option Value)(base:Heap)(N:List Str)(qual:Str)(scope:Scope)(f:Addr)(cd:Value)(cl:List (Str×Addr))(A:Around)(outer:List Env)(s:Shared)(H:Hp)(E:XK):Cx where
 prog:=P
 w:=w
 K:=K
 mg:=mg
 base:=base
 A:=A.deeper (W.envX qual scope s.heap.objs.size f cd cl)
 N:=N
 s₀:=s
 H₀:=H
 env:=W.envX qual scope s.heap.objs.size f cd cl
 outer:=outer
 stack:=W.envX qual scope s.heap.objs.size f cd cl::outer
 ex:=[]
 calm:=true
 fn:=λ_=>false
 pn:=[]
 xe:=λe s'=>wpAny (model P w) (A.deeper (W.envX qual scope s.heap.objs.size f cd cl)) (leaving (W.envX qual scope s.heap.objs.size f cd cl) e) (λ_ s''=>CX outer H s E e s'') (λe' s''=>CX outer H s E e' s'') s'
structure Caps(base:Heap)(cl:List (Str×Addr))(ys:List Str)(cvs:List V):Prop where
 len:cvs.length=ys.length
 cells:∀x c,cl.lookup x=some c->∃v,base.IsCell c v
 val:∀(j:Nat) (y:Str) (v:V),ys[j]?=some y->cvs[j]?=some v->∃c u,cl.lookup y=some c/\base.IsCell c (some u)/\RelV v u
def zR{CX:CXT}{P:Program}{w:World}{K:Ô}{mg:Str->Option Value}{base:Heap}{ps ys:List Str}{qual:Str}{scope:Scope}{f:Addr}{cd:Value}{cl:List (Str×Addr)}{A:Around}{outer:List Env}{s:Shared}{h1:Heap}{tk:Nat}{H:Hp}{E:XK}{us:List Value}{vs cvs:List V}(S:LamScope ps ys scope cl)(hd:A.handled=none)(e0:Env0 P w K mg base A outer s H)(hl:vs.length=ps.length)(r:Vals vs us)(C:Caps base cl ys cvs)(hn:h1.Ns s.heap.objs.size (λx=>(ps.zip us).reverse.lookup x))(hk:∀b o,s.heap.get? b=some o->h1.get? b=some o) :
  Inv (cxL CX P w K mg base (ps++ys) qual scope f cd cl A outer s H E) [] (start (ps++ys) (vs++cvs)) H { s with heap:=h1,toks:=tk }:=by
 have noA:∀b:Addr,b∉(cxL CX P w K mg base (ps++ys) qual scope f cd cl A outer s H E).ex:=λb z=>absurd (show b∈([]:List Addr) from z) (by simp)
 have bk:∀b o,base.get? b=some o->h1.get? b=some o:=λb o e=>hk b o (e0.bs b o e).1
 have cne:∀x c,cl.lookup x=some c->H c=none:=λx c e=>by
  obtain⟨v,o,ho,_⟩:=C.cells x c e
  exact(e0.bs c o ho).2
 refine⟨⟨e0.mod,S.kind,rfl,rfl,Ç _,S.inj,λy hy=>?_,(λy c z _=>(nomatch z)),λ_=>hd,Around.frames_deeper e0.frames,.inr ⟨rfl,rfl⟩,λb z=>absurd z (noA b),e0.bs,e0.bsz,λb _ _=>noA b,λb z=>absurd z (noA b),e0.jY,e0.frf,λq z=>nomatch (show q∈([]:List (Addr×Obj×HO)) from z)⟩,
  rfl,e0.bare,Un.kept hk,⟨_,hn,λi y v h1 h2 h3=>?_⟩,λy c h=>?_,e0.hok.fresh (Ç _),λy c h=>cne y c h,λp hp=>absurd (show p∈([]:List (Addr×Obj)) from hp) (by simp),e0.hok.kept hk,?_⟩
 ·have hy:scope.names.lookup y=some .cell\/scope.names.lookup y=some .free:=hy
  rcases hy with hy|hy
  ·exact absurd rfl (S.nocell _ (Ě hy))
  ·exact S.all y hy
 ·have ha:(vs++cvs)[i]?=some v:=by
   unfold start at h2
   by_cases hi:i<(vs++cvs).length
   ·rw[ĕ (by simpa using hi),å] at h2
    cases e:(vs++cvs)[i]? with
    |none=>rw[e] at h2;cases h2
    |some a=>rw[e] at h2;cases h2;rfl
   ·rw[ù (by simpa using hi)] at h2
    rw[Ŀ] at h2
    split at h2 <;> cases h2
  have h1:(ps++ys)[i]?=some y:=h1
  by_cases hi:i<ps.length
  ·rw[ĕ (by omega)] at h1 ha
   obtain⟨u,hu,rv⟩:=r.get ha
   have ndP:ps.Nodup:=(List.nodup_append.mp S.nd).1
   refine⟨u,rv,.inl ⟨S.par y (Ð h1),?_⟩⟩
   have rl:∀(l:List (Str×Value)) (x:Str) (u:Value),(l.map (·.1)).Nodup->(x,u)∈l->l.lookup x=some u:=λl x u=>by
    induction l with
    |nil=>intro _ z;cases z
    |cons p l ih =>
     intro nd z
     obtain⟨a,b⟩:=p
     rw[û,List.nodup_cons] at nd
     rcases è.mp z with z|z
     ·cases z;rw[þ];simp
     ·have:x≠a:=λe=>nd.1 (by rw[←e];exact ø.mpr ⟨(x,u),z,rfl⟩)
      rw[þ,show(x == a)=false by simpa using this]
      exact ih nd.2 z
   refine rl _ _ _ ?_ (List.mem_reverse.mpr ?_)
   ·rw[List.map_reverse,List.map_fst_zip (by rw[←r.length,hl];exact Ç _)]
    exact List.pairwise_reverse.mpr (ndP.imp λh e=>h e.symm)
   ·exact Ð (i:=i) (by rw[List.getElem?_zip_eq_some];exact⟨h1,hu⟩)
  ·rw[ù (by omega)] at h1 ha
   rw[hl] at ha
   obtain⟨c,u,e,hc,rv⟩:=C.val _ _ _ h1 ha
   exact⟨u,rv,.inr ⟨.inr (S.fre y (Ð h1)),c,e,hc.keeps bk⟩⟩
 ·obtain⟨v,hc⟩:=C.cells y c h
  exact⟨v,hc.keeps bk⟩
 ·unfold start
  show _=(ps++ys).length
  rw[Î,Â,š,Î,Î,C.len,hl]
  omega
def Uj(x:Obj)(qual:Str):Prop:=∃vs t,x.data=.fields vs/\vs[1]?=some (.str qual t)
def rD(H:Hp)(c':Addr)(qual:Str):Prop:=∃x φ,H c'=some (.frz x (.ext φ))/\Uj x qual
def Rf{CX:CXT}{P:Program}{w:World}{K:Ô}{mg:Str->Option Value}{base:Heap}{k:Nat}{f c':Addr}{name qual:Str}{params:Arguments}{body:Expr}{scope:Scope}{pm ctv:Value}{cl:List (Str×Addr)}{ps ys:List Str}{cvs:List V}{sp:Sp}(lk:base.get? f=some (Ŵ name qual params body scope cl pm c' ctv))(hcd:∀vs H Q E,sp vs H Q E->rD H c' qual)(S:LamScope ps ys scope cl)(C:Caps base cl ys cvs)(len:∀vs H Q E,sp vs H Q E->vs.length=ps.length)(hbody:∀(A:Around) (outer:List Env) (s:Shared) (H:Hp) (vs:List V) (Q:VK) (E:XK),Room k (A.deeper (W.envX qual scope s.heap.objs.size f (.ref c') cl))->sp vs H Q E ->
   ∃t,PE (cxL CX P w K mg base (ps++ys) qual scope f (.ref c') cl A outer s H E) body t/\t (start (ps++ys) (vs++cvs)) H Q) :
  FnOk P w K mg base CX (k+1) f (W.kla_fn name qual params body scope cl pm (.ref c') ctv) ps sp:=by
 refine⟨len,λA outer s H args us vs Q E hr e0 hb r hsp=>?_⟩
 have hl:=len _ _ _ _ hsp
 have bk:∀b o,base.get? b=some o->s.heap.get? b=some o:=λb o e=>(e0.bs b o e).1
 have lim:s.heap.NoLimit:=e0.mod.nolimit.keeps bk
 have hcd':s.heap.CodeRec (.ref c') qual:=by
  obtain⟨x,φ,e,vs,t,h1,h2⟩:=hcd _ _ _ _ hsp
  exact⟨c',x,vs,t,rfl,(e0.hok _ _ e).1,h1,h2⟩
 refine W.kla_callFunE hr.depth (bk _ _ lk) rfl S.co S.gen rfl hcd' (hb _ _ _ _ ?_)
 have hloc:∀y∈ps.zip us,scope.names.lookup y.1=some .local:=λ⟨n,v⟩ hy=>S.par n (List.of_mem_zip hy).1
 refine wpAny_newFunctionEnv S.nocell hloc (λh₁ hns hsb=>?_) S.kind
 have hk₁:∀b o,s.heap.get? b=some o->h₁.get? b=some o:=λb o e=>hsb.extBut b o (æ (É e)) (Ë _ e)
 refine⟨lim.keeps hk₁,?_⟩
 show codeAny _ _ (.expr body (W.envX qual scope s.heap.objs.size f (.ref c') cl)) _ _
 obtain⟨t,ht,hq⟩:=hbody A outer s H vs Q E (hr.deeper _) hsp
 have I:Inv (cxL CX P w K mg base (ps++ys) qual scope f (.ref c') cl A outer s H E) [] (start (ps++ys) (vs++cvs)) H { s with heap:=h₁,toks:=s.toks+(ps.zip us).length }:=zR S hr.hd e0 hl r C hns hk₁
 refine W.kla_codeExpr (Ō (ht [] _ _ H _ I hq) (λu s' hs=>?_) λe s' hs=>hs)
 obtain⟨v,H',J,rv,q⟩:=hs
 exact⟨v,H',J.os,J.bare,J.base,J.hok,rv,q⟩
def reb(base h:Heap)(L:List Addr):Heap:=W.hideAll h ((ä h.objs.size).filter λb=>(base.get? b).isNone&&!decide (b∈L))
def uL{base h:Heap}{L:List Addr}{b:Addr}:b∉((ä h.objs.size).filter λb=>(base.get? b).isNone&&!decide (b∈L))↔(h.objs.size<=b\/(∃o,base.get? b=some o)\/b∈L):=by
 rw[đ,ę,Ê,Option.isNone_iff_eq_none,Ĵ,decide_eq_false_iff_not]
 constructor
 ·intro z
  by_cases h1:b<h.objs.size
  ·cases e:base.get? b with
   |some o=>exact .inr (.inl ⟨o,rfl⟩)
   |none =>
    by_cases h2:b∈L
    ·exact .inr (.inr h2)
    ·exact absurd ⟨h1,e,h2⟩ z
  ·exact .inl (Nat.le_of_not_lt h1)
 ·rintro(z|⟨o,z⟩|z) ⟨a,b,c⟩
  ·exact absurd a (Nat.not_lt.mpr z)
  ·rw[z] at b;cases b
  ·exact c z
def Gm{base h:Heap}{L:List Addr}{b:Addr}{o:Obj}(e:h.get? b=some o)(m:b∈L):(reb base h L).get? b=some o:=W.hideAll_get _ e (uL.mpr (.inr (.inr m)))
def Gn{base h:Heap}{L:List Addr}(bk:∀b o,base.get? b=some o->h.get? b=some o):∀b o,base.get? b=some o->(reb base h L).get? b=some o:=λb o e=>W.hideAll_get _ (bk b o e) (uL.mpr (.inr (.inl ⟨o,e⟩)))
def Hx{base h:Heap}{L:List Addr}{b:Addr}{o:Obj}(e:(reb base h L).get? b=some o):h.get? b=some o/\((∃o,base.get? b=some o)\/b∈L):=by
 have e1:=W.of_hideAll _ e
 refine⟨e1,?_⟩
 have n:b∉((ä h.objs.size).filter λb=>(base.get? b).isNone&&!decide (b∈L)):=λz=>by
  have:=W.hideAll_none (h:=h) _ z
  rw[show(W.hideAll h ((ä h.objs.size).filter λb=>(base.get? b).isNone&&!decide (b∈L))).get? b=some o from e] at this
  cases this
 exact(uL.mp n).resolve_left (λz=>absurd (É e1) (Nat.not_lt.mpr z))
def Mod.reb{K:Ô}{mg:Str->Option Value}{base h:Heap}{L:List Addr}(m:Mod K mg base)(bk:∀b o,base.get? b=some o->h.get? b=some o):Mod K mg (reb base h L):=by
 have k:=Gn (L:=L) bk
 obtain⟨mb,hb,hx⟩:=m.blt
 exact⟨m.kin.keeps k,m.glob.keeps k,⟨mb,hb.keeps k,hx⟩,m.nolimit.keeps k⟩
def Env0.reb{P:Program}{w:World}{K:Ô}{mg:Str->Option Value}{base:Heap}{A:Around}{outer:List Env}{s:Shared}{H:Hp}{L:List Addr}(e:Env0 P w K mg base A outer s H)(hL:∀b∈L,H b=none)(hf:∀b∈L,b∉frs outer):Env0 P w K mg (reb base s.heap L) A outer s H:=by
 have bk:∀b o,base.get? b=some o->s.heap.get? b=some o:=λb o z=>(e.bs b o z).1
 refine⟨e.frames,e.mod.reb bk,λb o z=>?_,?_,?_,e.frf,e.hok,e.bare⟩
 ·obtain⟨h1,h2⟩:=Hx z
  refine⟨h1,?_⟩
  rcases h2 with ⟨o',h2⟩|h2
  ·exact(e.bs b o' h2).2
  ·exact hL b h2
 ·unfold L2.reb
  rw[W.hideAll_size]
  exact Ç _
 ·have all:∀l:List Env,(∀b∈L,b∉frs l)->s.heap.FunFrames base l->s.heap.FunFrames (L2.reb base s.heap L) l:=by
   intro l
   induction l with
   |nil=>intro _ _;trivial
   |cons env r ih =>
    intro hs hl
    obtain⟨hk,⟨F,o,hf,hn,ho,hd⟩,hr⟩:=hl
    refine⟨hk,⟨F,o,hf,?_,ho,hd⟩,ih (λb hb z=>hs b hb ?_) hr⟩
    ·cases q:(L2.reb base s.heap L).get? F with
     |none=>rfl
     |some u =>
      obtain⟨_,h2⟩:=Hx q
      rcases h2 with ⟨o',h2⟩|h2
      ·rw[hn] at h2;cases h2
      ·exact absurd (by unfold frs;rw[ų,hf];exact Ú) (hs F h2)
    ·unfold frs at z ⊢
     rw[ų,hf]
     exact Ó _ z
  exact all outer hf e.jY
section
variable {X:Cx}{CX:CXT}{k i:Nat}{f:Addr}{fd:FuncData}{ps:List Str}{sp:Sp}{E:XK}{x:Str}{p pos:Pos}{e:Expr}{es:List Expr}{t:TA}
end
def oK(P:Addr)(pos:Pos)(qual:Str)(H:Hp):Prop:=∃ps,H P=some (.tbl ps)/\(ps=#[]\/∃c',ps=#[rawInt pos.line,rawInt pos.col,.ref c']/\rD H c' qual)
def Uk{h h':Heap}{L:Addr}{m:Str->Option Value}(x:h.Ns L m)(k:∀o,h.get? L=some o->h'.get? L=some o):h'.Ns L m:=by
 obtain⟨o,es,ep,ho,r⟩:=x
 exact⟨o,es,ep,k o ho,r⟩
section
variable {X:Cx}{pins:List (Addr×Obj)}{σ:St}{H:Hp}{s:Shared}{c P:Addr}{pos:Pos}{qual:Str}{params:Arguments}{body:Expr}{scope:Scope}{cl:List (Str×Addr)}{Q:Value->Shared->Prop}{E:Value->Shared->Prop}
def Ec(I:Inv X pins σ H s)(hq:X.env.qual++"<lambda>"=qual)(hdef:defaultsOf params X.env=([],[]))(hcl:closureFor scope X.env=pure cl)(hcode:X.env.code=.ref c)(hC:X.K.In X.base->W.CodeHd X.base c P)(hB:X.K.In X.base->X.base.BuiltinsAt X.mg P)(T:oK P pos qual H)(h:∀f c' ctv pm s' H',Inv X pins σ H' s'->oK P pos qual H'->rD H' c' qual->H' f=none->s'.heap.get? f=some (Ŵ "<lambda>" qual params body scope cl pm c' ctv)->f∉frs X.stack->(∀b o,H b=some o->b≠P->H' b=some o) ->
   (∀b o,s.heap.get? b=some o->H b=none->s'.heap.get? b=some o/\H' b=none)->Q (.ref f) s') :
  wpAny (model X.prog X.w) X.A (eval (.Lambda params body scope pos) X.env) Q E s:=by
 have hC:=hC I.ok.mod.kin
 have hB:=hB I.ok.mod.kin
 obtain⟨ps,hP,hps⟩:=T
 have hPh:s.heap.get? P=some (W.tabObj ps):=I.hok P _ hP
 have neP:∀b,H b=none->b≠P:=λb e z=>by rw[z,hP] at e;cases e
 have hgs:s.heap.Ns mainGlobals X.mg:=I.mod.glob.keeps I.bk
 have hgP:mainGlobals≠P:=by
  obtain⟨o,_,_,ho,_⟩:=I.mod.glob
  exact neP _ (I.bs _ _ ho).2
 have hB':s.heap.BuiltinsAt X.mg P:=by
  obtain⟨bm,o,h1,h2,h3,h4,h5,r⟩:=hB
  exact⟨bm,o,h1,h2,h3,h4,I.bk _ _ h5,r⟩
 have fsz:∀b,s.heap.objs.size<=b->b∉frs X.stack:=λb hb z=>by
  obtain⟨_,o,ho,_⟩:=I.stack.mem z
  exact absurd (É ho) (Nat.not_lt.mpr hb)
 refine W.kla_eval hdef ?_
 rw[hq]
 rcases hps with rfl|⟨c',rfl,kn⟩
 ·refine W.kla_makeFunction (mg:=X.mg) hcl I.ok.glob hgs hcode (hC.keeps I.bk) hPh (by trivial) (by rfl) hgP hB' λc' ctv h' tk hx hge hlt hrec htb=>?_
  obtain⟨c₂,oc,vs,t,e2,hoc,hd,hv⟩:=hrec
  cases e2
  have keep:∀b o,b≠P->s.heap.get? b=some o->(h'.push (Ŵ "<lambda>" qual params body scope cl ((X.mg "__name__").getD .none) c' ctv)).get? b=some o:=λb o n e=>Ë _ (hx b o n e)
  have hc0:H c'=none:=I.hok.fresh hge
  have cP:c'≠P:=neP c' hc0
  have cS:∀b o,s.heap.get? b=some o->b≠c':=λb o e z=>by subst z;exact absurd (É e) (Nat.not_lt.mpr hge)
  have htb':(h'.push (Ŵ "<lambda>" qual params body scope cl ((X.mg "__name__").getD .none) c' ctv)).get? P=some (W.tabObj (#[]++#[rawInt pos.line,rawInt pos.col,.ref c'])):=Ë _ htb
  have hoc':=Ë (Ŵ "<lambda>" qual params body scope cl ((X.mg "__name__").getD .none) c' ctv) hoc
  let H':Hp:=upd (upd H P (.tbl #[rawInt pos.line,rawInt pos.col,.ref c'])) c' (.frz oc (.ext λ_=>True))
  have u0:∀b,b≠P->b≠c'->H' b=H b:=λb h1 h2=>by show upd _ _ _ b=_;rw[ao h2,ao h1]
  have uP:H' P=some (.tbl #[rawInt pos.line,rawInt pos.col,.ref c']):=by show upd _ _ _ P=_;rw[ao (Ĩ cP),aB]
  have uc:H' c'=some (.frz oc (.ext λ_=>True)):=aB
  have nc:∀b o,H b=some o->b≠c':=λb o e z=>by rw[z,hc0] at e;cases e
  have kn:rD H' c' qual:=⟨oc,_,uc,vs,t,hd,hv⟩
  have J:Inv X pins σ H' { s with heap:=h'.push (Ŵ "<lambda>" qual params body scope cl ((X.mg "__name__").getD .none) c' ctv),toks:=tk }:=by
   refine I.step (g':=s.gens) (d':=s.drawn) (ch:=[]) (λ_ z=>nomatch z) (λb o _ _ _ e n=>keep b o (neP b n) e) (λb o _ _ _ e n=>⟨o.slots,keep b o (neP b n) e⟩) (λb o _ e n=>by rw[u0 b (neP b n) (cS b o e)];exact n) (λb o _ e=>?_) (λb xs e=>?_) (λb o u e=>?_) (λb ps e=>?_) (λm hm=>Uk hm λo e=>keep _ o (neP _ I.free) e) (λa o e=>?_) I.bare
   ·by_cases z:b=P
    ·subst z;exact⟨_,htb'⟩
    ·exact⟨o,keep b o z e⟩
   ·rw[u0 b (λz=>by rw[z,hP] at e;cases e) (nc b _ e)];exact e
   ·rw[u0 b (λz=>by rw[z,hP] at e;cases e) (nc b _ e)];exact e
   ·by_cases z:b=P
    ·subst z
     rw[hP] at e
     cases e
     exact⟨#[rawInt pos.line,rawInt pos.col,.ref c'],by rw[uP];simp⟩
    ·exact⟨#[],by rw[u0 b z (nc b _ e),e];simp⟩
   ·by_cases z:a=c'
    ·subst z
     rw[uc] at e
     cases e
     exact⟨hoc',trivial,⟨_,hoc'⟩,λ_ _ _ _=>trivial⟩
    ·by_cases z2:a=P
     ·subst z2
      rw[uP] at e
      cases e
      exact htb'
     ·rw[u0 a z2 z] at e
      have ow:∀b,H b=some (.own a)->b≠P:=λb q y=>by rw[y,hP] at q;cases q
      exact(I.hok a o e).stay (λb u hb q=>keep b u (hb.elim (λy=>y ▸ z2) (ow b)) q) (λb q=>by rw[u0 b (ow b q) (nc b _ q)];exact q) λb xs q=>by rw[u0 b (λy=>by rw[y,hP] at q;cases q) (nc b _ q)];exact q
  have hsz:s.heap.objs.size<=h'.objs.size:=Nat.le_of_lt (Nat.lt_of_le_of_lt hge hlt)
  have fP:h'.objs.size≠P:=λz=>absurd (É hPh) (Nat.not_lt.mpr (z ▸ hsz))
  refine h h'.objs.size c' ctv _ _ H' J ⟨_,uP,.inr ⟨c',rfl,kn⟩⟩ kn (by rw[u0 _ fP (ŝ hlt)];exact I.hok.fresh hsz) (Þ _ rfl) (fsz _ hsz) (λb o e n=>by rw[u0 b n (nc b _ e)];exact e) λb o e n=>⟨keep b o (neP b n) e,by rw[u0 b (neP b n) (cS b o e)];exact n⟩
 ·refine W.kla_makeFunctionHit (mg:=X.mg) (cv:=.ref c') hcl I.ok.glob hgs hcode (hC.keeps I.bk) hPh (by trivial) (codeAmong_snoc (pos:=pos) (c:=.ref c') [] trivial rfl) hB' λctv h' tk hk hsz=>?_
  have keep:∀b o,s.heap.get? b=some o->(h'.push { cls:=.type "function",data:=.func (W.kla_fn "<lambda>" qual params body scope cl ((X.mg "__name__").getD .none) (.ref c') ctv) }).get? b=some o:=λb o e=>Ë _ (hk b o e)
  exact h h'.objs.size c' ctv _ _ H (I.kept (t':=tk) keep) ⟨_,hP,.inr ⟨c',rfl,kn⟩⟩ kn (I.hok.fresh hsz) (Þ _ rfl) (fsz _ hsz) (λb o e _=>e) λb o e n=>⟨keep b o e,n⟩
end
structure LamAt(base:Heap)(f c':Addr)(qual:Str)(params:Arguments)(body:Expr)(scope:Scope)(cl:List (Str×Addr))(ys:List Str)(cvs:List V)(H:Hp):Prop where
 fn:∃pm ctv,base.get? f=some (Ŵ "<lambda>" qual params body scope cl pm c' ctv)
 caps:Caps base cl ys cvs
 kn:rD H c' qual
section
variable {X:Cx}{k:Nat}{fh c P:Addr}{fdh:FuncData}{ps ys:List Str}{sp:Heap->Sp}{x:Str}{p pos lpos:Pos}{e:Expr}{te:TE}{qual:Str}{params:Arguments}{body:Expr}{scope:Scope}{cl:List (Str×Addr)}
end
end L2
namespace Dl
open PySem L2 PyProof.Rows
def wL(P:Addr)(pos:Pos)(qual:Str):Pn where
 fp:=λb=>b=P
 PI:=oK P pos qual
 pv:=.non
 mono:=λH H' ⟨ps,h,r⟩ k=>⟨ps,k _ _ (.inl rfl) h,r.imp id λ⟨c',e,x,φ,hc,cx⟩=>⟨c',e,x,φ,k _ _ (.inr ⟨x,φ,rfl⟩) hc,cx⟩⟩
 is:=λH b ⟨ps,h,_⟩ hb=>by
  subst hb
  exact⟨_,h,(λxs z=>(nomatch z)),λ⟨_,_,z⟩=>(nomatch z)⟩
def spT(T:Pn)(f:List D->(D->Prop)->Prop):Sp:=λvs H Q _=>∃ds P,T.PI H/\Rps (λa=>¬T.fp a) H vs ds/\f ds P/\∀d v H',P d->Kp T H H'->T.PI H'->Rp (λa=>H a=none) H' v d->Q v H'
def Cg{T:Pn}{f:List D->(D->Prop)->Prop}{n:Nat}(hn:∀ds P,f ds P->ds.length=n:=by intro _ _ h;repeat (first|(obtain⟨rfl,_⟩:=h;rfl)|obtain⟨_,h⟩:=h)):∀vs H Q E,spT T f vs H Q E->vs.length=n:=λvs H Q E ⟨ds,P,_,r,t,_⟩=>by
 rw[r.length]
 exact hn ds P t
def Pn.plus(p T:Pn):Pn where
 fp:=λb=>p.fp b\/T.fp b
 PI:=λH=>p.PI H/\T.PI H
 pv:=p.pv
 mono:=λH H' h k=>⟨p.mono H H' h.1 λb o z e=>k b o (z.imp .inl id) e,T.mono H H' h.2 λb o z e=>k b o (z.imp .inr id) e⟩
 is:=λH b h z=>z.elim (p.is H b h.1) (T.is H b h.2)
section
variable [Gr] {X:Cx}{k j:Nat}{x:Str}{ps:List Str}{e:Expr}{es:List Expr}{t:DA}{p pos:Pos}{C:Pn->Prop}{T:Pn}{i:Nat}{f:List D->(D->Prop)->Prop}
end
section
variable {X:Cx}{k j:Nat}{x:Str}{ps:List Str}{e:Expr}{es:List Expr}{t:DA}{p pos:Pos}{Z:Hp->Prop}{i:Nat}{f:Addr}{fd:FuncData}{g:List D->(D->Prop)->Prop}
end
end Dl
namespace Wr
open PySem L2 PyProof.Rows Dl
variable {X:Cx}{k j:Nat}{x:Str}{ps:List Str}{e:Expr}{es:List Expr}{t:DA}{p pos:Pos}{Z:Hp->Prop}{i:Nat}{f:Addr}{fd:FuncData}{g:List D->(D->Prop)->Prop}
end Wr
namespace Dl
open PySem L2 PyProof.Rows
section
variable [Gr] {X:Cx}{st:Stmt}{i k a b:Nat}{f:List D->(D->Prop)->Prop}
end
end Dl
namespace Wr
open PySem L2 PyProof.Rows Dl
section
variable [Gr] {X:Cx}{i k a b lv j:Nat}{f:List D->(D->Prop)->Prop}{x g y z1 z2:Str}{ps:List Str}{apos cpos np pos gp gpos py px pa pb:Pos}
end
end Wr
namespace L2
open PySem PySem.Spec PyProof.Rows
def Ej{P:Program}{w:World}{K:Ô}{mg mb:Str->Option Value}{k:Nat}{fa a c PT:Addr}{fd:FuncData}{x:Str}{sp:Sp}{s₁:Shared}{vs:List Value}{ns:List Int}(KX:K.In s₁.heap)(hKP:K.lookup PT=none)(hC:W.CodeHd s₁.heap c PT)(hPT:s₁.heap.get? PT=some (W.tabObj #[]))(hns:s₁.heap.Ns mainGlobals mg)(hb:s₁.heap.Ns builtinsNs mb)(hbb:∀x:Str,x≠"__name__"->mb x=bootBuiltins x)(hlim:s₁.heap.NoLimit)(hBm:s₁.heap.BuiltinsAt mg PT)(hg:s₁.gens=#[])(ha:s₁.heap.get? a=some { cls:=.type "list",data:=.seq vs.toArray })(hi:IntsAre vs ns)(hl:ns.length<=sizeLine)(hr:Room k callerA)(F:∀base:Heap,K.In base->base.Ns mainGlobals mg->base.BuiltinsAt mg PT->(∀(b:Addr) (m:Str->Option Value),s₁.heap.Ns b m->base.Ns b m)->FnOk P w K mg base CX0 k fa fd [x] sp)(hbind:∀(s:Shared) (u:Value),BindsTo s fd ⟨[u],[]⟩ [(x,u)])(hsp:∀H:Hp,SqL K H a (ns.map V.int)->H PT=some (.tbl #[])->sp [.ref a] H (λv _=>v=.bl true) λ_ _ _=>False) :
  codeAny (model P w) callerA (.call (.ref fa) ⟨[.ref a],[]⟩) (λr s'=>r=.ok (.ret (.bool true))/\OldK s₁.heap s'.heap/\s'.os=s₁.os/\AllBare s'.gens) s₁:=by
 have rv:=su hi
 have lenV:=hi.length
 have aP:a≠PT:=λz=>by rw[z,hPT] at ha;cases ha
 have core:∀H:Hp,SqL K H a (ns.map V.int)->HOk P w H s₁.heap->H PT=some (.tbl #[])->(∀b u,H b=some u->b≠PT->b=a/\K.lookup a=none/\∃o u',u=.frz o u') ->
   codeAny (model P w) callerA (.call (.ref fa) ⟨[.ref a],[]⟩) (λr s'=>r=.ok (.ret (.bool true))/\OldK s₁.heap s'.heap/\s'.os=s₁.os/\AllBare s'.gens) s₁:=by
  intro H hS hok hT hA
  have nD:∀{b:Addr}{o:Obj}{es:Array DictEntry}{ep:Nat},s₁.heap.get? b=some o->o.data=.dict es ep->H b=none:=λ{b o es ep} e d=>by
   cases q:H b with
   |none=>rfl
   |some u =>
    by_cases z:b=PT
    ·rw[z,hPT] at e;cases e;cases d
    ·have:=(hA b u q z).1
     subst this
     rw[ha] at e;cases e;cases d
  have nsK:∀{b:Addr}{m:Str->Option Value},s₁.heap.Ns b m->(vJ s₁.heap H).Ns b m:=λ{b m} ⟨o,es,ep,e,d,r⟩=>⟨o,es,ep,qR e (nD e d),d,r⟩
  have hKb:K.In (vJ s₁.heap H):=λb o e=>qR (KX b o e) (by
   cases q:H b with
   |none=>rfl
   |some u =>
    by_cases z:b=PT
    ·rw[z,hKP] at e;cases e
    ·obtain⟨z1,z2,_⟩:=hA b u q z
     rw[z1,z2] at e;cases e)
  have hM:Mod K mg (vJ s₁.heap H):=⟨hKb,nsK hns,⟨mb,nsK hb,hbb⟩,let ⟨mc,h1,h2⟩:=hlim;⟨mc,nsK h1,h2⟩⟩
  have e0:Env0 P w K mg (vJ s₁.heap H) callerA [] s₁ H:=⟨rfl,hM,λb o e=>K4 e,Nat.le_of_eq (Eo _ _),trivial,λb hb=>absurd (show b∈([]:List Addr) from hb) (by simp),hok,.of_eq hg⟩
  have hBb:(vJ s₁.heap H).BuiltinsAt mg PT:=by
   obtain⟨bm,o,h1,h2,h3,h4,h5,h6,h7⟩:=hBm
   refine⟨bm,o,h1,h2,h3,h4,qR h5 ?_,h6,h7⟩
   cases q:H bm with
   |none=>rfl
   |some u =>
    have:=(hA bm u q h4).1
    subst this
    rw[ha] at h5;cases h5
    have h6:Đ "list"=Đ "module":=h6
    exact absurd h6 (by decide)
  refine codeAny_mono ((F _ hKb (nsK hns) hBb λb m z=>nsK z).run callerA [] s₁ H ⟨[.ref a],[]⟩ [.ref a] [.ref a] _ _ hr e0 (hbind s₁ (.ref a)) (.cons rfl .nil) (hsp H hS hT)) λr s' h=>?_
  cases r with
  |error e=>exact h.elim
  |ok fl =>
   cases fl with
   |next=>exact Ġ h
   |brk=>exact Ġ h
   |cont=>exact Ġ h
   |ret u =>
    obtain⟨v,H',os,bare,un,hok',r',q⟩:=h
    have q':v=.bl true:=q
    subst q'
    obtain rfl:u=Ś true:=r'
    obtain⟨more,hT'⟩:=un.tbls PT _ hT
    have eT:s'.heap.get? PT=some { cls:=.none,data:=.fields (#[]++more) }:=hok' PT _ hT'
    have kept:∀b o,s₁.heap.get? b=some o->b≠PT->s'.heap.get? b=some o:=λb o e nb=>by
     cases q:H b with
     |none=>exact un.keep b o e q (by intro z;exact absurd (show b∈([]:List Addr) from z) (by simp)) (by simp)
     |some u =>
      obtain⟨_,_,ob,u',rfl⟩:=hA b u q nb
      have e1:=(hok b _ q).1
      rw[e] at e1;cases e1
      exact(hok' b _ (un.frzs b _ _ q)).1
    refine⟨rfl,⟨λb o e=>?_,λb o e=>?_⟩,os,bare⟩
    ·by_cases z:b=PT
     ·subst z
      rw[hPT] at e
      cases e
      exact .inr (.inl ⟨(hC.tab hPT).isCodeTable,rfl,#[],more,rfl,eT⟩)
     ·exact .inl (kept b o e z)
    ·by_cases z:b=PT
     ·subst z;exact⟨_,eT⟩
     ·exact⟨o,kept b o e z⟩
 cases hk:K.lookup a with
 |some o =>
  have e:=KX a o hk
  rw[ha] at e
  cases e
  refine core (λb=>if b=PT then some (.tbl #[]) else none) (.inr ⟨_,vs.toArray,_,hk,rfl,rfl,rfl,by rw[Ï,lenV];exact hl,by simpa using rv⟩) (λb u z=>?_) (if_pos rfl) λb u z nb=>?_
  ·by_cases hb:b=PT
   ·have z':=(if_pos hb).symm.trans z
    cases z'
    subst hb
    exact hPT
   ·have z':=(if_neg hb).symm.trans z
    cases z'
  ·have z':=(if_neg nb).symm.trans z
   cases z'
 |none =>
  let H:Hp:=λb=>if b=PT then some (.tbl #[]) else if b=a then some (.frz { cls:=.type "list",data:=.seq vs.toArray } (.lst (ns.map V.int))) else none
  have hP1:H PT=some (.tbl #[]):=if_pos rfl
  have hA1:H a=some (.frz { cls:=.type "list",data:=.seq vs.toArray } (.lst (ns.map V.int))):=(if_neg aP).trans (if_pos rfl)
  have hN1:∀b,b≠PT->b≠a->H b=none:=λb h1 h2=>(if_neg h1).trans (if_neg h2)
  refine core H (.inl (.inr ⟨_,hA1⟩)) (λb u z=>?_) hP1 λb u z nb=>?_
  ·by_cases hb:b=PT
   ·subst hb
    rw[hP1] at z
    cases z
    exact hPT
   ·by_cases hb2:b=a
    ·subst hb2
     rw[hA1] at z
     cases z
     exact⟨ha,by rw[Â];exact hl,vs,_,rv,ha⟩
    ·rw[hN1 b hb hb2] at z;cases z
  ·by_cases hb2:b=a
   ·subst hb2
    rw[hA1] at z
    cases z
    exact⟨rfl,hk,_,_,rfl⟩
   ·rw[hN1 b nb hb2] at z;cases z
def Fx{l:W.OpenLaw}{n k:Nat}{q:Program}{loose:List Str}{XP:(Str->Option Value)->Heap->Prop}{YP:World->Heap->Prop}{d:DefRec}{K:Params->Ô}{x:Str}(hi:importsNone q=true)(hn:l.most=some n)(hn2:n<=sizeLine)(hdf:d.params.defaults=[])(hr:Room k callerA)(hY:∀(w:World) (h:Heap),YP w h->(K w.params).In h)(F:∀(w:World) (mg:Str->Option Value) (fa:Addr) (h:Heap),(K w.params).In h->h.Ns mainGlobals mg->mg d.name=some (.ref fa) ->
   ∃(K':Ô) (c PT:Addr) (fd:FuncData) (sp:Sp),K'.In h/\K'.lookup PT=none/\W.CodeHd h c PT/\h.get? PT=some (W.tabObj #[])/\(∀(s:Shared) (u:Value),BindsTo s fd ⟨[u],[]⟩ [(x,u)]) /\
    (∀base:Heap,K'.In base->base.Ns mainGlobals mg->base.BuiltinsAt mg PT->(∃o,base.get? sysModules=some o)->FnOk l.prog w K' mg base CX0 k fa fd [x] sp)/\∀(H:Hp) (a:Addr) (ns:List Int),SqL K' H a (ns.map V.int)->H PT=some (.tbl #[])->sp [.ref a] H (λv _=>v=.bl true) λ_ _ _=>False) :
  W.WalkO q loose XP YP l.row.toRowW d [] (λf vs=>PySem.call f vs):=by
 refine Att.yc hn hdf λw s₀ s₁ mg mb fa o pm cd doc a vs ns G Y ho hd hcd hmg hobj hints hlen hg=>?_
 obtain⟨K',c,PT,fd,sp,k1,k2,k3,k4,hb,hF,hsp⟩:=F w mg fa _ (hY w _ Y) G.T.g hmg
 have hBm:s₁.heap.BuiltinsAt mg PT:=by
  obtain⟨bm,ob,b1,b2,b3,b4,b5,b6⟩:=G.T.bmain
  have n1:bm≠PT:=λz=>by rw[z,k4] at b3;cases b3;cases b4
  have n2:bm≠mainGlobals:=λz=>by
   obtain⟨o,es,ep,e,hd,_⟩:=G.T.g
   rw[z,e] at b3;cases b3;rw[hd] at b6;cases b6
  exact⟨bm,ob,b1,b2,n2,n1,b3,b4,b5,b6⟩
 obtain⟨mm,hm,_⟩:=(G.T.seer hi).mods
 exact Ej k1 k2 k3 k4 G.T.g G.T.b G.T.builtins G.T.nolimit hBm hg hobj hints (é hlen hn2) hr (λbase h1 h2 h3 h4=>hF base h1 h2 h3 (let ⟨o,_,_,e,_⟩:=h4 _ _ hm;⟨o,e⟩)) hb λH hS hT=>hsp H a ns hS hT
section
variable {K:Ô}{PT b f:Addr}{h:Heap}
end
def Oq{K:Ô}{PT:Addr}{h:Heap}(X:W.Frag.In ((([PT]:List Addr).map λa=>(a,W.tabObj #[]))++K) h)(n:K.lookup PT=none):K.In h/\h.get? PT=some (W.tabObj #[]):=by
 refine⟨λa o e=>X a o ?_,X PT _ ?_⟩
 ·have:a≠PT:=λz=>by rw[z,n] at e;cases e
  show List.lookup a ((PT,W.tabObj #[])::K)=some o
  rw[þ,show(a == PT)=false by simpa using this]
  exact e
 ·show List.lookup PT ((PT,W.tabObj #[])::K)=_
  rw[þ,beq_self_eq_true]
end L2
namespace Dl
open PySem L2 PyProof.Rows
variable [Gr]
section
variable {X:Cx}{tg:Expr}{pos:Pos}{ta:DA}
end
end Dl
namespace Wr
open PySem L2 PyProof.Rows Dl
variable [Gr] {X:Cx}{pos:Pos}{ta:DA}
end Wr
set_option autoImplicit true
namespace Dl
open PySem L2 PyProof.Rows
class Tb where
 T:Pn
instance (priority:=low) noTb:Tb:=⟨g8⟩
def aq[Tb](a:Addr)(n:Nat):Pn where
 fp:=λb=>b=a\/Tb.T.fp b
 PI:=λH=>(∃x y c:Int,H a=some (.lst [.int x,.int y,.int c])/\0<=c/\c+(n:Int)<=1152921504606846976)/\Tb.T.PI H/\¬Tb.T.fp a
 pv:=.ref a
 mono:=λH H' ⟨⟨x,y,c,h,r⟩,t,na⟩ k=>⟨⟨x,y,c,k _ _ (.inl (.inl rfl)) h,r⟩,Tb.T.mono H H' t λb o z e=>k b o (z.imp .inr id) e,na⟩
 is:=λH b ⟨⟨x,y,z,h,_⟩,t,_⟩ hb=>hb.elim (λhb=>by
  subst hb
  exact⟨_,h,(λxs z=>(nomatch z)),λ⟨_,_,z⟩=>(nomatch z)⟩) (Tb.T.is H b t)
def aH[Tb]{a:Addr}{n m:Nat}{H:Hp}(h:(aq a n).PI H)(hm:m<=n):(aq a m).PI H:=by
 obtain⟨⟨x,y,c,h,c0,c1⟩,t⟩:=h
 exact⟨⟨x,y,c,h,c0,by omega⟩,t⟩
def Ko[Tb]{a:Addr}{n:Nat}:aq a n≠g8:=λh=>by
 have:=congrFun (congrArg Pn.fp h) a
 have h2:(a=a\/Tb.T.fp a)=False:=this
 exact cast h2 (.inl rfl)
def TP:Pn->Prop:=λ_=>True
def Ow:Sl->Sl
 |.pen _=>.pen TP
 |s=>s
def stp(ρ:List Sl):List Sl:=ρ.map Ow
def yG(ρ:List Sl):stp (stp ρ)=stp ρ:=by
 unfold stp
 rw[ç]
 refine œ λs _=>?_
 cases s <;> rfl
section
variable [Tb] {X:Cx}{a:Addr}{n m m1 m2 m3:Nat}{H0 Hb H H1 H':Hp}{own:Addr->Option Nat}{σ:L2.St}{ρ:List Sl}
def EnvD.lv(E:EnvD (aq a n) H0 own σ H ρ)(h:(aq a m).PI H):EnvD (aq a m) H0 own σ H (stp ρ):=by
 refine⟨E.k0,h,E.ow,λj s e=>?_,by simp[stp,E.len],trivial⟩
 unfold stp at e
 rw[å] at e
 cases e1:ρ[j]? with
 |none=>rw[e1] at e;cases e
 |some s1 =>
  rw[e1] at e
  have e:=á e
  subst e
  have q:=E.slot j s1 e1
  cases s1 with
  |pen C=>exact⟨q.1,trivial⟩
  |scr v b=>exact⟨q.1,λhb=>absurd (q.2 hb) Ko⟩
  |_=>exact q
def At.lv(A:At (aq a n) H0 own Hb H)(h:m<=n):At (aq a m) H0 own Hb H:=⟨A.k0,A.kp,aH A.penb h,aH A.pen h,A.ow⟩
def Hr{k:Kd}:okK (aq a n) H0 own Hb k=okK (aq a m) H0 own Hb k:=by cases k <;> rfl
def Gj{k:Kd}{v:V}{d:D}(r:Rp (okK (aq a n) H0 own Hb k) H v d):Rp (okK (aq a m) H0 own Hb k) H v d:=by
 rw[Hr (m:=m)] at r
 exact r
structure EnvB(a:Addr)(n m:Nat)(H0:Hp)(own:Addr->Option Nat)(σ:L2.St)(H:Hp)(ρ:List Sl):Prop where
 st:stp ρ=ρ
 pi:(aq a (n+m)).PI H
 env:EnvD (aq a n) H0 own σ H ρ
def EnvB.up(E:EnvB a n m H0 own σ H ρ)(hm:m1+m2<=m):EnvB a (n+m2) m1 H0 own σ H ρ:=⟨E.st,aH E.pi (by omega),by
 have:=E.env.lv (m:=n+m2) (aH E.pi (by omega))
 rw[E.st] at this
 exact this⟩
def EnvB.first(E:EnvB a n (m1+m2) H0 own σ H ρ):EnvB a (n+m2) m1 H0 own σ H ρ:=E.up (Ç _)
def EnvB.next(E:EnvB a n m H0 own σ H ρ)(A:At (aq a (n+m2)) H0 own H H1):EnvB a n m2 H0 own σ H1 ρ:=⟨E.st,A.pen,E.env.go A.kp (aH A.pen (by omega))⟩
def EnvB.low(E:EnvB a n m H0 own σ H ρ)(h:m1<=m):EnvB a n m1 H0 own σ H ρ:=⟨E.st,aH E.pi (by omega),E.env⟩
def fO(m:Nat)(t:DE):TE:=λσ H Q=>∃a n H0 own ρ P,EnvB a n m H0 own σ H ρ/\t ρ P/\∀k d v H',P k d->At (aq a n) H0 own H H'->Rp (okK (aq a n) H0 own H k) H' v d->Q v H'
def zN(m:Nat)(t:DA):TA:=λσ H Q=>∃a n H0 own ρ P,EnvB a n m H0 own σ H ρ/\t ρ P/\∀ks vs H',P ks->At (aq a n) H0 own H H'->RpK (aq a n) H0 own H H' vs ks->Q vs H'
def qL(m:Nat)(t:DT):TT:=λσ H Q=>∃a n H0 own ρ P,EnvB a n m H0 own σ H ρ/\t ρ P/\∀b H',P b->At (aq a n) H0 own H H'->Q b H'
def Ib(m:Nat)(t:DI):TI:=λσ H R=>∃a n H0 own ρ P,EnvB a n m H0 own σ H ρ/\t ρ P/\∀k ds J H1 Ok,P k ds->At (aq a n) H0 own H H1->Wlk Ok J ds (okA (aq a n) H0 own H k H1)->Ok H1->R J H1
def zM(m:Nat)(t:DS):TS:=λQ σ H=>∃a n H0 own ρ P,EnvB a n m H0 own σ H ρ/\t P ρ/\Wish (aq a n) H0 own H P Q
end
end Dl
namespace Wb
open PySem L2 PyProof.Rows Dl Wr
section
variable [Tb]
structure BE(X:Cx)(m:Nat)(e:Expr)(t:DE):Prop where
 h:PE X e (fO m t)
structure BA(X:Cx)(m:Nat)(e:List Expr)(t:DA):Prop where
 h:PA X e (zN m t)
structure BT(X:Cx)(m:Nat)(e:Expr)(t:DT):Prop where
 h:PT X e (qL m t)
structure BW(X:Cx)(m:Nat)(e:Expr)(t:DT):Prop where
 h:PW X e (qL m t)
structure BTs(X:Cx)(m:Nat)(e:List Expr)(t:DT):Prop where
 h:PTs X e (qL m t)
structure BI(X:Cx)(m:Nat)(tg e:Expr)(t:DI):Prop where
 h:PI X tg e (Ib m t)
structure BS(X:Cx)(m:Nat)(s:Stmt)(t:DS):Prop where
 h:PS X s (zM m t)
structure BSs(X:Cx)(m:Nat)(s:List Stmt)(t:DS):Prop where
 h:PSs X s (zM m t)
end
section
variable [Tb] {X:Cx}{n m m1 m2 m3:Nat}{H0 Hb H H1 H':Hp}{own:Addr->Option Nat}{σ:L2.St}{ρ:List Sl}{pos:Pos}{a b e:Expr}{es:List Expr}{ta tb te:DE}{t:DA}
def e0(h:WD X e te):BE X 0 e te:=⟨PE.wk h.h (by
 rintro σ H Q ⟨a,n,H0,own,ρ,P,E,t,q⟩
 exact⟨aq a n,H0,own,ρ,P,E.env,t,q⟩)⟩
def a0(h:WDA X es t):BA X 0 es t:=⟨PA.wk h.h (by
 rintro σ H Q ⟨a,n,H0,own,ρ,P,E,t,q⟩
 exact⟨aq a n,H0,own,ρ,P,E.env,t,q⟩)⟩
def t0{t:DT}(h:WDT X e t):BT X 0 e t:=⟨PT.wk h.h (by
 rintro σ H Q ⟨a,n,H0,own,ρ,P,E,t,q⟩
 exact⟨aq a n,H0,own,ρ,P,E.env,t,q⟩)⟩
def i0{t:DI}{tg:Expr}(h:WDI X tg e t):BI X 0 tg e t:=⟨PI.wk h.h (by
 rintro σ H Q ⟨a,n,H0,own,ρ,P,E,t,q⟩
 exact⟨aq a n,H0,own,ρ,P,E.env,t,q⟩)⟩
def s0{t:DS}{s:Stmt}(h:WDS X s t):BS X 0 s t:=⟨PS.wk' h.h (by
 rintro Q σ H ⟨a,n,H0,own,ρ,P,E,t,w⟩
 exact⟨aq a n,H0,own,ρ,P,E.env,t,w⟩)⟩
def ss0{t:DS}{s:List Stmt}(h:WDSs X s t):BSs X 0 s t:=⟨PSs.wk' h.h (by
 rintro Q σ H ⟨a,n,H0,own,ρ,P,E,t,w⟩
 exact⟨aq a n,H0,own,ρ,P,E.env,t,w⟩)⟩
def ts1{t:DT}(h:BT X m e t):BTs X m [e] t:=⟨Bu h.h⟩
def aQ(ha:BE X m1 e te)(hr:BA X m2 es t)(hs:zS X e es:=by rfl):BA X (m1+m2) (e::es) (jr te t):=⟨PA.wk (dz ha.h hr.h hs) (by
 rintro σ H Q ⟨a,n,H0,own,ρ,P,E,t,q⟩
 refine⟨a,n+m2,H0,own,ρ,_,E.first,t,λk d v H1 h A r=>?_⟩
 refine⟨a,n,H0,own,ρ,_,E.next A,h,λks vs H2 h2 A2 r2=>?_⟩
 have A':=A.lv (m:=n) (by omega)
 exact q _ _ H2 h2 (A'.base A2) (.cons (iJ A' A2.kp (Gj r)) (RpK.base A' r2)))⟩
def tup{x1:Nat}(h:BA X m es t):BE X m (.Tuple es x1 pos) (yE t):=⟨PE.wk (yQ h.h) (by
 rintro σ H Q ⟨a,n,H0,own,ρ,P,E,t,q⟩
 refine⟨a,n,H0,own,ρ,_,E,t,λks vs H1 h A r=>?_⟩
 have h24:=õ
 have hl:=r.length
 refine⟨by have:=h.1;omega,λl hl=>?_⟩
 obtain⟨k2,i2,nw⟩:=A.new hl (.tup vs)
 exact q _ _ _ _ h.2 (A.go k2 i2) (aR (.tup aB (bF A k2 (RpK.all A (Kd.le_refl _) r)))))⟩
def lQ{g:G2}{r:R2}(ok:Ok2 g r):∀σ H Q,fO (m1+m2) (t2 g ta tb) σ H Q->tOp r (fO m1 ta) (fO m2 tb) σ H Q:=by
 rintro σ H Q ⟨a,n,H0,own,ρ,P,E,t,q⟩
 refine⟨a,n+m2,H0,own,ρ,_,E.first,t,λk1 d1 v1 H1 t1 A1 r1=>?_⟩
 refine⟨a,n,H0,own,ρ,_,E.next A1,t1,λk2 d2 v2 H2 t2 A2 r2=>?_⟩
 have A1':=A1.lv (m:=n) (by omega)
 have A:At (aq a n) H0 own H H2:=A1'.base A2
 exact ok (aq a n) H0 own H H2 v1 v2 k1 d1 k2 d2 P Q A (iJ A1' A2.kp (Gj r1)) (jw A1' r2) t2 λk d v H' h k3 i3 r3=>q k d v H' h (A.go k3 i3) r3
def op{o:Operator}{r:R2}{g:G2}(ho:OpR X (binaryOp o) r)(ok:Ok2 g r)(ha:BE X m1 a ta)(hb:BE X m2 b tb):BE X (m1+m2) (.BinOp a o b pos) (t2 g ta tb):=⟨PE.wk (aW ho ha.h hb.h) (lQ ok)⟩
def jd{t:DE}:∀σ H Q,qL m (dH t) σ H Q->(fO m t) σ H (λx H'=>∃k,x=.bl k/\Q k H'):=by
 rintro σ H Q ⟨a,n,H0,own,ρ,P,E,t,q⟩
 refine⟨a,n,H0,own,ρ,_,E,t,λk d v H' h A r=>?_⟩
 cases d with
 |bool b=>exact⟨b,r.bl',q b H' h A⟩
 |_=>exact h.elim
def RJ{o:CmpOp}{r:R2}{g:G2}(ho:OpR X (compareOp o) r)(ok:Ok2 g r)(ha:BE X m1 a ta)(hb:BE X m2 b tb)(hm:behindInMarks o b=false):BT X (m1+m2) (.Compare a [o] [b] pos) (dH (t2 g ta tb)) :=
 ⟨PT.wk (jy ho ha.h hb.h hm) λσ H Q h=>lQ ok σ H _ (jd σ H Q h)⟩
section
variable {rest:List Expr}{t u:DT}
def yh(ha:BT X m a t):BW X m (.BoolOp .And [a] pos) t:=⟨Bs ha.h⟩
def or1(ha:BT X m a t):BW X m (.BoolOp .Or [a] pos) t:=⟨Gq ha.h⟩
def vW(ha:BT X m1 a t)(hb:BW X m2 (.BoolOp .And (b::rest) pos) u):BW X (m1+m2) (.BoolOp .And (a::b::rest) pos) (Jv t u):=⟨PW.wk (Gs ha.h hb.h) (by
 rintro σ H Q ⟨a,n,H0,own,ρ,P,E,t,q⟩
 refine⟨a,n+m2,H0,own,ρ,_,E.first,t,λb H' h A=>?_⟩
 have A':=A.lv (m:=n) (by omega)
 cases b with
 |true=>exact aF ⟨a,n,H0,own,ρ,P,E.next A,by simpa using h,λc H2 h2 A2=>q c H2 h2 (A'.base A2)⟩
 |false=>exact ak (q false H' (by simpa using h) A'))⟩
def or2(ha:BT X m1 a t)(hb:BW X m2 (.BoolOp .Or (b::rest) pos) u):BW X (m1+m2) (.BoolOp .Or (a::b::rest) pos) (dOr t u):=⟨PW.wk (Np ha.h hb.h) (by
 rintro σ H Q ⟨a,n,H0,own,ρ,P,E,t,q⟩
 refine⟨a,n+m2,H0,own,ρ,_,E.first,t,λb H' h A=>?_⟩
 have A':=A.lv (m:=n) (by omega)
 cases b with
 |true=>exact aF (q true H' (by simpa using h) A')
 |false=>exact ak ⟨a,n,H0,own,ρ,P,E.next A,by simpa using h,λc H2 h2 A2=>q c H2 h2 (A'.base A2)⟩)⟩
def wt(h:BW X m e t):BT X m e t:=⟨PW.pt h.h⟩
end
end
end Wb
namespace Dl
open PySem L2 PyProof.Rows
section
variable [Tb]
def bB(m:Nat)(f:List D->(D->Prop)->Prop):Sp:=λvs H Q _=>∃(a:Addr) (n:Nat) (vs':List V) (ds:List D) (P:D->Prop),vs=.ref a::vs'/\(aq a (n+m)).PI H/\Rps (λb=>¬(aq a n).fp b) H vs' ds/\f ds P/\∀d v H',P d->Kp (aq a n) H H'->(aq a n).PI H'->Rp (λb=>H b=none) H' v d->Q v H'
def dF{m:Nat}{f:List D->(D->Prop)->Prop}{n:Nat}(hn:∀ds P,f ds P->ds.length=n:=by intro _ _ h;repeat (first|(obtain⟨rfl,_⟩:=h;rfl)|obtain⟨_,h⟩:=h)):∀vs H Q E,bB m f vs H Q E->vs.length=n+1:=λvs H Q E h=>by
 obtain⟨p,_,vs',ds,P,rfl,_,r,t,_⟩:=h
 rw[ÿ,r.length,hn ds P t]
end
end Dl
namespace Wb
open PySem L2 PyProof.Rows Dl Wr
section
variable [Tb]
def dcP{f:List D->(D->Prop)->Prop}{t:DA}{ps:List Str}{x y:Str}{pp py:Pos}{k j i:Nat}(C:Cal X.prog X.w X.K X.mg X.base k x ps (bB m f))(hr:Room j X.A)(hi:WV X (.Name y py) i)(ha:BA X m1 es t)(hk:k<=j:=by decide)(hg:Gl X x:=by rfl)(hdb:zB x:=by decide)(he:starEach (.Name y py::es) X.env=(false,eval (.Name y py) X.env)::starEach es X.env:=by rfl)(hpl:zP X pos es:=by rfl):BE X (m1+m) (.Call (.Name x pp) (.Name y py::es) [] pos) (U0 TP f i t):=⟨PE.wk (pcS C hr (dz hi.h ha.h) hk hg hdb he hpl) (by
 rintro σ H Q ⟨a,n,H0,own,ρ,P,E,⟨hp,t⟩,q⟩
 obtain⟨hs,_⟩:=E.env.slot i _ hp
 refine⟨.ref a,hs,a,n+m,H0,own,ρ,_,E.first,t,λks vs H1 h A r=>?_⟩
 show bB m f ((.ref a::vs)++[]) H1 Q E0
 rw[Ā]
 have A':=A.lv (m:=n) (by omega)
 have rr:Rps (λb=>¬(aq a n).fp b) H1 vs (ks.map (·.2)):=(RpK.rps A r).mono (λ_ o=>o) (λ_ _ _ e=>e) λ_ _ e=>e
 refine⟨a,n,vs,ks.map (·.2),_,rfl,A.pen,rr,h,λd v H' h2 k2 i2 r2=>?_⟩
 exact q _ d v H' h2 (A'.go k2 i2) (aR (r2.mono (λa o=>A'.free o) (λ_ _ _ e=>e) λ_ _ e=>e)))⟩
def yM{tg:Expr}{ta:DA}{ps:Pos}(hm:X.mg "range"=none)(ha:BA X m [a] ta)(hg:Gl X "range":=by rfl)(hs:starEach [a] X.env=[(false,eval a X.env)]:=by rfl):BI X m tg (.Call (.Name "range" ps) [a] [] pos) (iR1 ta):=⟨PI.wk (mZ hg hm ha.h hs) (by
 rintro σ H R ⟨a,n,H0,own,ρ,P,E,t,q⟩
 refine⟨a,n,H0,own,ρ,_,E,t,λks vs H1 h A r=>?_⟩
 split at h
 ·rename_i k j
  obtain⟨v,rfl,r'⟩:=eE r
  exact⟨j,by rw[r'.int'],h.1.1,h.1.2,q _ _ _ H1 _ h.2 A pP trivial⟩
 ·exact h.elim)⟩
def sT(t:DT):DT:=λρ P=>t (stp ρ) P
def sE(t:DE):DE:=λρ P=>t (stp ρ) P
def xG{l i M:Nat}(h:i<l):(l - i) * M=(l - (i+1)) * M+M:=by
 have:l - i=(l - (i+1))+1:=by omega
 rw[this,Nat.add_mul,Nat.one_mul]
def jD{k0 mi mt me:Nat}{ti:DI}{g:DG}{tt:DT}{te:DE}:∀σ H Q,fO (mi+1000 * (mt+me)) (dLC k0 ti g (sT tt) (sE te)) σ H Q->tLC k0 (Ib mi ti) (λ_=>Ie g) (λ_=>qL mt tt) (λ_=>fO me te) σ H Q:=by
 rintro σ H Q ⟨a,n,H0,own,ρ,P,E,t,q⟩
 refine⟨a,n+1000 * (mt+me),H0,own,ρ,_,E.first,t,λk ds J H1 Ok h A W o1=>?_⟩
 obtain⟨hlen,ke,Iv,i0,step,done⟩:=h
 have A0:At (aq a n) H0 own H H1:=A.lv (by omega)
 have okS:∀H',Kp (aq a n) H1 H'->Ok H':=λH' K=>W.stab H1 H' o1 (λb o n e=>K b o e (fG A n.1)) (jg A0 K)
 refine⟨λi m ys H'=>m=ds.length - i/\i<=ds.length/\Kp (aq a n) H1 H'/\(aq a (n+(ds.length - i) * (mt+me))).PI H'/\∃es,Rps (okK (aq a n) H0 own H ke) H' ys es/\es.length<=i/\Iv i es,⟨_,rfl,à _,Kp.refl,aH A.pen (Nat.add_le_add_left (Nat.mul_le_mul_right _ (by omega)) _),[],.nil,Ç _,i0⟩,?_⟩
 rintro c i m ys H' ⟨rfl,hi,K',I',es,rs,hl,iv⟩
 have oH:=okS H' K'
 have A':At (aq a n) H0 own H H':=A0.go K' (aH I' (by omega))
 have h24:=õ
 by_cases hlt:i<ds.length
 ·rw[xG hlt] at I'
  refine .inr ⟨W.go i H' oH hlt,by have:=rs.length;omega,λys' H2=>Kp (aq a n) H1 H2/\(aq a (n+(ds.length - (i+1)) * (mt+me))).PI H2/\∃es,Rps (okK (aq a n) H0 own H ke) H2 ys' es/\es.length<=i+1/\Iv (i+1) es,λys' H2 h=>⟨_,by omega,rfl,hlt,h⟩,λx H2 y=>?_⟩
  generalize hN:n+(ds.length - (i+1)) * (mt+me)=N at *
  obtain⟨sm,rx⟩:=W.yld i H' x H2 oH y
  have rx:=rx ds[i] (È hlt)
  have I2:(aq a (N+(mt+me))).PI H2:=(aq a (N+(mt+me))).mono H' H2 (by rw[←hN,Nat.add_assoc];exact I') λb o _ e=>sm b o e
  have K2:Kp (aq a n) H1 H2:=K'.trans (Kp.of sm)
  have A2:At (aq a n) H0 own H H2:=A0.go K2 (aH I2 (by omega))
  have E2:EnvD (aq a n) H0 own σ H2 ρ:=E.env.go A2.kp A2.pen
  have rs2:=bF A' (Kp.of sm) rs
  have rxc:Rp (okB (aq a n) H0 own (elC k)) H2 x ds[i]:=Nx A rx
  refine⟨aq a n,H0,own,_,_,_,_,E2.comp k0,fU rxc,step i ds[i] es (È hlt) iv,λσ3 ρ3 E3 t3=>?_⟩
  have B3:EnvB a (N+me) mt H0 own σ3 H2 (stp ρ3):=⟨yG _,by rw[show N+me+mt=N+(mt+me) by omega];exact I2,E3.lv (aH I2 (by omega))⟩
  refine⟨a,N+me,H0,own,stp ρ3,_,B3,t3,λb H4 h4 A4=>?_⟩
  have A4':At (aq a n) H0 own H2 H4:=A4.lv (by omega)
  have A5:At (aq a n) H0 own H H4:=A2.base A4'
  have rs4:=bF A2 A4'.kp rs2
  cases b with
  |true =>
   have E4:EnvD (aq a N) H0 own σ3 H2 (stp ρ3):=E3.lv (aH I2 (by omega))
   refine aF ⟨a,N,H0,own,stp ρ3,_,⟨yG _,A4.pen,E4.go A4.kp (aH A4.pen (by omega))⟩,(show sE te ρ3 _ by simpa using h4),λk' d' v H6 h6 A6 r6=>?_⟩
   have A6':At (aq a n) H0 own H4 H6:=A6.lv (by omega)
   refine⟨(K2.trans A4'.kp).trans A6'.kp,A6.pen,es++[d'],(bF A5 A6'.kp rs4).snoc (iI (A5.base A6') h6.1 (aR (jw A5 (Gj r6)))),by simp;omega,h6.2⟩
  |false=>exact ak ⟨K2.trans A4'.kp,aH A4.pen (by omega),es,rs4,by omega,by simpa using h4⟩
 ·have e:i=ds.length:=by omega
  subst e
  refine .inl ⟨W.stop H' oH,λl hl'=>?_⟩
  obtain⟨k7,i7,nw⟩:=A'.new hl' (.lst ys)
  have j:=dJ ke .new
  refine q _ _ _ _ (done es iv) (A'.go k7 i7) (.lst (bK A' j.2 nw) aB ?_)
  exact(bF A' k7 rs).mono (λa o=>bK A' j.1 o) (λ_ _ _ e=>e) λ_ _ e=>e
def lc{mi mt me:Nat}{tg iter elt:Expr}{ifs:List Expr}{scope:Scope}{ti:DI}{g:DG}{tt:DT}(own:List Str)(hc:X.calm=true)(hi:BI X mi tg iter ti)(hg:∀c,WDG (X.comp own scope c) tg g)(ht:∀c,BTs (X.comp own scope c) mt ifs tt)(he:∀c,BE (X.comp own scope c) me elt te)(hk:eX X.env scope X.N=true:=by rfl)(hs:zF X iter:=by intro _;rfl) :
  BE X (mi+1000 * (mt+me)) (.ListComp elt [⟨tg,iter,ifs,0⟩] scope pos) (dLC own.length ti g (sT tt) (sE te)):=⟨PE.wk (GP own hc hi.h (λc=>(hg c).h) (λc=>(ht c).h) (λc=>(he c).h) hk hs) jD⟩
end
section
variable [Tb] {X:Cx}{n m m1 m2 m3:Nat}{H0 Hb H H1 H':Hp}{own:Addr->Option Nat}{σ:L2.St}{ρ:List Sl}{pos:Pos}{a b e:Expr}{es:List Expr}{ta tb te:DE}
def Vg{K:Ô}:Ok2 gIx (λx y H Q=>SJ K x y H Q\/Sy K x y H Q):=by
 intro p H0 own Hb H x y k1 d1 k2 d2 P Q A r1 r2 t q
 unfold gIx at t
 split at t
 ·rename_i ds i
  obtain⟨d,hd,t⟩:=t
  obtain⟨c,vs,rfl,o,hc,rs⟩:=r1.cW
  obtain⟨v,hv,rv⟩:=rs.atI hd
  exact .inl ⟨c,vs,i,v,rfl,r2.int',SqL.of hc,hv,q _ _ _ _ t Kp.refl A.pen (aR rv)⟩
 ·rename_i ds i
  obtain⟨d,hd,t⟩:=t
  obtain⟨c,vs,rfl,hc,rs⟩:=r1.fQ
  obtain⟨v,hv,rv⟩:=rs.atI hd
  exact .inr ⟨c,vs,i,v,rfl,r2.int',SqT.of hc,hv,q _ _ _ _ t Kp.refl A.pen (aR rv)⟩
 ·exact t.elim
def ix(ha:BE X m1 a ta)(hb:BE X m2 b tb)(hs:mO b:=by exact λ_ _=>rfl):BE X (m1+m2) (.Subscript a b pos) (t2 gIx ta tb):=⟨PE.wk (fu (IxR.or cH zO) ha.h hb.h hs) (lQ Vg)⟩
def plus(ha:BE X m1 a ta)(hb:BE X m2 b tb):BE X (m1+m2) (.BinOp a .Add b pos) (t2 IV ta tb):=op (Dl.OpR.or dO (Dl.OpR.or zp BX)) (by
 intro p H0 own Hb H x y k1 d1 k2 d2 P Q A r1 r2 t q
 cases d1 with
 |int i =>
  cases d2 with
  |int j=>exact .inl ⟨i,j,r1.int',r2.int',q _ _ _ _ t Kp.refl A.pen (.int _)⟩
  |_=>exact t.elim
 |list ds=>exact .inr (.inl (Hw p H0 own Hb H x y k1 _ k2 d2 P Q A r1 r2 t q))
 |tuple ds=>exact .inr (.inr (Hv p H0 own Hb H x y k1 _ k2 d2 P Q A r1 r2 t q))
 |_=>exact t.elim) ha hb
def times(ha:BE X m1 a ta)(hb:BE X m2 b tb):BE X (m1+m2) (.BinOp a .Mult b pos) (t2 zX ta tb):=op (Dl.OpR.or dB G6) (by
 intro p H0 own Hb H x y k1 d1 k2 d2 P Q A r1 r2 t q
 cases d1 with
 |int i =>
  cases d2 with
  |int j=>exact .inl ⟨i,j,r1.int',r2.int',t.1,q _ _ _ _ t.2 Kp.refl A.pen (.int _)⟩
  |_=>exact t.elim
 |list ds=>exact .inr (Nr p H0 own Hb H x y k1 _ k2 d2 P Q A r1 r2 t q)
 |_=>exact t.elim) ha hb
def sub(ha:BE X m1 a ta)(hb:BE X m2 b tb):BE X (m1+m2) (.BinOp a .Sub b pos) (t2 (gI0 λi j=>.int (i - j)) ta tb):=op G5 (oV λi j _=>.int _) ha hb
def mod(ha:BE X m1 a ta)(hb:BE X m2 b tb):BE X (m1+m2) (.BinOp a .Mod b pos) (t2 (gI (λ_ j=>0<j) λi j=>.int (i % j)) ta tb):=op eH (okI λi j _=>.int _) ha hb
def tgt(ha:BE X m1 a ta)(hb:BE X m2 b tb):BT X (m1+m2) (.Compare a [.Gt] [b] pos) (dH (t2 (gI0 λi j=>.bool (decide (j<i))) ta tb)):=RJ wQ (oV λi j _=>.bl _) ha hb (bN _)
def teq(hu:X.A.units+64<cLine)(ha:BE X m1 a ta)(hb:BE X m2 b tb):BT X (m1+m2) (.Compare a [.Eq] [b] pos) (dH (t2 (jJ false) ta tb)):=RJ (Dl.OpR.or Hi (zm hu)) Ht ha hb (bN _)
def sEn(P:DEnds):DEnds:={ nx:=λr=>P.nx (stp r),rt:=P.rt,bk:=λr=>P.bk (stp r),ct:=λr=>P.ct (stp r) }
def sS(t:DS):DS:=λP ρ=>t (sEn P) (stp ρ)
def Vr(ti:DI):DI:=λρ P=>ti ρ λk ds=>ds.length<=1000/\P k ds
def gJ{A:Addr}{o1 o2:Addr->Option Nat}{H H':Hp}(f:FrS (aq A n) o1 H o2 H'):FrS (aq A m) o1 H o2 H':=⟨f.keep,f.tup⟩
def p8{A:Addr}{v:V}{d:D}(r:RPost (aq A n) H0 H v d)(h:m<=n):RPost (aq A m) H0 H v d:=⟨r.k0,aH r.pen h,r.rp⟩
def Js(t u:DS):DS:=λP ρ=>t { nx:=λr=>u P (stp r),rt:=P.rt,bk:=λr=>P.bk (stp r),ct:=λr=>P.ct (stp r) } ρ
section
variable {st:Stmt}{rest:List Stmt}{t u:DS}
def cons(h1:BS X m1 st t)(h2:BSs X m2 rest u):BSs X (m1+m2) (st::rest) (Js t u):=⟨PSs.wk' (aY h1.h h2.h) (by
 rintro Q σ H ⟨a,n,H0,own,ρ,P,E,t,w⟩
 refine⟨a,n+m2,H0,own,ρ,_,E.first,t,⟨λo s h r e g nn=>⟨a,n,H0,o,stp r,P,⟨yG _,e.pen,e.lv (aH e.pen (by omega))⟩,nn,w.go (gJ g)⟩,λd v H' h r=>w.rt d v H' h (p8 r (by omega)),
  λo s h r e g nn=>w.bk o s h (stp r) (e.lv (aH e.pen (by omega))) (gJ g) nn,λo s h r e g nn=>w.ct o s h (stp r) (e.lv (aH e.pen (by omega))) (gJ g) nn⟩⟩)⟩
def Ug(t u:DS):DS:=λP ρ=>∃Mid:List Sl->Prop,t { nx:=λr=>Mid (stp r),rt:=P.rt,bk:=λr=>P.bk (stp r),ct:=λr=>P.ct (stp r) } ρ/\∀ρ',Mid ρ'->u P ρ'
def gn(h1:BS X m1 st t)(h2:BSs X m2 rest u):BSs X (m1+m2) (st::rest) (Ug t u):=⟨PSs.wk' (aY h1.h h2.h) (by
 rintro Q σ H ⟨a,n,H0,own,ρ,P,E,⟨Mid,t,k⟩,w⟩
 refine⟨a,n+m2,H0,own,ρ,_,E.first,t,⟨λo s h r e g nn=>⟨a,n,H0,o,stp r,P,⟨yG _,e.pen,e.lv (aH e.pen (by omega))⟩,k _ nn,w.go (gJ g)⟩,λd v H' h r=>w.rt d v H' h (p8 r (by omega)),
  λo s h r e g nn=>w.bk o s h (stp r) (e.lv (aH e.pen (by omega))) (gJ g) nn,λo s h r e g nn=>w.ct o s h (stp r) (e.lv (aH e.pen (by omega))) (gJ g) nn⟩⟩)⟩
def one(h1:BS X m st t):BSs X m [st] t:=⟨cZ h1.h⟩
def Ay{j:Nat}{s:Sl}(h:stp ρ=ρ)(hs:Ow s=s):stp (ρ.set j s)=ρ.set j s:=by
 unfold stp at h ⊢
 rw[List.map_set,h,hs]
def sH:∀(js:List Nat) {ρ:List Sl},stp ρ=ρ->stp (js.foldl (λρ j=>ρ.set j .any) ρ)=js.foldl (λρ j=>ρ.set j .any) ρ
 |[],_,h=>h
 |_::js,_,h=>sH js (Ay h rfl)
def drops(js:List Nat)(h:BSs X m rest t):BSs X m rest (Ab js t):=⟨PSs.wk' h.h (by
 rintro Q σ H ⟨a,n,H0,own,ρ,P,E,q,w⟩
 exact⟨a,n,H0,own,_,P,⟨sH js E.st,E.pi,E.env.drops js⟩,q,w⟩)⟩
def ret(he:BE X m e te):BS X m (.Return (some e) pos) (Jt te):=⟨PS.wk' (iM he.h) (by
 rintro Q σ H ⟨a,n,H0,own,ρ,P,E,t,w⟩
 refine⟨a,n,H0,own,ρ,_,E,t,λk d v H' h A r=>w.rt d v H' h.2 ⟨λb o e n=>A.kp b o (A.k0 b o e n) n,A.pen,?_⟩⟩
 exact iI A h.1 r)⟩
def if_{c:Expr}{a b:List Stmt}{tc:DT}{mc:Nat}(hc:BT X mc c tc)(ha:BSs X m1 a t)(hb:BSs X m2 b u):BS X (mc+(m1+m2)) (.If c a b pos) (dIf tc t u):=⟨PS.wk' (qd hc.h ha.h hb.h) (by
 rintro Q σ H ⟨a,n,H0,own,ρ,P,E,t,w⟩
 refine⟨a,n+(m1+m2),H0,own,ρ,_,E.first,t,λb H' h A=>?_⟩
 have A':=A.lv (m:=n) (by omega)
 have E1:=E.next A
 cases b with
 |true=>exact aF ⟨a,n,H0,own,ρ,P,E1.low (by omega),by simpa using h,w.go A'.frs⟩
 |false=>exact ak ⟨a,n,H0,own,ρ,P,E1.low (by omega),by simpa using h,w.go A'.frs⟩)⟩
def U3{i:Nat}(rg:Option Nat)(h:PS X st (rF (fO m te) (jh i))):BS X m st (rY i rg te):=⟨PS.wk' h (by
 rintro Q σ H ⟨a,n,H0,own,ρ,P,EB,t,w⟩
 have E:=EB.env
 refine⟨a,n,H0,own,ρ,_,EB,t,λk d v H1 h A r=>?_⟩
 generalize aq a n=p at *
 have r:=aR r
 generalize norm k d=k' at h r
 show Q.nx (σ.set i (some v)) H1
 have E1:=E.go A.kp A.pen
 have fin:∀s,gQ p H0 own (σ.set i (some v)) H1 i s\/¬i<σ.length->P.nx (ρ.set i s)->Q.nx (σ.set i (some v)) H1:=λs hs hn =>
  w.nx own _ H1 _ (E1.set λhl=>hs.elim id λz=>absurd hl z) A.frs hn
 have here:i<σ.length->(σ.set i (some v))[i]?=some (some v):=λhl=>Ĉ hl
 by_cases hl:i<σ.length
 ·cases k' with
  |imm=>exact fin (.im d) (.inl ⟨v,here hl,r⟩) h
  |new =>
   cases rg with
   |none=>exact fin (.sn d) (.inl ⟨v,here hl,iI A (k:=.snw) rfl r⟩) h
   |some q =>
    simp only[Dl.stK] at h
    by_cases hf:Jb q ρ i=true
    ·rw[if_pos hf] at h
     have E2:EnvD p H0 (bZ q own) σ H (ρ.set i .any):=(E.drop (i:=i)).clear hf
     have A2:At p H0 (bZ q own) H H1:=⟨A.k0,A.kp,A.penb,A.pen,E2.ow⟩
     have E3:=E2.adopt q A2
     have r2:Rp (okK p H0 (bZ q own) H .new) H1 v d:=r
     have E4:EnvD p H0 (cM q H H1 (bZ q own)) (σ.set i (some v)) H1 ((ρ.set i .any).set i (.dw q d)):=E3.set λ_=>⟨v,here hl,yp (k:=.new) rfl A2 r2⟩
     rw[List.set_set] at E4
     exact w.nx _ _ H1 _ E4 (ud.trans (nQ A2)) h
    ·rw[if_neg hf] at h
     exact h.elim
  |reg q=>exact fin (.dw q d) (.inl ⟨v,here hl,r⟩) h
  |n0=>exact h.elim
  |snw=>exact fin (.sn d) (.inl ⟨v,here hl,r⟩) h
  |shr=>exact fin (.sh d) (.inl ⟨v,here hl,r⟩) h
  |wk=>exact h.elim
 ·cases hs:stK rg ρ i k' d with
  |none=>rw[hs] at h;exact h.elim
  |some s=>rw[hs] at h;exact fin s (.inr hl) h)⟩
def set{i:Nat}{x:Str}{pos':Pos}(rg:Option Nat)(hN:X.N.Nodup)(hi:X.N[i]?=some x)(hx:Loc X.env.scope x)(he:BE X m e te)(hs:swapsWith e (some (.Name x pos')) pos.line X.env=pure false:=by rfl)(hf:zL X x:=by first|exact .inl rfl|exact .inr rfl|assumption) :
  BS X m (.Assign [.Name x pos'] e pos) (rY i rg te):=U3 rg (dN hN hi hx he.h hs hf)
def Vy{i:Nat}(h:PS X st (Aw (tBM X.K "list" uM (wz i) (zN m (jr te vY))))):BS X m st (Ac i te):=⟨PS.wk' h (by
 rintro Q σ H ⟨a,n,H0,own,ρ,P,EB,t,w⟩
 have E:=EB.env
 unfold Ac at t
 split at t
 ·rename_i r ds hr
  obtain⟨v,hv,x⟩:=E.slot i _ hr
  obtain⟨l,vs,rfl,hl,ho,rs⟩:=x.cW
  refine⟨.ref l,hv,.inl ⟨rfl,vs,SqL.of ho⟩,a,n,H0,own,ρ,_,EB,BZ t,?_⟩
  rintro ks ws H1 ⟨k,d,rfl,hk,hlen,hn⟩ A rk
  obtain⟨y,rfl,ry⟩:=eE rk
  have ry:=iI A hk (aR ry)
  have h1:H1 l=some (.lst vs):=A.kp l _ ho (E.ow l r hl).2.1
  have h24:=õ
  have hln:=rs.length
  refine⟨l,vs,y,rfl,rfl,h1,by omega,?_⟩
  obtain⟨E2,F2⟩:=E.uK (vs':=vs++[y]) (ds':=ds++[d]) A hv hl ho rs λH2 f g=>(kY f rs λd hd=>ju hd).snoc (g ry)
  exact w.nx _ σ _ _ E2 F2 hn
 ·exact t.elim)⟩
def append{i:Nat}{x:Str}{apos cpos np:Pos}(hv:WV X (.Name x np) i)(ha:BA X m (e::es) (jr te vY))(hbase:attributeBase (.Name x np) "append" X.env (eval (.Name x np) X.env)=eval (.Name x np) X.env:=by rfl)(hfew:zW X cpos (e::es):=by rfl)(hline:(apos.endLine == cpos.line)=true:=by rfl)(hst:zS X e es:=by rfl)(hplain:zP X cpos es:=by rfl)(hs:swapsWith (.Call (.Attribute (.Name x np) "append" apos) (e::es) [] cpos) none pos.line X.env=pure false:=by rfl) :
  BS X m (.Expr (.Call (.Attribute (.Name x np) "append" apos) (e::es) [] cpos) pos) (Ac i te):=Vy (o9 (BK Ź PySem.F.slot_list_append PySem.F.type_list_append tE hv.h ha.h hbase hfew hline hst hplain) hs)
def Vu{i:Nat}(h:PS X st (Aw (tBM X.K "list" Br (wz i) (zN m (jr te vY))))):BS X m st (Ri i te):=⟨PS.wk' h (by
 rintro Q σ H ⟨a,n,H0,own,ρ,P,EB,t,w⟩
 have E:=EB.env
 unfold Ri at t
 split at t
 ·rename_i r ds hr
  obtain⟨v,hv,x⟩:=E.slot i _ hr
  obtain⟨l,vs,rfl,hl,ho,rs⟩:=x.cW
  refine⟨.ref l,hv,.inl ⟨rfl,vs,SqL.of ho⟩,a,n,H0,own,ρ,_,EB,BZ t,?_⟩
  rintro ks ws H1 ⟨k,d,rfl,hh⟩ A rk
  cases d with
  |list es =>
   obtain⟨hk,hlen,hn⟩:=hh
   obtain⟨y,rfl,ry⟩:=eE rk
   obtain⟨b,zs,e1,o1,hb,rz⟩:=Rp.cW ry
   subst e1
   have rz2:Rps (okK (aq a n) H0 own H .new) H1 zs es:=by
    rcases Bool.or_eq_true_iff.mp hk with q|q
    ·exact rz.mono (λa o=>bK A q o) (λ_ _ _ e=>e) λ_ _ e=>e
    ·exact(Rps.imm rz q).mono (λa o=>o.elim) (λ_ _ _ e=>e) λ_ _ e=>e
   have h1:H1 l=some (.lst vs):=A.kp l _ ho (E.ow l r hl).2.1
   have h24:=õ
   have l1:=rs.length
   have l2:=rz.length
   refine⟨l,b,vs,zs,rfl,rfl,h1,hb,by omega,?_⟩
   obtain⟨E2,F2⟩:=E.uK (vs':=vs++zs) (ds':=ds++es) A hv hl ho rs λH2 f g=>(kY f rs λd hd=>ju hd).app (wH g rz2)
   exact w.nx _ σ _ _ E2 F2 hn
  |_=>exact hh.elim
 ·exact t.elim)⟩
def extend{i:Nat}{x:Str}{apos cpos np:Pos}(hv:WV X (.Name x np) i)(ha:BA X m (e::es) (jr te vY))(hbase:attributeBase (.Name x np) "extend" X.env (eval (.Name x np) X.env)=eval (.Name x np) X.env:=by rfl)(hfew:zW X cpos (e::es):=by rfl)(hline:(apos.endLine == cpos.line)=true:=by rfl)(hst:zS X e es:=by rfl)(hplain:zP X cpos es:=by rfl)(hs:swapsWith (.Call (.Attribute (.Name x np) "extend" apos) (e::es) [] cpos) none pos.line X.env=pure false:=by rfl) :
  BS X m (.Expr (.Call (.Attribute (.Name x np) "extend" apos) (e::es) [] cpos) pos) (Ri i te):=Vu (o9 (BK Ź PySem.F.slot_list_extend PySem.F.type_list_extend Eb hv.h ha.h hbase hfew hline hst hplain) hs)
def Qy{A:Addr}{k:Kd}:okB (aq A n) H0 own k=okB (aq A m) H0 own k:=by cases k <;> rfl
def for_{tg iter:Expr}{body:List Stmt}{ti:DI}{g:DG}{tb:DS}{mi mb:Nat}(hp:PassesOwn (model X.prog X.w) X.A X.env X.xe)(hc:X.calm=true)(hi:BI X mi tg iter ti)(hg:WDG X tg g)(hb:BSs X mb body tb)(hs:zF X iter:=by intro _;rfl):BS X (mi+1000 * mb) (.For tg iter body [] pos) (Mr (Vr ti) g (sS tb)):=⟨PS.wk' (Gx hp hc hi.h hg.h hb.h hs) (by
 rintro Q σ H ⟨a,n,H0,own,ρ,P,E,t,w⟩
 refine⟨a,n+1000 * mb,H0,own,ρ,_,E.first,t,λk ds J H1 Ok h A W o1=>?_⟩
 obtain⟨hlen,hk,Iv,i0,step,done⟩:=h
 have A0:At (aq a n) H0 own H H1:=A.lv (by omega)
 have w1:=w.go A0.frs
 have okS:∀own' H',FrS (aq a n) own H1 own' H'->Ok H':=λown' H' F=>W.stab H1 H' o1 (λb o n e=>by
  have o2:=bK A (k:=.shr) hk n.1
  exact(F.keep b o e o2.1 o2.2).1) F.tup
 refine⟨λi m σ' H'=>m=ds.length - i/\i<=ds.length/\∃own' ρ',stp ρ'=ρ'/\(aq a (n+(ds.length - i) * mb)).PI H'/\EnvD (aq a n) H0 own' σ' H' ρ'/\FrS (aq a n) own H1 own' H'/\Iv i ρ',⟨_,rfl,à _,own,ρ,E.st,aH A.pen (Nat.add_le_add_left (Nat.mul_le_mul_right _ (by omega)) _),E.env.go A0.kp A0.pen,FrS.refl,i0⟩,?_⟩
 rintro i m σ' H' ⟨rfl,hi,own',ρ',hst,I',E',F',iv⟩
 have oH:=okS own' H' F'
 by_cases hlt:i<ds.length
 ·rw[xG hlt] at I'
  refine .inr ⟨W.go i H' oH hlt,λσ2 H2=>∃own' ρ',stp ρ'=ρ'/\(aq a (n+(ds.length - (i+1)) * mb)).PI H2/\EnvD (aq a n) H0 own' σ2 H2 ρ'/\FrS (aq a n) own H1 own' H2/\Iv (i+1) ρ',λσ2 H2 h=>⟨_,by omega,rfl,hlt,h⟩,λx H2 y=>?_⟩
  generalize hN:n+(ds.length - (i+1)) * mb=N at *
  have nN:n<=N:=by omega
  obtain⟨sm,rx⟩:=W.yld i H' x H2 oH y
  have rx:=rx ds[i] (È hlt)
  have I2:(aq a (N+mb)).PI H2:=(aq a (N+mb)).mono H' H2 (by rw[←hN,Nat.add_assoc];exact I') λb o _ e=>sm b o e
  have E2:EnvD (aq a n) H0 own' σ' H2 ρ':=E'.go (Kp.of sm) (aH I2 (by omega))
  have F2:FrS (aq a n) own H1 own' H2:=⟨λb o e n z=>let ⟨x,y⟩:=F'.keep b o e n z;⟨sm b o x,y⟩,λa xs e=>sm a _ (F'.tup a xs e)⟩
  have rb:Rp (okB (aq a n) H0 own' (elK k)) H2 x ds[i]:=by
   have:=Ny hk A (gJ F2) rx
   rw[Qy (m:=n)] at this
   exact this
  refine⟨aq a n,H0,own',ρ',_,_,_,E2,fU rb,step i ds[i] ρ' (È hlt) iv,λσ3 ρ3 E3 t3=>?_⟩
  have nxt:∀own4 σ4 H4 ρ4,EnvD (aq a N) H0 own4 σ4 H4 ρ4->FrS (aq a N) own' H2 own4 H4->Iv (i+1) (stp ρ4)->∃own' ρ',stp ρ'=ρ'/\(aq a N).PI H4/\EnvD (aq a n) H0 own' σ4 H4 ρ'/\FrS (aq a n) own H1 own' H4/\Iv (i+1) ρ':=λown4 σ4 H4 ρ4 E4 F4 v4=>⟨own4,stp ρ4,yG _,E4.pen,E4.lv (aH E4.pen nN),F2.trans (gJ F4),v4⟩
  exact⟨a,N,H0,own',stp ρ3,_,⟨yG _,I2,E3.lv (aH I2 (by omega))⟩,t3,⟨nxt,λd v H' h r=>w.rt d v H' h (p8 r nN),λo s h r e f nn=>w1.nx o s h (stp r) (e.lv (aH e.pen nN)) (F2.trans (gJ f)) nn,nxt⟩⟩
 ·have e:i=ds.length:=by omega
  subst e
  exact .inl ⟨W.stop H' oH,w1.nx own' σ' H' ρ' E' F' (done ρ' iv)⟩)⟩
end
def wC:∀(ds:List D) (k:Nat),stp (ds.map aD++Í k .any)=ds.map aD++Í k .any:=λds k=>by
 unfold stp
 rw[î,List.map_replicate,ç]
 congr 1
 refine œ λd _=>?_
 show Ow (aD d)=aD d
 unfold aD
 split <;> rfl
def nH{f:List D->(D->Prop)->Prop}{T:DS}{N:List Str}{vs:List V}{H:Hp}{Q:VK}{E:XK}{M M':Nat}(h:bB M' f vs H Q E)(hm:Nat.ble M M'=true)(body:∀ds P,f ds P->∃ρ,ds.map aD++Í (N.length - (ds.length+1)) .any=ρ/\T { nx:=λ_=>P .none,rt:=P } (.pen TP::ρ)):zM M T { nx:=λ_ H'=>Q .non H',rt:=Q } (L2.start N vs) H:=by
 have hm:=Ŋ hm
 obtain⟨a,n,vs',ds,P,rfl,pi,r,t,k⟩:=h
 obtain⟨ρ,e,b⟩:=body ds P t
 have E:=CJ (C:=TP) (p:=aq a n) (N:=N) trivial trivial (aH pi (by omega)) r
 rw[e] at E
 have st:stp (.pen TP::ρ)=.pen TP::ρ:=by
  rw[←e]
  exact congrArg (List.cons (Sl.pen TP)) (wC ds _)
 exact⟨a,n,H,λ_=>none,_,_,⟨st,aH pi (by omega),E⟩,b,⟨λo s h' r' e' _ nn=>k _ _ h' nn e'.k0 e'.pen .non,λd v h' nn w=>k d v h' nn w.k0 w.pen (w.rp.mono (λ_ o=>o.1) (λ_ _ _ e=>e) λ_ _ e=>e),λ_ _ _ _ _ _ n=>n.elim,λ_ _ _ _ _ _ n=>n.elim⟩⟩
end
def JX(K:Ô)(pre:List D->Prop):Sp:=λvs H Q _=>∃(sc:Addr) (ns:List Int) (vs':List V) (ds:List D),vs=.ref sc::vs'/\SqL K H sc (ns.map V.int)/\Rps (λ_=>True) H vs' ds/\pre ds /\
 ∀a H',(aq a 1152921504606846976).PI H'->Same H H'->H a=none->Q (.ref a) H'
def Ml{G:Gr}{p:Pn}{H0 H:Hp}{own:Addr->Option Nat}{σ:L2.St}{ρ:List Sl}(E:@EnvD G p H0 own σ H ρ):@EnvD grT p H0 own σ H ρ:=@EnvD.mk grT _ _ _ _ _ _ E.k0 E.pen E.ow E.slot E.len trivial
def Jm{G:Gr}{p:Pn}{H0 H:Hp}{own:Addr->Option Nat}{σ:L2.St}{ρ:List Sl}(g:G.G p H0)(E:@EnvD grT p H0 own σ H ρ):@EnvD G p H0 own σ H ρ:=@EnvD.mk G _ _ _ _ _ _ (@EnvD.k0 grT _ _ _ _ _ _ E) (@EnvD.pen grT _ _ _ _ _ _ E) (@EnvD.ow grT _ _ _ _ _ _ E) (@EnvD.slot grT _ _ _ _ _ _ E) (@EnvD.len grT _ _ _ _ _ _ E) g
variable {X:Cx}{K:Ô}{sc:Addr}{ns:List Int}{pre:List D->Prop}
def anyI{G:Gr}{tg e:Expr}{t:DI}(h:@WDI grT X tg e t):@PDI G X tg e t:=PI.wk (@WDI.h grT _ _ _ _ h) (by
 rintro σ H Q ⟨p,H0,own,ρ,P,E,t,q⟩
 exact⟨p,H0,own,ρ,P,Ml E,t,q⟩)
def Vz{G:Gr}{e:Expr}{g:DG}(h:@WDG grT X e g):@PDG G X e g:=PG.wk (@WDG.h grT _ _ _ h) (by
 rintro v σ H Q ⟨p,H0,own,ρ,k,d,P,E,r,t,q⟩
 exact⟨p,H0,own,ρ,k,d,P,Ml E,r,t,λσ' ρ' E' h=>q σ' ρ' (Jm E.gr E') h⟩)
def Um{G:Gr}{ss:List Stmt}{t:DS}(h:@WDSs grT X ss t):@mQ G X ss t:=PSs.wk' (@WDSs.h grT _ _ _ h) (by
 rintro Q σ H ⟨p,H0,own,ρ,P,E,t,w⟩
 exact⟨p,H0,own,ρ,P,Ml E,t,@Wish.mk grT _ _ _ _ _ _ (λo s h r e f n=>w.nx o s h r (Jm E.gr e) f n) w.rt (λo s h r e f n=>w.bk o s h r (Jm E.gr e) f n) (λo s h r e f n=>w.ct o s h r (Jm E.gr e) f n)⟩)
def vG:Sl->Sl
 |.im d=>.im d
 |.scr v _=>.scr v false
 |_=>.any
def Qc(sc:Addr)(ρ:List Sl):List Sl:=.scr (.ref sc) false::Í (ρ.length - 1) .any
def Vx(sc:Addr)(pre:List D->Prop)(i:Nat)(t1:DA)(t:DS):DS:=λP ρ=>(∃b,ρ[0]?=some (.scr (.ref sc) b))/\i<ρ.length/\t1 ρ λks=>pre (ks.map (·.2))/\t { nx:=λr=>(∃b,r[0]?=some (.scr (.ref sc) b))/\r.length=ρ.length/\P.nx (Qc sc ρ),rt:=P.rt } ((ρ.map vG).set i (.pen TP))
end Wb
namespace Wr
open PySem L2 PyProof.Rows Dl
variable [Gr] {X:Cx}{pos:Pos}{a b:Expr}{ta tb:DE}
def PN(ha:WD X a ta)(hb:WD X b tb):WD X (.BinOp a .LShift b pos) (t2 (gI JM λi j=>.int (i * 2 ^ j.toNat)) ta tb):=⟨Dl.jQ Qe (okI λi j _=>.int _) ha.h hb.h⟩
def PL(ha:WD X a ta)(hb:WD X b tb):WD X (.BinOp a .RShift b pos) (t2 (gI (λ_ j=>0<=j) λi j=>.int (i / 2 ^ j.toNat)) ta tb):=⟨Dl.jQ Qd (okI λi j _=>.int _) ha.h hb.h⟩
def Kv(ha:WD X a ta)(hb:WD X b tb):WD X (.BinOp a .BitAnd b pos) (t2 (gI0 λi j=>.int (Builtin.bitAnd i j)) ta tb):=⟨Dl.jQ Qf (oV λi j _=>.int _) ha.h hb.h⟩
end Wr
namespace Dl
open PySem L2 PyProof.Rows
@[reducible] def grE(a CN:Addr):Gr:=⟨λp H0=>p=g8/\H0 a=some (Vv a (.ref CN))⟩
variable {X:Cx}{pos:Pos}
structure RefK(K:Ô)(mg:Str->Option Value)(xN:Str)(xs:List Str)(CN CF c1 c2 c3 c4 c5 c6 c7 c8 c9:Addr):Prop where
 mF:mg "FallError"=some (.ref CF)
 mN:mg xN=some (.ref CN)
 m1:mg (xs.getD 0 "")=some (.ref c1)
 m2:mg (xs.getD 1 "")=some (.ref c2)
 m3:mg (xs.getD 2 "")=some (.ref c3)
 m4:mg (xs.getD 3 "")=some (.ref c4)
 m5:mg (xs.getD 4 "")=some (.ref c5)
 m6:mg (xs.getD 5 "")=some (.ref c6)
 m7:mg (xs.getD 6 "")=some (.ref c7)
 m8:mg (xs.getD 7 "")=some (.ref c8)
 m9:mg (xs.getD 8 "")=some (.ref c9)
 mV:mg "ValueError"=none
 exm:W.exmOne K (.ref CN) (.ref CF)=some true
 kx:ExcK K CN
 no:∀c∈[ħ c1,.ref c2,.ref c3,.ref c4,.ref c5,.ref c6,.ref c7,.ref c8,.ref c9],ů K (.ref CN) c=some false
 one:ů K (.ref CN) (.ref CN)=some true
 val:ů K (.ref CN) (.type "ValueError")=some true
end Dl
namespace L2
open PySem PySem.Spec PyProof.Rows
variable {X:Cx}{k:Nat}{f CF:Addr}{fd:FuncData}{ps:List Str}{sp:Sp}{x hx n:Str}{p np cpos epos hpos:Pos}{e:Expr}{es:List Expr}{t:TA}{b₀:Stmt}{suite:List Stmt}{ts:TS}{j:Nat}
def Hh{X:Cx}:OpR X (binaryOp .FloorDiv) (rI (λ_ j=>0<j/\j<1267650600228229401496703205376) λi j=>.int (i / j)):=opI λi j _ _ _ _ _ hc q=>by
 have h1:(0:Int)<j:=hc.1
 have h2:j<1267650600228229401496703205376:=hc.2
 refine floordiv_int (by omega) (by rw[Int.fdiv_eq_ediv_of_nonneg i (by omega)];exact q) (.inl (PyProof.noPylong_of_log2 ?_))
 have h3:j.natAbs<2 ^ 100:=by
  have:(2:Nat) ^ 100=1267650600228229401496703205376:=by decide
  omega
 have:=(Nat.log2_lt (by omega)).mpr h3
 omega
end L2
namespace Dl
open PySem L2 PyProof.Rows
variable [Gr] {X:Cx}{st:Stmt}{tj:DE}
end Dl
namespace Wr
open PySem L2 PyProof.Rows Dl
variable [Gr] {X:Cx}{pos:Pos}
end Wr
namespace Wb
open PySem L2 PyProof.Rows Dl Wr
section
variable [Tb] {X:Cx}{m1 m2:Nat}{pos:Pos}{te tj:DE}{st:Stmt}
def Og(i:Nat)(te tj:DE):DS:=λP ρ=>te ρ λ_ d=>cI d=true/\match ρ[i]? with
 |some (.dw r (.list ds))=>tj ρ λ_ dj=>match dj with
  |.int j=>∃m,ixN ds.length j=some m/\P.nx ((forget r ρ).set i (.dw r (.list (ds.set m d))))
  |_=>False
 |_=>False
def Ve{i:Nat}(h:PS X st (rF (fO m1 te) (T3 (wz i) (fO m2 tj) Nk))):BS X (m1+m2) st (Og i te tj):=⟨PS.wk' h (by
 rintro Q σ H ⟨a,n,H0,own,ρ,P,EB,t,w⟩
 refine⟨a,n+m2,H0,own,ρ,_,EB.first,t,λk d v H1 h A r=>?_⟩
 obtain⟨im,h⟩:=h
 split at h
 ·rename_i rg ds hr
  have E:=EB.env
  obtain⟨vv,hv,x⟩:=E.slot i _ hr
  obtain⟨l,vs,rfl,hl,ho,rs⟩:=x.cW
  refine⟨.ref l,hv,a,n,H0,own,ρ,_,EB.next A,h,λk2 dj vj H2 h2 A2 r2=>?_⟩
  have A12:=(A.lv (m:=n) (by omega)).base A2
  cases dj with
  |int j =>
   obtain⟨m,hm,hn⟩:=h2
   have ej:=Rp.int' r2
   have h1:H2 l=some (.lst vs):=A12.kp l _ ho (E.ow l rg hl).2.1
   have rd:Rp (λ_=>False) H2 v d:=(r.imm im).mono (λ_ o=>o) (λ_ _ o=>o.elim) A2.tups
   refine⟨l,vs,j,m,rfl,ej,h1,by rw[rs.length];exact hm,?_⟩
   obtain⟨E2,F2⟩:=E.uK (vs':=vs.set m v) (ds':=ds.set m d) A12 hv hl ho rs λH3 f g=>Dl.Rps.set (g (rd.mono (λ_ o=>o.elim) (λ_ _ o=>o.elim) λ_ _ e=>e)) _ (kY f rs λd hd=>ju hd)
   exact w.nx _ σ _ _ E2 F2 hn
  |_=>exact h2.elim
 ·exact h.elim)⟩
def put{i:Nat}{x:Str}{ej e:Expr}{np p1:Pos}(hv:WV X (.Name x np) i)(hj:BE X m2 ej tj)(he:BE X m1 e te)(ha:∀v,assign (.Subscript (.Name x np) ej p1) X.env v=(do
   let ov ←holding [v] (eval (.Name x np) X.env)
   let iv ←holding [v,ov] (eval ej X.env)
   standAt p1
   holding [v,ov,iv] (setItem ov iv v)
   release [v,ov,iv] []):=by intro _;rfl)(hs:swapsWithSole [.Subscript (.Name x np) ej p1] e pos.line X.env=pure false:=by rfl)(hw:swappedStores [.Subscript (.Name x np) ej p1] e X.env=pure none:=by rfl)(h1:(assignEach [.Subscript (.Name x np) ej p1] X.env).map (·.2)=[assign (.Subscript (.Name x np) ej p1) X.env]:=by rfl) :
  BS X (m1+m2) (.Assign [.Subscript (.Name x np) ej p1] e pos) (Og i te tj):=Ve (yN he.h (yP hv.h hj.h set_list ha) hs hw h1)
end
end Wb
namespace Dl
open PySem L2 PyProof.Rows
section
variable {X:Cx}{pos:Pos}{a:Expr}{t:DA}
def Eu(hc:X.calm=true):bM X (.builtin "sum") (λxs H Q=>∃(p:Addr) (ns:List Int),xs=[.ref p]/\SqL X.K H p (ns.map V.int)/\Q (.int ns.sum) H):=by
 intro pins s σ H xs us Q I r h
 obtain⟨p,ns,rfl,hp,q⟩:=h
 obtain⟨u,rfl,rx⟩:=vals1 r
 cases rx
 obtain⟨its,rv,pl,hz⟩:=I.list hp
 have hlen:its.length=ns.length:=by have:=rv.length;rw[Â] at this;exact this.symm
 have hlt:p≠s.heap.objs.size:=by obtain⟨o,ho,_⟩:=pl.isList;exact æ (É ho)
 have hltp:p<s.heap.objs.size:=by obtain⟨o,ho,_⟩:=pl.isList;exact É ho
 have at':∀i v,its[i]?=some v->∃t,v=ĝ (ns.getD i 0) t:=λi v e=>by
  have hi:i<its.length:=(Ý.mp e).1
  have hv:(ns.map V.int)[i]?=some (V.int ns[i]):=by rw[å,È (show i<ns.length by omega)];rfl
  obtain⟨u,eu,ru⟩:=rv.get hv
  rw[e] at eu
  cases eu
  obtain⟨t,rfl⟩:=ru
  exact⟨t,by rw[ò,È (show i<ns.length by omega)];rfl⟩
 refine call_sum_walkAnyS (wpAny_pyIter_list pl.isList ?_)
 refine⟨_,_,_,_,_,_,_,λi=>ns.getD i 0,rfl,(Walks.list (A:=X.A.in1) (I.ok.hd hc) _ p hlt _).toS,⟨⟨_,Þ _ rfl,rfl,rfl⟩,pl.isList.push _⟩,?_,λi v e=>at' i v (by simpa using e),λs' t' mv=>?_⟩
 ·intro b hb
  show b<(s.heap.push _).objs.size
  rw[ŕ]
  simp at hb
  rcases hb with rfl|rfl
  ·exact Ű _
  ·exact Ĕ hltp
 ·have e:PySem.preSum (λi=>ns.getD i 0) its.toArray.size=ns.sum:=by
   rw[Ï,hlen,Bw ns ns.length (Ç _),ě]
  rw[e]
  obtain⟨hp',g',d',k',o'⟩:=s'
  obtain⟨m1,m2,m3,m4,m5⟩:=mv
  have m2:g'=s.gens:=m2
  have m3:d'=s.drawn:=m3
  have m4:o'=s.os:=m4
  subst m2 m3 m4
  refine⟨.int ns.sum,H,I.kept λb o eb=>m1 b o ?_ (Ë _ eb),⟨_,rfl⟩,q⟩
  intro hm
  have:b=s.heap.objs.size:=by simpa using hm
  exact absurd (this ▸ É eb) (ü _)
variable [Gr]
def Iz:GC:=λks P=>match ks with
 |[(_,.list ds)]=>∃ns:List Int,ds=ns.map Å/\P .imm (.int ns.sum)
 |_=>False
def fD{ps:Pos}(hc:X.calm=true)(hm:X.mg "sum"=none)(ha:PDA X [a] t)(hg:Gl X "sum":=by rfl)(he:zS X a []:=by rfl)(hpl:zP X pos []:=by rfl):PD X (.Call (.Name "sum" ps) [a] [] pos) (tCl Iz t) :=
 dh (Eu hc) (by
  intro p H0 own Hb H vs ks P Q A r t q
  unfold Iz at t
  split at t
  ·rename_i k ds
   obtain⟨v,rfl,r'⟩:=eE r
   obtain⟨ns,rfl,t⟩:=t
   obtain⟨c,vs,rfl,o,hc,rs⟩:=r'.cW
   have e:=Rps.ints rs
   subst e
   exact⟨c,ns,rfl,SqL.of hc,q _ _ _ _ t Kp.refl A.pen (.int _)⟩
  ·exact t.elim) hg hm boot_sum ha (by decide) (by decide) he hpl
end
end Dl
namespace Wr
open PySem L2 PyProof.Rows Dl
variable [Gr] {X:Cx}{pos:Pos}{a:Expr}{t:DA}
def fD{ps:Pos}(hc:X.calm=true)(hm:X.mg "sum"=none)(ha:WDA X [a] t)(hg:Gl X "sum":=by rfl)(he:zS X a []:=by rfl)(hpl:zP X pos []:=by rfl):WD X (.Call (.Name "sum" ps) [a] [] pos) (tCl Iz t):=⟨Dl.fD hc hm ha.h hg he hpl⟩
end Wr
namespace Dl
open PySem L2 PyProof.Rows
def grU(T:Pn):Gr:=⟨λp _=>p=T⟩
def JW(f:List D->(D->Prop)->Prop)(t:DA):DE:=λρ P=>t ρ λks=>f (ks.map (·.2)) λd=>P (norm .new d) d
section
variable {X:Cx}{k j:Nat}{x:Str}{ps:List Str}{e:Expr}{es:List Expr}{t:DA}{p pos:Pos}{T:Pn}{f:List D->(D->Prop)->Prop}
def HY:∀σ H Q,@bT (grU T) (JW f t) σ H Q->Ax (spT T f) [] E0 (@xJ (grU T) t) σ H Q:=by
 letI:=grU T
 rintro σ H Q ⟨q,H0,own,ρ,P,E,t,k⟩
 have eq:q=T:=E.gr
 subst eq
 refine⟨_,H0,own,ρ,_,E,t,λks vs H1 h A r=>?_⟩
 show spT q f (vs++[]) H1 Q E0
 rw[Ā]
 refine⟨ks.map (·.2),_,A.pen,(RpK.rps A r).mono (λ_ o z=>o z) (λ_ _ _ e=>e) (λ_ _ e=>e),h,λd v H' h2 kp pi' r2=>?_⟩
 exact k _ d v H' h2 (A.go kp pi') (aR (r2.mono (λa o=>A.free o) (λ_ _ _ e=>e) λ_ _ e=>e))
def dcU(CC:Cal X.prog X.w X.K X.mg X.base k x ps (spT T f))(hr:Room j X.A)(ha:@PDA (grU T) X (e::es) t)(hk:k<=j:=by decide)(hg:Gl X x:=by rfl)(hdb:zB x:=by decide)(he:zS X e es:=by rfl)(hpl:zP X pos es:=by rfl) :
  @PD (grU T) X (.Call (.Name x p) (e::es) [] pos) (JW f t):=PE.wk (pcS CC hr ha hk hg hdb he hpl) HY
def Jo{Tm:DS}{N:List Str}{vs:List V}{H:Hp}{Q:VK}{E:XK}(h:spT T f vs H Q E)(body:∀ds P,f ds P->∃ρ,ds.map aD++Í (N.length - ds.length) .any=ρ/\Tm { nx:=λ_=>P .none,rt:=P } ρ):@tH (grU T) Tm { nx:=λ_ H'=>Q .non H',rt:=Q } (L2.start N vs) H:=by
 letI:=grU T
 obtain⟨ds,P,pi,r,t,q⟩:=h
 obtain⟨ρ,e,b⟩:=body ds P t
 have E:=nG (p:=T) (N:=N) rfl pi r
 rw[r.length,e] at E
 exact⟨T,H,λ_=>none,_,_,E,b,⟨λo s h' r' e' _ n=>q _ _ h' n e'.k0 e'.pen .non,λd v h' n w=>q d v h' n w.k0 w.pen (w.rp.mono (λ_ o=>o.1) (λ_ _ _ e=>e) λ_ _ e=>e),λ_ _ _ _ _ _ n=>n.elim,λ_ _ _ _ _ _ n=>n.elim⟩⟩
end
end Dl
namespace Wr
open PySem L2 PyProof.Rows Dl
variable {X:Cx}{k j:Nat}{x:Str}{ps:List Str}{e:Expr}{es:List Expr}{t:DA}{p pos:Pos}{T:Pn}{f:List D->(D->Prop)->Prop}
def dcU(CC:Cal X.prog X.w X.K X.mg X.base k x ps (spT T f))(hr:Room j X.A)(ha:@WDA (grU T) X (e::es) t)(hk:k<=j:=by decide)(hg:Gl X x:=by rfl)(hdb:zB x:=by decide)(he:zS X e es:=by rfl)(hpl:zP X pos es:=by rfl) :
  @WD (grU T) X (.Call (.Name x p) (e::es) [] pos) (JW f t):=@WD.mk (grU T) _ _ _ (Dl.dcU CC hr (@WDA.h (grU T) _ _ _ ha) hk hg hdb he hpl)
end Wr
set_option maxHeartbeats 4000000
namespace L2
open PySem PySem.Spec PyProof.Rows
section
variable {X:Cx}{pins:List (Addr×Obj)}{σ:St}{H:Hp}{s:Shared}{it:Addr}
structure Mine(X:Cx)(pins:List (Addr×Obj))(H:Hp)(it:Addr):Prop where
 h0:H it=none
 h1:it≠X.env.locals
 h2:X.s₀.heap.objs.size<=it
 h3:∀x c,X.env.cells.lookup x=some c->c≠it
 h4:∀p∈X.pn++pins,p.1≠it
 h5:it∉frs X.stack
def Inv.mine(I:Inv X pins σ H s)(h:s.heap.objs.size<=it):Mine X pins H it :=
 have no:∀o,s.heap.get? it≠some o:=λo e=>absurd (É e) (Nat.not_lt.mpr h)
 ⟨I.hok.fresh h,ŝ (ã I.lt h),é I.sz h,λx c e z=>by
  obtain⟨v,o,ho,_⟩:=I.cell x c e
  exact no o (z ▸ ho),λp hp z=>no p.2 (z ▸ (I.pin p hp).1),λz=>by
  obtain⟨_,o,ho,_⟩:=I.stack.mem z
  exact no o ho⟩
def Inv.NP{h':Heap}{t':Nat}(I:Inv X pins σ H s)(m:Mine X pins H it)(k:∀b o,b≠it->s.heap.get? b=some o->h'.get? b=some o):Inv X pins σ H { s with heap:=h',toks:=t' }:=I.turned k m.h0 m.h1 (.inr m.h2) m.h3 m.h4
structure Gro(X:Cx)(ex:List Addr)(H:Hp)(h:Heap)(H1:Hp)(h1:Heap):Prop where
 sm:∀b o,H b=some o->H1 b=some o
 kp:∀b o,h.get? b=some o->H b=none->b≠X.env.locals->b∉frs X.stack->b∉ex->h1.get? b=some o/\H1 b=none
def Gro.refl{ex:List Addr}{h:Heap}:Gro X ex H h H h:=⟨λ_ _ e=>e,λ_ _ e n _ _ _=>⟨e,n⟩⟩
def Gro.trans{ex:List Addr}{H1 H2:Hp}{h h1 h2:Heap}(a:Gro X ex H h H1 h1)(b:Gro X ex H1 h1 H2 h2):Gro X ex H h H2 h2 :=
 ⟨λc o e=>b.sm c o (a.sm c o e),λc o e n l f x=>by
  obtain⟨e1,n1⟩:=a.kp c o e n l f x
  exact b.kp c o e1 n1 l f x⟩
def Gro.more{ex ex':List Addr}{H1:Hp}{h h1:Heap}(a:Gro X ex H h H1 h1)(k:∀b∈ex,b∈ex'):Gro X ex' H h H1 h1:=⟨a.sm,λc o e n l f x=>a.kp c o e n l f λz=>x (k c z)⟩
def Gro.mine{H1:Hp}{h h1:Heap}{o:Obj}(a:Gro X [] H h H1 h1)(m:Mine X pins H it)(e:h.get? it=some o):Mine X pins H1 it/\h1.get? it=some o:=by
 obtain⟨e1,n1⟩:=a.kp it o e m.h0 m.h1 m.h5 (λz=>nomatch z)
 exact⟨⟨n1,m.h1,m.h2,m.h3,m.h4,m.h5⟩,e1⟩
def qC(h:Heap)(a b c:Addr):List (Addr×Obj):=(ä h.objs.size).filterMap λx=>if x=a\/x=b\/x=c then none else (h.get? x).map λo=>(x,o)
def gH{h:Heap}{a b c:Addr}{p:Addr×Obj}:p∈qC h a b c↔h.get? p.1=some p.2/\p.1≠a/\p.1≠b/\p.1≠c:=by
 unfold qC
 rw[List.mem_filterMap]
 constructor
 ·rintro⟨x,hx,e⟩
  split at e
  ·cases e
  ·rename_i n
   obtain⟨o,ho,rfl⟩:=ł.mp e
   exact⟨ho,λz=>n (.inl z),λz=>n (.inr (.inl z)),λz=>n (.inr (.inr z))⟩
 ·rintro⟨e,n1,n2,n3⟩
  refine⟨p.1,ę.mpr (É e),?_⟩
  rw[if_neg (λz=>z.elim n1 λz=>z.elim n2 n3),e]
  rfl
end
section
variable {X:Cx}{pins:List (Addr×Obj)}{σ:St}{H:Hp}{s:Shared}{A:Around}{a kS:Addr}{its:List Value}{vs:List V}{kz:List Int}{e e1:Nat}{P:PySem.Fin->Shared->Prop}{E:Value->Shared->Prop}{keys:Array Value}
def OJ(I:Inv X pins σ H s)(ma:Mine X pins H a)(mk:Mine X pins H kS)(hka:kS≠a)(hk:s.heap.get? kS=some (seqObj "list" keys e))(ha:s.heap.get? a=some (seqObj "list" #[] e1))(hi:IntsAre keys.toList kz)(hlen:kz.length=its.length)(h64:its.length<64)(h:∀h' tk out c,Inv X pins σ H { s with heap:=h',toks:=tk }->Gro X [a,kS] H s.heap H h'->h'.get? a=some (seqObj "list" out c)->KskOut false kz its out.toList->P (.done (.ret .none)) { s with heap:=h',toks:=tk }) :
  wpAny (model X.prog X.w) A (ksk_end a false its.toArray e1 (.ref kS) keys) P E s:=by
 obtain⟨m,hn,hl⟩:=id I.loc
 refine ksk_end_ (h₀:={ s.heap with objs:=#[] }) (L:=X.env.locals) (m:=m) (news:=qC s.heap X.env.locals kS a) (e:=e) ⟨hn,λb o z=>?_,à _⟩ (λp hp=>?_) hka (λp hp=>(gH.mp hp).2.2.1) (λp hp=>(gH.mp hp).2.2.2) hi hlen h64 λh' tk out c F N k=>?_
 ·exact absurd (É z) (Nat.not_lt_zero _)
 ·have n0:({ s.heap with objs:=#[] }:Heap).get? p.1=none:=Heap.get?_none_of_le (à _)
  rcases Ù.mp hp with hp|hp
  ·obtain⟨x,y,_⟩:=gH.mp hp
   exact⟨x,y,n0⟩
  ·rcases è.mp hp with rfl|hp
   ·exact⟨hk,mk.h1,n0⟩
   ·rw[Ò.mp hp] at n0 ⊢
    exact⟨ha,ma.h1,n0⟩
 ·have kp:∀b o,b≠X.env.locals->b≠kS->b≠a->s.heap.get? b=some o->h'.get? b=some o:=λb o n1 n2 n3 e=>(N (b,o) (Ó _ (gH.mpr ⟨e,n1,n2,n3⟩))).1
  have nt:∀b u,H b=some u->b≠X.env.locals/\b≠kS/\b≠a:=λb u e=>⟨(λz=>by rw[z,I.free] at e;cases e),(λz=>by rw[z,mk.h0] at e;cases e),(λz=>by rw[z,ma.h0] at e;cases e)⟩
  have nch:∀b,b∉[kS,a]->b≠kS/\b≠a:=λb n=>⟨λz=>n (by rw[z];exact Ú),λz=>n (by rw[z];exact Ó _ (Ò.mpr rfl))⟩
  refine h h' tk out c (I.step (g':=s.gens) (d':=s.drawn) (ch:=[kS,a]) (λb hb=>?_) (λb o n1 _ hc e _=>kp b o n1 (nch b hc).1 (nch b hc).2 e) (λb o n1 _ hc e _=>⟨o.slots,kp b o n1 (nch b hc).1 (nch b hc).2 e⟩) (λ_ _ _ _ n=>n) (λb o hc e=>?_) (λ_ _ e=>e) (λ_ _ _ e=>e) (λb ps e=>⟨#[],by rw[e];simp⟩) (λm' hm=>?_) (λb u e=>?_) I.bare) ⟨λ_ _ e=>e,λb o e n l f x=>⟨kp b o l (λz=>x ?_) (λz=>x ?_) e,n⟩⟩ (N (a,seqObj "list" out c) Ú).1 k
  ·rcases è.mp hb with rfl|hb
   ·exact⟨.inr mk.h2,mk.h1,mk.h3,mk.h4⟩
   ·rw[Ò.mp hb]
    exact⟨.inr ma.h2,ma.h1,ma.h3,ma.h4⟩
  ·by_cases z:b=X.env.locals
   ·obtain⟨o',_,_,ho,_⟩:=F.ns
    exact⟨o',z ▸ ho⟩
   ·exact⟨o,kp b o z (nch b hc).1 (nch b hc).2 e⟩
  ·rw[funext λx=>hm.agree hn x]
   exact F.ns
  ·refine(I.hok b u e).stay (λc v hc q=>?_) (λ_ q=>q) λ_ _ q=>q
   have nc:c≠X.env.locals/\c≠kS/\c≠a:=by
    rcases hc with z|z
    ·rw[z];exact nt b u e
    ·exact nt c _ z
   exact kp c v nc.1 nc.2.1 nc.2.2 q
  ·rw[z];exact Ó _ (Ò.mpr rfl)
  ·rw[z];exact Ú
def Gro.own{H1:Hp}{h h1 h2:Heap}{b:Addr}(g:Gro X [a,kS] H h H1 h1)(hb:b=a\/b=kS)(k:∀c o,c≠b->h1.get? c=some o->h2.get? c=some o):Gro X [a,kS] H h H1 h2:=⟨g.sm,λc o e n l f x=>by
 obtain⟨e1,n1⟩:=g.kp c o e n l f x
 refine⟨k c o (λz=>x ?_) e1,n1⟩
 rcases hb with rfl|rfl
 ·rw[z];exact Ú
 ·rw[z];exact Ó _ (Ò.mpr rfl)⟩
def J1{f:Value}(rv:Vals vs its)(I:Inv X pins σ H s)(ma:Mine X pins H a)(mk:Mine X pins H kS)(hka:kS≠a)(hk:s.heap.get? kS=some (seqObj "list" #[] 0))(ha:s.heap.get? a=some (seqObj "list" #[] e1))(hlen:kz.length=vs.length)(h64:vs.length<64)(turn:∀(i:Nat) (v:V) (u:Value) (k:Int) (H1:Hp) (s1:Shared),vs[i]?=some v->kz[i]?=some k->RelV v u->Inv X pins σ H1 s1->Gro X [a,kS] H s.heap H1 s1.heap->wpAny (model X.prog X.w) A (call f [u]) (λr s2=>(∃t,r=ĝ k t)/\∃H2,Inv X pins σ H2 s2/\Gro X [] H1 s1.heap H2 s2.heap) (λ_ _=>False) s1)(h:∀H2 s2 out c,Inv X pins σ H2 s2->Gro X [a,kS] H s.heap H2 s2.heap->Mine X pins H2 a->s2.heap.get? a=some (seqObj "list" out c)->KskOut false kz its out.toList->P (.done (.ret .none)) s2) :
  wpAny (model X.prog X.w) A (ksk_rest a f false its.toArray e1 (.ref kS)) P E s:=by
 have hl2:its.length=vs.length:=rv.length.symm
 unfold ksk_rest
 refine Æ (wpAny_rule ?_)
 rw[List.forIn_toArray]
 refine Æ (ksk_fold (λi s'=>∃H' kA e,Inv X pins σ H' s'/\Gro X [a,kS] H s.heap H' s'.heap/\Mine X pins H' a/\Mine X pins H' kS/\s'.heap.get? kS=some (seqObj "list" kA e)/\s'.heap.get? a=some (seqObj "list" #[] e1)/\IntsAre kA.toList (kz.take i)) its 0 s ⟨H,#[],0,I,Gro.refl,ma,mk,hk,ha,by simpa using IntsAre.nil⟩ ?step ?done)
 case step =>
  rintro j x s' hx ⟨H',kA,e,I',g',ma',mk',hk',ha',hi⟩
  simp only[Nat.zero_add] at hi ⊢
  have hj:j<its.length:=(Ý.mp hx).1
  have hkj:kz[j]?=some kz[j]:=È (by omega)
  have hvj:vs[j]?=some vs[j]:=È (by omega)
  obtain⟨x',ex,rx⟩:=rv.get hvj
  rw[hx] at ex
  cases ex
  have hz:kA.size<=64:=by
   have h1:=hi.length
   rw[ď,ģ] at h1
   omega
  have h24:=õ
  refine Æ (wpAny_attempt (Ō (turn j _ x _ H' s' hvj hkj rx I' g') (λr s2 he=>?_) λ_ _ hF=>hF.elim))
  obtain⟨⟨t,rfl⟩,H2,I2,g2⟩:=he
  dsimp only
  obtain⟨ma2,ha2⟩:=g2.mine ma' ha'
  obtain⟨mk2,hk2⟩:=g2.mine mk' hk'
  have sb:=Heap.SameBut.update s2.heap kS (Ü (·.push (.int kz[j] t)))
  have hk3:=get?_update_seq hk2 (·.push (.int kz[j] t))
  refine Æ (listUpdate_at hk2 rfl ?_ (by omega) (é (Nat.le_of_eq (Array.size_push ..)) (by omega)))
  refine Ø ⟨rfl,H2,kA.push (.int kz[j] t),_,I2.NP (t':=s2.toks) mk2 (λb o n e=>(sb.2 b n).trans e),((g'.trans (g2.more λb z=>nomatch z)).own (.inr rfl) λb o n e=>(sb.2 b n).trans e),ma2,mk2,hk3,(sb.2 a hka.symm).trans ha2,?_⟩
  have ek:kz.take (j+1)=kz.take j++[kz[j]]:=by rw[Ē,hkj];rfl
  have ea:(kA.push (ĝ kz[j] t)).toList=kA.toList++[ĝ kz[j] t]:=by simp
  rw[ea,ek]
  exact ksk_snoc hi
 case done =>
  rintro s' ⟨H',kA,e,I',g',ma',mk',hk',ha',hi⟩
  have hi':IntsAre kA.toList kz:=by
   have e3:kz.take (0+its.length)=kz:=List.take_of_length_le (by omega)
   rw[e3] at hi
   exact hi
  refine Æ (listItems_at hk' rfl ?_)
  exact OJ I' ma' mk' hka hk' ha' hi' (by omega) (by omega) λh' tk out c I3 g3 h3 k3=>h H' _ out c I3 (g'.trans g3) ma' h3 k3
def fW{h:Heap}{o u:Obj}{b:Addr}(e:h.get? b=some u):(h.push o).get? b=some u:=Ë _ e
def J0{f:Value}{n:Nat}(rv:Vals vs its)(I:Inv X pins σ H s)(ma:Mine X pins H a)(ha:s.heap.get? a=some (seqObj "list" its.toArray n))(hlen:kz.length=vs.length)(h64:vs.length<64)(turn:∀(kS:Addr) (i:Nat) (v:V) (u:Value) (k:Int) (H1:Hp) (s1:Shared),s.heap.objs.size<=kS->vs[i]?=some v->kz[i]?=some k->RelV v u->Inv X pins σ H1 s1->Gro X [a,kS] H s.heap H1 s1.heap->wpAny (model X.prog X.w) A (call f [u]) (λr s2=>(∃t,r=ĝ k t)/\∃H2,Inv X pins σ H2 s2/\Gro X [] H1 s1.heap H2 s2.heap) (λ_ _=>False) s1)(h:∀kS H2 s2 out c,s.heap.objs.size<=kS->Inv X pins σ H2 s2->Gro X [a,kS] H s.heap H2 s2.heap->Mine X pins H2 a->s2.heap.get? a=some (seqObj "list" out c)->KskOut false kz its out.toList->P (.done (.ret .none)) s2) :
  wpAny (model X.prog X.w) A (ksk_tree a f false) P E s:=by
 have hl2:its.length=vs.length:=rv.length.symm
 have h24:=õ
 have sb:=Heap.SameBut.update s.heap a (Ü λ_=>(#[]:Array Value))
 have ha1:=get?_update_seq ha λ_=>(#[]:Array Value)
 have hsz:(s.heap.update a (Ü λ_=>(#[]:Array Value))).objs.size=s.heap.objs.size:=Į ..
 have hlt:a<s.heap.objs.size:=É ha
 unfold ksk_tree
 refine Æ (listItems_at ha rfl ?_)
 refine Æ (listUpdate_at ha rfl ?_ (by rw[Ï];omega) (à _))
 refine Æ (seqEpoch_at ha1 rfl ?_)
 refine Æ (wpAny_newTuple ?_ (by show its.length<=_;omega))
 refine Æ (wpAny_newList ?_ (à _))
 refine Ĭ ?_
 have hks:((s.heap.update a (Ü λ_=>(#[]:Array Value))).push (seqObj "tuple" its.toArray 0)).objs.size=s.heap.objs.size+1:=by rw[size_push',hsz]
 have kp:∀b o,b≠a->s.heap.get? b=some o->(((s.heap.update a (Ü λ_=>(#[]:Array Value))).push (seqObj "tuple" its.toArray 0)).push (seqObj "list" #[] 0)).get? b=some o:=λb o n e=>fW (fW ((sb.2 b n).trans e))
 have I1:Inv X pins σ H { s with heap:=((s.heap.update a (Ü λ_=>(#[]:Array Value))).push (seqObj "tuple" its.toArray 0)).push (seqObj "list" #[] 0) }:=I.NP (t':=s.toks) ma kp
 have mk:Mine X pins H (s.heap.objs.size+1):=I.mine (Ķ _)
 have hk0:(((s.heap.update a (Ü λ_=>(#[]:Array Value))).push (seqObj "tuple" its.toArray 0)).push (seqObj "list" #[] 0)).get? (s.heap.objs.size+1)=some (seqObj "list" #[] 0):=by
  rw[←hks]
  exact Þ _ rfl
 have g1:∀kS,Gro X [a,kS] H s.heap H (((s.heap.update a (Ü λ_=>(#[]:Array Value))).push (seqObj "tuple" its.toArray 0)).push (seqObj "list" #[] 0)):=λkS=>⟨λ_ _ e=>e,λb o e n _ _ x=>⟨kp b o (λz=>x (by rw[z];exact Ú)) e,n⟩⟩
 show wpAny (model X.prog X.w) A (ksk_rest a f false its.toArray _ (.ref ((s.heap.update a (Ü λ_=>(#[]:Array Value))).push (seqObj "tuple" its.toArray 0)).objs.size)) P E { s with heap:=((s.heap.update a (Ü λ_=>(#[]:Array Value))).push (seqObj "tuple" its.toArray 0)).push (seqObj "list" #[] 0) }
 rw[hks]
 exact J1 rv I1 ma mk (ŝ (Ĕ hlt)) hk0 (fW (fW ha1)) hlen h64 (λi v u k H1 s1 a1 a2 a3 a4 a5=>turn _ i v u k H1 s1 (Ķ _) a1 a2 a3 a4 ((g1 _).trans a5)) λH2 s2 out c a1 a2 a3 a4 a5=>h _ H2 s2 out c (Ķ _) a1 ((g1 _).trans a2) a3 a4 a5
def Dk{l:Addr}{f:Addr}{Q:Value->Shared->Prop}(rv:Vals vs its)(I:Inv X pins σ H s)(hl:s.heap.IsList l its.toArray)(hlen:kz.length=vs.length)(h64:vs.length<64)(turn:∀(ex:List Addr) (i:Nat) (v:V) (u:Value) (k:Int) (H1:Hp) (s1:Shared),(∀b∈ex,s.heap.objs.size<=b)->vs[i]?=some v->kz[i]?=some k->RelV v u->Inv X pins σ H1 s1->Gro X ex H s.heap H1 s1.heap->wpAny (model X.prog X.w) A.in1.in1 (call (.ref f) [u]) (λr s2=>(∃t,r=ĝ k t)/\∃H2,Inv X pins σ H2 s2/\Gro X [] H1 s1.heap H2 s2.heap) (λ_ _=>False) s1)(h:∀ex a H2 s2 out c,(∀b∈ex,s.heap.objs.size<=b)->s.heap.objs.size<=a->Inv X pins σ H2 s2->Gro X ex H s.heap H2 s2.heap->Mine X pins H2 a->s2.heap.get? a=some (seqObj "list" out c)->KskOut false kz its out.toList->Q (.ref a) s2) :
  wpAny (model X.prog X.w) A (call (.builtin "sorted") [.ref l] [(ú "key",.ref f)]) Q E s:=by
 have hl2:its.length=vs.length:=rv.length.symm
 have h24:=õ
 refine call_function_entry_kw kind_sorted plain_sorted entry_sorted (ksk_s1 _ _) ?_
 unfold Builtin.«sorted»
 refine Æ (m:=checkCount "sorted" 1 1 _) (Ø ?_)
 refine Æ (collect_list hl ?_ (by omega))
 refine Æ (wpAny_newList ?_ (by omega))
 have hsz:((s.heap.push (seqObj "list" #[] 0)).update s.heap.objs.size (Ü (·++its.toArray))).objs.size=s.heap.objs.size+1:=by rw[Į,size_push']
 have ha:(((s.heap.push (seqObj "list" #[] 0)).update s.heap.objs.size (Ü (·++its.toArray))).push (seqObj "list" its.toArray 0)).get? (s.heap.objs.size+1)=some (seqObj "list" its.toArray 0):=by
  rw[←hsz]
  exact Þ _ rfl
 have kp:∀b o,s.heap.get? b=some o->(((s.heap.push (seqObj "list" #[] 0)).update s.heap.objs.size (Ü (·++its.toArray))).push (seqObj "list" its.toArray 0)).get? b=some o:=λb o e=>by
  have hlt:b<s.heap.objs.size:=É e
  refine fW ?_
  rw[Heap.get?_update_ne _ _ _ _ (æ hlt)]
  exact fW e
 have I1:Inv X pins σ H { s with heap:=((s.heap.push (seqObj "list" #[] 0)).update s.heap.objs.size (Ü (·++its.toArray))).push (seqObj "list" its.toArray 0) }:=I.kept (t':=s.toks) kp
 have ma:Mine X pins H (s.heap.objs.size+1):=I.mine (Ķ _)
 have g1:∀ex,Gro X ex H s.heap H (((s.heap.push (seqObj "list" #[] 0)).update s.heap.objs.size (Ü (·++its.toArray))).push (seqObj "list" its.toArray 0)):=λex=>⟨λ_ _ e=>e,λb o e n _ _ _=>⟨kp b o e,n⟩⟩
 have hs2:s.heap.objs.size<=(((s.heap.push (seqObj "list" #[] 0)).update s.heap.objs.size (Ü (·++its.toArray))).push (seqObj "list" its.toArray 0)).objs.size:=by rw[size_push',hsz];omega
 show wpAny _ _ _ _ _ { s with heap:=((s.heap.push (seqObj "list" #[] 0)).update s.heap.objs.size (Ü (·++its.toArray))).push (seqObj "list" its.toArray 0) }
 rw[hsz]
 have exs:∀kS,s.heap.objs.size<=kS->∀b∈[s.heap.objs.size+1,kS],s.heap.objs.size<=b:=λkS hk b hb=>by
  rcases è.mp hb with rfl|hb
  ·exact Ķ _
  ·rw[Ò.mp hb];exact hk
 refine Æ (Ĭ (wpAny_call_entry_kw slot_list_sort ⟨_,ha,rfl⟩ entry_list_sort ?body (ksk_l1 _ _)))
 case body =>
  show wpAny (model X.prog X.w) A.in1.in1 (Builtin.«list.sort» ⟨[.ref (s.heap.objs.size+1)],[(ú "key",.ref f)]⟩) _ _ _
  rw[ksk_t1]
  exact J0 rv I1 ma ha hlen h64 (λkS i v u k H1 s1 a0 a1 a2 a3 a4 a5=>turn _ i v u k H1 s1 (exs kS (é hs2 a0)) a1 a2 a3 a4 ((g1 _).trans a5)) λkS H2 s2 out c a0 a1 a2 a3 a4 a5=>⟨_,rfl,Ø ⟨_,rfl,h _ _ H2 s2 out c (exs kS (é hs2 a0)) (Ķ _) a1 ((g1 _).trans a2) a3 a4 a5⟩⟩
def Inv.Oo{xs:List V}{out:List Value}{c:Nat}(I:Inv X pins σ H s)(m:Mine X pins H a)(r:Vals xs out)(hz:xs.length<=sizeLine)(e:s.heap.get? a=some (seqObj "list" out.toArray c)):Inv X pins σ (upd H a (.lst xs)) s:=by
 have nb:∀b u,H b=some u->b≠a:=λb u e z=>by rw[z,m.h0] at e;cases e
 have:=I.step (h':=s.heap) (H':=upd H a (.lst xs)) (g':=s.gens) (d':=s.drawn) (t':=s.toks) (ch:=[a]) (λb hb=>by
  rw[Ò.mp hb]
  exact⟨.inr m.h2,m.h1,m.h3,m.h4⟩) (λb o _ _ _ e _=>e) (λb o _ _ _ e _=>⟨o.slots,e⟩) (λb o hc _ n=>by
  rw[ao (λz=>hc (Ò.mpr z))]
  exact n) (λb o _ e=>⟨o,e⟩) (λb xs e=>by rw[ao (nb b _ e)];exact e) (λb o u e=>by rw[ao (nb b _ e)];exact e) (λb ps e=>⟨#[],by rw[ao (nb b _ e),e];simp⟩) (λ_ z=>z) (λb u eb=>by
  by_cases z:b=a
  ·subst z
   rw[aB] at eb
   cases eb
   exact⟨hz,out,c,r,e⟩
  ·rw[ao z] at eb
   exact(I.hok b u eb).stay (λc v _ q=>q) (λc q=>by rw[ao (nb c _ q)];exact q) λc xs q=>by rw[ao (nb c _ q)];exact q) I.bare
 exact this
def Paired.perm{α β:Type}{F:α->β->Prop}{xs:List α}{ys ys':List β}(hp:ys.Perm ys')(h:Paired F xs ys):∃xs',xs'.Perm xs/\Paired F xs' ys':=by
 induction hp generalizing xs with
 |nil=>exact⟨xs,.refl _,h⟩
 |cons y _ ih =>
  cases h with
  |cons h1 t =>
   obtain⟨xs',p,q⟩:=ih t
   exact⟨_::xs',p.cons _,.cons h1 q⟩
 |swap y z l =>
  cases h with
  |cons h1 t =>
   cases t with
   |cons h2 t=>exact⟨_,.swap _ _ _,.cons h2 (.cons h1 t)⟩
 |trans _ _ i1 i2 =>
  obtain⟨x1,p1,q1⟩:=i1 h
  obtain⟨x2,p2,q2⟩:=i2 q1
  exact⟨x2,p2.trans p1,q2⟩
def pO:∀{kz:List Int}{vs:List V}{its:List Value},Vals vs its->Paired (λ(p:Int×V) (q:Int×Value)=>p.1=q.1/\RelV p.2 q.2) (kz.zip vs) (kz.zip its)
 |[],_,_,_=>by rw[List.zip_nil_left,List.zip_nil_left];exact .nil
 |_::_,_,_,.nil=>.nil
 |_::_,_,_,.cons h t=>.cons ⟨rfl,h⟩ (pO t)
def qz:∀{ps:List (Int×V)}{qs:List (Int×Value)},Paired (λ(p:Int×V) (q:Int×Value)=>p.1=q.1/\RelV p.2 q.2) ps qs->ps.map (·.1)=qs.map (·.1)/\Vals (ps.map (·.2)) (qs.map (·.2))
 |_,_,.nil=>⟨rfl,.nil⟩
 |_,_,.cons h t=>by
  obtain⟨a,b⟩:=qz t
  exact⟨by rw[û,û,a,h.1],.cons h.2 b⟩
def OD{out:List Value}(rv:Vals vs its)(k:KskOut false kz its out):∃ps:List (Int×V),ps.Perm (kz.zip vs)/\ps.Pairwise (λp q=>p.1<=q.1)/\Vals (ps.map (·.2)) out:=by
 obtain⟨qs,hp,rfl,hw⟩:=k
 obtain⟨ps,p1,p2⟩:=Paired.perm hp.symm (pO (kz:=kz) rv)
 obtain⟨e,r⟩:=qz p2
 refine⟨ps,p1,?_,r⟩
 have h1:(qs.map (·.1)).Pairwise (·<=·):=by
  rw[Ŧ]
  exact hw.imp λh=>by simpa using h
 rw[←e,Ŧ] at h1
 exact h1
end
def El(f:Addr)(cl:List (Str×Addr)):List Addr:=f::cl.filterMap λq=>cl.lookup q.1
section
variable {X:Cx}{pins:List (Addr×Obj)}{σ:St}{H:Hp}{s:Shared}{f c':Addr}{qual:Str}{params:Arguments}{body:Expr}{scope:Scope}{cl:List (Str×Addr)}{ys:List Str}{cvs:List V}{pm ctv:Value}
def Lh(J:Inv X pins σ H s)(hfo:s.heap.get? f=some (Ŵ "<lambda>" qual params body scope cl pm c' ctv))(fn:H f=none)(nfs:f∉frs X.stack)(hfn:∀x,X.fn x=true)(hsub:∀x c,cl.lookup x=some c->X.env.cells.lookup x=some c)(hys:∀y∈ys,X.env.scope.names.lookup y=some .cell/\∃c,cl.lookup y=some c)(cl1:cvs.length=ys.length)(hcv:∀(j:Nat) (y:Str) (v:V),ys[j]?=some y->cvs[j]?=some v->∃i:Nat,X.N[i]?=some y/\σ[i]?=some (some v)) :
  Env0 X.prog X.w X.K X.mg (reb X.base s.heap (El f cl)) X.A X.stack s H/\(reb X.base s.heap (El f cl)).get? f=some (Ŵ "<lambda>" qual params body scope cl pm c' ctv)/\Caps (reb X.base s.heap (El f cl)) cl ys cvs:=by
 have ncell:∀y c,X.env.cells.lookup y=some c->c∉frs X.stack:=λy c e z=>by
  rcases è.mp (J.uE c z) with z|z
  ·exact J.cne y c e z
  ·obtain⟨_,o,ho,_⟩:=J.ok.jY.mem z
   exact absurd (É ho) (Nat.not_lt.mpr (J.ok.cab y c (hfn y) e))
 have inL:∀y c,cl.lookup y=some c->c∈El f cl:=λy c e=>Ó _ (Ž.mpr ⟨(y,c),Ě e,e⟩)
 have hL:∀b∈El f cl,(H b=none/\b∉frs X.stack):=λb hb=>by
  rcases è.mp hb with rfl|hb
  ·exact⟨fn,nfs⟩
  ·obtain⟨⟨y,c1⟩,_,e1⟩:=Ž.mp hb
   have e2:=hsub y b e1
   exact⟨J.freeC y b e2,ncell y b e2⟩
 have cellB:∀y c w,cl.lookup y=some c->s.heap.IsCell c w->(reb X.base s.heap (El f cl)).IsCell c w:=λy c w e ⟨o,ho,hd⟩=>⟨o,Gm ho (inL y c e),hd⟩
 refine⟨J.env0.reb (λb hb=>(hL b hb).1) λb hb=>(hL b hb).2,Gm hfo Ú,⟨cl1,λy c e=>?_,λj y w h1 h2=>?_⟩⟩
 ·obtain⟨w,hw⟩:=J.cell y c (hsub y c e)
  exact⟨w,cellB y c w e hw⟩
 ·obtain⟨i,n1,n2⟩:=hcv j y w h1 h2
  obtain⟨k1,c,e⟩:=hys y (Ð h1)
  obtain⟨m,_,hl⟩:=J.loc
  obtain⟨u',rv,l⟩:=hl i y w n1 n2 (.inr (.inl k1))
  rcases l with ⟨k2,_⟩|⟨_,c2,e2,hc⟩
  ·have k2:X.env.scope.names.lookup y=some .local:=k2
   rw[k1] at k2;cases k2
  ·rw[hsub y c e] at e2
   cases e2
   exact⟨c,u',e,cellB y c _ e hc,rv⟩
end
def wA(K:Ô)(N:List Str)(P:Addr)(lpos:Pos)(qual:Str)(ys:List Str)(spL:List V->Addr->Sp)(te:TE):TE:=λσ H Q=>te σ H λv H1=>oK P lpos qual H1 /\
 ∃(l:Addr) (vs:List V) (kz:List Int) (cvs:List V),v=.ref l/\SqL K H1 l vs/\kz.length=vs.length/\vs.length<64/\cvs.length=ys.length/\(∀(j:Nat) (y:Str) (v:V),ys[j]?=some y->cvs[j]?=some v->∃i:Nat,N[i]?=some y/\σ[i]?=some (some v)) /\
  ∀c' H2,oK P lpos qual H2->rD H2 c' qual->(∀b o,H1 b=some o->b≠P->H2 b=some o) ->
   (∀(i:Nat) (v:V) (k:Int) (H3:Hp),vs[i]?=some v->kz[i]?=some k->(∀b o,H2 b=some o->H3 b=some o)->spL cvs c' [v] H3 (λr H4=>r=.int k/\∀b o,H3 b=some o->H4 b=some o) E0) /\
   ∀(a:Addr) (ps:List (Int×V)) (H3:Hp),ps.Perm (kz.zip vs)->ps.Pairwise (λp q=>p.1<=q.1)->H3 a=none->(∀b o,H2 b=some o->H3 b=some o)->Q (.ref a) (upd H3 a (.lst (ps.map (·.2))))
section
variable {X:Cx}{k:Nat}{c P:Addr}{ps ys:List Str}{spL:List V->Addr->Sp}{p pos lpos kp:Pos}{e:Expr}{te:TE}{qual:Str}{params:Arguments}{body:Expr}{scope:Scope}{cl:List (Str×Addr)}
def yR(FL:∀(cvs:List V) (base':Heap) (f c':Addr) (pm ctv:Value),cvs.length=ys.length->base'.get? f=some (Ŵ "<lambda>" qual params body scope cl pm c' ctv)->Caps base' cl ys cvs->∃fd,FnOk X.prog X.w X.K X.mg base' CX0 k f fd ps (spL cvs c')/\Binds X.K fd ps [])(hr:Room k X.A.in1.in1)(hg:Gl X "sorted")(hm:X.mg "sorted"=none)(ha:PE X e te)(hq:X.env.qual++"<lambda>"=qual)(hdef:defaultsOf params X.env=([],[]))(hcl:closureFor scope X.env=pure cl)(hcode:X.env.code=.ref c)(hC:X.K.In X.base->W.CodeHd X.base c P)(hB:X.K.In X.base->X.base.BuiltinsAt X.mg P)(hfn:∀x,X.fn x=true)(hsub:∀x c,cl.lookup x=some c->X.env.cells.lookup x=some c)(hys:∀y∈ys,X.env.scope.names.lookup y=some .cell/\∃c,cl.lookup y=some c)(he:zS X e []:=by rfl) :
  PE X (.Call (.Name "sorted" p) [e] [⟨some "key",.Lambda params body scope lpos,kp⟩] pos) (wA X.K X.N P lpos qual ys spL te):=by
 intro pins s σ H Q I h
 have hv:bootBuiltins "sorted"=some (.builtin "sorted"):=boot_sorted
 refine Ţ (je I hg hm hv ?_ (by decide) (by decide))
 refine callWith_kw ?_ (by rw[he];rfl) (by rw[he];rfl)
 rw[he]
 show wpAny _ _ (spliced [(false,eval e X.env)]) _ _ s
 refine Calls.spliced_cons (thn (ha pins s σ H _ I h) λu s1 ⟨v,H1,I1,r1,T1,l,vs,kz,cvs,ev,hl,hlen,h64,cl1,hcv,q1⟩=>Calls.spliced_nil ?_)
 subst ev
 cases r1
 refine kws_cons (Ec I1 hq hdef hcl hcode hC hB T1 λf c' ctv pm s2 H2 J T2 kn fn hfo nfs kp kb=>kws_nil ?_)
 have Q2:=q1 c' H2 T2 kn kp
 have fL:f≠X.env.locals:=λz=>by
  obtain⟨m,⟨o,es,ep,ho,hd,_⟩,_⟩:=J.loc
  rw[←z,hfo] at ho
  cases ho
  cases hd
 have hfs:f<s2.heap.objs.size:=É hfo
 have hl2:SqL X.K H2 l vs:=by
  obtain⟨ps,hP,_⟩:=T1
  rcases hl with (hl|⟨o,hl⟩)|hl
  ·exact .inl (.inl (kp l _ hl λz=>by rw[z,hP] at hl;cases hl))
  ·exact .inl (.inr ⟨o,kp l _ hl λz=>by rw[z,hP] at hl;cases hl⟩)
  ·exact .inr hl
 obtain⟨its,rv,pl,hz⟩:=J.list hl2
 refine Dk rv J pl.isList hlen h64 (λex i v u k H3 s3 hex hv hk ru J3 g=>?_) λex a H3 s3 out c hex ha J3 g ma ho ko=>?_
 ·obtain⟨ho3,n3⟩:=g.kp f _ hfo fn fL nfs λz=>absurd (hex f z) (Nat.not_le.mpr hfs)
  obtain⟨e0,lkf,C⟩:=Lh J3 ho3 n3 nfs hfn hsub hys cl1 hcv
  obtain⟨fd,FF,hb⟩:=FL cvs _ f c' pm ctv cl1 lkf C
  have hsp:=Q2.1 i v k H3 hv hk g.sm
  have hl1:[u].length=ps.length:=FF.len _ _ _ _ hsp
  refine wpAny_call (codeAny_mono (FF.run X.A.in1.in1 X.stack s3 H3 ⟨[u],[]⟩ [u] [v] _ E0 hr e0.in1.in1 ?_ (.cons ru .nil) hsp) λr s' hq=>?_)
  ·have:=hb s3 [u] J3.kIn (by rw[Ā];exact hl1)
   rw[Ā] at this
   exact this
  ·cases r with
   |error e=>exact hq.elim
   |ok fl =>
    cases fl with
    |ret u =>
     obtain⟨v',H4,os,bare,un,hok,rv',e',sm⟩:=hq
     subst e'
     obtain⟨t,rfl⟩:=rv'
     obtain⟨hh,g',d,t',os'⟩:=s'
     obtain rfl:os'=s3.os:=os
     exact⟨⟨t,rfl⟩,H4,J3.call (h':=hh) (g':=g') (d':=d) (t':=t') (ch:=[]) un hok bare (λb z=>absurd z (by simp)),⟨sm,λb o e n _ nf _=>⟨un.keep b o e n nf (by simp),un.free b o e n (by simp)⟩⟩⟩
    |next=>exact Ġ hq
    |brk=>exact Ġ hq
    |cont=>exact Ġ hq
 ·obtain⟨qs,p1,p2,p3⟩:=OD rv ko
  have hz2:(qs.map (·.2)).length<=sizeLine:=by
   have:=p1.length_eq
   rw[Ż] at this
   rw[Â]
   omega
  exact⟨.ref a,_,J3.Oo ma p3 hz2 ho,rfl,Q2.2 a qs H3 p1 p2 ma.h0 g.sm⟩
end
end L2
namespace Dl
open PySem L2 PyProof.Rows
def Ox(qual:Str)(gk:D->D->Int->Prop):List V->Addr->Sp:=λcvs c' vs H Q _=>rD H c' qual/\∃(v0 v1:V) (dc dx:D) (k:Int),cvs=[v0]/\vs=[v1]/\Rp (λ_=>True) H v0 dc/\Rp (λ_=>True) H v1 dx/\gk dc dx k/\∀H',(∀b o,H b=some o->H' b=some o)->Q (.int k) H'
def tSL(i:Nat)(gk:D->D->Int->Prop)(te:DE):DE:=λρ P=>te ρ λk d=>∃(ds:List D) (kz:List Int) (dc:D),d=.list ds/\(ρ[i]?=some (.sh dc)\/ρ[i]?=some (.im dc))/\kz.length=ds.length/\ds.length<64 /\
 (∀(j:Nat) (x:D) (c:Int),ds[j]?=some x->kz[j]?=some c->gk dc x c)/\∀ps:List (Int×D),ps.Perm (kz.zip ds)->ps.Pairwise (λp q=>p.1<=q.1)->P (k.join .new) (.list (ps.map (·.2)))
def Ar{ok:Addr->Prop}{H:Hp}:∀{kz:List Int}{vs:List V}{ds:List D},Rps ok H vs ds->Paired (λ(p:Int×D) (q:Int×V)=>p.1=q.1/\Rp ok H q.2 p.2) (kz.zip ds) (kz.zip vs)
 |[],_,_,_=>by rw[List.zip_nil_left,List.zip_nil_left];exact .nil
 |_::_,_,_,.nil=>.nil
 |_::_,_,_,.cons h t=>.cons ⟨rfl,h⟩ (Ar t)
def qy{ok:Addr->Prop}{H:Hp}:∀{ps:List (Int×D)}{qs:List (Int×V)},Paired (λ(p:Int×D) (q:Int×V)=>p.1=q.1/\Rp ok H q.2 p.2) ps qs->ps.map (·.1)=qs.map (·.1)/\Rps ok H (qs.map (·.2)) (ps.map (·.2))
 |_,_,.nil=>⟨rfl,.nil⟩
 |_,_,.cons h t=>by
  obtain⟨a,b⟩:=qy t
  exact⟨by rw[û,û,a,h.1],.cons h.2 b⟩
section
variable {K:Ô}{N:List Str}{P:Addr}{lpos:Pos}{qual y:Str}{i:Nat}{gk:D->D->Int->Prop}{te:DE}
def Lb(hy:N[i]?=some y):∀σ H Q,@bT (grU (wL P lpos qual)) (tSL i gk te) σ H Q->wA K N P lpos qual [y] (Ox qual gk) (@bT (grU (wL P lpos qual)) te) σ H Q:=by
 letI:=grU (wL P lpos qual)
 rintro σ H Q ⟨q,H0,own,ρ,P',E,t,kq⟩
 have eq:q=wL P lpos qual:=E.gr
 subst eq
 refine⟨_,H0,own,ρ,_,E,t,λk d v H1 hd A r=>?_⟩
 obtain⟨ds,kz,dc,rfl,hi,hlen,h64,hk,hP⟩:=hd
 obtain⟨c,vs,rfl,o,hc,rs⟩:=r.cW
 have T1:oK P lpos qual H1:=A.pen
 have TH:oK P lpos qual H:=E.pen
 have ntup:∀{H:Hp},oK P lpos qual H->∀a xs,H a=some (.tup xs)->a≠P:=λ{H} T a xs e z=>by
  obtain⟨ps,hp,_⟩:=T
  rw[z,hp] at e
  cases e
 obtain⟨v0,hv0,r0⟩:∃v0,σ[i]?=some (some v0)/\Rp (λa=>a≠P) H v0 dc:=by
  rcases hi with hi|hi
  ·obtain⟨v0,e,r⟩:=E.slot i _ hi
   exact⟨v0,e,r.mono (λa o=>o.1) (λ_ _ _ e=>e) λ_ _ e=>e⟩
  ·obtain⟨v0,e,r⟩:=E.slot i _ hi
   exact⟨v0,e,r.mono (λa o=>o.elim) (λ_ _ _ e=>e) λ_ _ e=>e⟩
 have ll:=rs.length
 refine⟨T1,c,vs,kz,[v0],rfl,SqL.of hc,by omega,by omega,rfl,λj y' v h1 h2=>?_,λc' H2 T2 kn kp=>⟨λj v k' H3 hv hkz sm=>?_,λa ps H3 hp hw fr sm=>?_⟩⟩
 ·match j,h1,h2 with
  |0,h1,h2=>cases h1;cases h2;exact⟨i,hy,hv0⟩
 ·obtain⟨x,φ,kx,cx⟩:=kn
  have hj:j<ds.length:=by rw[←ll];exact(Ý.mp hv).1
  obtain⟨v1,e1,r1⟩:=rs.getD (È hj)
  rw[hv] at e1
  cases e1
  refine⟨⟨x,φ,sm _ _ kx,cx⟩,v0,v,dc,ds[j],k',rfl,rfl,?_,?_,hk j _ _ (È hj) hkz,λH' sm'=>⟨rfl,sm'⟩⟩
  ·exact r0.mono (λ_ _=>trivial) (λa o n e=>sm _ _ (kp _ _ (A.kp a o e n) n)) λa xs e=>sm _ _ (kp _ _ (A.kp a _ e (ntup TH a xs e)) (ntup TH a xs e))
  ·exact r1.mono (λ_ _=>trivial) (λa o n e=>sm _ _ (kp _ _ e (fG A n))) λa xs e=>sm _ _ (kp _ _ e (ntup T1 a xs e))
 ·have k13:Kp (wL P lpos qual) H1 H3:=λb o e n=>sm _ _ (kp _ _ e n)
  have i3:(wL P lpos qual).PI H3:=(wL P lpos qual).mono H2 H3 T2 λb o _ e=>sm b o e
  have A3:=A.go k13 i3
  obtain⟨k2,i2,nw⟩:=A3.new fr (.lst (ps.map (·.2)))
  obtain⟨qs,q1,q2⟩:=Paired.perm hp.symm (Ar (kz:=kz) (bF A k13 rs))
  obtain⟨e,rr⟩:=qy q2
  have hw2:qs.Pairwise (λp q=>p.1<=q.1):=by
   have h1:(ps.map (·.1)).Pairwise (·<=·):=by rw[Ŧ];exact hw
   rw[←e,Ŧ] at h1
   exact h1
  have j:=dJ k .new
  exact kq _ _ _ _ (hP qs q1 hw2) (A3.go k2 i2) (.lst (bK A3 j.2 nw) aB ((bF A3 k2 rr).mono (λa o=>bK A3 j.1 o) (λ_ _ _ e=>e) λ_ _ e=>e))
end
section
variable [Gr]
structure WishX(p:Pn)(H0:Hp)(own:Addr->Option Nat)(H:Hp)(P:DEnds)(Q:Ends):Prop where
 nx:∀own' σ' H' ρ',EnvD p H0 own' σ' H' ρ'->FrS p own H own' H'->P.nx ρ'->Q.nx σ' H'
 rt:∀d v H',P.rt d->p.PI H'->(∀b o,H b=some o->¬p.fp b->own b=none->H' b=some o)->Rp (λa=>¬p.fp a) H' v d->Q.rt v H'
 bk:∀own' σ' H' ρ',EnvD p H0 own' σ' H' ρ'->FrS p own H own' H'->P.bk ρ'->Q.bk σ' H'
 ct:∀own' σ' H' ρ',EnvD p H0 own' σ' H' ρ'->FrS p own H own' H'->P.ct ρ'->Q.ct σ' H'
def Tt(t:DS):TS:=λQ σ H=>∃p H0 own ρ P,EnvD p H0 own σ H ρ/\t P ρ/\WishX p H0 own H P Q
structure WX(X:Cx)(ss:List Stmt)(t:DS):Prop where
 h:PSs X ss (Tt t)
variable {X:Cx}{pos rp:Pos}{c e tg iter:Expr}{te:DE}{tc:DT}{body rest:List Stmt}{ti:DI}{g:DG}{tb:DS}{u:DR}
end
section
variable [Gr] {X:Cx}{st:Stmt}{te:DE}
end
end Dl
namespace Wr
open PySem L2 PyProof.Rows Dl
variable [Gr] {X:Cx}{te:DE}{pos p1:Pos}
end Wr
namespace Dl
open PySem L2 PyProof.Rows
section
variable [Tb]
def Ia(m:Nat)(t:DR):TS:=λQ σ H=>∃a n H0 own ρ P,EnvB a n m H0 own σ H ρ/\t P ρ/\WishR (aq a n) own H P Q
def sW(t:DS)(u:DR):DR:=λP ρ=>t { nx:=λr=>u P (stp r),rt:=λ_=>False,bk:=λ_=>False,ct:=λ_=>False } ρ
end
end Dl
namespace Wb
open PySem L2 PyProof.Rows Dl Wr
section
variable [Tb] {X:Cx}{n m m1 m2 m3:Nat}{pos:Pos}{e:Expr}{es:List Expr}{te:DE}{st:Stmt}{rest:List Stmt}{t:DS}{u:DR}
structure BR(X:Cx)(m:Nat)(ss:List Stmt)(t:DR):Prop where
 h:PSs X ss (Ia m t)
def eY(h1:BS X m1 st t)(h2:BR X m2 rest u):BR X (m1+m2) (st::rest) (sW t u):=⟨PSs.wk' (aY h1.h h2.h) (by
 rintro Q σ H ⟨a,n,H0,own,ρ,P,E,t,w⟩
 refine⟨a,n+m2,H0,own,ρ,_,E.first,t,⟨λo s h r e g nn=>⟨a,n,H0,o,stp r,P,⟨yG _,e.pen,e.lv (aH e.pen (by omega))⟩,nn,⟨λd v H' hP hI hk rp=>w.rt d v H' hP hI (λb ob e1 n1 o1=>?_) rp⟩⟩,λ_ _ _ n=>n.elim,λ_ _ _ _ _ _ n=>n.elim,λ_ _ _ _ _ _ n=>n.elim⟩⟩
 obtain⟨e2,o2⟩:=g.keep b ob e1 n1 o1
 exact hk b ob e2 n1 o2)⟩
def yL(he:BE X m e te):BR X m [.Return (some e) pos] (Vd te):=⟨PSs.wk' (cZ (iM he.h)) (by
 rintro Q σ H ⟨a,n,H0,own,ρ,P,E,t,w⟩
 exact⟨a,n,H0,own,ρ,_,E,t,λk d v H' h A r=>w.rt d v H' h A.pen (λb o e n _=>A.kp b o e n) (r.mono (λa o=>fG A o) (λ_ _ _ e=>e) λ_ _ e=>e)⟩)⟩
end
end Wb
namespace Dl
open PySem L2 PyProof.Rows
section
variable [Gr] {X:Cx}{st:Stmt}{te:DE}
end
end Dl
namespace Wr
open PySem L2 PyProof.Rows Dl
end Wr
open Wr renaming aC → À,aL → Á,bJ → Ã,dv → Ä,G3 → Õ,bL → Ö,dX → Û,cF → ß,nJ → â,lA → ê,dY → ì,gD → í,gC → ö,tU → ý,wv → Ă,qt → ă,j5 → ć,dc → ĉ,jz → ċ,uR → Č,uT → č,uU → ė,uN → ĥ,wN → Ħ,jl → ĩ,d8 → ī,uO → ĭ,pC → Ĺ,qm → Ł,nq → Ŏ,qY → ŏ,wpt → ř,qZ → Ŝ,pL → Ş,qu → Ŭ,ni → ű
open Dl renaming Cal → Ñ,Lf → Ć,qH → Ċ,Bn → Ė,Mx → ġ,Ef → Ľ,any_ints → Ů,qG → Ÿ
open L2 renaming Ra → Ą,GQ → Ĥ,dz → ś,Mw → ż
open Wr.WDSs renaming h → ē
namespace Wb
open PySem L2 PyProof.Rows Dl Wr
section
variable [Tb] {X:Cx}{n m m1 m2 m3:Nat}{pos p2:Pos}
end
end Wb
namespace Dl
open PySem L2 PyProof.Rows
section
variable {T:Pn}{a:Addr}{n m:Nat}{H H':Hp}
def BJ(t:Tb)(h:(@aq t a n).PI H):(@aq noTb a n).PI H:=⟨h.1,trivial,λz=>z⟩
def Bx(t:Tb)(h:(@aq t a m).PI H)(k:Kp (@aq noTb a n) H H')(i:(@aq noTb a n).PI H'):(@aq t a n).PI H':=by
 obtain⟨⟨x,y,c,hl,_⟩,ht,na⟩:=h
 refine⟨i.1,t.T.mono H H' ht λb o z e=>k b o e λy=>?_,na⟩
 have y:b=a:=y.elim id Ġ
 subst y
 rcases z with z|⟨_,_,z⟩
 ·exact na z
 ·rw[hl] at e
  cases e
  cases z
def N6(t:Tb)(k:Kp (@aq noTb a n) H H'):Kp (@aq t a n) H H':=λb o e nf=>k b o e λz=>nf (.inl (z.elim id Ġ))
end
def Di(t:Tb){m:Nat}{f:List D->(D->Prop)->Prop}:∀vs H Q E,@bB t m f vs H Q E->@bB noTb m f vs H Q E:=by
 rintro vs H Q E ⟨a,n,vs',ds,P,rfl,pi,r,g,k⟩
 exact⟨a,n,vs',ds,P,rfl,BJ t pi,r.mono (λb o z=>o (.inl (z.elim id Ġ))) (λ_ _ _ e=>e) (λ_ _ e=>e),g,λd v H' hP kp pi' rp=>k d v H' hP (N6 t kp) (Bx t pi kp pi') rp⟩
def Cal.eZ{P:Program}{w:World}{K:Ô}{mg:Str->Option Value}{base:Heap}{k:Nat}{x:Str}{ps:List Str}{t:Tb}{m:Nat}{f:List D->(D->Prop)->Prop}(c:Cal P w K mg base k x ps (@bB noTb m f)):Cal P w K mg base k x ps (@bB t m f):=by
 obtain⟨g,fd,F,r⟩:=c.ex
 exact⟨g,fd,F.imp (Di t),r⟩
def dM[Tb](m:Nat)(f:List D->(D->Prop)->Prop):Sp:=λvs H Q _=>∃(a:Addr) (n:Nat) (ok:Addr->Prop) (vs':List V) (ds:List D) (P:D->Prop),vs=.ref a::vs'/\(aq a (n+m)).PI H/\Rps (λb=>ok b/\¬(aq a n).fp b) H vs' ds/\f ds P /\
 ∀d v H',P d->Kp (aq a n) H H'->(aq a n).PI H'->Rp (λb=>(ok b/\¬(aq a n).fp b)\/H b=none) H' v d->Q v H'
def nC[Tb]{m:Nat}{f:List D->(D->Prop)->Prop}{n:Nat}(hn:∀ds P,f ds P->ds.length=n:=by intro _ _ h;repeat (first|(obtain⟨rfl,_⟩:=h;rfl)|obtain⟨_,h⟩:=h)):∀vs H Q E,dM m f vs H Q E->vs.length=n+1:=λvs H Q E h=>by
 obtain⟨p,_,_,vs',ds,P,rfl,_,r,t,_⟩:=h
 rw[ÿ,r.length,hn ds P t]
def yI(t:Tb){m:Nat}{f:List D->(D->Prop)->Prop}:∀vs H Q E,@dM t m f vs H Q E->@dM noTb m f vs H Q E:=by
 rintro vs H Q E ⟨a,n,ok,vs',ds,P,rfl,pi,r,g,k⟩
 refine⟨a,n,λb=>ok b/\¬(@aq t a n).fp b,vs',ds,P,rfl,BJ t pi,r.mono (λb o=>⟨o,λz=>o.2 (.inl (z.elim id Ġ))⟩) (λ_ _ _ e=>e) (λ_ _ e=>e),g,λd v H' hP kp pi' rp=>k d v H' hP (N6 t kp) (Bx t pi kp pi') (rp.mono (λb o=>o.imp (·.1) id) (λ_ _ _ e=>e) λ_ _ e=>e)⟩
def Cal.Gz{P:Program}{w:World}{K:Ô}{mg:Str->Option Value}{base:Heap}{k:Nat}{x:Str}{ps:List Str}{t:Tb}{m:Nat}{f:List D->(D->Prop)->Prop}(c:Cal P w K mg base k x ps (@dM noTb m f)):Cal P w K mg base k x ps (@dM t m f):=by
 obtain⟨g,fd,F,r⟩:=c.ex
 exact⟨g,fd,F.imp (yI t),r⟩
def Cd(ok:Addr->Prop)(a:Addr)(H:Hp):Pn where
 fp:=λb=>¬ok b/\b≠a/\∃o,H b=some o/\(∀xs,o≠.tup xs)/\¬Fxd o
 PI:=λH'=>∀b o,¬ok b->b≠a->H b=some o->((∀xs,o≠.tup xs)/\¬Fxd o)->H' b=some o
 pv:=.non
 mono:=λH1 H2 h1 h2 b o n na e1 e2=>h2 b o (.inl ⟨n,na,o,e1,e2⟩) (h1 b o n na e1 e2)
 is:=λH1 b h1 ⟨n,na,o,e1,e2⟩=>⟨o,h1 b o n na e1 e2,e2⟩
def UW(f:List D->(D->Prop)->Prop)(i:Nat)(t:DA):DE:=λρ P=>ρ[i]?=some (.pen TP)/\t ρ λks=>(ks.all λk=>k.1.le .shr)=true/\f (ks.map (·.2)) λd=>P (norm .shr d) d
end Dl
namespace Wb
open PySem L2 PyProof.Rows Dl Wr
def CK{f:List D->(D->Prop)->Prop}{Tm:DR}{N:List Str}{a:Addr}{n:Nat}{ok:Addr->Prop}{vs':List V}{ds:List D}{P:D->Prop}{H:Hp}{Q:VK}{M M':Nat}(pi:(@aq noTb a (n+M')).PI H)(r:Rps (λb=>ok b/\¬(@aq noTb a n).fp b) H vs' ds)(k:∀d v H',P d->Kp (@aq noTb a n) H H'->(@aq noTb a n).PI H'->Rp (λb=>(ok b/\¬(@aq noTb a n).fp b)\/H b=none) H' v d->Q v H')(hm:Nat.ble M M'=true)(body:∃ρ,ds.map aD++Í (N.length - (ds.length+1)) .any=ρ/\Tm P (.pen TP::ρ)):@Ia ⟨Cd ok a H⟩ M Tm { nx:=λ_ H'=>Q .non H',rt:=Q } (L2.start N (.ref a::vs')) H:=by
 letI:Tb:=⟨Cd ok a H⟩
 have hm:=Ŋ hm
 obtain⟨ρ,e,b⟩:=body
 have piT:∀j,j<=n+M'->(aq a j).PI H:=λj hj=>⟨(@aH noTb _ _ _ _ pi hj).1,λb o _ _ e _=>e,λz=>z.2.1 rfl⟩
 have rT:Rps (λb=>¬(aq a n).fp b) H vs' ds:=r.mono (λb o z=>z.elim (λz=>o.2 (.inl z)) λz=>z.1 o.1) (λ_ _ _ e=>e) λ_ _ e=>e
 have E:=CJ (C:=TP) (p:=aq a n) (N:=N) trivial trivial (piT n (by omega)) rT
 rw[e] at E
 have st:stp (.pen TP::ρ)=.pen TP::ρ:=by
  rw[←e]
  exact congrArg (List.cons (Sl.pen TP)) (wC ds _)
 refine⟨a,n,H,λ_=>none,_,_,⟨st,piT _ (by omega),E⟩,b,⟨λd v H' hP hI hk rp=>?_⟩⟩
 have kp:Kp (@aq noTb a n) H H':=λb o e nf=>by
  by_cases z:(aq a n).fp b
  ·rcases z with z|⟨n1,n2,o',e1,e2⟩
   ·exact absurd (Œ z) nf
   ·rw[e] at e1
    cases e1
    exact hI.2.1 b o n1 n2 e e2
  ·exact hk b o e z rfl
 refine k d v H' hP kp ⟨hI.1,trivial,λz=>z⟩ (rp.jT λc o n1 n2 e1=>?_)
 have nf:¬(@aq noTb a n).fp c:=λz=>n1 (.inl (z.elim id Ġ))
 cases hx:H c with
 |none=>exact .inr rfl
 |some o' =>
  have e2:=kp c o' hx nf
  rw[e1] at e2
  cases e2
  exact .inl ⟨Classical.byContradiction λz=>n1 (.inr ⟨z,λy=>nf (.inl y),o,hx,n2⟩),nf⟩
section
variable [Tb]
def Jr{X:Cx}{m m1:Nat}{es:List Expr}{f:List D->(D->Prop)->Prop}{t:DA}{ps:List Str}{x y:Str}{pp py pos:Pos}{k j i:Nat}(C:Cal X.prog X.w X.K X.mg X.base k x ps (dM m f))(hr:Room j X.A)(hi:WV X (.Name y py) i)(ha:BA X m1 es t)(hk:k<=j:=by decide)(hg:Gl X x:=by rfl)(hdb:zB x:=by decide)(he:starEach (.Name y py::es) X.env=(false,eval (.Name y py) X.env)::starEach es X.env:=by rfl)(hpl:zP X pos es:=by rfl):BE X (m1+m) (.Call (.Name x pp) (.Name y py::es) [] pos) (UW f i t):=⟨PE.wk (pcS C hr (ś hi.h ha.h) hk hg hdb he hpl) (by
 rintro σ H Q ⟨a,n,H0,own,ρ,P,E,⟨hp,t⟩,q⟩
 obtain⟨hs,_⟩:=E.env.slot i _ hp
 refine⟨.ref a,hs,a,n+m,H0,own,ρ,_,E.first,t,λks vs H1 h A r=>?_⟩
 show dM m f ((.ref a::vs)++[]) H1 Q E0
 rw[Ā]
 have A':=A.lv (m:=n) (by omega)
 have rr:=Bo A r h.1
 rw[Hr (m:=n)] at rr
 refine⟨a,n,okK (aq a n) H0 own H .shr,vs,ks.map (·.2),_,rfl,A.pen,rr.mono (λb o=>⟨o,fG A' o⟩) (λ_ _ _ e=>e) (λ_ _ e=>e),h.2,λd v H' h2 k2 i2 r2=>q _ d v H' h2 (A'.go k2 i2) (aR (r2.mono (λb o=>?_) (λ_ _ _ e=>e) λ_ _ e=>e))⟩
 rcases o with o|o
 ·exact o.1
 ·exact bK A' (j:=.new) (k:=.shr) rfl (A'.free o))⟩
def rif{X:Cx}{m1 m2 m3:Nat}{c:Expr}{a rest:List Stmt}{pos:Pos}{tc:DT}{t u:DR}(hc:BT X m1 c tc)(ha:BR X m2 a t)(hb:BR X m3 rest u):BR X (m1+(m2+m3)) (.If c a [] pos::rest) (rIf tc t u):=⟨PSs.wk' (aY (qd hc.h ha.h lg) hb.h) (by
 rintro Q σ H ⟨a,n,H0,own,ρ,P,E,t,w⟩
 refine⟨a,n+(m2+m3),H0,own,ρ,_,E.first,t,λb H' h A=>?_⟩
 have A':=A.lv (m:=n) (by omega)
 have w':∀Q',Q'.rt=Q.rt->WishR (aq a n) own H' P Q':=λQ' e=>⟨λd v H2 hP hI hk rp=>by
  rw[e]
  exact w.rt d v H2 hP hI (λb o e n1 n2=>hk b o (A'.frs.keep b o e n1 n2).1 n1 n2) rp⟩
 have E1:=E.next A
 cases b with
 |true=>exact aF ⟨a,n,H0,own,ρ,P,E1.low (by omega),by simpa using h,w' _ rfl⟩
 |false=>exact ak ⟨a,n,H0,own,ρ,P,E1.low (by omega),by simpa using h,w' _ rfl⟩)⟩
end
end Wb
namespace Dl
open PySem L2 PyProof.Rows
@[reducible] def rW(T:Pn)(K:Ô)(sc:Addr)(ns:List Int):Gr:=⟨λp H0=>p=T/\SqL K H0 sc (ns.map V.int)/\(Rd H0 sc (.lst (ns.map V.int))->¬T.fp sc)⟩
def SqL.keep{K:Ô}{H H':Hp}{a:Addr}{xs:List V}(h:SqL K H a xs)(k:Rd H a (.lst xs)->∀o,H a=some o->H' a=some o):SqL K H' a xs:=by
 rcases h with (h|⟨o,h⟩)|h
 ·exact .inl (.inl (k (.inl h) _ h))
 ·exact .inl (.inr ⟨o,k (.inr ⟨o,h⟩) _ h⟩)
 ·exact .inr h
def Mp{T:Pn}{K:Ô}{Tm:DS}{N:List Str}{H:Hp}{Q:VK}{sc:Addr}{ns:List Int}(hS:SqL K H sc (ns.map V.int))(hT:T.PI H)(hf:Rd H sc (.lst (ns.map V.int))->¬T.fp sc)(q:∀H',Q (.bl true) H')(hN:1<=N.length)(body:Tm { nx:=λ_=>False,rt:=λd=>d=.bool true } (.scr (.ref sc) false::Í (N.length - 1) .any)):@tH (rW T K sc ns) Tm { nx:=λ_ H'=>Q .non H',rt:=Q } (L2.start N [.ref sc]) H:=by
 letI:=rW T K sc ns
 refine⟨T,H,λ_=>none,_,_,?_,body,⟨λ_ _ _ _ _ _ n=>n.elim,λd v H' n w=>?_,λ_ _ _ _ _ _ n=>n.elim,λ_ _ _ _ _ _ n=>n.elim⟩⟩
 ·refine⟨λb o e _=>e,hT,λa r e=>(nomatch e),λj s e=>?_,by unfold L2.start;simp,rfl,hS,hf⟩
  cases j with
  |zero =>
   have e:=á e
   subst e
   exact⟨rfl,λz=>nomatch z⟩
  |succ j =>
   rw[List.getElem?_cons_succ] at e
   have hm:=Ð e
   have e2:=(List.mem_replicate.mp hm).2
   subst e2
   trivial
 ·have n:d=.bool true:=n
  subst n
  have r:=w.rp
  have e:=r.bl'
  subst e
  exact q H'
end Dl
namespace Wb
open PySem L2 PyProof.Rows Dl Wr
section
variable [Tb]
def Vw{X:Cx}{m:Nat}{e:Expr}{es:List Expr}{f:List D->(D->Prop)->Prop}{t:DA}{ps:List Str}{x:Str}{pp pos:Pos}{k j:Nat}(C:Cal X.prog X.w X.K X.mg X.base k x ps (spT Tb.T f))(hr:Room j X.A)(ha:BA X m (e::es) t)(hk:k<=j:=by decide)(hg:Gl X x:=by rfl)(hdb:zB x:=by decide)(he:zS X e es:=by rfl)(hpl:zP X pos es:=by rfl):BE X m (.Call (.Name x pp) (e::es) [] pos) (JW f t):=⟨PE.wk (pcS C hr ha.h hk hg hdb he hpl) (by
 rintro σ H Q ⟨a,n,H0,own,ρ,P,E,t,q⟩
 refine⟨a,n,H0,own,ρ,_,E,t,λks vs H1 h A r=>?_⟩
 show spT Tb.T f (vs++[]) H1 Q E0
 rw[Ā]
 obtain⟨⟨x,y,c,hl,rr⟩,ht,na⟩:=A.pen
 refine⟨ks.map (·.2),_,ht,(RpK.rps A r).mono (λ_ o z=>o (.inr z)) (λ_ _ _ e=>e) (λ_ _ e=>e),h,λd v H' h2 kp pi' r2=>?_⟩
 have k2:Kp (aq a n) H1 H':=λb o e nf=>kp b o e λz=>nf (.inr z)
 exact q _ d v H' h2 (A.go k2 ⟨⟨x,y,c,kp a _ hl na,rr⟩,pi',na⟩) (aR (r2.mono (λa o=>A.free o) (λ_ _ _ e=>e) λ_ _ e=>e)))⟩
end
variable {X:Cx}{K:Ô}{sc:Addr}{ns:List Int}{pre:List D->Prop}
def GJ(tb:Tb){m i k j:Nat}{x y z:Str}{ps:List Str}{es:List Expr}{pos' spos p2 p3 pos1:Pos}{rest:List Stmt}{t1:DA}{t:DS}(C:Cal X.prog X.w X.K X.mg X.base k y ps (JX K pre))(hr:Room j X.A)(hv:WV X (.Name z p3) 0)(ha:WDA X es t1)(hN:X.N.Nodup)(hi:X.N[i]?=some x)(hx:Loc X.env.scope x)(hb:@BSs tb X m rest t)(hm:Nat.ble m 1152921504606846976=true)(hk:k<=j:=by decide)(hg:Gl X y:=by rfl)(hdb:zB y:=by decide)(he:starEach (.Name z p3::es) X.env=(false,eval (.Name z p3) X.env)::starEach es X.env:=by rfl)(hpl:zP X pos1 es:=by rfl)(hs:swapsWith (.Call (.Name y p2) (.Name z p3::es) [] pos1) (some (.Name x pos')) spos.line X.env=pure false:=by rfl)(hf:zL X x:=by first|exact .inl rfl|exact .inr rfl|assumption) :
  @mQ (rW tb.T K sc ns) X (.Assign [.Name x pos'] (.Call (.Name y p2) (.Name z p3::es) [] pos1) spos::rest) (Vx sc pre i t1 t):=PSs.wk' (aY (dN hN hi hx (pcS C hr (ś hv.h ha.h he) hk hg hdb he hpl) hs hf) (@BSs.h tb _ _ _ _ hb)) (by
 rintro Q σ H ⟨p,H0,own,ρ,P,E,⟨⟨b0,h0⟩,hil,t⟩,w⟩
 have hm:=Ŋ hm
 have gr:=@EnvD.gr (rW tb.T K sc ns) _ _ _ _ _ _ E
 obtain⟨ep,gS,gf⟩:=gr
 subst ep
 have grr:(rW tb.T K sc ns).G tb.T H0:=⟨rfl,gS,gf⟩
 replace E:=Ml E
 have wnx:∀own' σ' H' ρ',EnvD tb.T H0 own' σ' H' ρ'->FrS tb.T own H own' H'->P.nx ρ'->Q.nx σ' H':=λo s h r e f n=>@Wish.nx (rW tb.T K sc ns) _ _ _ _ _ _ w o s h r (Jm grr e) f n
 have wrt:∀d v H',P.rt d->RPost tb.T H0 H' v d->Q.rt v H':=@Wish.rt (rW tb.T K sc ns) _ _ _ _ _ _ w
 obtain⟨hs0,_⟩:=E.slot 0 _ h0
 refine⟨.ref sc,hs0,tb.T,H0,own,ρ,_,E,t,λks vs H1 h1 A1 r1=>?_⟩
 show JX K pre ((.ref sc::vs)++[]) H1 _ E0
 rw[Ā]
 refine⟨sc,ns,vs,ks.map (·.2),rfl,SqL.keep gS λr o e=>A1.kp sc o (E.k0 sc o e (gf r)) (gf r),(RpK.rps A1 r1).mono (λ_ _=>trivial) (λ_ _ _ e=>e) λ_ _ e=>e,h1.1,λa H2 pi0 s12 fr=>?_⟩
 have nfa:¬tb.T.fp a:=λz=>by
  obtain⟨o,e,_⟩:=tb.T.is H1 a A1.pen z
  rw[fr] at e
  cases e
 have pi2:(@aq tb a 1152921504606846976).PI H2:=⟨pi0.1,tb.T.mono H1 H2 A1.pen λb o _ e=>s12 b o e,nfa⟩
 have hil2:i<σ.length:=by rw[←E.len];exact hil
 have tp:∀b xs,H b=some (.tup xs)->H2 b=some (.tup xs):=λb xs e=>s12 b _ (A1.tups b xs e)
 have E2:EnvD (@aq tb a (1152921504606846976 - m)) H2 (λ_=>none) (σ.set i (some (.ref a))) H2 ((ρ.map vG).set i (.pen TP)):=by
  refine⟨λ_ _ e _=>e,@aH tb _ _ _ _ pi2 (by omega),λ_ _ e=>(nomatch e),λq s e=>?_,by simp[E.len],trivial⟩
  by_cases hq:q=i
  ·subst hq
   rw[Ĉ (by simpa using hil)] at e
   cases e
   exact⟨Ĉ hil2,trivial⟩
  ·rw[į (Ĩ hq),å] at e
   have eq:(σ.set i (some (V.ref a)))[q]?=σ[q]?:=į (Ĩ hq)
   cases e1:ρ[q]? with
   |none=>rw[e1] at e;cases e
   |some s1 =>
    rw[e1] at e
    have e:=á e
    subst e
    have hq1:=E.slot q s1 e1
    cases s1 with
    |im d =>
     obtain⟨v,ev,rv⟩:=hq1
     exact⟨v,by rw[eq];exact ev,rv.mono (λ_ o=>o) (λ_ _ o=>o.elim) tp⟩
    |scr v b=>exact⟨by rw[eq];exact hq1.1,λz=>nomatch z⟩
    |_=>trivial
 have st:stp ((ρ.map vG).set i (.pen TP))=(ρ.map vG).set i (.pen TP):=by
  refine Ay ?_ rfl
  unfold stp
  rw[ç]
  refine œ λs _=>?_
  cases s <;> rfl
 have keep:∀b o,H b=some o->¬tb.T.fp b->H2 b=some o/\¬(@aq tb a (1152921504606846976 - m)).fp b:=λb o e n=>⟨s12 b o (A1.kp b o e n),λz=>z.elim (λz=>by subst z;rw[A1.kp b o e n] at fr;cases fr) n⟩
 have k0:∀H':Hp,(∀b o,H2 b=some o->¬(@aq tb a (1152921504606846976 - m)).fp b->H' b=some o)->∀b o,H0 b=some o->¬tb.T.fp b->H' b=some o:=λH' k b o e n=>by
  have:=keep b o (E.k0 b o e n) n
  exact k b o this.1 this.2
 refine⟨a,1152921504606846976 - m,H2,λ_=>none,_,_,@EnvB.mk tb _ _ _ _ _ _ _ _ st (by rw[show 1152921504606846976 - m+m=1152921504606846976 by omega];exact pi2) E2,h1.2,⟨λo s h r e g nn=>?_,λd v h nn r=>?_,λ_ _ _ _ _ _ n=>n.elim,λ_ _ _ _ _ _ n=>n.elim⟩⟩
 ·obtain⟨⟨b,hb0⟩,hlen,hP⟩:=nn
  refine wnx own s h _ ?_ ⟨λb o eb n z=>?_,λc xs e=>g.tup c xs (tp c xs e)⟩ hP
  ·refine⟨k0 h e.k0,e.pen.2.1,λc q oc=>?_,λq sl eq=>?_,?_,trivial⟩
   ·obtain⟨h1',h2',h3'⟩:=E.ow c q oc
    refine⟨h1',h2',λz=>?_⟩
    cases hc:H c with
    |none=>exact h3' hc
    |some o =>
     have:=keep c o hc h2'
     rw[e.k0 c o this.1 this.2] at z
     cases z
   ·unfold Qc at eq
    cases q with
    |zero =>
     have eq:=á eq
     subst eq
     exact⟨(e.slot 0 _ hb0).1,λz=>nomatch z⟩
    |succ q =>
     rw[List.getElem?_cons_succ] at eq
     have:=(List.mem_replicate.mp (Ð eq)).2
     subst this
     trivial
   ·unfold Qc
    have:=e.len
    rw[ÿ,š]
    omega
  ·have:=keep b o eb n
   exact⟨e.k0 b o this.1 this.2,z⟩
 ·refine wrt d v h nn ⟨k0 h r.k0,r.pen.2.1,r.rp.mono (λb o=>?_) (λ_ _ _ e=>e) λ_ _ e=>e⟩
  have nf:¬tb.T.fp b:=λz=>o.2 (.inr z)
  refine⟨?_,nf⟩
  cases e0:H0 b with
  |none=>rfl
  |some u =>
   rw[(keep b u (E.k0 b u e0 nf) nf).1] at o
   cases o.1)
def Rz{T:Pn}{tg iter:Expr}{body after:List Stmt}{pos:Pos}{ti:DI}{g:DG}{tb u:DS}(hp:PassesOwn (model X.prog X.w) X.A X.env X.xe)(hc:X.calm=true)(hi:WDI X tg iter ti)(hg:WDG X tg g)(hb:@mQ (rW T K sc ns) X body tb)(ha:WDSs X after u)(hs:zF X iter:=by intro _;rfl):@mQ (rW T K sc ns) X (.For tg iter body [] pos::after) (Dl.Js (Mr ti g tb) u):=by
 letI:=rW T K sc ns
 exact Dl.dX (Dl.gK hp hc (anyI hi) (Vz hg) hb hs) (Um ha)
end Wb
namespace Nf
open PySem PySem.W PyProof.Rows
def oZ(tb:String->Option Builtin)(p:Program)(w:World)(m:Nat)(ann:Option Value):Nat->SharedT->Thread->Option SharedT
 |0,_,_=>none
 |n+1,s,t=>match through t with
  |true=>some s
  |false=>match stepOk m ann t with
   |false=>none
   |true=>match stepT (denote tb) p w s t with
    |none=>none
    |some r=>oZ tb p w m ann n r.1 r.2
def sy{tb:String->Option Builtin}{p:Program}{w:World}{m:Nat}{ann:Option Value}:∀{n:Nat}{s s':SharedT}{t:Thread},oZ tb p w m ann n s t=some s'->topRun tb p w m ann n s.abs t=some s'.abs
 |0,_,_,_,h=>by cases h
 |n+1,s,s',t,h=>by
  unfold oZ at h
  unfold topRun
  cases he:through t with
  |true=>rw[he] at h;cases h;rfl
  |false =>
   rw[he] at h
   cases hk:stepOk m ann t with
   |false=>rw[hk] at h;cases h
   |true =>
    rw[hk] at h
    cases hs:stepT (denote tb) p w s t with
    |none=>rw[hs] at h;cases h
    |some r=>obtain⟨s2,t2⟩:=r;rw[hs] at h;rw[stepT_spec hs];exact sy h
def qX(P:Params):List DictEntry:=match (ŷ P).data with|.dict es _=>es.toList|_=>[]
def gj(P:Params)(i:Nat):List DictEntry:=((qX P).drop i).take 16
def b0(P:Params):List DictEntry:=by
 refine(?f:(l:List DictEntry)->l=gj P 0->List DictEntry) ?l ?h
 case f=>exact λl _=>l
 case h=>unfold gj qX ŷ;dsimp only[List.drop,ŭ];exact rfl
def b1(P:Params):List DictEntry:=by
 refine(?f:(l:List DictEntry)->l=gj P 16->List DictEntry) ?l ?h
 case f=>exact λl _=>l
 case h=>unfold gj qX ŷ;dsimp only[List.drop,ŭ];exact rfl
def b2(P:Params):List DictEntry:=by
 refine(?f:(l:List DictEntry)->l=gj P 32->List DictEntry) ?l ?h
 case f=>exact λl _=>l
 case h=>unfold gj qX ŷ;dsimp only[List.drop,ŭ];exact rfl
def b3(P:Params):List DictEntry:=by
 refine(?f:(l:List DictEntry)->l=gj P 48->List DictEntry) ?l ?h
 case f=>exact λl _=>l
 case h=>unfold gj qX ŷ;dsimp only[List.drop,ŭ];exact rfl
def b4(P:Params):List DictEntry:=by
 refine(?f:(l:List DictEntry)->l=gj P 64->List DictEntry) ?l ?h
 case f=>exact λl _=>l
 case h=>unfold gj qX ŷ;dsimp only[List.drop,ŭ];exact rfl
def b5(P:Params):List DictEntry:=by
 refine(?f:(l:List DictEntry)->l=gj P 80->List DictEntry) ?l ?h
 case f=>exact λl _=>l
 case h=>unfold gj qX ŷ;dsimp only[List.drop,ŭ];exact rfl
def b6(P:Params):List DictEntry:=by
 refine(?f:(l:List DictEntry)->l=gj P 96->List DictEntry) ?l ?h
 case f=>exact λl _=>l
 case h=>unfold gj qX ŷ;dsimp only[List.drop,ŭ];exact rfl
def b7(P:Params):List DictEntry:=by
 refine(?f:(l:List DictEntry)->l=gj P 112->List DictEntry) ?l ?h
 case f=>exact λl _=>l
 case h=>unfold gj qX ŷ;dsimp only[List.drop,ŭ];exact rfl
def b8(P:Params):List DictEntry:=by
 refine(?f:(l:List DictEntry)->l=gj P 128->List DictEntry) ?l ?h
 case f=>exact λl _=>l
 case h=>unfold gj qX ŷ;dsimp only[List.drop,ŭ];exact rfl
def b9(P:Params):List DictEntry:=by
 refine(?f:(l:List DictEntry)->l=gj P 144->List DictEntry) ?l ?h
 case f=>exact λl _=>l
 case h=>unfold gj qX ŷ;dsimp only[List.drop,ŭ];exact rfl
def bo0(P:Params):Obj:={ cls:=.type "dict",data:=.dict ⟨b0 P++(b1 P++(b2 P++(b3 P++(b4 P++(b5 P++(b6 P++(b7 P++(b8 P++(b9 P)))))))))⟩ 159 }
def Rm:ŷ=bo0:=by funext P;kernel_rfl
def JC(P:Params):Heap:={ objs:=⟨[bo0 P,boot_o_1 P,boot_o_2 P,boot_o_3 P,boot_o_4 P,boot_o_5 P,boot_o_6 P,boot_o_7 P,boot_o_8 P,boot_o_9 P,boot_o_10 P]⟩ }
def xX:ő=JC:=by
 funext P
 show Heap.mk ⟨ŷ P::_⟩ _=_
 rw[Rm]
 rfl
def xW(P:Params):BT:=((((((((((BT.nil.ins 0 (bo0 P)).ins 1 (boot_o_1 P)).ins 2 (boot_o_2 P)).ins 3 (boot_o_3 P)).ins 4 (boot_o_4 P)).ins 5 (boot_o_5 P)).ins 6 (boot_o_6 P)).ins 7 (boot_o_7 P)).ins 8 (boot_o_8 P)).ins 9 (boot_o_9 P)).ins 10 (boot_o_10 P)
def NZ:Life:={}
def Fi(P:Params):absHeap (xW P) 11 NZ=ő P:=by rw[xX];kernel_rfl
def yH(w:World)(os:OsState):SharedT:=⟨xW w.params,11,NZ,#[],boot_drawn,boot_toks,os⟩
def Dh(w:World)(os:OsState):(yH w os).abs=⟨ő w.params,#[],boot_drawn,boot_toks,os⟩:=by
 unfold yH SharedT.abs
 dsimp only
 rw[Fi]
def Bd(P:Params):=((ő P).isNs mainGlobals,(ő P).objs.size,(ő P).nsMap mainGlobals "__annotations__")
def yJ:Bd=Bd:=rfl
end Nf
name_quick sizeQ for Nf.Bd by Nf.yJ
namespace Nf
open PySem PySem.W PyProof.Rows
def Fj(w:World):((ő w.params).isNs mainGlobals,(ő w.params).objs.size,(ő w.params).nsMap mainGlobals "__annotations__")=(true,11,some (.ref 6)):=by
 show Bd w.params=_
 rw[W.Fast.sizeQ_eq]
 kernel_rfl
def Dr(p:Program)(N:Nat)(w:World)(os:OsState):=oZ treeTable p w 11 (some (.ref 6)) N (yH w os) (topStub p)
def Ge(p q:Program)(Xt:Shared->Bool)(w:World)(s:Shared) :=
 (staticsOk (importedModules p.main.body) (JC w.params) s.heap&&namesBound p s.heap&&gensDone s&&laidKept (JC w.params) s.heap,openSeen q [] (importedModules p.main.body) Xt true s)
def Lg{p q:Program}{Xt:Shared->Bool}{β:Type}{Yf:Shared->List β}{Ya:World->List β}{N:Nat}(k:Nat)(open_:∀w:World,(fencedOpening treeTable p w N).map (λs=>(s.heap,s.gens,s.drawn,s.toks))=some (ő w.params,Array.mk [],boot_drawn,boot_toks))(look:∀(w:World) (os:OsState),(Dr p N w os).map (λs=>Ge p q Xt w s.abs)=some (true,openGood q []))(front:∀(w:World) (os:OsState),(Dr p N w os).map (λs=>(Yf s.abs).take k)=some ((Ya w).take k))(back:∀(w:World) (os:OsState),(Dr p N w os).map (λs=>(Yf s.abs).drop k)=some ((Ya w).drop k)):LeftO p q [] Xt Yf Ya N:=λw=>by
 obtain⟨⟨h,gs,d,j,os⟩,e,e'⟩:=ł.mp (open_ w)
 obtain⟨rfl,rfl,rfl,rfl⟩:h=ő w.params/\gs=#[]/\d=boot_drawn/\j=boot_toks:=by simpa using e'
 obtain⟨z1,z2,z3⟩:_/\_/\_:=by simpa only[Prod.mk.injEq] using Fj w
 obtain⟨s,hs,l⟩:=ł.mp (look w os)
 have l4:(Yf s.abs).take k=(Ya w).take k:=by
  have:=front w os
  rw[hs] at this
  exact á this
 have l5:(Yf s.abs).drop k=(Ya w).drop k:=by
  have:=back w os
  rw[hs] at this
  exact á this
 have l3:Yf s.abs=Ya w:=by rw[←List.take_append_drop k (Yf s.abs),l4,l5,List.take_append_drop]
 unfold Ge at l
 rw[←xX] at l
 obtain⟨l1,l2⟩:=Prod.mk.inj l
 have r:=sy hs
 rw[Dh] at r
 have t:topFrom treeTable p w N ⟨ő w.params,#[],boot_drawn,boot_toks,os⟩=some s.abs:=by
  unfold topFrom
  dsimp only
  rw[z1,z2,z3,r]
  show(match staticsOk (importedModules p.main.body) (ő w.params) s.abs.heap&&namesBound p s.abs.heap&&gensDone s.abs&&laidKept (ő w.params) s.abs.heap with|true=>_|false=>_)=_
  rw[l1]
 unfold openEnds
 rw[e]
 show(topFrom treeTable p w N _).map _=_
 rw[t]
 exact congrArg some (Prod.ext l2 l3)
end Nf
namespace Nf
open PySem L2 PyProof.Rows Dl
def top(i:Nat):Stmt:=PySem.Challenge.pw_nofall_k42_trees_bent.main.body.getD i (.Pass ⟨0,0,0,0⟩)
structure Proper(n:Int)(l:List Int):Prop where
 one:1<=l.length
 few:(l.length:Int)<n
 rng:∀x∈l,0<=x/\x<n
 rise:l.Pairwise (·<·)
 n16:n<=16
def Od(ds:List D)(P:D->Prop):Prop:=∃l:List Int,ds=[.list (l.map Å)]/\l.length<=400/\P (.list ((l.dropLast.zip (l.drop 1)).map pD))
def toI:D->Int
 |.int i=>i
 |_=>0
def gZ(l:List Int):Bool:=(l.dropLast.zip (l.drop 1)).all λt=>decide (t.1<t.2)
def Kc(m:Int):D->Bool
 |.list es=>es.all (bV m)&&gZ (es.map toI)
 |_=>false
def Tw(n:Int):D->Bool
 |.list es=>decide ((1:Int)<=(es.length:Nat))&&decide (((es.length:Nat):Int)<n)
 |_=>false
def aJ(n:Int)(d:D):Bool:=Kc n d&&Tw n d
def Few(d:D):Prop:=∀es,d=.list es->es.length<=400
def Cz(ds:List D)(P:D->Prop):Prop:=∃m d,ds=[.int m,d]/\Few d/\P (.bool (Kc m d))
def pK(ds:List D)(P:D->Prop):Prop:=∃n d,ds=[.int n,d]/\Few d/\P (.bool (aJ n d))
def Jk(ds:List D)(P:D->Prop):Prop:=∃n us l,ds=[aA n us,.list (l.map Å)]/\Proper n l/\P .none
def lv(l:List Int)(t:Tie):Bool:=decide (t.1∈l) != decide (t.2∈l)
def Uc(ds:List D)(P:D->Prop):Prop:=∃n us l,ds=[aA n us,.list (l.map Å)]/\Proper n l/\us.length<=100/\P (.list ((us.filter (lv l)).map pD))
def tR(ds:List D)(P:D->Prop):Prop:=∃n us l,ds=[aA n us,.list (l.map Å)]/\Proper n l/\us.length<=100/\P (.int ((us.filter (lv l)).length:Nat))
def Jh(ds:List D)(P:D->Prop):Prop:=∃n us l fa,ds=[aA n us,.int fa,.list (l.map Å)]/\Proper n l/\us.length<=100/\P (.int (if 0 > fa+1 - ((us.filter (lv l)).length:Nat) then 0 else fa+1 - ((us.filter (lv l)).length:Nat)))
def tQ{l:List Int}(h:l.Pairwise (·<·)):∀t∈l.dropLast.zip (l.drop 1),t.1<t.2:=by
 intro t ht
 obtain⟨i,hi,e⟩:=List.mem_iff_getElem.mp ht
 have h1:i<l.length - 1:=by
  rw[Ż,List.length_dropLast,Ņ] at hi
  omega
 rw[List.getElem_zip] at e
 have e1:l.dropLast[i]'(by rw[List.length_dropLast];exact h1)=l[i]:=List.getElem_dropLast _
 have e2:(l.drop 1)[i]'(by rw[Ņ];exact h1)=l[1+i]:=List.getElem_drop
 rw[←e]
 simp only[e1,e2]
 exact(ŋ.mp h) i (1+i) (by omega) (by omega) (by omega)
def nP{n:Int}{d:D}(h:bV n d=true):∃i:Int,d=.int i:=by
 cases d with
 |int i=>exact⟨i,rfl⟩
 |_=>cases h
def bI(d:D):aD d=.im d\/aD d=.sh d:=by
 unfold aD
 by_cases h:cI d=true
 ·rw[if_pos h];exact .inl rfl
 ·rw[if_neg h];exact .inr rfl
def ints_of{n:Int}:∀{es:List D},es.all (bV n)=true->es=(es.map toI).map Å
 |[],_=>rfl
 |d::es,h=>by
  rw[Ő,Ê] at h
  obtain⟨i,rfl⟩:=nP h.1
  have:=ints_of h.2
  rw[û,û,←this]
  rfl
def Av(l:List Int):(l.map Å).map toI=l:=by rw[ç];exact List.map_id' l
def eF{n:Int}{l:List Int}(h:Proper n l):aJ n (.list (l.map Å))=true:=by
 have h1:=h.one
 have h2:=h.few
 have e1:(l.map Å).all (bV n)=true:=ï.mpr λd hd=>by
  obtain⟨x,hx,rfl⟩:=ø.mp hd
  exact decide_eq_true (h.rng x hx)
 have e2:gZ l=true:=ï.mpr λt ht=>decide_eq_true (tQ h.rise t ht)
 show(((l.map Å).all (bV n)&&gZ ((l.map Å).map toI))&&(decide ((1:Int)<=((l.map Å).length:Nat))&&decide ((((l.map Å).length:Nat):Int)<n)))=true
 rw[e1,Av,e2,Â,decide_eq_true (show(1:Int)<=(l.length:Nat) by omega),decide_eq_true h2]
 rfl
def qW{l:List Int}(h:l.length<=400):Few (.list (l.map Å)):=λes e=>by
 injection e with e
 rw[←e,Â]
 exact h
def fK{α:Type}(l:List α):cX l none (some (-1))=l.dropLast:=by
 unfold cX
 have e1:HT.sIx l.length 0 none=0:=rfl
 have e2:HT.sIx l.length l.length (some (-1))=l.length - 1:=by
  have e:HT.sIx l.length l.length (some (-1))=((-1:Int)+(l.length:Int)).toNat:=rfl
  rw[e]
  omega
 rw[e1,e2,List.drop_zero,Nat.sub_zero,List.dropLast_eq_take]
def mH{α:Type}(l:List α):cX l (some 1) none=l.drop 1:=by
 unfold cX
 have e1:HT.sIx l.length l.length none=l.length:=rfl
 have e2:HT.sIx l.length 0 (some 1)=min 1 l.length:=HT.Bj l.length 0 1
 rw[e1,e2]
 rw[List.take_of_length_le (by rw[Ņ];omega)]
 by_cases h:1<=l.length
 ·rw[Nat.min_eq_left h]
 ·have:l=[]:=List.length_eq_zero_iff.mp (by omega)
  subst this
  rfl
def v9(a b:List Int):((a.map Å).zip (b.map Å)).map prD=(a.zip b).map pD:=by
 rw[List.zip_map,ç]
 rfl
section
variable {P:Program}{w:World}{K:Ô}{mg:Str->Option Value}{base:Heap}{f:Addr}{fd:FuncData}
def sc4:FnScope ["thing"] ["thing"] (aj (top 5)):=zC
def Hj(F:Fun K "is_whole" "is_whole" (top 5) f fd)(B:Ė mg):FnOk P w K mg base CX0 1 f fd ["thing"] (spD jZ):=by
 refine F.ok sc4 Ć (λcdv A outer s H vs Q E hr h=>?_)
 refine⟨_,bL (cF (nq (d8 Ck B.isinstance (dv 0) (pB (v:=.ty "int") rfl B.int boot_int rfl)) (ni (uV (d8 qQ B.isinstance (dv 0) (pB (v:=.ty "bool") rfl B.bool boot_bool rfl)))))),vO h ?_⟩
 rintro ds P ⟨d,rfl,q⟩
 unfold Jt nR tIs
 refine FN (d:=d) rfl λk=>?_
 cases d <;> exact⟨rfl,q⟩
def sc5:FnScope ["limit","thing"] ["limit","thing"] (aj (top 6)):=zC
def Hq(F:Fun K "is_below" "is_below" (top 6) f fd)(W:Ñ P w K mg base 1 "is_whole" ["thing"] (spD jZ)):FnOk P w K mg base CX0 2 f fd ["limit","thing"] (spD zZ):=by
 refine F.ok sc5 Ć (λcdv A outer s H vs Q E hr h=>?_)
 refine⟨_,bL (cF (nq (dc W hr (aC (dv 1) aL)) (ni (BP bJ (dv 1) (dv 0))))),vO h ?_⟩
 rintro ds P ⟨m,d,rfl,q⟩
 unfold Jt nR tFn jr
 refine FN (d:=d) rfl λk=>⟨d,rfl,?_⟩
 cases d with
 |int i =>
  have e:P (.bool (decide (0<=i/\i<m))):=q
  by_cases h0:(0:Int)<=i
  ·show if decide ((0:Int)<=i)=true then _ else _
   rw[decide_eq_true h0]
   refine aF (B:=True) ⟨rfl,?_⟩
   have e2:decide (0<=i/\i<m)=decide (i<m):=by simp[h0]
   rw[e2] at e
   exact e
  ·show if decide ((0:Int)<=i)=true then _ else _
   rw[decide_eq_false h0]
   refine ak (A:=True) ⟨rfl,?_⟩
   have e2:decide (0<=i/\i<m)=false:=by simp[h0]
   rw[e2] at e
   exact e
 |_=>exact⟨rfl,q⟩
def sc7:FnScope ["places"] ["places"] (aj (top 10)):=zC
def KY(F:Fun K "hops" "hops" (top 10) f fd)(B:Ė mg)(mz:mg "zip"=none):FnOk P w K mg base CX0 1 f fd ["places"] (spD Od):=by
 refine F.ok sc7 Ć (λcdv A outer s H vs Q E hr h=>?_)
 refine⟨_,bL (cF (yX rfl B.list mz (aC (yV (dv 0) cA (cu (nj bJ))) (aC (yV (dv 0) (cu bJ) cA) aL)))),vO h ?_⟩
 rintro ds P ⟨l,rfl,hl,q⟩
 refine .inl ⟨?_,.inl ⟨?_,?_,.inl ⟨?_,rfl,?_⟩⟩⟩
 ·show cD (cX (l.map Å) none (some (-1)))=true
  rw[fK,←List.map_dropLast]
  exact lZ _
 ·show cD (cX (l.map Å) (some 1) none)=true
  rw[mH,←List.map_drop]
  exact lZ _
 ·show(cX (l.map Å) none (some (-1))).length<=1000
  rw[fK,List.length_dropLast,Â]
  omega
 ·show cD _=true
  rw[fK,mH,←List.map_dropLast,←List.map_drop,v9]
  exact nF _
 ·show P _
  rw[fK,mH,←List.map_dropLast,←List.map_drop,v9]
  exact q
end
def OkT(n:Int)(t:Tie):Prop:=(0<=t.1/\t.1<n)/\(0<=t.2/\t.2<n)/\t.1≠t.2
def OkN(n:Int)(us:List Tie):Prop:=∀t∈us,OkT n t
def mmT(t:Tie):Tie:=(if t.2<t.1 then t.2 else t.1,if t.2 > t.1 then t.2 else t.1)
def Ji(ds:List D)(P:D->Prop):Prop:=∃n t,ds=[.int n,pD t]/\OkT n t/\P (.bool true)
def vK{k:Kd}{d1 d2:D}{ρ:List Sl}{Q:List Sl->Prop}{i j:Nat}(h:∀s5 s6,s5=Bb (norm (norm k d1) d1) d1->s6=Bb (norm (norm k d2) d2) d2->Q ((ρ.set i s5).set j s6)):vL (gNm i) (vL (gNm j) Ir) k [d1,d2] ρ Q:=h _ _ rfl rfl
section
variable {P:Program}{w:World}{K:Ô}{mg:Str->Option Value}{base:Heap}{f:Addr}{fd:FuncData}{CN:Addr}
def sJ:FnScope ["n","thing"] ["n","thing"] (aj (top 7)):=zC
def DN(F:Fun K "is_tie" "is_tie" (top 7) f fd)(B:Ė mg)(C_is_below:Ñ P w K mg base 2 "is_below" ["limit","thing"] (spD zZ)):FnOk P w K mg base CX0 3 f fd ["n","thing"] (spD Ji):=by
 refine F.ok sJ Ć (λcdv A outer s H vs Q E hr h=>?_)
 have nd:=sJ.nd
 refine⟨_,ē (Û (ý (ř (ĥ (ċ (ö (ī kit_tuple B.isinstance (Ä 1) (Wr.wty rfl B.tuple boot_tuple)))) (Ĺ (ĭ hr.units (ă B.len (À (Ä 1) Á)) Ã)))) (Ö (ß Ħ)) â)
  (Ö (ß (Ŏ (ĉ C_is_below hr (À (Ä 0) (À (Õ (Ä 1) Ã) Á))) (Ŏ (ĉ C_is_below hr (À (Ä 0) (À (Õ (Ä 1) Ã) Á))) (ű (Wr.uW hr.units (Õ (Ä 1) Ã) (Õ (Ä 1) Ã)))))))),aM h ?_⟩
 rintro ds P ⟨n,t,rfl,ok,q⟩
 refine⟨[.im (.int n),.im (pD t)],rfl,?_⟩
 obtain⟨⟨o1,o2⟩,⟨o3,o4⟩,o5⟩:=ok
 refine ak (A:=True) (ak (A:=True) ?_)
 refine⟨.int t.1,rfl,n,.int t.1,rfl,?_⟩
 show if decide (0<=t.1/\t.1<n)=true then _ else _
 rw[decide_eq_true ⟨o1,o2⟩]
 refine aF (B:=True) ⟨.int t.2,rfl,n,.int t.2,rfl,?_⟩
 show if decide (0<=t.2/\t.2<n)=true then _ else _
 rw[decide_eq_true ⟨o3,o4⟩]
 refine aF (B:=True) ⟨.int t.1,rfl,.int t.2,rfl,rfl,?_⟩
 show P (.bool (!decide (t.1=t.2)))
 rw[decide_eq_false o5]
 exact q
end
def eV(ds:List D)(P:D->Prop):Prop:=∃m:Int,ds=[.int m]/\0<m/\m<1267650600228229401496703205376/\∀r:Int,0<=r->r<m->P (.int r)
def tG{x m:Int}(hm:0<m)(hb:m<=2 ^ 32):-(2 ^ 64)<x % m/\x % m<2 ^ 64:=by
 have h1:=Int.emod_nonneg x (b:=m) (by omega)
 have h2:=Int.emod_lt_of_pos x hm
 omega
def PSs.wk{X:Cx}{ss:List Stmt}{t t':TS}(h:PSs X ss t)(w:∀D σ H,t' D σ H->t D σ H):PSs X ss t':=λpins s σ H D I q=>h pins s σ H D I (w D σ H q)
def tDr(p:Addr):TS:=λD σ H=>∃(a2 a3:Option V) (m a b c:Int),σ=[some (.ref p),some (.int m),a2,a3]/\0<m/\H p=some (.lst [.int a,.int b,.int c])/\0<=c/\c<=1152921504606846976/\∀r':Int,0<=r'->r'<m->D.rt (.int r') H
def Mq{i:Int}{ns:List Int}(h:(0:Int)<((ns.map V.int).length:Nat)):∃v:Int,atI (ns.map V.int) (i % (((ns.map V.int).length:Nat):Int))=some (.int v):=by
 rw[Â] at h ⊢
 have h1:=Int.emod_nonneg i (b:=(ns.length:Int)) (by omega)
 have h2:=Int.emod_lt_of_pos i h
 have hk:(i % (ns.length:Int)).toNat<ns.length:=by omega
 have ek:i % (ns.length:Int)=(((i % (ns.length:Int)).toNat:Nat):Int):=by omega
 have q:atI (ns.map V.int) (((i % (ns.length:Int)).toNat:Nat):Int)=some (.int ns[(i % (ns.length:Int)).toNat]):=ż (by rw[å,È hk];rfl)
 rw[←ek] at q
 exact⟨_,q⟩
def Ut{k:Int}{ns:List Int}(h0:0<=k)(h:k<((ns.map V.int).length:Nat)):∃v:Int,atI (ns.map V.int) k=some (.int v):=by
 rw[Â] at h
 have hk:k.toNat<ns.length:=by omega
 have ek:k=((k.toNat:Nat):Int):=by omega
 have q:atI (ns.map V.int) ((k.toNat:Nat):Int)=some (.int ns[k.toNat]):=ż (by rw[å,È hk];rfl)
 rw[←ek] at q
 exact⟨_,q⟩
def RL:TS:=λD σ H=>∃(a0:Option V) (k cell:Int),σ=[a0,some (.int k),some (.int cell)]/\∀l a b,H l=none->D.rt (.ref l) (upd H l (.lst [.int a,.int b,.int 0]))
def SX(ds:List D):Prop:=∃k:Int,ds=[.int k]/\0<=k/\k<1000
structure IsOrd(n:Int)(l:List Int):Prop where
 len:(l.length:Int)=n
 rng:∀x∈l,0<=x/\x<n
 nd:l.Nodup
def Jf(ds:List D)(P:D->Prop):Prop:=∃n:Int,ds=[.int n]/\1<=n/\n<=16/\∀l,IsOrd n l->P (.list (l.map Å))
def kO{H:Hp}{a:Addr}(h:H a=none)(o:HO):Same H (upd H a o):=λb u q=>by rw[ao (aK q h)];exact q
def Gk(n:Int):oM 0 n=((ä n.toNat).map λi=>((i:Nat):Int)).map V.int:=by
 unfold oM
 rw[ç,Int.sub_zero]
 exact œ λi _=>by simp
def R9{r:Int}{k:Nat}(h0:0<=r)(h1:r<k):seqIndex? r k=some r.toNat:=(vH (n:=k) (i:=r) (j:=r.toNat) (by unfold ixN;rw[if_pos h0,if_pos h1])).1
def lN{α β:Type}(g:α->β):∀(l:List α) (i:Nat),(l.map g).eraseIdx i=(l.eraseIdx i).map g
 |[],_=>by simp
 |_::_,0=>by simp
 |x::l,i+1=>by simp[lN g l i]
def wK{α:Type}:∀(l:List α) (i:Nat) (x:α),l[i]?=some x->(x::l.eraseIdx i).Perm l
 |y::l,0,x,h=>by
  cases h
  exact .refl _
 |y::l,i+1,x,h=>by
  rw[List.eraseIdx_cons_succ]
  exact(List.Perm.swap _ _ _).trans ((wK l i x h).cons y)
section
variable {P:Program}{w:World}{K:Ô}{mg:Str->Option Value}{base:Heap}{f:Addr}{fd:FuncData}
def Bg:FnScope ["_law_pen_here","_law_many","_law_found","_law_number"] ["_law_pen_here","_law_many"] (aj (top 45)):=zC
def KZ(F:Fun K "_law_draw" "_law_draw" (top 45) f fd)(B:Ė mg):FnOk P w K mg base CX0 1 f fd ["_law_pen_here","_law_many"] (bB 1 eV):=by
 refine F.ok Bg dF (λcdv A outer s H vs Q E hr h=>?_)
 obtain⟨p,n,vs',ds,P,rfl,⟨⟨a,b,c,hp,c0,c1⟩,_⟩,rp,⟨m,rfl,m0,m30,hP⟩,q⟩:=h
 obtain rfl:vs'=[.int m]:=by
  cases rp with
  |cons h1 t=>cases h1;cases t;rfl
 have nd:=Bg.nd
 have c1:c+1+(n:Int)<=1152921504606846976:=by omega
 refine⟨_,aY (qd (jy wQ (fu cH (pv 0) Ĥ (λ_ _=>rfl)) Ĥ (bN _))
   (aY (dN (i:=2) nd rfl (Œ rfl) (aW eH (fu cH (pv 0) Ĥ (λ_ _=>rfl)) (pv 1)))
   (aY (yN (aW Hh (fu cH (pv 0) Ĥ (λ_ _=>rfl)) (pv 1)) (yP (pv 0) Ĥ set_list))
   (cZ (iM (pv 2))))) lg)
  (aY (yN (aW dO (fu cH (pv 0) Ĥ (λ_ _=>rfl)) Ĥ) (yP (pv 0) Ĥ set_list))
  (PSs.wk (t':=tDr p) (aY (dN (i:=3) nd rfl (Œ rfl) (aW eH (aW dO (aW dO (aW dB (fu cH (pv 0) Ĥ (λ_ _=>rfl)) Ĥ) (aW dB (aW dB Ĥ (fu cH (pv 0) Ĥ (λ_ _=>rfl))) (fu cH (pv 0) Ĥ (λ_ _=>rfl)))) Ĥ) Ĥ))
  (aY (dN (i:=3) nd rfl (Œ rfl) (aW eH (aW dB (pv 3) (aW dO (aW eH (pv 3) Ĥ) (fu cH (pv 0) Ĥ (λ_ _=>rfl)))) Ĥ))
  (cZ (iM (aW eH (aW Kw (aW eH (aW dO (aW dB (pv 3) (pv 3)) (aW dB Ĥ (fu cH (pv 0) Ĥ (λ_ _=>rfl)))) Ĥ) Ĥ) (pv 1)))))) ?dr)),?_⟩
 case dr =>
  rintro D σ H' ⟨a2,a3,m,a,b,c,rfl,m0,hp,c0,c1,hq⟩
  have md:∀x:Int,0<=x % m/\x % m<m:=λx=>⟨Int.emod_nonneg _ (by omega),Int.emod_lt_of_pos _ m0⟩
  have cs:-(2 ^ 64)<c/\c<2 ^ 64:=⟨by omega,by omega⟩
  refine⟨_,rfl,p,_,_,_,rfl,rfl,SqL.of hp,rfl,_,_,rfl,rfl,.inr ⟨by decide,by decide⟩,_,rfl,p,_,_,_,rfl,rfl,SqL.of hp,rfl,_,_,rfl,rfl,.inl ⟨by decide,by decide⟩,_,rfl,p,_,_,_,rfl,rfl,SqL.of hp,rfl,_,_,rfl,rfl,.inr cs,_,_,rfl,rfl,_,_,rfl,rfl,_,_,rfl,rfl,(by show(0:Int)<2147483647;decide),?_⟩
  refine⟨_,rfl,_,rfl,_,_,rfl,rfl,(by show(0:Int)<65521;decide),_,rfl,p,_,_,_,rfl,rfl,SqL.of hp,rfl,_,_,rfl,rfl,_,_,rfl,rfl,.inl (tG (by decide) (by decide)),_,_,rfl,rfl,(by show(0:Int)<2147483629;decide),?_⟩
  refine⟨_,rfl,_,rfl,_,_,rfl,rfl,.inl (tG (by decide) (by decide)),_,rfl,p,_,_,_,rfl,rfl,SqL.of hp,rfl,_,_,rfl,rfl,.inl ⟨by decide,by decide⟩,_,_,rfl,rfl,_,_,rfl,rfl,(by show(0:Int)<2147483587;decide),_,_,rfl,rfl,⟨by decide,by decide⟩,_,rfl,_,_,rfl,rfl,m0,hq _ (md _).1 (md _).2⟩
 have md:∀x:Int,0<=x % m/\x % m<m:=λx=>⟨Int.emod_nonneg _ (by omega),Int.emod_lt_of_pos _ m0⟩
 have fin:∀(H':Hp) (r x:Int) (c':Int),0<=r->r<m->(∀b o,H b=some o->b≠p->H' b=some o)->H' p=some (.lst [.int x,.int b,.int c'])->0<=c'->c'+(n:Int)<=1152921504606846976->Q (.int r) H':=λH' r x c' h1 h2 k e e0 e1 =>
  q _ _ _ (hP r h1 h2) (λb o e n=>k b o e λz=>n (.inl z)) ⟨⟨x,b,c',e,e0,e1⟩,trivial,λz=>z⟩ (.int r)
 have kU:∀(H1:Hp) (o:HO),(∀b o,H b=some o->b≠p->H1 b=some o)->∀b u,H b=some u->b≠p->upd H1 p o b=some u:=λH1 o k b u e n=>by rw[ao n];exact k b u e n
 refine⟨_,rfl,p,_,_,_,rfl,rfl,SqL.of hp,rfl,_,_,rfl,rfl,_,rfl,bH (λz=>?_) (λz=>?_)⟩
 ·exact⟨_,rfl,p,_,_,_,rfl,rfl,SqL.of hp,rfl,_,rfl,_,_,rfl,rfl,m0,_,rfl,p,_,_,_,rfl,rfl,SqL.of hp,rfl,_,rfl,_,_,rfl,rfl,⟨m0,m30⟩,_,rfl,p,_,_,_,rfl,rfl,hp,rfl,_,rfl,fin _ _ _ c (md _).1 (md _).2 (kU _ _ λb o e _=>e) aB c0 (by omega)⟩
 ·refine⟨_,rfl,p,_,_,_,rfl,rfl,SqL.of hp,rfl,_,_,rfl,rfl,_,rfl,p,_,_,_,rfl,rfl,hp,rfl,?_⟩
  exact⟨_,_,m,a,b,c+1,rfl,m0,aB,by omega,by omega,λr' h1 h2=>fin _ _ _ (c+1) h1 h2 (kU _ _ λb o e _=>e) aB (by omega) c1⟩
def Sg:FnScope ["_law_script","_law_k","_law_cell"] ["_law_script","_law_k"] (aj (top 44)):=zC
def Qm(F:Fun K "_law_pen" "_law_pen" (top 44) f fd)(B:Ė mg):FnOk P w K mg base CX0 1 f fd ["_law_script","_law_k"] (Wb.JX K SX):=by
 refine F.ok Sg (λvs H Q E h=>?_) (λcdv A outer s H vs Q E hr h=>?_)
 ·obtain⟨sc,ns,vs',ds,rfl,_,rs,⟨k,rfl,_⟩,_⟩:=h
  rw[ÿ,rs.length]
  rfl
 obtain⟨sc,ns,vs',ds,rfl,hS,rs,⟨k,rfl,k0,k9⟩,q⟩:=h
 have e:vs'=[.int k]:=Rps.ints (ns:=[k]) rs
 subst e
 have nd:=Sg.nd
 refine⟨_,aY (dN (i:=2) nd rfl (Œ rfl) (aW dO (aW dO (aW dB (aW dB Ĥ (pv 1)) (pv 1)) (aW dB Ĥ (pv 1))) Ĥ))
  (aY (qd (jy oF (pv 1) (eG dG rfl B.len PySem.boot_len (ś (pv 0) cL)) (bN _))
   (cZ (dN (i:=2) nd rfl (Œ rfl) (fu cH (pv 0) (pv 1) (λ_ _=>rfl))))
   (cZ (qd (jy wQ (eG dG rfl B.len PySem.boot_len (ś (pv 0) cL)) Ĥ (bN _))
    (cZ (dN (i:=2) nd rfl (Œ rfl) (aW dO (aW dB (aW eH (fu cH (pv 0) (aW eH (pv 1) (eG dG rfl B.len PySem.boot_len (ś (pv 0) cL))) (λ_ _=>rfl)) Ĥ) Ĥ) (aW dB Ĥ (pv 1))))) lg)))
  (PSs.wk (t':=RL) (aY (qd (jy Nq (pv 2) (aW G7 Ĥ Ĥ) (bN _))
   (cZ (iM (yS (ś (pv 2) (ś Ĥ (ś Ĥ cL)))))) lg)
  (cZ (iM (yS (ś Ĥ (ś (aW dO (aW eH (pv 2) Ĥ) (aW dB Ĥ (pv 1))) (ś Ĥ cL))))))) ?pen)),?_⟩
 case pen =>
  rintro D σ H' ⟨a0,k,cell,rfl,hq⟩
  refine⟨_,rfl,_,_,rfl,rfl,⟨by decide,by decide,by decide⟩,_,_,rfl,rfl,_,rfl,bH (λc1=>?_) (λc1=>?_)⟩
  ·exact⟨_,rfl,by show 3<=sizeLine;decide,λl hl=>hq l _ _ hl⟩
  ·exact⟨_,rfl,_,_,rfl,rfl,(by show(0:Int)<2147483587;decide),_,rfl,_,_,rfl,rfl,.inl ⟨by decide,by decide⟩,_,_,rfl,rfl,by show 3<=sizeLine;decide,λl hl=>hq l _ _ hl⟩
 have fin:∀cell:Int,RL { nx:=λ_ H'=>Q .non H',rt:=Q } [some (.ref sc),some (.int k),some (.int cell)] H:=λcell=>⟨_,k,cell,rfl,λl a b hl=>q l _ ⟨⟨a,b,0,aB,by decide,by decide⟩,trivial,λz=>z⟩ (kO hl _) hl⟩
 refine⟨_,rfl,_,_,rfl,rfl,.inl ⟨by decide,by decide⟩,_,rfl,_,_,rfl,rfl,.inr ⟨by omega,by omega⟩,_,rfl,_,_,rfl,rfl,.inl ⟨by decide,by decide⟩,_,_,rfl,rfl,_,_,rfl,rfl,?_⟩
 refine⟨_,rfl,_,rfl,sc,_,rfl,.inl hS,_,_,rfl,rfl,_,rfl,bH (λc1=>?_) (λc1=>?_)⟩
 ·obtain⟨v,hv⟩:=Ut k0 (of_decide_eq_true c1)
  exact⟨_,rfl,_,rfl,sc,_,_,_,rfl,rfl,hS,hv,fin v⟩
 ·refine⟨_,rfl,sc,_,rfl,.inl hS,_,_,rfl,rfl,_,rfl,bH (λc2=>?_) (λc2=>fin _)⟩
  have c2:=of_decide_eq_true c2
  obtain⟨v,hv⟩:=Mq (i:=k) c2
  exact⟨_,rfl,_,rfl,_,rfl,sc,_,rfl,.inl hS,_,_,rfl,rfl,c2,sc,_,_,_,rfl,rfl,hS,hv,_,_,rfl,rfl,(by show(0:Int)<2147483629;decide),_,_,rfl,rfl,.inr ⟨by decide,by decide⟩,_,rfl,_,_,rfl,rfl,.inl ⟨by decide,by decide⟩,_,_,rfl,rfl,fin _⟩
def wG:FnScope ["_law_pen_here","_law_n","_law_left"] ["_law_pen_here","_law_n"] (aj (top 47)):=zC
def HB:(["_law_k","_law_pen_here","_law_n","_law_left"]:List Str).Nodup:=by decide +kernel
def Hl(F:Fun K "_law_turned" "_law_turned" (top 47) f fd)(B:Ė mg)(T:Ñ P w K mg base 1 "_law_draw" ["_law_pen_here","_law_many"] (bB 1 eV)):FnOk P w K mg base CX0 2 f fd ["_law_pen_here","_law_n"] (bB 16 Jf):=by
 refine F.ok wG dF (λcdv A outer s H vs Q E hr h=>?_)
 obtain⟨pa,n0,vs',ds,P,rfl,pi0,rp,⟨n,rfl,n1,n16,hP⟩,q0⟩:=h
 have pi:(aq pa n0).PI H:=aH pi0 (by omega)
 obtain rfl:vs'=[.int n]:=by
  cases rp with
  |cons h1 t=>cases h1;cases t;rfl
 have nd:=wG.nd
 refine⟨_,aY (dN (i:=2) nd rfl (Or.inr rfl) (fY (jU rfl) rfl B.list boot_list (ś (fY uf rfl B.range boot_range (ś (pv 1) cL)) cL)))
  (cZ (iM (GP ["_law_k"] rfl (mZ rfl B.range (ś (pv 1) cL)) (λc=>fj (i:=0) HB rfl (Œ rfl)) (λc=>Bv)
   (λc=>BK Ź PySem.F.slot_list_pop PySem.F.type_list_pop HD (pv 3) (ś (pcS T hr (ś (pv 1) (ś (eG dG rfl B.len PySem.boot_len (ś (pv 3) cL)) cL)) (by decide) rfl (by decide) rfl rfl) cL))))),?_⟩
 refine⟨_,rfl,n,rfl,λr hr1=>?_⟩
 refine⟨r,0,n,rfl,aB,⟨by omega,by omega,by omega,by omega⟩,λL hL=>?_⟩
 have a1:=kO hr1 (.rng 0 n)
 have a2:=kO hL (.lst (oM 0 n))
 have a12:Same H (upd (upd H r (.rng 0 n)) L (.lst (oM 0 n))):=λb o e=>a2 b o (a1 b o e)
 have hHL:H L=none:=by
  cases e:H L with
  |none=>rfl
  |some o=>rw[a1 _ _ e] at hL;cases hL
 have nfp:∀a,H a=none->¬(aq pa n0).fp a:=λa ha z=>by
  obtain⟨o,e,_⟩:=(aq pa n0).is H a pi z
  rw[ha] at e;cases e
 have hLp:=nfp L hHL
 refine⟨_,rfl,n,rfl,by omega,by omega,QL (lo:=0) (k:=n.toNat) (by omega) (λi ys H'=>∃out rem:List Int,ys=out.map V.int/\H' L=some (.lst (rem.map V.int))/\(out++rem).Perm ((ä n.toNat).map λi=>((i:Nat):Int))/\out.length=i/\Dl.Kp (aq pa n0) H H'/\(aq pa (n0+(n.toNat - i))).PI H')
  ⟨[],_,rfl,by rw[aB,Gk],List.Perm.refl _,rfl,λb o e _=>a12 b o e,(aq pa (n0+(n.toNat - 0))).mono H _ (aH pi0 (by omega)) λb o _ e=>a12 b o e⟩ ?_ ?_ ?_⟩
 ·rintro i ys H' ⟨out,rem,rfl,_,_,e,_⟩
  rw[Â,e]
  exact Ç _
 ·rintro c i ys H' hi ⟨out,rem,rfl,hL',hperm,ho,k,pi'⟩
  have hlen:out.length+rem.length=n.toNat:=by have:=hperm.length_eq;simpa using this
  have hm:((rem.map V.int).length:Int)=rem.length:=by rw[Â]
  refine aF (B:=True) ⟨_,rfl,.inl ⟨rfl,_,SqL.of hL'⟩,_,rfl,_,rfl,L,_,rfl,.inl (SqL.of hL'),pa,n0+(n.toNat - (i+1)),_,[.int ((rem.map V.int).length:Nat)],(λd=>∃y:Int,0<=y/\y<((rem.map V.int).length:Nat)/\d=.int y),rfl,aH pi' (by omega),.cons (.int _) .nil,⟨_,rfl,by rw[hm];omega,by rw[hm];omega,λx x0 x1=>⟨x,x0,x1,rfl⟩⟩,?_⟩
  rintro d v H2 ⟨x,x0,x1,rfl⟩ k2 pi2 rv
  have ev:=Rp.int' rv
  subst ev
  rw[hm] at x1
  have hL2:H2 L=some (.lst (rem.map V.int)):=k2 _ _ hL' hLp
  have hx:x.toNat<rem.length:=by omega
  refine⟨L,_,x,x.toNat,.int rem[x.toNat],rfl,rfl,hL2,by omega,by omega,by rw[Â];exact R9 x0 x1,by rw[å,È hx];rfl,?_⟩
  refine⟨out++[rem[x.toNat]],rem.eraseIdx x.toNat,by rw[î];rfl,by rw[aB,lN],?_,by rw[Î,ho];rfl,λb o e nb=>?_,(aq pa (n0+(n.toNat - (i+1)))).mono H2 _ pi2 λb o z e=>?_⟩
  ·rw[List.append_assoc]
   exact((wK rem x.toNat _ (È hx)).append_left out).trans hperm
  ·rw[ao (λz=>by rw[z,hHL] at e;cases e)]
   exact k2 b o (k b o e nb) nb
  ·rw[ao (show b≠L from λy=>z.elim (λz=>hLp (y ▸ z)) λ⟨_,_,v⟩=>by rw[y,hL2,v] at e;cases e)]
   exact e
 ·rintro ys H' ⟨out,rem,rfl,hL',hperm,ho,k,pi'⟩ a ha
  have hlen:out.length+rem.length=n.toNat:=by have:=hperm.length_eq;simpa using this
  have hrem:rem=[]:=List.eq_nil_of_length_eq_zero (by omega)
  subst hrem
  rw[Ā] at hperm
  have nfa:¬(aq pa n0).fp a:=λz=>by
   obtain⟨o,e,_⟩:=(aq pa n0).is H' a (aH pi' (by omega)) z
   rw[ha] at e;cases e
  have hHa:H a=none:=by
   cases e:H a with
   |none=>rfl
   |some o=>rw[k a o e nfa] at ha;cases ha
  have sm:=kO ha (.lst (out.map V.int))
  refine q0 _ _ _ (hP out ⟨by omega,λx hx=>?_,?_⟩) (λb o e nb=>sm b o (k b o e nb)) ((aq pa n0).mono H' _ (aH pi' (by omega)) λb o _ e=>sm b o e) (.lst hHa aB (Rps.ofMap (λi=>.int i) out))
  ·have:=hperm.mem_iff.mp hx
   obtain⟨i,hi,rfl⟩:=ø.mp this
   have:=ę.mp hi
   omega
  ·refine hperm.nodup_iff.mpr ?_
   exact(List.nodup_range (n:=n.toNat)).map (λi=>((i:Nat):Int)) λi j hij h=>hij (by omega)
end
def OkB(n:Int)(us:List Tie):Prop:=∀t∈us,0<=t.1/\t.1<t.2/\t.2<n
def OkB.app{n:Int}{us vs:List Tie}(a:OkB n us)(b:OkB n vs):OkB n (us++vs):=λt ht=>(Ù.mp ht).elim (a t) (b t)
def OkB.one{n:Int}{t:Tie}(h:0<=t.1/\t.1<t.2/\t.2<n):OkB n [t]:=λu hu=>by
 rw[Ò.mp hu]
 exact h
def Je(ds:List D)(P:D->Prop):Prop:=∃n pick:Int,ds=[.int n,.int pick]/\1<=n/\n<=8/\∀us:List Tie,us.length<=28->OkB n us->P (.list (us.map pD))
def Fz{i:Nat}(h:i<=7):i * (i+1)<=56:=é (Nat.mul_le_mul h (Nat.add_le_add_right h 1)) (by decide)
def RG(i:Nat):(i+1) * (i+1+1)=i * (i+1)+2 * (i+1):=by
 have:=Nat.mul_add (i+1) i 2
 rw[Nat.mul_comm i (i+1),Nat.mul_comm 2 (i+1)]
 exact this
def RP(n pick ring:Int)(us:List Tie)(s5 s6:Sl):List Sl:=[.pen TP,.im (.int n),.im (.int pick),.dw 0 (.list (us.map pD)),.im (.int ring),s5,s6]
def Tot(c:Prop)(t:DT)(ρ:List Sl):Prop:=∀R:Bool->Prop,(∀b:Bool,(b=true->c)->R b)->t ρ R
def Tot.and{c:Prop}{t u:DT}{ρ:List Sl}(a:Tot c t ρ)(b:Tot True u ρ):Tot c (Jv t u) ρ:=λR h=>a _ λx hx=>by
 cases x with
 |true=>exact aF (b R λy _=>h y λ_=>hx rfl)
 |false=>exact ak (h false λz=>nomatch z)
def Tot.or{c:Prop}{t u:DT}{ρ:List Sl}(a:Tot c t ρ)(b:Tot c u ρ):Tot c (dOr t u) ρ:=λR h=>a _ λx hx=>by
 cases x with
 |true=>exact aF (h true λ_=>hx rfl)
 |false=>exact ak (b R h)
def zU{c:Prop}{tc:DT}{te:DE}{E:DEnds}{n pick ring v x:Int}{vs:List Tie}{t:Tie}(htc:Tot c tc (RP n pick ring vs (.im (.int v)) (.im (.int x))))(hte:∀R:DK,R .imm (pD t)->te (RP n pick ring vs (.im (.int v)) (.im (.int x))) R)(hl:vs.length<1000)(h0:E.nx (RP n pick ring vs (.im (.int v)) (.im (.int x))))(h1:c->E.nx (RP n pick ring (vs++[t]) (.im (.int v)) (.im (.int x)))):dIf tc (Ac 3 te) Ju E (RP n pick ring vs (.im (.int v)) (.im (.int x))):=htc _ λb hb=>by
 cases b with
 |true =>
  refine aF (hte _ ⟨rfl,by rw[Â];exact hl,?_⟩)
  replace h1:=h1 (hb rfl)
  show E.nx [.pen TP,.im (.int n),.im (.int pick),.dw 0 (.list (vs.map pD++[pD t])),.im (.int ring),.im (.int v),.im (.int x)]
  unfold RP at h1
  rw[î] at h1
  exact h1
 |false=>exact ak h0
def OkV(n:Int)(us:List Tie):Prop:=∀t∈us,0<=t.1/\t.1<n/\0<=t.2/\t.2<n
def OkV.app{n:Int}{us vs:List Tie}(a:OkV n us)(b:OkV n vs):OkV n (us++vs):=λt ht=>(Ù.mp ht).elim (a t) (b t)
def OkV.one{n:Int}{t:Tie}(h:0<=t.1/\t.1<n/\0<=t.2/\t.2<n):OkV n [t]:=λu hu=>by
 rw[Ò.mp hu]
 exact h
def RW(m n:Int)(us:List Tie)(s4:Sl):List Sl:=[.pen TP,.im (.int m),.im (.int n),.dw 0 (.list (us.map pD)),s4,.any,.any]
def Ua(ds:List D)(P:D->Prop):Prop:=∃m:Int,ds=[.int m]/\1<=m/\m<=8/\∀n us,1<=n->n<=m->us.length<=31->OkB n us->us.Pairwise (λa b=>aV a<=aV b)->P (aA n us)
def Mv{j:Int}(j0:0<=j)(j1:j<4):∃c:Int,atI [Å 0,.int 0,.int 1,.int 2] j=some (.int c)/\0<=c/\c<=2:=by
 have:j=0\/j=1\/j=2\/j=3:=by omega
 rcases this with rfl|rfl|rfl|rfl
 ·exact⟨0,rfl,by decide,by decide⟩
 ·exact⟨0,rfl,by decide,by decide⟩
 ·exact⟨1,rfl,by decide,by decide⟩
 ·exact⟨2,rfl,by decide,by decide⟩
def Bf{P:DEnds}{ρ:List Sl}{i:Nat}{k:Kd}{L:List D}(hk:k=.new\/k=.snw)(h:P.nx (ρ.set i (.sn (.list L)))):(match stK none ρ i (norm k (.list L)) (.list L) with
 |some s=>P.nx (ρ.set i s)
 |none=>False):=by
 rcases hk with rfl|rfl <;> exact h
def bQ{P:DEnds}{ρ:List Sl}{rg:Option Nat}{i:Nat}{k:Kd}{d:D}{s:Sl}(e:stK rg ρ i (norm k d) d=some s)(h:P.nx (ρ.set i s)):(match stK rg ρ i (norm k d) d with
 |some s=>P.nx (ρ.set i s)
 |none=>False):=by
 rw[e]
 exact h
def Ea(ts:List Tie):okD (.list (ts.map pD))=true:=by
 have h1:=Ih ts
 have h2:ô (ts.map pD)+1<=60:=by have:=xQ ts;omega
 show(Ĝ (ts.map pD)&&decide (ô (ts.map pD)+1<=60))=true
 rw[h1,decide_eq_true h2]
 rfl
def JH{us:List Tie}{z:Int}(z0:0<=z)(z1:z<(us.map pD).length):∃t∈us,atI (us.map pD) z=some (pD t):=by
 rw[Â] at z1
 have hk:z.toNat<us.length:=by omega
 have ek:z=((z.toNat:Nat):Int):=by omega
 have q:atI (us.map pD) ((z.toNat:Nat):Int)=some (pD us[z.toNat]):=ż (by rw[å,È hk];rfl)
 rw[←ek] at q
 exact⟨_,ņ hk,q⟩
def gO(o:List Int)(x:Int):Int:=o.getD x.toNat 0
def IsOrd.at{n:Int}{l:List Int}(h:IsOrd n l){a:Int}(h0:0<=a)(h1:a<n):atI (l.map Å) a=some (.int (gO l a))/\0<=gO l a/\gO l a<n:=by
 have hl:=h.len
 have hk:a.toNat<l.length:=by omega
 have ek:a=((a.toNat:Nat):Int):=by omega
 have z:atI (l.map Å) ((a.toNat:Nat):Int)=some (.int l[a.toNat]):=ż (by rw[å,È hk];rfl)
 rw[←ek] at z
 have e:gO l a=l[a.toNat]:=by
  unfold gO
  rw[ò,È hk]
  rfl
 rw[e]
 exact⟨z,h.rng _ (ņ hk)⟩
def IsOrd.inj{n:Int}{l:List Int}(h:IsOrd n l){a b:Int}(a0:0<=a)(a1:a<n)(b0:0<=b)(b1:b<n)(e:gO l a=gO l b):a=b:=by
 have hl:=h.len
 have ha:a.toNat<l.length:=by omega
 have hb:b.toNat<l.length:=by omega
 unfold gO at e
 rw[ò,È ha,ò,È hb] at e
 have e:l[a.toNat]=l[b.toNat]:=e
 have pw:=ŋ.mp h.nd
 rcases Nat.lt_trichotomy a.toNat b.toNat with z|z|z
 ·exact absurd e (pw _ _ ha hb z)
 ·omega
 ·exact absurd e.symm (pw _ _ hb ha z)
def mm(t:Tie):Tie:=(if t.2<t.1 then t.2 else t.1,if t.2 > t.1 then t.2 else t.1)
def turnT(o:List Int)(us:List Tie):List Tie:=(us.filter λt=>!decide (t.1=t.2)).map λt=>(gO o t.1,gO o t.2)
def JR{n:Int}{o:List Int}{us:List Tie}(ho:IsOrd n o)(ok:OkV n us):OkB n ((turnT o us).map mm):=λt ht=>by
 obtain⟨u,hu,rfl⟩:=ø.mp ht
 obtain⟨v,hv,rfl⟩:=ø.mp hu
 obtain⟨hv,hne⟩:=đ.mp hv
 obtain⟨a0,a1,b0,b1⟩:=ok v hv
 obtain⟨_,x0,x1⟩:=ho.at a0 a1
 obtain⟨_,y0,y1⟩:=ho.at b0 b1
 have ne:gO o v.1≠gO o v.2:=λe=>by
  have:=ho.inj a0 a1 b0 b1 e
  rw[decide_eq_true this] at hne
  cases hne
 unfold mm
 show 0<=(if gO o v.2<gO o v.1 then gO o v.2 else gO o v.1)/\(if gO o v.2<gO o v.1 then gO o v.2 else gO o v.1)<(if gO o v.2 > gO o v.1 then gO o v.2 else gO o v.1)/\(if gO o v.2 > gO o v.1 then gO o v.2 else gO o v.1)<n
 by_cases h:gO o v.2<gO o v.1
 ·rw[if_pos h,if_neg (by omega)]
  exact⟨y0,h,x1⟩
 ·rw[if_neg h,if_pos (by omega)]
  exact⟨x0,by omega,y1⟩
def in2{a b pick:Int}(ha:a≠6)(hb:b≠6)(z:([Å a,.int b].any λe=>e.eqv (.int pick))=true):pick≠6:=λe=>by
 subst e
 have z:(decide (a=6) || (decide (b=6) || false))=true:=z
 rw[decide_eq_false ha,decide_eq_false hb] at z
 exact nomatch z
section
variable {P:Program}{w:World}{K:Ô}{mg:Str->Option Value}{base:Heap}{f:Addr}{fd:FuncData}
def kJ:FnScope ["_law_pen_here","_law_n","_law_pick","_law_ties","_law_ring","_law_v","_law_drawn"] ["_law_pen_here","_law_n","_law_pick"] (aj (top 46)):=zC
def qJ:(["_law_a","_law_pen_here","_law_n","_law_pick","_law_ties","_law_ring","_law_v","_law_drawn"]:List Str).Nodup:=by decide +kernel
def vd(F:Fun K "_law_plain" "_law_plain" (top 46) f fd)(B:Ė mg)(C__law_draw:Ñ P w K mg base 1 "_law_draw" ["_law_pen_here","_law_many"] (bB 1 eV)):FnOk P w K mg base CX0 2 f fd ["_law_pen_here","_law_n","_law_pick"] (bB 2000000 Je):=by
 refine F.ok kJ dF (λcdv A outer s H vs Q E hr h=>?_)
 have nd:=kJ.nd
 refine⟨_,Wb.BSs.h (Wb.cons (Wb.s0 (ć (some 0) (i:=3) nd rfl zQ (í Á)))
  (Wb.cons (Wb.set none (i:=4) nd rfl zQ (Wb.plus (Wb.e0 Ã) (Wb.dcP C__law_draw hr (Ă 0) (Wb.a0 (À Ã Á)))))
  (Wb.gn (Wb.for_ Ğ rfl (Wb.i0 (Wr.nM B.range (À Ã (À (Ä 1) Á)))) (ì (i:=5) nd rfl zQ) (Wb.cons (Wb.set none (i:=6) nd rfl zQ (Wb.dcP C__law_draw hr (Ă 0) (Wb.a0 (À (Ä 5) Á))))
  (Wb.gn (Wb.if_ (Wb.wt (Wb.or2 (Wb.t0 (Č hr.units (Ä 2) Ã)) (Wb.or2 (Wb.wt (Wb.vW (Wb.t0 (Č hr.units (Ä 2) Ã)) (Wb.yh (Wb.tgt (Wb.dcP C__law_draw hr (Ă 0) (Wb.a0 (À Ã Á))) (Wb.e0 Ã))))) (Wb.or1 (Wb.t0 (ř (Wr.dU (Č hr.units (Ä 2) Ã) (Wr.dg (Wr.iR (Ä 5) (Ä 4)))))))))) (Wb.ss0 (Ö (Wr.gb (Ă 3) (À (ê (À (Ä 6) (À (Ä 5) Á))) Á)))) (Wb.ss0 â))
  (Wb.gn (Wb.s0 (ý (ř (ĥ (Wr.ql hr.units (Ä 2) (ê (À Ã (À Ã Á)))) (ĥ (ř (Wr.dU (Č hr.units (Ä 2) Ã) (Wr.dg (Wr.qj (Ä 5) (Ä 4))))) (Ĺ (ř (Wr.dU (Č hr.units (Ä 2) Ã) (Wr.dg (Č hr.units (Wr.yW (Ä 5) Ã) Ã)))))))) (Ö (Wr.gb (Ă 3) (À (ê (À (Ł (Ä 5) Ã) (À (Ä 5) Á))) Á))) â))
  (Wb.gn (Wb.s0 (ý (ř (ĥ (Wr.ql hr.units (Ä 2) (ê (À Ã (À Ã Á)))) (ĥ (ř (Wr.dU (Č hr.units (Ä 2) Ã) (Wr.dg (Č hr.units (Ä 5) (Ä 4))))) (Ĺ (ř (Wr.dU (Č hr.units (Ä 2) Ã) (Wr.dg (Č hr.units (Ä 5) (Ł (Ä 1) Ã))))))))) (Ö (Wr.gb (Ă 3) (À (ê (À Ã (À (Ä 5) Á))) Á))) â))
  (Wb.cons (Wb.if_ (Wb.t0 (Č hr.units (Ä 2) Ã)) (Wb.one (Wb.extend (Ă 3) (Wb.aQ (Wb.lc ["_law_a"] rfl (Wb.i0 (Wr.bY B.range (À (Ä 5) Á))) (λc=>(ì (i:=0) qJ rfl zQ)) (λc=>(Wb.ts1 (Wb.tgt (Wb.dcP C__law_draw hr (Ă 1) (Wb.a0 (À Ã Á))) (Wb.e0 Ã)))) (λc=>(Wb.e0 (ê (À (Ä 0) (À (Ä 6) Á)))))) (Wb.a0 Á)))) (Wb.ss0 â)) (Wb.drops [5,6] (Wb.ss0 â))))))))
  (Wb.drops [5,6] (Wb.ss0 (Ö (ß (Ä 3)))))))),Wb.nH h rfl ?_⟩
 rintro ds P ⟨n,pick,rfl,n1,n8,q⟩
 refine⟨[.im (.int n),.im (.int pick),.any,.any,.any,.any],rfl,?_⟩
 refine⟨by decide,rfl,4,rfl,by decide,by decide,λr r0 r1=>?_⟩
 refine⟨λρ=>∃(us:List Tie) (s5 s6:Sl),us.length<=28/\OkB n us/\ρ=RP n pick (2+r) us s5 s6,?_,λρ ⟨us,s5,s6,hl,ok,e⟩=>?_⟩
 rotate_left
 ·subst e
  exact⟨rfl,q us hl ok⟩
 refine⟨⟨by decide,by decide,by omega,by omega⟩,by rw[Ľ];omega,rfl,λ(i:Nat) ρ=>∃us:List Tie,((pick=6->2 * us.length<=i * (i+1))/\(pick≠6->us.length<=3 * i))/\OkB n us/\ρ=RP n pick (2+r) us .any .any,⟨[],⟨λ_=>by decide,λ_=>by decide⟩,(λt ht=>nomatch ht),rfl⟩,?_,?_⟩
 ·rintro i d ρ hd ⟨us,hl,ok,rfl⟩
  obtain⟨hi,rfl⟩:=bW hd
  refine⟨rfl,1+((i:Nat):Int),rfl,by omega,by omega,λx x0 x1=>?_⟩
  let S:=λ(k:Nat) (ρ:List Sl)=>∃vs:List Tie,((pick=6->vs.length<=us.length)/\vs.length<=us.length+k)/\OkB n vs/\ρ=RP n pick (2+r) vs (.im (.int (1+((i:Nat):Int)))) (.im (.int x))
  have S0:S 0 (RP n pick (2+r) us (.im (.int (1+((i:Nat):Int)))) (.im (.int x))):=⟨us,⟨λ_=>Ç _,Ç _⟩,ok,rfl⟩
  have eqT:∀(c:Int) (vs:List Tie),c≠6->Tot (pick≠6) (dH (t2 (jJ false) (tV 2) (tK (.int c)))) (RP n pick (2+r) vs (.im (.int (1+((i:Nat):Int)))) (.im (.int x))):=λc vs hc R h=>h _ λz e=>hc ((of_decide_eq_true z:pick=c) ▸ e)
  have us28:us.length<=28:=by
   have:=Fz (i:=i) (by omega)
   by_cases c6:pick=6
   ·have:=hl.1 c6
    omega
   ·have:=hl.2 c6
    omega
  have ap:∀(k:Nat) (vs:List Tie) (t:Tie),((pick=6->vs.length<=us.length)/\vs.length<=us.length+k)->OkB n vs->0<=t.1/\t.1<t.2/\t.2<n->pick≠6->S (k+1) (RP n pick (2+r) (vs++[t]) (.im (.int (1+((i:Nat):Int)))) (.im (.int x))):=λk vs t hk okv ht c6=>⟨vs++[t],⟨λz=>absurd z c6,by rw[Î,ň];omega⟩,okv.app (OkB.one ht),rfl⟩
  refine⟨S 1,?_,λρ h1=>?_⟩
  ·refine zU (t:=(x,1+((i:Nat):Int))) (vs:=us) ((eqT 0 us (by decide)).or (((eqT 5 us (by decide)).and λR h=>⟨rfl,3,rfl,by decide,by decide,λy _ _=>h _ λ_=>trivial⟩).or ((eqT 3 us (by decide)).and λR h=>h _ λ_=>trivial))) (λR h=>⟨zK,h⟩) (by omega) ⟨us,⟨λ_=>Ç _,by omega⟩,ok,rfl⟩ (ap 0 us _ ⟨λ_=>Ç _,Ç _⟩ ok ⟨by omega,by omega,by omega⟩)
  obtain⟨v1,l1,ok1,rfl⟩:=h1
  refine⟨S 2,?_,λρ h1=>?_⟩
  ·refine zU (t:=(1+((i:Nat):Int) - 1,1+((i:Nat):Int))) (vs:=v1) (Tot.or (λR h=>⟨zK,rfl,rfl,h _ λz=>in2 (a:=1) (b:=7) (by decide) (by decide) z⟩) (((eqT 3 v1 (by decide)).and λR h=>h _ λ_=>trivial).or ((eqT 4 v1 (by decide)).and λR h=>⟨(show(0:Int)<2 by decide),h _ λ_=>trivial⟩))) (λR h=>⟨zK,h⟩) (by omega) ⟨v1,⟨l1.1,by omega⟩,ok1,rfl⟩ (ap 1 v1 _ l1 ok1 ⟨by omega,by omega,by omega⟩)
  obtain⟨v2,l2,ok2,rfl⟩:=h1
  refine⟨S 3,?_,λρ h1=>?_⟩
  ·refine zU (t:=(0,1+((i:Nat):Int))) (vs:=v2) (Tot.or (λR h=>⟨zK,rfl,rfl,h _ λz=>in2 (a:=2) (b:=4) (by decide) (by decide) z⟩) (((eqT 3 v2 (by decide)).and λR h=>h _ λ_=>trivial).or ((eqT 7 v2 (by decide)).and λR h=>h _ λ_=>trivial))) (λR h=>⟨zK,h⟩) (by omega) ⟨v2,⟨l2.1,by omega⟩,ok2,rfl⟩ (ap 2 v2 _ l2 ok2 ⟨by omega,by omega,by omega⟩)
  obtain⟨v3,l3,ok3,rfl⟩:=h1
  have ts:=RG i
  show if decide (pick=6)=true then _ else _
  refine bH (λc=>?_) (λc=>⟨v3,⟨λz=>absurd (decide_eq_true z) c,λz=>by have:=hl.2 z;omega⟩,ok3,rfl⟩)
  ·have c6:pick=6:=of_decide_eq_true c
   have hl:=hl.1 c6
   have l3:=l3.1 c6
   refine⟨⟨by omega,by omega⟩,by rw[Ľ];omega,.imm,λj ys=>∃ws:List Tie,ys=ws.map pD/\ws.length<=j/\OkB n ws,⟨[],rfl,Ç _,(λt ht=>nomatch ht)⟩,?_,?_⟩
   ·rintro j d ys hd ⟨ws,rfl,hw,okw⟩
    obtain⟨hj,rfl⟩:=bW hd
    refine⟨rfl,3,rfl,by decide,by decide,λy _ _=>bH (λc=>⟨zK,rfl,ws++[(0+((j:Nat):Int),1+((i:Nat):Int))],?_,?_,okw.app (OkB.one ⟨?_,?_,?_⟩)⟩) (λc=>⟨ws,rfl,by omega,okw⟩)⟩
    ·rw[î]
     rfl
    ·rw[Î]
     simp
     omega
    ·show 0<=0+((j:Nat):Int)
     omega
    ·show 0+((j:Nat):Int)<1+((i:Nat):Int)
     omega
    ·show 1+((i:Nat):Int)<n
     omega
   ·rintro ys ⟨ws,rfl,hw,okw⟩
    rw[Ľ] at hw
    refine⟨rfl,by rw[Â,Â];omega,v3++ws,⟨λ_=>by rw[Î];omega,λz=>absurd c6 z⟩,ok3.app okw,?_⟩
    show [Sl.pen TP,.im (.int n),.im (.int pick),.dw 0 (.list (v3.map pD++ws.map pD)),.im (.int (2+r)),.any,.any]=_
    rw[←î]
    rfl
 ·rintro ρ ⟨us,hl,ok,rfl⟩
  rw[Ľ] at hl
  have:=Fz (i:=(n - 1).toNat) (by omega)
  refine⟨us,.any,.any,?_,ok,rfl⟩
  by_cases c6:pick=6
  ·have:=hl.1 c6
   omega
  ·have:=hl.2 c6
   omega
def pX:FnScope ["_law_pen_here","_law_most","_law_n","_law_ties","_law_k","_law_turned_here","_law_pairs"] ["_law_pen_here","_law_most"] (aj (top 48)):=zC
def lH:(["_law_a","_law_b","_law_pen_here","_law_most","_law_n","_law_ties","_law_k","_law_turned_here","_law_pairs"]:List Str).Nodup:=by decide +kernel
def vh:(["_law_pair","_law_pen_here","_law_most","_law_n","_law_ties","_law_k","_law_turned_here","_law_pairs"]:List Str).Nodup:=by decide +kernel
def zq(F:Fun K "_law_web" "_law_web" (top 48) f fd)(B:Ė mg)(C__law_draw:Ñ P w K mg base 1 "_law_draw" ["_law_pen_here","_law_many"] (bB 1 eV))(C__law_plain:Ñ P w K mg base 2 "_law_plain" ["_law_pen_here","_law_n","_law_pick"] (bB 2000000 Je))(C__law_turned:Ñ P w K mg base 2 "_law_turned" ["_law_pen_here","_law_n"] (bB 16 Jf)):FnOk P w K mg base CX0 3 f fd ["_law_pen_here","_law_most"] (bB 4000000 Ua):=by
 refine F.ok pX dF (λcdv A outer s H vs Q E hr h=>?_)
 have nd:=pX.nd
 refine⟨_,Wb.BSs.h (Wb.cons (Wb.set none (i:=2) nd rfl zQ (Wb.plus (Wb.e0 Ã) (Wb.dcP C__law_draw hr (Ă 0) (Wb.a0 (À (Ä 1) Á)))))
  (Wb.cons (Wb.set (some 0) (i:=3) nd rfl zQ (Wb.dcP C__law_plain hr (Ă 0) (Wb.aQ (Wb.e0 (Ä 2)) (Wb.aQ (Wb.dcP C__law_draw hr (Ă 0) (Wb.a0 (À Ã Á))) (Wb.a0 Á)))))
  (Wb.gn (Wb.for_ Ğ rfl (Wb.yM B.range (Wb.aQ (Wb.ix (Wb.e0 (í (À Ã (À Ã (À Ã (À Ã Á)))))) (Wb.dcP C__law_draw hr (Ă 0) (Wb.a0 (À Ã Á)))) (Wb.a0 Á))) (ì (i:=4) nd rfl zQ) (Wb.cons (Wb.append (Ă 3) (Wb.aQ (Wb.tup (Wb.aQ (Wb.dcP C__law_draw hr (Ă 0) (Wb.a0 (À (Ä 2) Á))) (Wb.aQ (Wb.dcP C__law_draw hr (Ă 0) (Wb.a0 (À (Ä 2) Á))) (Wb.a0 Á)))) (Wb.a0 Á))) (Wb.drops [4] (Wb.ss0 â))))
  (Wb.drops [4] (Wb.gn (Wb.if_ (Wb.wt (Wb.vW (Wb.t0 (ĭ hr.units (Ä 3) (í Á))) (Wb.yh (Wb.teq hr.units (Wb.dcP C__law_draw hr (Ă 0) (Wb.a0 (À Ã Á))) (Wb.e0 Ã))))) (Wb.one (Wb.append (Ă 3) (Wb.aQ (Wb.ix (Wb.e0 (Ä 3)) (Wb.dcP C__law_draw hr (Ă 0) (Wb.a0 (À (ă B.len (À (Ä 3) Á)) Á)))) (Wb.a0 Á)))) (Wb.ss0 â))
  (Wb.cons (Wb.set none (i:=5) nd rfl zQ (Wb.dcP C__law_turned hr (Ă 0) (Wb.a0 (À (Ä 2) Á))))
  (Wb.ss0 (Û (Wr.jk none ["_law_a","_law_b"] (i:=6) rfl nd rfl zQ (ĩ (Ä 3)) (λc=>(Wr.j6 (n:=2) rfl (Ŝ (ì (i:=0) lH rfl zQ) (Ŝ (ì (i:=1) lH rfl zQ) Wr.gM)))) (λc=>(Ş (ĭ hr.units (Ä 0) (Ä 1)))) (λc=>(ê (À (Õ (Ä 7) (Ä 0)) (À (Õ (Ä 7) (Ä 1)) Á)))))
  (Ö (ß (ê (À (Ä 2) (À (Wr.jA B.tuple (À (Wr.lC B.sorted (À (Ŭ ["_law_pair"] rfl (ĩ (Ä 6)) (λc=>(ì (i:=0) vh rfl zQ)) (λc=>Wr.cj) (λc=>(ê (À (Wr.pF rfl B.min (À (Ä 0) Á)) (À (Wr.pG rfl B.max (À (Ä 0) Á)) Á))))) Á)) Á)) Á))))))))))))),Wb.nH h rfl ?_⟩
 rintro ds P ⟨m,rfl,m1,m8,q⟩
 refine⟨[.im (.int m),.any,.any,.any,.any,.any],rfl,?_⟩
 refine⟨rfl,m,rfl,by omega,by omega,λr r0 r1=>?_⟩
 refine⟨rfl,rfl,9,rfl,by decide,by decide,λpk p0 p1=>⟨1+r,pk,rfl,by omega,by omega,λus lu ok=>?_⟩⟩
 have okw:OkV (1+r) us:=λt ht=>by
  have:=ok t ht
  omega
 refine⟨λρ=>∃us:List Tie,us.length<=30/\OkV (1+r) us/\ρ=RW m (1+r) us .any,?_,λρ h=>?_⟩
 ·refine⟨zK,rfl,4,rfl,by decide,by decide,λj j0 j1=>?_⟩
  obtain⟨c,hc,c0,c1⟩:=Mv j0 j1
  refine⟨.int c,hc,⟨by omega,by omega⟩,by rw[Ľ];omega,rfl,λ(i:Nat) ρ=>∃us:List Tie,us.length<=28+i/\OkV (1+r) us/\ρ=RW m (1+r) us .any,⟨us,by omega,okw,rfl⟩,?_,?_⟩
  ·rintro i d ρ hd ⟨vs,hl,ok',rfl⟩
   obtain⟨hi,rfl⟩:=bW hd
   refine⟨rfl,1+r,rfl,by omega,by omega,λa a0 a1=>⟨rfl,1+r,rfl,by omega,by omega,λb b0 b1=>⟨zK,rfl,by rw[Â];omega,vs++[(a,b)],by rw[Î];simp;omega,ok'.app (OkV.one ⟨a0,a1,b0,b1⟩),?_⟩⟩⟩
   show [Sl.pen TP,.im (.int m),.im (.int (1+r)),.dw 0 (.list (vs.map pD++[pD (a,b)])),.any,.any,.any]=_
   unfold RW
   rw[î]
   rfl
  ·rintro ρ ⟨vs,hl,ok',rfl⟩
   rw[Ľ] at hl
   exact⟨vs,by omega,ok',rfl⟩
 obtain⟨v1,l1,ok1,rfl⟩:=h
 refine⟨λρ=>∃us:List Tie,us.length<=31/\OkV (1+r) us/\ρ=RW m (1+r) us .any,?_,λρ h=>?_⟩
 ·refine⟨zK,Ea v1,rfl,?_⟩
  show if (!PyData.eqv (.list (v1.map pD)) (.list []))=true then _ else _
  refine bH (λc=>?_) (λc=>ak ⟨v1,by omega,ok1,rfl⟩)
  have ne:v1≠[]:=λz=>by
   subst z
   exact absurd c (by decide)
  have pos:0<v1.length:=Ŕ.mpr ne
  have lm:(v1.map pD).length=v1.length:=Â ..
  refine⟨rfl,4,rfl,by decide,by decide,λy _ _=>bH (λc2=>?_) (λc2=>⟨v1,by omega,ok1,rfl⟩)⟩
  refine⟨rfl,_,rfl,by omega,by omega,λz z0 z1=>?_⟩
  obtain⟨t,ht,hz⟩:=JH z0 z1
  refine⟨pD t,hz,rfl,by omega,v1++[t],by rw[Î,ň];omega,ok1.app (OkV.one (ok1 t ht)),?_⟩
  show [Sl.pen TP,.im (.int m),.im (.int (1+r)),.dw 0 (.list (v1.map pD++[pD t])),.any,.any,.any]=_
  unfold RW
  rw[î]
  rfl
 obtain⟨v2,l2,ok2,rfl⟩:=h
 refine⟨rfl,1+r,rfl,by omega,by omega,λo ho=>?_⟩
 refine Bf (.inl rfl) ?_
 refine jf v2 pD (λt=>!decide (t.1=t.2)) (λt=>pD (gO o t.1,gO o t.2)) .imm rfl (by omega) (λt ht A B hA hB=>?_) ?_
 ·obtain⟨a0,a1,b0,b1⟩:=ok2 t ht
  refine⟨rfl,?_⟩
  show if (!decide (t.1=t.2))=true then _ else _
  refine bH (λc=>?_) (λc=>hB (by simpa using c))
  exact⟨_,(ho.at a0 a1).1,_,(ho.at b0 b1).1,zK,rfl,hA c⟩
 have e:((v2.filter λt=>!decide (t.1=t.2)).map λt=>pD (gO o t.1,gO o t.2))=(turnT o v2).map pD:=by
  unfold turnT
  rw[ç]
  rfl
 rw[e]
 have lt:(turnT o v2).length<=31:=by
  unfold turnT
  rw[Â]
  exact é (List.length_filter_le _ _) l2
 have okt:=JR ho ok2
 refine Bf (.inl rfl) ?_
 refine qP (turnT o v2) pD (λt=>pD (mm t)) .imm rfl (by omega) (λt ht A B hA=>aF (B:=True) ⟨zK,rfl,hA⟩) ?_
 have e2:(turnT o v2).map (λt=>pD (mm t))=((turnT o v2).map mm).map pD:=by rw[ç];rfl
 rw[e2]
 refine⟨(turnT o v2).map mm,.inl rfl,by rw[Â];omega,λt ht=>?_,λus' hp hs=>⟨zK,?_,q (1+r) us' (by omega) (by omega) (by rw[hp.length_eq,Â];omega) (λt ht=>okt t (hp.mem_iff.mp ht)) hs⟩⟩
 ·have:=okt t ht
  exact⟨by omega,by omega⟩
 have e:=jE (1+r) us'
 show(norm _ (aA (1+r) us')).le .n0=true
 rw[Ÿ e]
 rfl
end
abbrev Off:=Int×Int×Int
def oD(o:Off):D:=.tuple [.int o.1,.int o.2.1,.int o.2.2]
def oT(b:Bool)(os:List Off):D:=if b=true then .list (os.map oD) else .tuple (os.map oD)
def tO(o:Off):Tie:=(o.1,o.2.1)
def OkO(n:Int)(os:List Off):Prop:=∀o∈os,OkT n (tO o)/\0<=o.2.2/\o.2.2<10 ^ 30
def dW(os:List Off)(ks:List Int):List Tie:=ks.map λk=>tO (os.getD k.toNat (0,0,0))
def mL(m:Nat)(ks:List Int):Prop:=ks.Pairwise (·<·)/\∀k∈ks,0<=k/\k<(m:Int)
def Jd(ds:List D)(P:D->Prop):Prop:=∃n us vs,ds=[aA n us,.list (vs.map pD)]/\us.length+vs.length<64/\n<=16/\OkN n us/\OkN n vs/\∀ws:List Tie,ws.Perm (us++vs)->P (aA n ws)
def Jg(ds:List D)(P:D->Prop):Prop:=∃n us o,ds=[aA n us,oD o]/\OkT n (tO o)/\0<=o.2.2/\P (.bool true)
def Mj(ds:List D)(P:D->Prop):Prop:=∃n us b os,ds=[aA n us,oT b os]/\os.length<=8/\OkO n os/\P .none
def ji(ds:List D)(P:D->Prop):Prop:=∃n us b os ks,ds=[aA n us,oT b os,iD ks]/\us.length<=52/\n<=16/\OkN n us/\os.length<=8/\OkO n os/\mL os.length ks/\∀ws:List Tie,ws.Perm (us++(dW os ks).map mmT)->P (aA n ws)
def xr{n:Nat}{l:List Int}(nd:l.Nodup)(h:∀x∈l,0<=x/\x<n):l.length<=n:=by
 induction n generalizing l with
 |zero=>cases l with
  |nil=>exact Ç _
  |cons x l=>have:=h x (Ú ..);omega
 |succ n ih =>
  by_cases e:((n:Nat):Int)∈l
  ·have z:=ih (nd.erase ((n:Nat):Int)) λx hx=>by
    have:=h x (List.mem_of_mem_erase hx)
    have:x≠((n:Nat):Int):=(nd.mem_erase_iff.mp hx).1
    omega
   rw[List.length_erase_of_mem e] at z
   omega
  ·have z:=ih nd λx hx=>by
    have:=h x hx
    have:x≠((n:Nat):Int):=λw=>e (w ▸ hx)
    omega
   omega
def uJ{l:List Int}(h:l.Pairwise (·<·)):l.Nodup:=h.imp λh=>by omega
def mL.len{m:Nat}{ks:List Int}(h:mL m ks):ks.length<=m:=xr (uJ h.1) λx hx=>h.2 x hx
def K6{b:Bool}{os:List Off}{k:Int}(h0:0<=k)(h1:k<(os.length:Nat)):os[k.toNat]?=some (os.getD k.toNat (0,0,0)):=by
 rw[ò,È (by omega)]
 rfl
def eN{os:List Off}{k:Int}(h0:0<=k)(h1:k<(os.length:Nat)):atI (os.map oD) k=some (oD (os.getD k.toNat (0,0,0))):=by
 have ek:k=((k.toNat:Nat):Int):=by omega
 have q:atI (os.map oD) ((k.toNat:Nat):Int)=some (oD (os.getD k.toNat (0,0,0))):=ż (by rw[å,K6 (b:=true) h0 h1];rfl)
 rw[←ek] at q
 exact q
def zy{n:Int}{os:List Off}{ks:List Int}(ok:OkO n os)(h:mL os.length ks):OkN n (dW os ks):=λt ht=>by
 obtain⟨k,hk,rfl⟩:=ø.mp ht
 obtain⟨h0,h1⟩:=h.2 k hk
 exact(ok _ (Ð (K6 (b:=true) h0 h1))).1
def HF{n:Int}{us:List Tie}(h:OkN n us):OkN n (us.map mmT):=λt ht=>by
 obtain⟨u,hu,rfl⟩:=ø.mp ht
 obtain⟨⟨a0,a1⟩,⟨b0,b1⟩,ne⟩:=h u hu
 show((0:Int)<=(if u.2<u.1 then u.2 else u.1)/\(if u.2<u.1 then u.2 else u.1)<n)/\(0<=(if u.2 > u.1 then u.2 else u.1)/\(if u.2 > u.1 then u.2 else u.1)<n)/\(if u.2<u.1 then u.2 else u.1)≠(if u.2 > u.1 then u.2 else u.1)
 by_cases c:u.2<u.1
 ·rw[if_pos c,if_neg (by omega)]
  omega
 ·rw[if_neg c,if_pos (by omega)]
  omega
def Tp(l:List Int)(t:Tie):lv l (mmT t)=lv l t:=by
 unfold lv mmT
 show(decide ((if t.2<t.1 then t.2 else t.1)∈l) != decide ((if t.2 > t.1 then t.2 else t.1)∈l))=_
 by_cases c:t.2<t.1
 ·rw[if_pos c,if_neg (by omega)]
  cases decide (t.1∈l) <;> cases decide (t.2∈l) <;> rfl
 ·rw[if_neg c]
  by_cases c2:t.2 > t.1
  ·rw[if_pos c2]
  ·rw[if_neg c2,show t.2=t.1 by omega]
def Rg(l:List Int)(us:List Tie):((us.map mmT).filter (lv l)).length=(us.filter (lv l)).length:=by
 rw[List.filter_map,Â]
 congr 1
 exact List.filter_congr λt _=>Tp l t
def OkN.app{n:Int}{us vs:List Tie}(a:OkN n us)(b:OkN n vs):OkN n (us++vs):=λt ht=>(Ù.mp ht).elim (a t) (b t)
def lY:∀os:List Off,cD (os.map oD)=true
 |[]=>rfl
 |_::os=>lY os
def cN(b:Bool)(os:List Off):aD (oT b os)=if b=true then .sh (oT true os) else .im (oT false os):=by
 cases b with
 |true=>rfl
 |false =>
  show(if cI (.tuple (os.map oD))=true then Sl.im (.tuple (os.map oD)) else Sl.sh (.tuple (os.map oD)))=_
  rw[if_pos (show cI (.tuple (os.map oD))=true from lY os)]
  rfl
def Dc{ρ:List Sl}{i:Nat}{k:Kd}{d:D}{tb:DE}{Q:Kd->D->Prop}(hv:∀R:Kd->D->Prop,R k d->tV i ρ R)(ht:(tyD d == "list" || tyD d == "tuple")=true)(h:tb ρ Q):nR (JV (tV i)) tb ρ Q:=by
 unfold nR JV
 refine hv _ ?_
 show(match (PyData.bool (tyD d == "list" || tyD d == "tuple")) with
  |.bool b=>if b=true then tb ρ Q else Q .imm (.bool false)
  |_=>False)
 rw[ht]
 exact h
def iY(a b c:D):¬(HT.sIx [a,b,c].length 0 none=0/\HT.sIx [a,b,c].length [a,b,c].length (some 2)=[a,b,c].length):=λz=>by
 have:=z.2
 rw[show(2:Int)=((2:Nat):Int) from rfl,HT.Bj] at this
 exact absurd (show min 2 3=3 from this) (by decide)
section
variable {P:Program}{w:World}{K:Ô}{mg:Str->Option Value}{base:Heap}{f:Addr}{fd:FuncData}{CN:Addr}
def kj:FnScope ["web","added"] ["web","added"] (aj (top 8)):=zC
def u5(F:Fun K "with_ties" "with_ties" (top 8) f fd)(B:Ė mg):FnOk P w K mg base CX0 1 f fd ["web","added"] (spD Jd):=by
 refine F.ok kj Ć (λcdv A outer s H vs Q E hr h=>?_)
 have nd:=kj.nd
 refine⟨_,ē (Ö (ß (ê (À (Õ (Ä 0) Ã) (À (Wr.jA B.tuple (À (Wr.lC B.sorted (À (ė (Õ (Ä 0) Ã) (Wr.jA B.tuple (À (Ä 1) Á))) Á)) Á)) Á))))),aM h ?_⟩
 rintro ds P ⟨n,us,vs,rfl,lu,n16,oku,okv,q⟩
 refine⟨[.im (aA n us),.sh (.list (vs.map pD))],?_,?_⟩
 ·show [aD (aA n us),aD (.list (vs.map pD))]=_
  rw[ġ]
  rfl
 have lm:∀xs:List Tie,(xs.map pD).length=xs.length:=λxs=>Â ..
 have ok:=OkN.app oku okv
 refine⟨.int n,rfl,.tuple (us.map pD),rfl,by rw[lm,lm];omega,us++vs,.inr ?_,by rw[Î];omega,λt ht=>?_,λws hp hs=>⟨zK,?_,q ws hp⟩⟩
 ·rw[î]
 ·have:=ok t ht
  exact⟨this.2.1.1,by have:=this.2.1.2;omega⟩
 ·have e:=jE n ws
  show(norm _ (aA n ws)).le .n0=true
  rw[Ÿ e]
  rfl
def nY:FnScope ["web","thing"] ["web","thing"] (aj (top 25)):=zC
def wW(F:Fun K "is_offer" "is_offer" (top 25) f fd)(B:Ė mg)(C_is_whole:Ñ P w K mg base 1 "is_whole" ["thing"] (spD jZ))(C_is_tie:Ñ P w K mg base 3 "is_tie" ["n","thing"] (spD Ji)):FnOk P w K mg base CX0 4 f fd ["web","thing"] (spD Jg):=by
 refine F.ok nY Ć (λcdv A outer s H vs Q E hr h=>?_)
 have nd:=nY.nd
 refine⟨_,ē (Û (ý (ř (ĥ (ċ (ö (ī kit_tuple B.isinstance (Ä 1) (Wr.wty rfl B.tuple boot_tuple)))) (Ĺ (ĭ hr.units (ă B.len (À (Ä 1) Á)) Ã)))) (Ö (ß Ħ)) â)
  (Ö (ß (Ŏ (ĉ C_is_tie hr (À (Õ (Ä 0) Ã) (À (Wr.iT (Ä 1) Wr.cA (Wr.cu Ã)) Á))) (Ŏ (ĉ C_is_whole hr (À (Õ (Ä 1) Ã) Á)) (ű (Wr.sZ (Õ (Ä 1) Ã) Ã))))))),aM h ?_⟩
 rintro ds P ⟨n,us,o,rfl,ok,c0,q⟩
 refine⟨[.im (aA n us),.im (oD o)],?_,?_⟩
 ·show [aD (aA n us),aD (oD o)]=_
  rw[ġ]
  rfl
 refine ak (A:=True) (ak (A:=True) ⟨.int n,rfl,iY _ _ _,n,tO o,rfl,ok,aF (B:=True) ⟨.int o.2.2,rfl,.int o.2.2,rfl,aF (B:=True) ⟨.int o.2.2,rfl,?_⟩⟩⟩)
 show _/\P (.bool (decide (0<=o.2.2)))
 rw[decide_eq_true c0]
 exact⟨rfl,q⟩
def gY:FnScope ["web","thing","fits"] ["web","thing"] (aj (top 26)):=zC
def lJ:(["offer","web","thing","fits"]:List Str).Nodup:=by decide +kernel
def oU{tk_MOST_OFFERS:Tok}(F:Fun K "check_offers" "check_offers" (top 26) f fd)(B:Ė mg)(g_MOST_OFFERS:mg "MOST_OFFERS"=some (.int 8 tk_MOST_OFFERS))(C_is_offer:Ñ P w K mg base 4 "is_offer" ["web","thing"] (spD Jg)):FnOk P w K mg base CX0 5 f fd ["web","thing"] (spD Mj):=by
 refine F.ok gY Ć (λcdv A outer s H vs Q E hr h=>?_)
 have nd:=gY.nd
 refine⟨_,ē (Û (ć none (i:=2) nd rfl zQ (Ŏ (Wr.uY B.isinstance (Ä 1) (Wr.wty rfl B.list boot_list) (Wr.wty rfl B.tuple boot_tuple)) (ű (Wr.GZ (ă B.len (À (Ä 1) Á)) (Wr.qw rfl g_MOST_OFFERS ⟨_,rfl⟩)))))
  (Ö (ý (ř (ĥ (ċ (ö (Ä 2))) (Ĺ (ċ (ö (Wr.nu rfl B.all Dl.boot_all (À (Ŭ ["offer"] rfl (ĩ (Ä 1)) (λc=>(ì (i:=0) lJ rfl zQ)) (λc=>Wr.cj) (λc=>(ĉ C_is_offer hr (À (Ä 1) (À (Ä 0) Á))))) Á))))))) (Ö Wr.mD) â))),aM h ?_⟩
 rintro ds P ⟨n,us,b,os,rfl,lo,ok,q⟩
 cases b with
 |true =>
  refine⟨[.im (aA n us),.sh (.list (os.map oD)),.any],?_,?_⟩
  ·show [aD (aA n us),aD (oT true os),.any]=_
   rw[ġ,cN]
   rfl
  have lm:(os.map oD).length=os.length:=Â ..
  have e8:decide ((((os.map oD).length:Nat):Int)<=8)=true:=decide_eq_true (by omega)
  show nR _ _ _ _
  refine Dc (i:=1) (k:=.shr) (d:=.list (os.map oD)) (λR h=>h) rfl ?_
  show rY 2 none (λ_ P=>P .imm (.bool (decide ((((os.map oD).length:Nat):Int)<=8)))) _ _
  rw[e8]
  refine ak (A:=True) (qP os oD (λ_=>.bool true) .imm rfl (by omega) (λo ho A B h=>aF (B:=True) ⟨n,us,o,rfl,(ok o ho).1,(ok o ho).2.1,rfl,h⟩) ⟨os.map λ_=>true,by rw[ç];rfl,?_⟩)
  have ea:(os.map λ_=>true).all id=true:=by
   rw[List.all_map,ï]
   exact λ_ _=>rfl
  rw[ea]
  exact ak (A:=True) q
 |false =>
  refine⟨[.im (aA n us),.im (.tuple (os.map oD)),.any],?_,?_⟩
  ·show [aD (aA n us),aD (oT false os),.any]=_
   rw[ġ,cN]
   rfl
  have lm:(os.map oD).length=os.length:=Â ..
  have e8:decide ((((os.map oD).length:Nat):Int)<=8)=true:=decide_eq_true (by omega)
  show nR _ _ _ _
  refine Dc (i:=1) (k:=.imm) (d:=.tuple (os.map oD)) (λR h=>h) rfl ?_
  show rY 2 none (λ_ P=>P .imm (.bool (decide ((((os.map oD).length:Nat):Int)<=8)))) _ _
  rw[e8]
  refine ak (A:=True) (qP os oD (λ_=>.bool true) .imm rfl (by omega) (λo ho A B h=>aF (B:=True) ⟨n,us,o,rfl,(ok o ho).1,(ok o ho).2.1,rfl,h⟩) ⟨os.map λ_=>true,by rw[ç];rfl,?_⟩)
  have ea:(os.map λ_=>true).all id=true:=by
   rw[List.all_map,ï]
   exact λ_ _=>rfl
  rw[ea]
  exact ak (A:=True) q
def iz:FnScope ["web","offers","numbers"] ["web","offers","numbers"] (aj (top 27)):=zC
def nA:(["number","web","offers","numbers"]:List Str).Nodup:=by decide +kernel
def qD(F:Fun K "with_offers" "with_offers" (top 27) f fd)(B:Ė mg)(C_with_ties:Ñ P w K mg base 1 "with_ties" ["web","added"] (spD Jd)):FnOk P w K mg base CX0 2 f fd ["web","offers","numbers"] (spD ji):=by
 refine F.ok iz Ć (λcdv A outer s H vs Q E hr h=>?_)
 have nd:=iz.nd
 refine⟨_,ē (Ö (ß (ĉ C_with_ties hr (À (Ä 0) (À (Ŭ ["number"] rfl (ĩ (Ä 2)) (λc=>(ì (i:=0) nA rfl zQ)) (λc=>Wr.cj) (λc=>(ê (À (Wr.pF rfl B.min (À (Wr.iT (Õ (Ä 2) (Ä 0)) Wr.cA (Wr.cu Ã)) Á)) (À (Wr.pG rfl B.max (À (Wr.iT (Õ (Ä 2) (Ä 0)) Wr.cA (Wr.cu Ã)) Á)) Á))))) Á))))),aM h ?_⟩
 rintro ds P ⟨n,us,b,os,ks,rfl,lu,n16,oku,lo,oko,hr2,q⟩
 have lk:=hr2.len
 cases b with
 |true =>
  refine⟨[.im (aA n us),.sh (.list (os.map oD)),.sh (iD ks)],?_,?_⟩
  ·show [aD (aA n us),aD (oT true os),aD (iD ks)]=_
   rw[ġ,cN]
   rfl
  refine qP ks Å (λk=>pD (mmT (tO (os.getD k.toNat (0,0,0))))) .imm rfl (by omega) (λk hk A B h=>aF (B:=True) ?_) ?_
  ·obtain⟨k0,k1⟩:=hr2.2 k hk
   exact⟨_,eN k0 k1,iY _ _ _,_,eN k0 k1,iY _ _ _,zK,rfl,h⟩
  have e:ks.map (λk=>pD (mmT (tO (os.getD k.toNat (0,0,0)))))=((dW os ks).map mmT).map pD:=by
   unfold dW
   rw[ç,ç]
   rfl
  rw[e]
  refine⟨n,us,(dW os ks).map mmT,rfl,by rw[Â];unfold dW;rw[Â];omega,n16,oku,HF (zy oko hr2),λws hp=>⟨?_,q ws hp⟩⟩
  have e:=jE n ws
  show(norm _ (aA n ws)).le .n0=true
  rw[Ÿ e]
  rfl
 |false =>
  refine⟨[.im (aA n us),.im (.tuple (os.map oD)),.sh (iD ks)],?_,?_⟩
  ·show [aD (aA n us),aD (oT false os),aD (iD ks)]=_
   rw[ġ,cN]
   rfl
  refine qP ks Å (λk=>pD (mmT (tO (os.getD k.toNat (0,0,0))))) .imm rfl (by omega) (λk hk A B h=>aF (B:=True) ?_) ?_
  ·obtain⟨k0,k1⟩:=hr2.2 k hk
   exact⟨_,eN k0 k1,iY _ _ _,_,eN k0 k1,iY _ _ _,zK,rfl,h⟩
  have e:ks.map (λk=>pD (mmT (tO (os.getD k.toNat (0,0,0)))))=((dW os ks).map mmT).map pD:=by
   unfold dW
   rw[ç,ç]
   rfl
  rw[e]
  refine⟨n,us,(dW os ks).map mmT,rfl,by rw[Â];unfold dW;rw[Â];omega,n16,oku,HF (zy oko hr2),λws hp=>⟨?_,q ws hp⟩⟩
  have e:=jE n ws
  show(norm _ (aA n ws)).le .n0=true
  rw[Ÿ e]
  rfl
end
def Oe(ds:List D)(P:D->Prop):Prop:=ds=[]/\∀c:Int,0<=c->c<=10 ^ 29->P (.int c)
def OkC(n:Int)(os:List Off):Prop:=∀o∈os,OkT n (tO o)/\0<=o.2.2/\o.2.2<=10 ^ 29
def OkC.ok{n:Int}{os:List Off}(h:OkC n os):OkO n os:=λo ho=>⟨(h o ho).1,(h o ho).2.1,Int.lt_of_le_of_lt (h o ho).2.2 (by decide)⟩
def Oc(ds:List D)(P:D->Prop):Prop:=∃n m:Int,ds=[.int n,.int m]/\1<=n/\n<=8/\0<=m/\m<=8/\∀b os,os.length<=m.toNat->OkC n os->P (oT b os)
def RO(n m:Int)(os:List Off)(s4:Sl):List Sl:=[.pen TP,.im (.int n),.im (.int m),.dw 0 (.list (os.map oD)),s4,.any,.any]
def Ii:∀os:List Off,Ĝ (os.map oD)=true
 |[]=>rfl
 |_::os=>Ii os
def xR:∀os:List Off,ô (os.map oD)<=1
 |[]=>à _
 |_::os=>by
  have:=xR os
  show max 1 (ô (os.map oD))<=1
  omega
def Hu(os:List Off):okD (.list (os.map oD))=true:=by
 have h1:=Ii os
 have h2:ô (os.map oD)+1<=60:=by have:=xR os;omega
 show(Ĝ (os.map oD)&&decide (ô (os.map oD)+1<=60))=true
 rw[h1,decide_eq_true h2]
 rfl
section
variable {P:Program}{w:World}{K:Ô}{mg:Str->Option Value}{base:Heap}{f:Addr}{fd:FuncData}{CN:Addr}
def nW:FnScope ["_law_pen_here","_law_pick"] ["_law_pen_here"] (aj (top 52)):=zC
def wU(F:Fun K "_law_cost" "_law_cost" (top 52) f fd)(B:Ė mg)(C__law_draw:Ñ P w K mg base 1 "_law_draw" ["_law_pen_here","_law_many"] (bB 1 eV)):FnOk P w K mg base CX0 2 f fd ["_law_pen_here"] (bB 10 Oe):=by
 refine F.ok nW dF (λcdv A outer s H vs Q E hr h=>?_)
 have nd:=nW.nd
 refine⟨_,Wb.BSs.h (Wb.cons (Wb.set none (i:=1) nd rfl zQ (Wb.dcP C__law_draw hr (Ă 0) (Wb.a0 (À Ã Á))))
  (Wb.cons (Wb.s0 (ý (Č hr.units (Ä 1) Ã) (Ö (ß Ã)) â))
  (Wb.cons (Wb.if_ (Wb.t0 (Č hr.units (Ä 1) Ã)) (Wb.one (Wb.ret (Wb.sub (Wb.e0 (Wr.iU Ã Ã)) (Wb.dcP C__law_draw hr (Ă 0) (Wb.a0 (À Ã Á)))))) (Wb.ss0 â))
  (Wb.cons (Wb.if_ (Wb.t0 (Č hr.units (Ä 1) Ã)) (Wb.one (Wb.ret (Wb.plus (Wb.times (Wb.dcP C__law_draw hr (Ă 0) (Wb.a0 (À (Wr.iU Ã Ã) Á))) (Wb.e0 (Wr.iU Ã Ã))) (Wb.dcP C__law_draw hr (Ă 0) (Wb.a0 (À Ã Á)))))) (Wb.ss0 â))
  (Wb.one (Wb.ret (Wb.dcP C__law_draw hr (Ă 0) (Wb.a0 (À (Õ (í (À Ã (À Ã (À Ã Á)))) (Ł (Ä 1) Ã)) Á))))))))),Wb.nH h rfl ?_⟩
 rintro ds P ⟨rfl,q⟩
 refine⟨[.any],rfl,?_⟩
 refine⟨rfl,6,rfl,by decide,by decide,λr r0 r1=>?_⟩
 refine bH (λc=>⟨rfl,q 0 (by decide) (by decide)⟩) (λc=>?_)
 have c0:r≠0:=λz=>c (decide_eq_true z)
 refine bH (λc1=>?_) (λc=>?_)
 ·refine⟨⟨by decide,by decide,by decide⟩,rfl,3,rfl,by decide,by decide,λy y0 y1=>⟨rfl,q _ ?_ ?_⟩⟩
  ·show(0:Int)<=10 ^ (29:Int).toNat - y
   have:(10:Int) ^ (29:Int).toNat=100000000000000000000000000000:=by decide
   omega
  ·show 10 ^ (29:Int).toNat - y<=(10:Int) ^ 29
   have:(10:Int) ^ (29:Int).toNat=100000000000000000000000000000:=by decide
   have:(10:Int) ^ 29=100000000000000000000000000000:=by decide
   omega
 have c1:r≠1:=λz=>c (decide_eq_true z)
 refine bH (λc1=>?_) (λc=>?_)
 ·refine⟨rfl,⟨by decide,by decide,by decide⟩,_,rfl,by decide,by decide,λy y0 y1=>⟨⟨by decide,by decide,by decide⟩,.inl ⟨?_,?_⟩,rfl,10,rfl,by decide,by decide,λz z0 z1=>⟨rfl,q _ ?_ ?_⟩⟩⟩
  ·have:(10:Int) ^ (9:Int).toNat=1000000000:=by decide
   omega
  ·have:(10:Int) ^ (9:Int).toNat=1000000000:=by decide
   omega
  ·show(0:Int)<=y * 10 ^ (20:Int).toNat+z
   have:(10:Int) ^ (20:Int).toNat=100000000000000000000:=by decide
   rw[this]
   omega
  ·show y * 10 ^ (20:Int).toNat+z<=(10:Int) ^ 29
   have e9:(10:Int) ^ (9:Int).toNat=1000000000:=by decide
   have:(10:Int) ^ (20:Int).toNat=100000000000000000000:=by decide
   have:(10:Int) ^ 29=100000000000000000000000000000:=by decide
   rw[e9] at y1
   rw[‹(10:Int) ^ (20:Int).toNat=100000000000000000000›]
   omega
 have c2:r≠2:=λz=>c (decide_eq_true z)
 have hx:∃v:Int,atI [Å 3,.int 10,.int 100] (r - 3)=some (.int v)/\0<v/\v<=100:=by
  have:r=3\/r=4\/r=5:=by omega
  rcases this with rfl|rfl|rfl
  ·exact⟨3,rfl,by decide,by decide⟩
  ·exact⟨10,rfl,by decide,by decide⟩
  ·exact⟨100,rfl,by decide,by decide⟩
 obtain⟨v,hv,v0,v1⟩:=hx
 refine⟨rfl,zK,.int v,hv,v,rfl,v0,by omega,λy y0 y1=>⟨rfl,q y y0 ?_⟩⟩
 have:(10:Int) ^ 29=100000000000000000000000000000:=by decide
 omega
def jN:FnScope ["_law_pen_here","_law_n","_law_most","_law_found","_law_k","_law_a","_law_b"] ["_law_pen_here","_law_n","_law_most"] (aj (top 53)):=zC
def rK(F:Fun K "_law_offers" "_law_offers" (top 53) f fd)(B:Ė mg)(C__law_draw:Ñ P w K mg base 1 "_law_draw" ["_law_pen_here","_law_many"] (bB 1 eV))(C__law_cost:Ñ P w K mg base 2 "_law_cost" ["_law_pen_here"] (bB 10 Oe)):FnOk P w K mg base CX0 3 f fd ["_law_pen_here","_law_n","_law_most"] (bB 20000 Oc):=by
 refine F.ok jN dF (λcdv A outer s H vs Q E hr h=>?_)
 have nd:=jN.nd
 refine⟨_,Wb.BSs.h (Wb.cons (Wb.s0 (ć (some 0) (i:=3) nd rfl zQ (í Á)))
  (Wb.gn (Wb.for_ Ğ rfl (Wb.yM B.range (Wb.aQ (Wb.times (Wb.dcP C__law_draw hr (Ă 0) (Wb.a0 (À (ė (Ä 2) Ã) Á))) (Wb.e0 (Wr.pH B.int boot_int (À (Wr.sY (Ä 1) Ã) Á)))) (Wb.a0 Á))) (ì (i:=4) nd rfl zQ) (Wb.cons (Wb.set none (i:=5) nd rfl zQ (Wb.dcP C__law_draw hr (Ă 0) (Wb.a0 (À (Ä 1) Á))))
  (Wb.cons (Wb.set none (i:=6) nd rfl zQ (Wb.mod (Wb.plus (Wb.e0 (ė (Ä 5) Ã)) (Wb.dcP C__law_draw hr (Ă 0) (Wb.a0 (À (Ł (Ä 1) Ã) Á)))) (Wb.e0 (Ä 1))))
  (Wb.cons (Wb.append (Ă 3) (Wb.aQ (Wb.tup (Wb.aQ (Wb.e0 (Ä 5)) (Wb.aQ (Wb.e0 (Ä 6)) (Wb.aQ (Wb.dcP C__law_cost hr (Ă 0) (Wb.a0 Á)) (Wb.a0 Á))))) (Wb.a0 Á))) (Wb.drops [4,5,6] (Wb.ss0 â))))))
  (Wb.drops [4,5,6] (Wb.gn (Wb.if_ (Wb.wt (Wb.vW (Wb.t0 (ĭ hr.units (Ä 3) (í Á))) (Wb.yh (Wb.teq hr.units (Wb.dcP C__law_draw hr (Ă 0) (Wb.a0 (À Ã Á))) (Wb.e0 Ã))))) (Wb.one (Wb.put (Ă 3) (Wb.dcP C__law_draw hr (Ă 0) (Wb.a0 (À (ă B.len (À (Ä 3) Á)) Á))) (Wb.ix (Wb.e0 (Ä 3)) (Wb.dcP C__law_draw hr (Ă 0) (Wb.a0 (À (ă B.len (À (Ä 3) Á)) Á)))))) (Wb.ss0 â))
  (Wb.one (Wb.ret (Wb.ix (Wb.e0 (í (À (Ä 3) (À (Wr.jA B.tuple (À (Ä 3) Á)) Á)))) (Wb.dcP C__law_draw hr (Ă 0) (Wb.a0 (À Ã Á)))))))))),Wb.nH h rfl ?_⟩
 rintro ds P ⟨n,m,rfl,n1,n8,m0,m8,q⟩
 refine⟨[.im (.int n),.im (.int m),.any,.any,.any,.any],rfl,?_⟩
 refine⟨zK,λρ=>∃os:List Off,os.length<=m.toNat/\OkC n os/\ρ=RO n m os .any,?_,λρ h=>?_⟩
 ·refine⟨rfl,m+1,rfl,by omega,by omega,λr r0 r1=>?_⟩
  have hT:∀b:Bool,(b=true->1<n)->∀t:Int,t=r * (if b=true then (1:Int) else 0)->0<=t/\t<=m/\(0<t->1<n):=by
   intro b hb t ht
   subst ht
   cases b with
   |true=>exact⟨by simpa using r0,by simp;omega,λ_=>hb rfl⟩
   |false=>exact⟨by simp,by simp;omega,λz=>absurd z (by simp)⟩
  replace hT:=hT (decide (1<n)) (λz=>of_decide_eq_true z) _ rfl
  refine⟨.inl ⟨by omega,by omega⟩,?_⟩
  generalize r * (if decide (1<n)=true then (1:Int) else 0)=T at hT ⊢
  obtain⟨T0,T1,T2⟩:=hT
  refine⟨⟨by omega,by omega⟩,by rw[Ľ];omega,rfl,λ(i:Nat) ρ=>∃os:List Off,os.length=i/\OkC n os/\ρ=RO n m os .any,⟨[],rfl,(λo ho=>nomatch ho),rfl⟩,?_,?_⟩
  ·rintro i d ρ hd ⟨os,lo,ok,rfl⟩
   obtain⟨hi,rfl⟩:=bW hd
   have n2:=T2 (by omega)
   refine⟨rfl,n,rfl,by omega,by omega,λa a0 a1=>⟨rfl,n - 1,rfl,by omega,by omega,λb b0 b1=>⟨(show(0:Int)<n by omega),⟨rfl,rfl,λc c0 c1=>⟨zK,rfl,by rw[Â];omega,os++[(a,(a+1+b) % n,c)],by rw[Î,ň,lo],λo ho=>?_,?_⟩⟩⟩⟩⟩
   ·rcases Ù.mp ho with z|z
    ·exact ok o z
    ·rw[Ò.mp z]
     have h1:=Int.emod_nonneg (a+1+b) (b:=n) (by omega)
     have h2:=Int.emod_lt_of_pos (a+1+b) (b:=n) (by omega)
     refine⟨⟨⟨a0,a1⟩,⟨h1,h2⟩,?_⟩,c0,c1⟩
     show a≠(a+1+b) % n
     by_cases h:a+1+b<n
     ·rw[Int.emod_eq_of_lt (by omega) h]
      omega
     ·rw[←Int.sub_emod_right,Int.emod_eq_of_lt (by omega) (by omega)]
      omega
   ·show [Sl.pen TP,.im (.int n),.im (.int m),.dw 0 (.list (os.map oD++[oD (a,(a+1+b) % n,c)])),.any,.any,.any]=_
    unfold RO
    rw[î]
    rfl
  ·rintro ρ ⟨os,lo,ok,rfl⟩
   rw[Ľ] at lo
   exact⟨os,by omega,ok,rfl⟩
 obtain⟨os,lo,ok,rfl⟩:=h
 refine⟨λρ=>∃os:List Off,os.length<=m.toNat/\OkC n os/\ρ=RO n m os .any,?_,λρ h=>?_⟩
 ·refine⟨zK,Hu os,rfl,?_⟩
  show if (!PyData.eqv (.list (os.map oD)) (.list []))=true then _ else _
  refine bH (λc=>?_) (λc=>ak ⟨os,lo,ok,rfl⟩)
  have ne:os≠[]:=λz=>by
   subst z
   exact absurd c (by decide)
  have pos:0<os.length:=Ŕ.mpr ne
  have lm:(os.map oD).length=os.length:=Â ..
  refine⟨rfl,6,rfl,by decide,by decide,λy _ _=>bH (λc2=>?_) (λc2=>⟨os,lo,ok,rfl⟩)⟩
  refine⟨rfl,_,rfl,by omega,by omega,λz z0 z1=>?_⟩
  have hz:=eN (os:=os) z0 (by omega)
  refine⟨_,hz,rfl,rfl,_,rfl,by omega,by omega,λx x0 x1=>?_⟩
  have hx:ixN (os.map oD).length x=some x.toNat:=by
   unfold ixN
   rw[if_pos x0,if_pos x1]
  refine⟨x.toNat,hx,os.set x.toNat (os.getD z.toNat (0,0,0)),by rw[List.length_set];exact lo,λo ho=>?_,?_⟩
  ·rcases List.mem_or_eq_of_mem_set ho with h|rfl
   ·exact ok o h
   ·exact ok _ (Ð (K6 (b:=true) z0 (by omega)))
  ·show [Sl.pen TP,.im (.int n),.im (.int m),.dw 0 (.list ((os.map oD).set x.toNat (oD (os.getD z.toNat (0,0,0))))),.any,.any,.any]=_
   unfold RO
   rw[List.map_set]
 obtain⟨os,lo,ok,rfl⟩:=h
 have lm:(os.map oD).length=os.length:=Â ..
 have e:=lY os
 have en:∀k,norm k (.tuple (os.map oD))=.imm:=λk=>Ÿ (show cI (.tuple (os.map oD))=true from e)
 refine⟨zK,rfl,2,rfl,by decide,by decide,λx x0 x1=>?_⟩
 rw[en]
 have:x=0\/x=1:=by omega
 rcases this with rfl|rfl
 ·exact⟨_,rfl,rfl,q true os lo ok⟩
 ·refine⟨_,rfl,?_,q false os lo ok⟩
  rw[en]
  rfl
end
section
variable {P:Program}{w:World}{K:Ô}{mg:Str->Option Value}{base:Heap}{f:Addr}{fd:FuncData}
def sc9:FnScope ["limit","thing"] ["limit","thing"] (aj (top 12)):=zC
def Vm:(["number","limit","thing"]:List Str).Nodup:=by decide +kernel
def Vl:(["hop","limit","thing"]:List Str).Nodup:=by decide +kernel
def Dw(F:Fun K "is_rising" "is_rising" (top 12) f fd)(B:Ė mg)(W:Ñ P w K mg base 2 "is_below" ["limit","thing"] (spD zZ))(HO:Ñ P w K mg base 1 "hops" ["places"] (spD Od)):FnOk P w K mg base CX0 3 f fd ["limit","thing"] (spD Cz):=by
 refine F.ok sc9 Ć (λcdv A outer s H vs Q E hr h=>?_)
 refine⟨_,dX (tU (PDW.pt (uN (jz (gC (d8 lW B.isinstance (dv 1) (pB (v:=.ty "list") rfl B.list boot_list rfl)))) (pC (jz (gC (nu rfl B.all Dl.boot_all (aC (qu ["number"] rfl (jl (dv 1)) (λc=>dY (fj (i:=0) Vm rfl (Œ rfl))) (λc=>cj) (λc=>dc W hr (aC (dv 1) (aC (dv 0) aL)))) aL))))))) (bL (cF wN)) nJ)
  (bL (cF (nu rfl B.all Dl.boot_all (aC (qu ["hop"] rfl (jl (dc HO hr (aC (dv 1) aL))) (λc=>dY (fj (i:=0) Vl rfl (Œ rfl))) (λc=>cj) (λc=>BL (jW (dv 0) bJ (λ_ _=>rfl)) (jW (dv 0) bJ (λ_ _=>rfl)))) aL)))),aM h ?_⟩
 rintro ds P ⟨n,d,rfl,hf,q⟩
 refine⟨[.im (.int n),aD d],rfl,?_⟩
 cases d with
 |list es =>
  have hl:=hf es rfl
  have q:P (.bool (es.all (bV n)&&gZ (es.map toI))):=q
  refine ak (A:=True) ⟨by omega,.imm,λi ys=>ys=(es.take i).map λd=>PyData.bool (bV n d),rfl,λi d ys hd hy=>?_,λys hy=>?_⟩
  ·subst hy
   by_cases hi:cI d=true
   ·have en:∀k,norm k d=.imm:=λk=>Ÿ hi
    unfold gNm
    simp only[en]
    exact aF (B:=True) ⟨n,d,rfl,rfl,(vp _ hd).symm⟩
   ·have en:∀k,norm k d=k:=λk=>Ċ hi
    unfold gNm
    simp only[en]
    exact aF (B:=True) ⟨n,d,rfl,rfl,(vp _ hd).symm⟩
  ·dsimp only at hy
   rw[ě] at hy
   refine⟨es.map (bV n),by rw[hy,ç];rfl,?_⟩
   rw[List.all_map]
   show if (!es.all (bV n))=true then _ else _
   cases ha:es.all (bV n) with
   |false =>
    rw[ha] at q
    exact⟨rfl,q⟩
   |true =>
    rw[ha] at q
    have q:P (.bool (gZ (es.map toI))):=q
    have ei:=ints_of ha
    generalize hm:es.map toI=l at q ei
    have hll:l.length<=400:=by rw[←hm,Â];exact hl
    subst ei
    -- rising
    refine⟨l,rfl,hll,?_,.imm,λi ys=>ys=((l.dropLast.zip (l.drop 1)).take i).map λt=>PyData.bool (decide (t.1<t.2)),rfl,?_,?_⟩
    ·rw[Â,Ż,List.length_dropLast]
     omega
    ·rintro i d ys hd rfl
     obtain⟨t,ht,rfl⟩:=jC hd
     exact aF (B:=True) ⟨.int t.1,rfl,.int t.2,rfl,rfl,(vp _ ht).symm⟩
    rintro ys rfl
    refine⟨(l.dropLast.zip (l.drop 1)).map λt=>decide (t.1<t.2),?_,rfl,?_⟩
    ·rw[Â,ě,ç]
     rfl
    ·rw[List.all_map]
     rw[Av] at q
     exact q
 |tuple es=>rcases bI (.tuple es) with e|e <;> rw[e] <;> exact aF (B:=True) ⟨rfl,q⟩
 |_=>exact aF (B:=True) ⟨rfl,q⟩
def U4:FnScope ["n","thing"] ["n","thing"] (aj (top 13)):=zC
def Dy(F:Fun K "is_proper_set" "is_proper_set" (top 13) f fd)(B:Ė mg)(R:Ñ P w K mg base 3 "is_rising" ["limit","thing"] (spD Cz)):FnOk P w K mg base CX0 4 f fd ["n","thing"] (spD pK):=by
 refine F.ok U4 Ć (λcdv A outer s H vs Q E hr h=>?_)
 refine⟨_,bL (cF (nq (dc R hr (aC (dv 0) (aC (dv 1) aL))) (ni (BP bJ (qt B.len (aC (dv 1) aL)) (dv 0))))),aM h ?_⟩
 rintro ds P ⟨n,d,rfl,hf,q⟩
 refine⟨[.im (.int n),aD d],rfl,?_⟩
 have q:P (.bool (Kc n d&&Tw n d)):=q
 cases d with
 |list es =>
  refine⟨n,.list es,rfl,hf,bH (λc=>?_) (λc=>?_)⟩
  ·rw[c] at q
   have q:P (.bool (decide ((1:Int)<=(es.length:Nat))&&decide (((es.length:Nat):Int)<n))):=q
   show if decide ((1:Int)<=(es.length:Nat))=true then _ else _
   refine bH (λc1=>⟨rfl,?_⟩) (λc1=>⟨rfl,?_⟩)
   ·rw[c1] at q
    exact q
   ·have c1:decide ((1:Int)<=(es.length:Nat))=false:=by simpa using c1
    rw[c1] at q
    exact q
  ·have c:Kc n (.list es)=false:=by simpa using c
   rw[c] at q
   exact⟨rfl,q⟩
 |tuple es=>rcases bI (.tuple es) with e|e <;> rw[e] <;> exact⟨n,.tuple es,rfl,hf,ak (A:=True) ⟨rfl,q⟩⟩
 |_=>exact⟨n,_,rfl,hf,ak (A:=True) ⟨rfl,q⟩⟩
def U8:FnScope ["web","thing"] ["web","thing"] (aj (top 14)):=zC
def wY(F:Fun K "check_set" "check_set" (top 14) f fd)(PS:Ñ P w K mg base 4 "is_proper_set" ["n","thing"] (spD pK)):FnOk P w K mg base CX0 5 f fd ["web","thing"] (spD Jk):=by
 refine F.ok U8 Ć (λcdv A outer s H vs Q E hr h=>?_)
 refine⟨_,bL (tU (jz (gC (dc PS hr (aC (jW (dv 0) bJ (λ_ _=>rfl)) (aC (dv 1) aL))))) (bL mD) nJ),aM h ?_⟩
 rintro ds P ⟨n,us,l,rfl,hP,q⟩
 refine⟨[.im (aA n us),.sh (.list (l.map Å))],?_,?_⟩
 ·show [aD (aA n us),aD (.list (l.map Å))]=_
  rw[ġ]
  rfl
 refine⟨.int n,rfl,n,_,rfl,qW (by have:=hP.few;have:=hP.n16;omega),?_⟩
 show if (!aJ n (.list (l.map Å)))=true then _ else _
 rw[eF hP]
 exact ak (A:=False) q
def Ss:FnScope ["tie","some"] ["tie","some"] (aj (top 16)):=zC
def fLv(ds:List D)(P:D->Prop):Prop:=∃(t:Tie) (e:List D) (l:List Int),ds=[.tuple (.int t.1::.int t.2::e),.list (l.map Å)]/\cD e=true/\P (.bool (lv l t))
def Dz(F:Fun K "leaves" "leaves" (top 16) f fd):FnOk P w K mg base CX0 1 f fd ["tie","some"] (spD fLv):=by
 refine F.ok Ss Ć (λcdv A outer s H vs Q E hr h=>?_)
 refine⟨_,bL (cF (S8 (sX hr.units (jW (dv 0) bJ (λ_ _=>rfl)) (dv 1)) (sX hr.units (jW (dv 0) bJ (λ_ _=>rfl)) (dv 1)))),aM h ?_⟩
 rintro ds P ⟨t,ee,l,rfl,im,q⟩
 refine⟨[.im (.tuple (.int t.1::.int t.2::ee)),.sh (.list (l.map Å))],?_,?_⟩
 ·show [aD (.tuple (.int t.1::.int t.2::ee)),_]=_
  have e:aD (.tuple (.int t.1::.int t.2::ee))=.im (.tuple (.int t.1::.int t.2::ee)):=if_pos (show(true&&(true&&cD ee))=true by rw[im];rfl)
  rw[e]
  rfl
 refine⟨.int t.1,ż (xs:=Å t.1::.int t.2::ee) (j:=0) rfl,rfl,dI l,.int t.2,ż (xs:=Å t.1::.int t.2::ee) (j:=1) rfl,rfl,dI l,rfl,?_⟩
 show P (.bool (!decide ((((l.map Å).any λe=>ą e (.int t.1)):Bool)=((l.map Å).any λe=>ą e (.int t.2)))))
 rw[Ů,Ů]
 have e:(!decide ((decide (t.1∈l):Bool)=decide (t.2∈l)))=lv l t:=by
  unfold lv
  cases decide (t.1∈l) <;> cases decide (t.2∈l) <;> rfl
 rw[e]
 exact q
def U7:FnScope ["web","some"] ["web","some"] (aj (top 17)):=zC
def Vn:(["tie","web","some"]:List Str).Nodup:=by decide +kernel
def Qh(F:Fun K "ties_that_leave" "ties_that_leave" (top 17) f fd)(CH:Ñ P w K mg base 5 "check_set" ["web","thing"] (spD Jk))(LV:Ñ P w K mg base 1 "leaves" ["tie","some"] (spD fLv)):FnOk P w K mg base CX0 6 f fd ["web","some"] (spD Uc):=by
 refine F.ok U7 Ć (λcdv A outer s H vs Q E hr h=>?_)
 refine⟨_,dX (mG (dc CH hr (aC (dv 0) (aC (dv 1) aL)))) (bL (cF (qu ["tie"] rfl (jl (jW (dv 0) bJ (λ_ _=>rfl))) (λc=>dY (fj (i:=0) Vn rfl (Œ rfl)))
  (λc=>pL (gC (dc LV hr (aC (dv 0) (aC (dv 2) aL))))) (λc=>dv 0)))),aM h ?_⟩
 rintro ds P ⟨n,us,l,rfl,hP,hl,q⟩
 refine⟨[.im (aA n us),.sh (.list (l.map Å))],?_,n,us,l,rfl,hP,?_⟩
 ·show [aD (aA n us),aD (.list (l.map Å))]=_
  rw[ġ]
  rfl
 refine⟨.tuple (us.map pD),rfl,by rw[Â];omega,.imm,λi ys=>ys=((us.take i).filter (lv l)).map pD,rfl,?_,?_⟩
 ·rintro i d ys hd rfl
  obtain⟨t,ht,rfl⟩:=jC hd
  refine⟨t,[],l,rfl,rfl,?_⟩
  show if lv l t=true then _ else _
  have sn:=LR (lv l) pD ht
  cases hb:lv l t with
  |true =>
   rw[hb,if_pos rfl] at sn
   exact aF (B:=True) ⟨rfl,sn.symm⟩
  |false =>
   rw[hb,if_neg Ì,Ā] at sn
   exact ak (A:=True) sn.symm
 ·rintro ys rfl
  refine⟨rfl,?_⟩
  rw[take_all us (by rw[Â];exact Ç _)]
  exact q
def U6:FnScope ["web","some"] ["web","some"] (aj (top 18)):=zC
def KR(F:Fun K "leaving" "leaving" (top 18) f fd)(B:Ė mg)(TL:Ñ P w K mg base 6 "ties_that_leave" ["web","some"] (spD Uc)):FnOk P w K mg base CX0 7 f fd ["web","some"] (spD tR):=by
 refine F.ok U6 Ć (λcdv A outer s H vs Q E hr h=>?_)
 refine⟨_,bL (cF (qt B.len (aC (dc TL hr (aC (dv 0) (aC (dv 1) aL))) aL))),aM h ?_⟩
 rintro ds P ⟨n,us,l,rfl,hP,hl,q⟩
 refine⟨[.im (aA n us),.sh (.list (l.map Å))],?_,n,us,l,rfl,hP,hl,rfl,?_⟩
 ·show [aD (aA n us),aD (.list (l.map Å))]=_
  rw[ġ]
  rfl
 ·show P (.int (((us.filter (lv l)).map pD).length:Nat))
  rw[Â]
  exact q
def U5:FnScope ["web","falls","some"] ["web","falls","some"] (aj (top 19)):=zC
def KQ(F:Fun K "need" "need" (top 19) f fd)(B:Ė mg)(LV:Ñ P w K mg base 7 "leaving" ["web","some"] (spD tR)):FnOk P w K mg base CX0 8 f fd ["web","falls","some"] (spD Jh):=by
 refine F.ok U5 Ć (λcdv A outer s H vs Q E hr h=>?_)
 refine⟨_,bL (cF (lF rfl B.max (aC (qm (P0 (dv 1) bJ) (dc LV hr (aC (dv 0) (aC (dv 2) aL)))) (aC bJ aL)))),aM h ?_⟩
 rintro ds P ⟨n,us,l,fa,rfl,hP,hl,q⟩
 refine⟨[.im (aA n us),.im (.int fa),.sh (.list (l.map Å))],?_,n,us,l,rfl,hP,hl,rfl,q⟩
 show [aD (aA n us),aD (.int fa),aD (.list (l.map Å))]=_
 rw[ġ]
 rfl
end
inductive Tr where
 |tri (k:Int) (a b:Tr)
 |bar (l:List Int)
 |wts (rs:List (List Int×Int))
abbrev Rw:=List Int×Int
def rwD(r:Rw):D:=.tuple [iD r.1,.int r.2]
def Tr.D:Tr->Dl.D
 |.tri k a b=>.tuple [.str "try",.int k,a.D,b.D]
 |.bar l=>.tuple [.str "barred",iD l]
 |.wts rs=>.tuple [.str "weights",.list (rs.map rwD)]
def Fp(n:Int)(rs:List Rw):Prop:=rs.length<=4/\∀r∈rs,Proper n r.1/\1<=r.2/\r.2<=10 ^ 29
def Tr.Ok(n:Int)(m:Nat):Nat->Tr->Prop
 |d+1,.tri k a b=>0<=k/\k<(m:Int)/\a.Ok n m d/\b.Ok n m d
 |0,.tri _ _ _=>False
 |_,.bar l=>Proper n l
 |_,.wts rs=>Fp n rs
abbrev oA(os:List Off)(k:Int):Off:=os.getD k.toNat (0,0,0)
def lvN(us:List Tie)(l:List Int):Nat:=(us.filter (lv l)).length
def ofN(os:List Off)(ks l:List Int):Nat:=(ks.filter λk=>lv l (tO (oA os k))).length
def lack(us:List Tie)(os:List Off)(ks l:List Int):Int:=if (2:Int) - (lvN us l:Nat) - (ofN os ks l:Nat) > 0 then 2 - (lvN us l:Nat) - (ofN os ks l:Nat) else 0
def wOn(o:Off)(rs:List Rw):Int:=((rs.filter λr=>lv r.1 (tO o)).map (·.2)).sum
def cst(os:List Off)(ks:List Int):Int:=(ks.map λk=>(oA os k).2.2).sum
def cB(m:Nat):List Int:=(ä m).map λi=>0+((i:Nat):Int)
def cg(m:Nat)(tk lf:List Int):List Int:=(cB m).filter λk=>!decide (k∈tk)&&!decide (k∈lf)
def oN(m:Nat)(lf:List Int):List Int:=(cB m).filter λk=>!decide (k∈lf)
def hL(us:List Tie)(os:List Off)(num:Int):Tr->List Int->List Int->Bool
 |.tri k a b,tk,lf=>!decide (k∈tk++lf)&&(hL us os num a (tk++[k]) lf&&hL us os num b tk (lf++[k]))
 |.bar l,_,lf=>decide (0<lack us os (oN os.length lf) l)
 |.wts rs,tk,lf=>((cg os.length tk lf).all λk=>decide (wOn (oA os k) rs<=(oA os k).2.2))&&decide (num<=cst os tk+(rs.map λr=>r.2 * lack us os tk r.1).sum)
structure At41(us:List Tie)(os:List Off)(num:Int)(tk lf:List Int)(ws:List Tie)(free:List Int)(ask:Int):Prop where
 nd:tk.Nodup
 rg:∀k∈tk,0<=k/\k<((os.length:Nat):Int)
 ap:∀k∈tk,k∉lf
 ws:ws.Perm (us++(dW os tk).map mmT)
 fr:free=cg os.length tk lf
 as:ask=num - cst os tk
def Ub(ds:List D)(P:D->Prop):Prop:=∃(o:Off) (rs:List Rw),ds=[oD o,.list (rs.map rwD)]/\rs.length<=40/\P (.int (wOn o rs))
def QD(us vs:List Tie)(l:List Int):lvN (us++vs) l=lvN us l+lvN vs l:=by
 unfold lvN
 rw[ž,Î]
def K8{us vs:List Tie}(h:us.Perm vs)(l:List Int):lvN us l=lvN vs l:=(h.filter (lv l)).length_eq
def QC(os:List Off)(ks l:List Int):lvN ((dW os ks).map mmT) l=ofN os ks l:=by
 unfold lvN ofN
 rw[Rg]
 unfold dW
 rw[List.filter_map,Â]
 rfl
def lO{us ws:List Tie}{os:List Off}{ks:List Int}(h:ws.Perm (us++(dW os ks).map mmT))(l:List Int):lvN ws l=lvN us l+ofN os ks l:=by
 rw[K8 h,QD,QC]
def Il(us:List Tie)(os:List Off)(l:List Int):(if (0:Int) > 1+1 - (((us.filter (lv l)).length:Nat):Int) then 0 else 1+1 - (((us.filter (lv l)).length:Nat):Int))=lack us os [] l:=by
 unfold lack
 show _=if (2:Int) - ((lvN us l:Nat):Int) - ((0:Nat):Int) > 0 then 2 - ((lvN us l:Nat):Int) - ((0:Nat):Int) else 0
 unfold lvN
 split <;> split <;> omega
def Ik{us ys:List Tie}{os:List Off}{ks l:List Int}(h:lvN ys l=lvN us l+ofN os ks l):decide ((((ys.filter (lv l)).length:Nat):Int)<2)=decide (0<lack us os ks l):=by
 have h:(ys.filter (lv l)).length=lvN us l+ofN os ks l:=h
 rw[Ģ,decide_eq_true_eq,decide_eq_true_eq,h]
 unfold lack
 split <;> omega
def xK(us:List Tie)(os:List Off)(ks l:List Int):0<=lack us os ks l/\lack us os ks l<=2:=by
 unfold lack
 split <;> omega
def Mz{α:Type}(xs:List α)(f g:α->Int):(xs.map λk=>decide (g k<f k)).any id=!(xs.all λk=>decide (f k<=g k)):=by
 induction xs with
 |nil=>rfl
 |cons x xs ih =>
  rw[û,List.any_cons,ih,Ő]
  show(decide (g x<f x) || _)=!(decide (f x<=g x)&&_)
  by_cases h:g x<f x
  ·rw[decide_eq_true h,decide_eq_false (by omega)]
   rfl
  ·rw[decide_eq_false h,decide_eq_true (by omega)]
   rfl
def uD(w:Str):D->Bool
 |.str x=>decide (x=w)
 |_=>false
def bC(w:Str)(c:Int):D->Bool
 |.tuple (e::es)=>decide ((((e::es).length:Nat):Int)=c)&&uD w e
 |_=>false
def CG(ds:List D)(P:D->Prop):Prop:=∃d w c,ds=[d,.str w,.int c]/\1<=c/\P (.bool (bC w c d))
def at0{x:D}{r:List D}:atI (x::r) 0=some x:=by
 have:atI (x::r) ((0:Nat):Int)=some x:=ż rfl
 exact this
def rwB(n:Int):D->Bool
 |.tuple [a,.int i]=>aJ n a&&decide ((1:Int)<=i)
 |_=>false
def IW{i:Nat}{d:D}{k:Kd}{ρ:List Sl}{Q:List Sl->Prop}(hk:k=.imm\/k=.shr)(h:∀s,(s=.im d\/s=.sh d)->Q (ρ.set i s)):gNm i (norm k d) d ρ Q:=by
 refine h _ ?_
 by_cases hi:cI d=true
 ·rw[Ÿ hi];exact .inl rfl
 ·rw[Ċ hi]
  try rw[Ċ hi]
  rcases hk with rfl|rfl
  ·exact .inl rfl
  ·exact .inr rfl
def Sv{n:Int}{x y:D}(h:aJ n x=false):rwB n (.tuple [x,y])=false:=by
 cases y with
 |int i=>show(aJ n x&&_)=false;rw[h];rfl
 |_=>rfl
def J5{n:Int}{x y z:D}{r:List D}:rwB n (.tuple (x::y::z::r))=false:=by cases y <;> rfl
def kW(n:Int):D->Bool
 |.list es=>es.all (rwB n)
 |_=>false
def M8(d:D):Prop:=∀a b,d=.tuple [a,b]->Few a
def iu(d:D):Prop:=∀es,d=.list es->es.length<=40/\∀e∈es,M8 e
def Ob(ds:List D)(P:D->Prop):Prop:=∃(n:Int) (us:List Tie) (d:D),ds=[aA n us,d]/\M8 d/\P (.bool (rwB n d))
def Oa(ds:List D)(P:D->Prop):Prop:=∃(n:Int) (us:List Tie) (d:D),ds=[aA n us,d]/\iu d/\P (.bool (kW n d))
def kZ:∀{l:List Int},gZ l=true->l.Pairwise (·<·)
 |[],_=>.nil
 |[a],_=>by simp
 |a::b::r,h=>by
  have h:(decide (a<b)&&gZ (b::r))=true:=h
  rw[Ê,decide_eq_true_eq] at h
  have ih:=kZ h.2
  refine List.pairwise_cons.mpr ⟨λx hx=>?_,ih⟩
  rcases è.mp hx with rfl|hx
  ·exact h.1
  ·have:=(List.pairwise_cons.mp ih).1 x hx
   omega
def jV{n:Int}{d:D}(n16:n<=16)(h:aJ n d=true):∃l:List Int,d=iD l/\Proper n l:=by
 have h0:=h
 unfold aJ at h
 rw[Ê] at h
 cases d with
 |list es =>
  have h1:(es.all (bV n)&&gZ (es.map toI))=true:=h.1
  rw[Ê] at h1
  have h2:(decide ((1:Int)<=(es.length:Nat))&&decide (((es.length:Nat):Int)<n))=true:=h.2
  rw[Ê,decide_eq_true_eq,decide_eq_true_eq] at h2
  have ei:=ints_of h1.1
  refine⟨es.map toI,congrArg _ ei,by rw[Â];omega,by rw[Â];omega,λx hx=>?_,kZ h1.2,n16⟩
  obtain⟨e,he,rfl⟩:=ø.mp hx
  have hb:=ï.mp h1.1 e he
  obtain⟨i,rfl⟩:=nP hb
  exact of_decide_eq_true hb
 |_=>cases h.1
def RwG(n:Int)(rs:List Rw):Prop:=rs.length<=40/\∀r∈rs,Proper n r.1/\1<=r.2
def Gg{n:Int}(n16:n<=16):∀{es:List D},es.all (rwB n)=true->∃rs:List Rw,es=rs.map rwD/\∀r∈rs,Proper n r.1/\1<=r.2
 |[],_=>⟨[],rfl,λr hr=>nomatch hr⟩
 |e::es,h=>by
  rw[Ő,Ê] at h
  obtain⟨rs,rfl,hr⟩:=Gg n16 h.2
  obtain⟨a,i,rfl,h1,h2⟩:∃a i,e=.tuple [a,.int i]/\aJ n a=true/\1<=i:=by
   have h:=h.1
   unfold rwB at h
   split at h
   ·rw[Ê,decide_eq_true_iff] at h
    exact⟨_,_,rfl,h.1,h.2⟩
   ·cases h
  obtain⟨l,rfl,pl⟩:=jV n16 h1
  refine⟨(l,i)::rs,rfl,λr hr'=>?_⟩
  rcases è.mp hr' with rfl|hr'
  ·exact⟨pl,h2⟩
  ·exact hr r hr'
def Bm{n:Int}{d:D}(n16:n<=16)(few:iu d)(h:kW n d=true):∃rs:List Rw,d=.list (rs.map rwD)/\RwG n rs:=by
 cases d with
 |list es =>
  obtain⟨rs,rfl,hr⟩:=Gg n16 h
  have:=(few _ rfl).1
  rw[Â] at this
  exact⟨rs,rfl,this,hr⟩
 |_=>cases h
def Mh(ds:List D)(P:D->Prop):Prop:=∃(n:Int) (ws:List Tie) (b:Bool) (os:List Off) (free:List Int) (ask:Int) (d:D),ds=[aA n ws,oT b os,iD free,.int ask,d]/\ws.length<=52/\n<=16/\os.length<=8/\free.length<=8/\(∀k∈free,0<=k/\k<((os.length:Nat):Int))/\iu d/\(kW n d=false->P (.bool false)) /\
 ∀rs,d=.list (rs.map rwD)->RwG n rs->P (.bool ((free.all λk=>decide (wOn (oA os k) rs<=(oA os k).2.2))&&decide (ask<=(rs.map λr=>r.2 * lack ws os [] r.1).sum)))
def vN(ds:List D)(P:D->Prop):Prop:=∃(n:Int) (ws:List Tie) (b:Bool) (os:List Off) (free:List Int) (d:D),ds=[aA n ws,oT b os,iD free,d]/\ws.length<=52/\n<=16/\OkN n ws/\os.length<=8/\OkO n os/\mL os.length free/\Few d/\(aJ n d=false->P (.bool false))/\∀l,d=iD l->Proper n l->P (.bool (decide (0<lack ws os free l)))
section
variable {P:Program}{w:World}{K:Ô}{mg:Str->Option Value}{base:Heap}{f:Addr}{fd:FuncData}
def nZ:FnScope ["thing","word","count"] ["thing","word","count"] (aj (top 33)):=zC
def wX(F:Fun K "has_form" "has_form" (top 33) f fd)(B:Ė mg)(m_str:mg "str"=none):FnOk P w K mg base CX0 1 f fd ["thing","word","count"] (spD CG):=by
 refine F.ok nZ Ć (λcdv A outer s H vs Q E hr h=>?_)
 have nd:=nZ.nd
 refine⟨_,ē (Û (ý (ř (ĥ (ċ (ö (ī kit_tuple B.isinstance (Ä 0) (Wr.wty rfl B.tuple boot_tuple)))) (Ĺ (ĭ hr.units (ă B.len (À (Ä 0) Á)) (Ä 2))))) (Ö (ß Ħ)) â)
  (Ö (ß (Ŏ (ī Cj B.isinstance (Õ (Ä 0) Ã) (Wr.wty rfl m_str Dl.boot_str)) (ű (Wr.uZ hr.units (Õ (Ä 0) Ã) (Ä 1))))))),aM h ?_⟩
 rintro ds P ⟨d,w,c,rfl,c1,q⟩
 refine⟨[aD d,.im (.str w),.im (.int c)],rfl,?_⟩
 cases d with
 |tuple es =>
  rcases bI (.tuple es) with e|e
  all_goals
   rw[e]
   show if (!decide (((es.length:Nat):Int)=c))=true then _ else _
   by_cases h:((es.length:Nat):Int)=c
   ·rw[decide_eq_true h]
    refine ak ?_
    match es,h,q with
    |[],h,q=>exact absurd h (by show ¬(0:Int)=c;omega)
    |x::r,h,q =>
     have a0:=at0 (x:=x) (r:=r)
     have q:P (.bool (decide ((((x::r).length:Nat):Int)=c)&&uD w x)):=q
     rw[decide_eq_true h,ĺ] at q
     refine⟨x,a0,?_⟩
     cases x with
     |str s=>exact aF (B:=True) ⟨.str s,a0,rfl,q⟩
     |_=>exact ak (A:=True) ⟨rfl,q⟩
   ·rw[decide_eq_false h]
    refine aF ⟨rfl,?_⟩
    match es,h,q with
    |[],h,q=>exact q
    |x::r,h,q =>
     have q:P (.bool (decide ((((x::r).length:Nat):Int)=c)&&uD w x)):=q
     rw[decide_eq_false h,Bool.false_and] at q
     exact q
 |_=>exact aF (B:=True) ⟨rfl,q⟩
def sO:FnScope ["web","thing"] ["web","thing"] (aj (top 35)):=zC
def DP(F:Fun K "is_row" "is_row" (top 35) f fd)(B:Ė mg)(C_is_whole:Ñ P w K mg base 1 "is_whole" ["thing"] (spD jZ))(C_is_proper_set:Ñ P w K mg base 4 "is_proper_set" ["n","thing"] (spD pK)):FnOk P w K mg base CX0 5 f fd ["web","thing"] (spD Ob):=by
 refine F.ok sO Ć (λcdv A outer s H vs Q E hr h=>?_)
 have nd:=sO.nd
 refine⟨_,ē (Û (ý (ř (ĥ (ċ (ö (ī kit_tuple B.isinstance (Ä 1) (Wr.wty rfl B.tuple boot_tuple)))) (Ĺ (ĭ hr.units (ă B.len (À (Ä 1) Á)) Ã)))) (Ö (ß Ħ)) â)
  (Ö (ß (Ŏ (ĉ C_is_proper_set hr (À (Õ (Ä 0) Ã) (À (Õ (Ä 1) Ã) Á))) (Ŏ (ĉ C_is_whole hr (À (Õ (Ä 1) Ã) Á)) (ű (Wr.sZ (Õ (Ä 1) Ã) Ã))))))),aM h ?_⟩
 rintro ds P ⟨n,us,d,rfl,few,q⟩
 refine⟨[.im (aA n us),aD d],by show [aD (aA _ us),aD d]=_;rw[ġ],?_⟩
 cases d with
 |tuple es =>
  rcases bI (.tuple es) with e|e
  all_goals
   rw[e]
   refine ak (A:=True) ?_
   show if (!decide (((es.length:Nat):Int)=2))=true then _ else _
   match es,few,q with
   |[],few,q=>exact aF (B:=True) ⟨rfl,q⟩
   |[x],few,q=>exact aF (B:=True) ⟨rfl,q⟩
   |x::y::z::r,few,q =>
    rw[decide_eq_false (by rw[ÿ,ÿ,ÿ];omega)]
    rw[J5] at q
    exact aF (B:=True) ⟨rfl,q⟩
   |[x,y],few,q =>
    refine ak (A:=True) ⟨.int n,rfl,x,rfl,n,x,rfl,few x y rfl,?_⟩
    show if aJ n x=true then _ else _
    cases hp:aJ n x with
    |false =>
     refine ak (A:=True) ⟨rfl,?_⟩
     rw[Sv hp] at q
     exact q
    |true =>
     refine aF (B:=True) ⟨y,rfl,y,rfl,?_⟩
     cases y with
     |int i =>
      refine aF (B:=True) ⟨.int i,rfl,rfl,?_⟩
      have q:P (.bool (aJ n x&&decide ((1:Int)<=i))):=q
      rw[hp,ĺ] at q
      exact q
     |_=>exact ak (A:=True) ⟨rfl,q⟩
 |_=>exact aF (B:=True) ⟨rfl,q⟩
def oE:FnScope ["web","thing"] ["web","thing"] (aj (top 36)):=zC
def rR:(["row","web","thing"]:List Str).Nodup:=by decide +kernel
def w5(F:Fun K "are_rows" "are_rows" (top 36) f fd)(B:Ė mg)(C_is_row:Ñ P w K mg base 5 "is_row" ["web","thing"] (spD Ob)):FnOk P w K mg base CX0 6 f fd ["web","thing"] (spD Oa):=by
 refine F.ok oE Ć (λcdv A outer s H vs Q E hr h=>?_)
 have nd:=oE.nd
 refine⟨_,ē (Ö (ß (Ŏ (ī lW B.isinstance (Ä 1) (Wr.wty rfl B.list boot_list)) (ű (Wr.nu rfl B.all Dl.boot_all (À (Ŭ ["row"] rfl (ĩ (Ä 1)) (λc=>(ì (i:=0) rR rfl zQ)) (λc=>Wr.cj) (λc=>(ĉ C_is_row hr (À (Ä 1) (À (Ä 0) Á))))) Á)))))),aM h ?_⟩
 rintro ds P ⟨n,us,d,rfl,few,q⟩
 refine⟨[.im (aA n us),aD d],by show [aD (aA _ us),aD d]=_;rw[ġ],?_⟩
 cases d with
 |list es =>
  obtain⟨le,fe⟩:=few es rfl
  refine aF (B:=True) ?_
  refine qP es (λd=>d) (λe=>.bool (rwB n e)) .imm (List.map_id' es).symm (by omega) (λe he A B hA=>?_) ?_
  ·refine IW (.inr rfl) ?_
   rintro s (rfl|rfl) <;> exact aF (B:=B) ⟨n,us,e,rfl,fe e he,rfl,hA⟩
  refine⟨es.map (rwB n),by rw[ç];rfl,rfl,?_⟩
  have e:(es.map (rwB n)).all id=es.all (rwB n):=by rw[List.all_map];rfl
  rw[e]
  exact q
 |tuple es=>rcases bI (.tuple es) with e|e <;> rw[e] <;> exact ak (A:=True) ⟨rfl,q⟩
 |_=>exact ak (A:=True) ⟨rfl,q⟩
def kE:FnScope ["offer","rows"] ["offer","rows"] (aj (top 37)):=zC
def iZ:(["some","weight","offer","rows"]:List Str).Nodup:=by decide +kernel
def u6(F:Fun K "weight_on" "weight_on" (top 37) f fd)(B:Ė mg)(m_sum:mg "sum"=none)(C_leaves:Ñ P w K mg base 1 "leaves" ["tie","some"] (spD fLv)):FnOk P w K mg base CX0 2 f fd ["offer","rows"] (spD Ub):=by
 refine F.ok kE Ć (λcdv A outer s H vs Q E hr h=>?_)
 have nd:=kE.nd
 refine⟨_,ē (Ö (ß (Wr.fD rfl m_sum (À (Ŭ ["some","weight"] rfl (ĩ (Ä 1)) (λc=>(Wr.j6 (n:=2) rfl (Ŝ (ì (i:=0) iZ rfl zQ) (Ŝ (ì (i:=1) iZ rfl zQ) Wr.gM)))) (λc=>(Ş (ö (ĉ C_leaves hr (À (Ä 2) (À (Ä 0) Á)))))) (λc=>(Ä 1))) Á)))),aM h ?_⟩
 rintro ds P ⟨o,rs,rfl,lr,q⟩
 refine⟨[.im (oD o),.sh (.list (rs.map rwD))],rfl,?_⟩
 refine jf rs rwD (λr=>lv r.1 (tO o)) (λr=>.int r.2) .imm rfl (by omega) (λr hr A B hA hB=>⟨rfl,vK λs0 s1 e0 e1=>?_⟩) ?_
 ·have e0:s0=.sh (iD r.1):=e0
  have e1:s1=.im (.int r.2):=e1
  subst e0 e1
  refine⟨tO o,[.int o.2.2],r.1,rfl,rfl,?_⟩
  show if lv r.1 (tO o)=true then _ else _
  cases h:lv r.1 (tO o) with
  |true=>exact aF (B:=B) ⟨rfl,hA h⟩
  |false=>exact ak (A:=True) (hB h)
 ·exact⟨(rs.filter λr:Rw=>lv r.1 (tO o)).map λr:Rw=>r.2,by rw[ç];rfl,rfl,q⟩
def gU:FnScope ["made","offers","free","asked","rows"] ["made","offers","free","asked","rows"] (aj (top 38)):=zC
def lG:(["number","made","offers","free","asked","rows"]:List Str).Nodup:=by decide +kernel
def fH:(["some","weight","made","offers","free","asked","rows"]:List Str).Nodup:=by decide +kernel
def oO(F:Fun K "weights_hold" "weights_hold" (top 38) f fd)(B:Ė mg)(m_any:mg "any"=none)(m_sum:mg "sum"=none)(C_are_rows:Ñ P w K mg base 6 "are_rows" ["web","thing"] (spD Oa))(C_weight_on:Ñ P w K mg base 2 "weight_on" ["offer","rows"] (spD Ub))(C_need:Ñ P w K mg base 8 "need" ["web","falls","some"] (spD Jh)):FnOk P w K mg base CX0 9 f fd ["made","offers","free","asked","rows"] (spD Mh):=by
 refine F.ok gU Ć (λcdv A outer s H vs Q E hr h=>?_)
 have nd:=gU.nd
 refine⟨_,ē (Û (ý (ċ (ö (ĉ C_are_rows hr (À (Ä 0) (À (Ä 4) Á))))) (Ö (ß Ħ)) â)
  (Û (ý (ö (Wr.zj rfl m_any (À (Ŭ ["number"] rfl (ĩ (Ä 2)) (λc=>(ì (i:=0) lG rfl zQ)) (λc=>Wr.cj) (λc=>(Wr.sY (ĉ C_weight_on hr (À (Õ (Ä 2) (Ä 0)) (À (Ä 5) Á))) (Õ (Õ (Ä 2) (Ä 0)) Ã)))) Á))) (Ö (ß Ħ)) â)
  (Ö (ß (Wr.sZ (Wr.fD rfl m_sum (À (Ŭ ["some","weight"] rfl (ĩ (Ä 4)) (λc=>(Wr.j6 (n:=2) rfl (Ŝ (ì (i:=0) fH rfl zQ) (Ŝ (ì (i:=1) fH rfl zQ) Wr.gM)))) (λc=>Wr.cj) (λc=>(Wr.lB (Ä 1) (ĉ C_need hr (À (Ä 2) (À Ã (À (Ä 0) Á))))))) Á)) (Ä 3)))))),aM h ?_⟩
 rintro ds P ⟨n,ws,b,os,free,ask,d,rfl,lw,n16,lo,lf,rf,few,q0,q1⟩
 cases hr9:kW n d with
 |false =>
  refine⟨[.im (aA n ws),if b=true then .sh (oT true os) else .im (oT false os),.sh (iD free),.im (.int ask),aD d],by show [aD (aA _ ws),aD (oT b os),_,_,aD d]=_;rw[ġ,cN];rfl,?_⟩
  rcases bI d with e|e
  all_goals
   rw[e]
   refine⟨n,ws,d,rfl,few,?_⟩
   show if (!kW n d)=true then _ else _
   rw[hr9]
   exact aF (B:=True) ⟨rfl,q0 hr9⟩
 |true =>
 obtain⟨rs,rfl,ok⟩:=Bm n16 few hr9
 have q:=q1 rs rfl ok
 have lr:=ok.1
 refine⟨[.im (aA n ws),if b=true then .sh (oT true os) else .im (oT false os),.sh (iD free),.im (.int ask),.sh (.list (rs.map rwD))],by show [aD (aA _ ws),aD (oT b os),_,_,_]=_;rw[ġ,cN];rfl,?_⟩
 cases b
 all_goals
  refine⟨n,ws,.list (rs.map rwD),rfl,few,?_⟩
  show if (!kW n (.list (rs.map rwD)))=true then _ else _
  rw[hr9]
  refine ak (A:=True) ?_
  refine qP free Å (λk=>.bool (decide ((oA os k).2.2<wOn (oA os k) rs))) .imm rfl (by omega) (λk hk A B hA=>aF (B:=B) ⟨oD (oA os k),eN (rf k hk).1 (rf k hk).2,oA os k,rs,rfl,lr,oD (oA os k),eN (rf k hk).1 (rf k hk).2,.int (oA os k).2.2,rfl,rfl,hA⟩) ?_
  refine⟨free.map λk=>decide ((oA os k).2.2<wOn (oA os k) rs),by rw[ç];rfl,?_⟩
  show if (free.map λk=>decide ((oA os k).2.2<wOn (oA os k) rs)).any id=true then _ else _
  rw[Mz free (λk=>wOn (oA os k) rs) (λk=>(oA os k).2.2)]
  cases h:free.all λk=>decide (wOn (oA os k) rs<=(oA os k).2.2)
  ·rw[h] at q
   exact aF (B:=True) ⟨rfl,q⟩
  ·rw[h] at q
   refine ak (A:=True) ?_
   refine qP rs rwD (λr=>.int (r.2 * lack ws os [] r.1)) .imm rfl (by omega) (λr hr A B hA=>⟨rfl,vK λs0 s1 e0 e1=>?_⟩) ?_
   ·have e0:s0=.sh (iD r.1):=e0
    have e1:s1=.im (.int r.2):=e1
    subst e0 e1
    refine aF (B:=B) ?_
    refine⟨n,ws,r.1,1,rfl,(ok.2 r hr).1,by omega,?_⟩
    have lk:=Il ws os r.1
    have lr:=xK ws os [] r.1
    rw[lk]
    exact⟨.inr ⟨by omega,by omega⟩,rfl,hA⟩
   ·exact⟨rs.map λr:Rw=>r.2 * lack ws os [] r.1,by rw[ç];rfl,rfl,q⟩
def Bh:FnScope ["made","offers","free","thing"] ["made","offers","free","thing"] (aj (top 39)):=zC
def K1(F:Fun K "bars" "bars" (top 39) f fd)(B:Ė mg)(C_leaving:Ñ P w K mg base 7 "leaving" ["web","some"] (spD tR))(C_with_offers:Ñ P w K mg base 2 "with_offers" ["web","offers","numbers"] (spD ji))(C_is_proper_set:Ñ P w K mg base 4 "is_proper_set" ["n","thing"] (spD pK)):FnOk P w K mg base CX0 8 f fd ["made","offers","free","thing"] (spD vN):=by
 refine F.ok Bh Ć (λcdv A outer s H vs Q E hr h=>?_)
 have nd:=Bh.nd
 refine⟨_,ē (Ö (ß (Ŏ (ĉ C_is_proper_set hr (À (Õ (Ä 0) Ã) (À (Ä 3) Á))) (ű (Wr.BL (ĉ C_leaving hr (À (ĉ C_with_offers hr (À (Ä 0) (À (Ä 1) (À (Ä 2) Á)))) (À (Ä 3) Á))) Ã))))),aM h ?_⟩
 rintro ds P ⟨n,ws,b,os,free,d,rfl,lw,n16,okw,lo,oko,rf,few,q0,q1⟩
 cases hp9:aJ n d with
 |false =>
  refine⟨[.im (aA n ws),aD (oT b os),.sh (iD free),aD d],by show [aD (aA _ ws),_,_,_]=_;rw[ġ];rfl,?_⟩
  rcases bI d with e|e
  all_goals
   rw[e]
   refine⟨.int n,rfl,n,d,rfl,few,?_⟩
   show if aJ n d=true then _ else _
   rw[hp9]
   exact ak (A:=True) ⟨rfl,q0 hp9⟩
 |true =>
 obtain⟨l,rfl,pl⟩:=jV n16 hp9
 have q:=q1 l rfl pl
 refine⟨[.im (aA n ws),aD (oT b os),.sh (iD free),.sh (iD l)],by show [aD (aA _ ws),_,_,_]=_;rw[ġ];rfl,?_⟩
 refine⟨.int n,rfl,n,iD l,rfl,qW (by have:=pl.few;have:=pl.n16;omega),?_⟩
 show if aJ n (iD l)=true then _ else _
 rw[show aJ n (iD l)=true from eF pl]
 refine aF (B:=True) ?_
 have lfr:=rf.len
 rcases bI (oT b os) with e|e
 all_goals
  rw[e]
  refine⟨n,ws,b,os,free,rfl,lw,n16,okw,lo,oko,rf,λys hp=>⟨n,ys,l,rfl,pl,?_,rfl,?_⟩⟩
  ·have:=hp.length_eq
   rw[Î,Â] at this
   unfold dW at this
   rw[Â] at this
   omega
  ·show P (.bool (decide ((((ys.filter (lv l)).length:Nat):Int)<2)))
   rw[Ik (lO hp l)]
   exact q
end
def fV{m:Nat}{k:Int}:k∈cB m↔0<=k/\k<(m:Int):=by
 unfold cB
 rw[List.mem_map]
 constructor
 ·rintro⟨i,hi,rfl⟩
  have:=ę.mp hi
  omega
 ·rintro⟨h0,h1⟩
  exact⟨k.toNat,ę.mpr (by omega),by omega⟩
def cU(m:Nat):(cB m).Pairwise (·<·):=by
 unfold cB
 rw[Ŧ]
 exact List.pairwise_lt_range.imp λh=>by omega
def aX{m:Nat}{tk lf:List Int}{k:Int}:k∈cg m tk lf↔(0<=k/\k<(m:Int))/\k∉tk/\k∉lf:=by
 unfold cg
 rw[đ,fV,Ê,Ĵ,Ĵ,decide_eq_false_iff_not,decide_eq_false_iff_not]
def jF(m:Nat)(tk lf:List Int):mL m (cg m tk lf):=⟨(cU m).filter _,λk hk=>(aX.mp hk).1⟩
def LK(m:Nat)(tk lf:List Int)(k:Int):cg m tk (lf++[k])=(cg m tk lf).filter λx=>!decide (x=k):=by
 unfold cg
 rw[List.filter_filter]
 refine List.filter_congr λx _=>?_
 rw[Ģ]
 simp only[Ê,Ĵ,decide_eq_false_iff_not,Ù,Ò]
 constructor
 ·exact λh=>⟨λe=>h.2 (.inr e),h.1,λe=>h.2 (.inl e)⟩
 ·exact λh=>⟨h.2.1,λe=>e.elim h.2.2 h.1⟩
def LC(m:Nat)(tk lf:List Int)(k:Int):cg m (tk++[k]) lf=(cg m tk lf).filter λx=>!decide (x=k):=by
 unfold cg
 rw[List.filter_filter]
 refine List.filter_congr λx _=>?_
 rw[Ģ]
 simp only[Ê,Ĵ,decide_eq_false_iff_not,Ù,Ò]
 constructor
 ·exact λh=>⟨λe=>h.1 (.inr e),λe=>h.1 (.inl e),h.2⟩
 ·exact λh=>⟨λe=>e.elim h.2.1 h.1,h.2.2⟩
def At41.per{us:List Tie}{os:List Off}{num:Int}{tk lf:List Int}{ws:List Tie}{free:List Int}{ask:Int}(h:At41 us os num tk lf ws free ask):(tk++free).Perm (oN os.length lf):=by
 refine(List.perm_ext_iff_of_nodup ?_ ?_).mpr λk=>?_
 ·refine List.nodup_append.mpr ⟨h.nd,?_,λa ha b hb e=>?_⟩
  ·rw[h.fr]
   exact uJ (jF _ _ _).1
  ·rw[h.fr] at hb
   subst e
   exact(aX.mp hb).2.1 ha
 ·exact uJ ((cU _).filter _)
 ·unfold oN
  rw[Ù,h.fr,aX,đ,fV,Ĵ,decide_eq_false_iff_not]
  constructor
  ·rintro(a|a)
   ·exact⟨h.rg k a,h.ap k a⟩
   ·exact⟨a.1,a.2.2⟩
  ·rintro⟨a,b⟩
   by_cases c:k∈tk
   ·exact .inl c
   ·exact .inr ⟨a,c,b⟩
def At41.wl{us:List Tie}{os:List Off}{num:Int}{tk lf:List Int}{ws:List Tie}{free:List Int}{ask:Int}(h:At41 us os num tk lf ws free ask)(lu:us.length<=40)(lo:os.length<=8):ws.length<=52:=by
 have a:=h.ws.length_eq
 have b:=xr h.nd h.rg
 unfold dW at a
 rw[Î,Â,Â] at a
 omega
def Ca{n:Int}{os:List Off}{ks:List Int}(ok:OkO n os)(h:∀k∈ks,0<=k/\k<((os.length:Nat):Int)):OkN n (dW os ks):=λt ht=>by
 obtain⟨k,hk,rfl⟩:=ø.mp ht
 exact zy (ks:=[k]) ok ⟨Ŗ _ _,λx hx=>by rw[Ò.mp hx];exact h k hk⟩ _ (ø.mpr ⟨k,by simp,rfl⟩)
def At41.ok{us:List Tie}{os:List Off}{num:Int}{tk lf:List Int}{ws:List Tie}{free:List Int}{ask:Int}{n:Int}(h:At41 us os num tk lf ws free ask)(ou:OkN n us)(oo:OkO n os):OkN n ws:=λt ht =>
 (ou.app (HF (Ca oo h.rg))) t (h.ws.mem_iff.mp ht)
def At41.left{us:List Tie}{os:List Off}{num:Int}{tk lf:List Int}{ws:List Tie}{free:List Int}{ask k:Int}(h:At41 us os num tk lf ws free ask)(hk:k∈free):At41 us os num tk (lf++[k]) ws (free.filter λx=>!decide (x=k)) ask:=by
 have hk:=hk
 rw[h.fr,aX] at hk
 refine⟨h.nd,h.rg,λx hx e=>?_,h.ws,by rw[h.fr,LK],h.as⟩
 rcases Ù.mp e with e|e
 ·exact h.ap x hx e
 ·rw[Ò.mp e] at hx
  exact hk.2.1 hx
def At41.take{us:List Tie}{os:List Off}{num:Int}{tk lf:List Int}{ws ys:List Tie}{free:List Int}{ask k:Int}(h:At41 us os num tk lf ws free ask)(hk:k∈free)(hp:ys.Perm (ws++(dW os [k]).map mmT)):At41 us os num (tk++[k]) lf ys (free.filter λx=>!decide (x=k)) (ask - (oA os k).2.2):=by
 have hk:=hk
 rw[h.fr,aX] at hk
 refine⟨List.nodup_append.mpr ⟨h.nd,by simp,λa ha b hb e=>?_⟩,λx hx=>?_,λx hx=>?_,?_,by rw[h.fr,LC],?_⟩
 ·rw[Ò.mp hb] at e
  subst e
  exact hk.2.1 ha
 ·rcases Ù.mp hx with e|e
  ·exact h.rg x e
  ·rw[Ò.mp e]
   exact hk.1
 ·rcases Ù.mp hx with e|e
  ·exact h.ap x e
  ·rw[Ò.mp e]
   exact hk.2.2
 ·refine hp.trans ?_
  refine(h.ws.append_right _).trans ?_
  unfold dW
  rw[î,î,List.append_assoc]
 ·rw[h.as]
  unfold cst
  rw[î,List.sum_append]
  show num - _ - _=num - (_+((oA os k).2.2+0))
  omega
def K5(os:List Off)(a b l:List Int):ofN os (a++b) l=ofN os a l+ofN os b l:=by
 unfold ofN
 rw[ž,Î]
def xg{os:List Off}{a b:List Int}(h:a.Perm b)(l:List Int):ofN os a l=ofN os b l:=(h.filter _).length_eq
def At41.Ul{us:List Tie}{os:List Off}{num:Int}{tk lf:List Int}{ws:List Tie}{free:List Int}{ask:Int}(h:At41 us os num tk lf ws free ask)(l:List Int):lack ws os free l=lack us os (oN os.length lf) l:=by
 have a:=lO h.ws l
 have b:=xg (os:=os) h.per l
 rw[K5] at b
 unfold lack
 rw[a,←b]
 congr 1
 all_goals first|omega|(rw[eq_iff_iff];omega)
def At41.weigh{us:List Tie}{os:List Off}{num:Int}{tk lf:List Int}{ws:List Tie}{free:List Int}{ask:Int}(h:At41 us os num tk lf ws free ask)(l:List Int):lack ws os [] l=lack us os tk l:=by
 have a:=lO h.ws l
 have b:ofN os [] l=0:=rfl
 unfold lack
 rw[a,b]
 congr 1
 all_goals first|omega|(rw[eq_iff_iff];omega)
def one_le(m:Nat):1<=m+1:=Nat.le_add_left 1 m
inductive Bt where
 |tri (x:D) (a b:Bt)
 |bar (s:D)
 |wts (r:D)
 |odd (d:D)
def Bt.D:Bt->Dl.D
 |.tri x a b=>.tuple [.str "try",x,a.D,b.D]
 |.bar s=>.tuple [.str "barred",s]
 |.wts r=>.tuple [.str "weights",r]
 |.odd d=>d
def Bt.Ok:Nat->Bt->Prop
 |d+1,.tri _ a b=>a.Ok d/\b.Ok d
 |0,.tri _ _ _=>False
 |_,.bar s=>Few s
 |_,.wts r=>iu r
 |_,.odd d=>bC "try" 4 d=false/\bC "barred" 2 d=false/\bC "weights" 2 d=false
def Dp:D->List Int
 |.list es=>es.map toI
 |_=>[]
def O9:D->Rw
 |.tuple [a,.int i]=>(Dp a,i)
 |_=>([],0)
def sU:D->List Rw
 |.list es=>es.map O9
 |_=>[]
def uI(l:List Int):Dp (iD l)=l:=by
 show(l.map Å).map toI=l
 rw[ç]
 exact List.map_id' l
def wI(rs:List Rw):sU (.list (rs.map rwD))=rs:=by
 show(rs.map rwD).map O9=rs
 rw[ç]
 have:rs.map (O9 ∘ rwD)=rs.map id:=œ λr _=>by
  show(Dp (iD r.1),r.2)=r
  rw[uI]
 rw[this,List.map_id]
def Bl{n:Int}{rs:List Rw}(h:RwG n rs):kW n (.list (rs.map rwD))=true:=ï.mpr λe he=>by
 obtain⟨r,hr,rfl⟩:=ø.mp he
 obtain⟨h1,h2⟩:=h.2 r hr
 show(aJ n (iD r.1)&&decide ((1:Int)<=r.2))=true
 rw[show aJ n (iD r.1)=true from eF h1,decide_eq_true h2]
 rfl
def gB(n:Int)(us:List Tie)(os:List Off)(num:Int):Bt->List Int->List Int->Bool
 |.tri (.int k) a b,tk,lf=>decide (k∈cg os.length tk lf)&&(gB n us os num a (tk++[k]) lf&&gB n us os num b tk (lf++[k]))
 |.tri _ _ _,_,_=>false
 |.bar s,_,lf=>aJ n s&&decide (0<lack us os (oN os.length lf) (Dp s))
 |.wts r,tk,lf=>kW n r&&(((cg os.length tk lf).all λk=>decide (wOn (oA os k) (sU r)<=(oA os k).2.2))&&decide (num<=cst os tk+((sU r).map λr=>r.2 * lack us os tk r.1).sum))
 |.odd _,_,_=>false
def vf(d:D):norm .shr d=.imm\/norm .shr d=.shr:=by
 by_cases h:cI d=true
 ·exact .inl (Ÿ h)
 ·exact .inr (Ċ h)
def mq{P:DEnds}{ρ:List Sl}{i:Nat}{k:Kd}{d:D}(hk:k=.imm\/k=.shr)(h:∀s,(s=.im d\/s=.sh d)->P.nx (ρ.set i s)):(match Dl.stK none ρ i (norm k d) d with
  |some s=>P.nx (ρ.set i s)
  |none=>False):=by
 rcases hk with rfl|rfl
 ·exact h _ (.inl rfl)
 ·by_cases hi:cI d=true
  ·rw[Ÿ hi];exact h _ (.inl rfl)
  ·rw[Ċ hi];exact h _ (.inr rfl)
def fHo:Nat->List D->(D->Prop)->Prop
 |0,_,_=>False
 |d+1,ds,P=>∃(n:Int) (us ws:List Tie) (b:Bool) (os:List Off) (free:List Int) (ask num:Int) (t:Bt) (tk lf:List Int),ds=[aA n ws,oT b os,iD free,.int ask,t.D]/\t.Ok d/\us.length<=40/\n<=16/\OkN n us/\os.length<=8/\OkO n os/\At41 us os num tk lf ws free ask/\P (.bool (gB n us os num t tk lf))
def fTy(e:Nat)(ds:List D)(P:D->Prop):Prop:=∃(d:Nat) (n:Int) (us ws:List Tie) (b:Bool) (os:List Off) (free:List Int) (ask num:Int) (x:D) (t1 t2:Bt) (tk lf:List Int),ds=[aA n ws,oT b os,iD free,.int ask,(Bt.tri x t1 t2).D]/\e=d+1/\t1.Ok d/\t2.Ok d/\us.length<=40/\n<=16/\OkN n us/\os.length<=8/\OkO n os/\At41 us os num tk lf ws free ask/\P (.bool (gB n us os num (.tri x t1 t2) tk lf))
section
variable {P:Program}{w:World}{K:Ô}{mg:Str->Option Value}{base:Heap}{f:Addr}{fd:FuncData}{kk:Nat}
def gw:FnScope ["made","offers","free","asked","tree","tried","rest"] ["made","offers","free","asked","tree"] (aj (top 40)):=zC
def qI:(["number","made","offers","free","asked","tree","tried","rest"]:List Str).Nodup:=by decide +kernel
def KD(F:Fun K "try_holds" "try_holds" (top 40) f fd)(B:Ė mg)(C_is_whole:Ñ P w K mg base 1 "is_whole" ["thing"] (spD jZ))(C_holds:Ñ P w K mg base (2*kk+10) "holds" ["made","offers","free","asked","tree"] (spD (fHo kk)))(C_with_offers:Ñ P w K mg base 2 "with_offers" ["web","offers","numbers"] (spD ji)):FnOk P w K mg base CX0 (2*kk+11) f fd ["made","offers","free","asked","tree"] (spD (fTy kk)):=by
 refine F.ok gw Ć (λcdv A outer s H vs Q E hr h=>?_)
 have nd:=gw.nd
 refine⟨_,ē (Û (ć none (i:=5) nd rfl zQ (Õ (Ä 4) Ã))
  (Û (ý (ř (ĥ (ċ (ö (ĉ (hk:=by omega) C_is_whole hr (À (Ä 5) Á)))) (Ĺ (Wr.d7 hr.units (Ä 5) (Ä 2))))) (Ö (ß Ħ)) â)
  (Û (Wr.jk none ["number"] (i:=6) rfl nd rfl zQ (ĩ (Ä 2)) (λc=>(ì (i:=0) qI rfl zQ)) (λc=>(Ş (ĭ hr.units (Ä 0) (Ä 6)))) (λc=>(Ä 0)))
  (Û (ý (ċ (ö (ĉ (hk:=by omega) C_holds hr (À (Ä 0) (À (Ä 1) (À (Ä 6) (À (Ä 3) (À (Õ (Ä 4) Ã) Á)))))))) (Ö (ß Ħ)) â)
  (Ö (ß (ĉ (hk:=by omega) C_holds hr (À (ĉ (hk:=by omega) C_with_offers hr (À (Ä 0) (À (Ä 1) (À (í (À (Ä 5) Á)) Á)))) (À (Ä 1) (À (Ä 6) (À (Ł (Ä 3) (Õ (Õ (Ä 1) (Ä 5)) Ã)) (À (Õ (Ä 4) Ã) Á)))))))))))),aM h ?_⟩
 rintro ds P ⟨d,n,us,ws,b,os,free,ask,num,x,t1,t2,tk,lf,rfl,rfl,g1,g2,lu,n16,ou,lo,oo,h,q⟩
 refine⟨[.im (aA n ws),if b=true then .sh (oT true os) else .im (oT false os),.sh (iD free),.im (.int ask),aD (Bt.tri x t1 t2).D,.any,.any],by show [aD (aA _ ws),aD (oT b os),_,_,_,_,_]=_;rw[ġ,cN];rfl,?_⟩
 cases x with
 |int k =>
  rcases bI (Bt.tri (.int k) t1 t2).D with e|e
  all_goals
   rw[e]
   cases b
   all_goals
    refine⟨.int k,rfl,.int k,rfl,ak (A:=True) ⟨rfl,dI free,?_⟩⟩
    show if (!((free.map Å).any λe=>ą e (.int k)))=true then _ else _
    rw[Ů]
    have q:P (.bool (decide (k∈cg os.length tk lf)&&(gB n us os num t1 (tk++[k]) lf&&gB n us os num t2 tk (lf++[k])))):=q
    rw[←h.fr] at q
    by_cases hk:k∈free
    ·obtain⟨k0,k1⟩:0<=k/\k<((os.length:Nat):Int):=by
      have hk:=hk
      rw[h.fr,aX] at hk
      exact hk.1
     rw[decide_eq_true hk] at q ⊢
     rw[ĺ] at q
     refine ak (A:=True) ?_
     refine jf free Å (λx=>!decide (x=k)) Å .imm rfl (by have:=(jF os.length tk lf).len;rw[←h.fr] at this;omega) (λx hx A B hA hB=>?_) ?_
     ·show if (!decide (x=k))=true then _ else _
      exact bH (λc=>⟨rfl,hA c⟩) (λc=>hB (Bool.eq_false_iff.mpr c))
     first
      |refine⟨t2.D,rfl,n,us,ws,false,os,_,ask,num,t2,tk,lf++[k],rfl,g2,lu,n16,ou,lo,oo,h.left hk,?_⟩
      |refine⟨t2.D,rfl,n,us,ws,true,os,_,ask,num,t2,tk,lf++[k],rfl,g2,lu,n16,ou,lo,oo,h.left hk,?_⟩
     show if (!gB n us os num t2 tk (lf++[k]))=true then _ else _
     cases e2:gB n us os num t2 tk (lf++[k]) with
     |false =>
      rw[e2,ļ] at q
      exact aF (B:=True) ⟨rfl,q⟩
     |true =>
      rw[e2,Bool.and_true] at q
      refine ak (A:=True) ?_
      first
       |refine⟨one_le 999,n,ws,false,os,[k],rfl,h.wl lu lo,n16,h.ok ou oo,lo,oo,⟨Ŗ _ _,λx hx=>by rw[Ò.mp hx];exact⟨k0,k1⟩⟩,λys hp=>?_⟩
       |refine⟨one_le 999,n,ws,true,os,[k],rfl,h.wl lu lo,n16,h.ok ou oo,lo,oo,⟨Ŗ _ _,λx hx=>by rw[Ò.mp hx];exact⟨k0,k1⟩⟩,λys hp=>?_⟩
      refine⟨oD (oA os k),eN k0 k1,.int (oA os k).2.2,rfl,?_⟩
      first
       |refine⟨t1.D,rfl,n,us,ys,false,os,_,_,num,t1,tk++[k],lf,rfl,g1,lu,n16,ou,lo,oo,h.take hk hp,?_⟩
       |refine⟨t1.D,rfl,n,us,ys,true,os,_,_,num,t1,tk++[k],lf,rfl,g1,lu,n16,ou,lo,oo,h.take hk hp,?_⟩
      exact⟨rfl,q⟩
    ·rw[decide_eq_false hk] at q ⊢
     exact aF (B:=True) ⟨rfl,q⟩
 |tuple xs =>
  rcases bI (Bt.tri (.tuple xs) t1 t2).D with e|e
  all_goals
   rw[e]
   cases b
   all_goals
    refine⟨.tuple xs,rfl,?_⟩
    first
     |refine mq (k:=norm .imm (.tuple xs)) (.inl rfl) ?_
      rintro s (rfl|rfl) <;> exact⟨.tuple xs,rfl,aF (B:=True) ⟨rfl,q⟩⟩
     |refine mq (k:=norm .shr (.tuple xs)) (vf _) ?_
      rintro s (rfl|rfl) <;> exact⟨.tuple xs,rfl,aF (B:=True) ⟨rfl,q⟩⟩
 |_ =>
  rename_i y
  rcases bI (Bt.tri _ t1 t2).D with e|e
  all_goals
   rw[e]
   cases b
   all_goals
    exact⟨_,rfl,_,rfl,aF (B:=True) ⟨rfl,q⟩⟩
def pZ:FnScope ["made","offers","free","asked","tree"] ["made","offers","free","asked","tree"] (aj (top 41)):=zC
def DQ(F:Fun K "holds" "holds" (top 41) f fd)(B:Ė mg)(C_has_form:Ñ P w K mg base 1 "has_form" ["thing","word","count"] (spD CG))(C_try_holds:Ñ P w K mg base (2*kk+11) "try_holds" ["made","offers","free","asked","tree"] (spD (fTy kk)))(C_bars:Ñ P w K mg base 8 "bars" ["made","offers","free","thing"] (spD vN))(C_weights_hold:Ñ P w K mg base 9 "weights_hold" ["made","offers","free","asked","rows"] (spD Mh)):FnOk P w K mg base CX0 (2*kk+12) f fd ["made","offers","free","asked","tree"] (spD (fHo (kk+1))):=by
 refine F.ok pZ Ć (λcdv A outer s H vs Q E hr h=>?_)
 have nd:=pZ.nd
 refine⟨_,ē (Û (ý (ö (ĉ (hk:=by omega) C_has_form hr (À (Ä 4) (À č (À Ã Á))))) (Ö (ß (ĉ (hk:=by omega) C_try_holds hr (À (Ä 0) (À (Ä 1) (À (Ä 2) (À (Ä 3) (À (Ä 4) Á)))))))) â)
  (Û (ý (ö (ĉ (hk:=by omega) C_has_form hr (À (Ä 4) (À č (À Ã Á))))) (Ö (ß (ĉ (hk:=by omega) C_bars hr (À (Ä 0) (À (Ä 1) (À (Ä 2) (À (Õ (Ä 4) Ã) Á))))))) â)
  (Ö (ß (Ŏ (ĉ (hk:=by omega) C_has_form hr (À (Ä 4) (À č (À Ã Á)))) (ű (ĉ (hk:=by omega) C_weights_hold hr (À (Ä 0) (À (Ä 1) (À (Ä 2) (À (Ä 3) (À (Õ (Ä 4) Ã) Á)))))))))))),aM h ?_⟩
 rintro ds P ⟨n,us,ws,b,os,free,ask,num,t,tk,lf,rfl,g,lu,n16,ou,lo,oo,ha,q⟩
 refine⟨[.im (aA n ws),if b=true then .sh (oT true os) else .im (oT false os),.sh (iD free),.im (.int ask),aD t.D],by show [aD (aA _ ws),aD (oT b os),_,_,_]=_;rw[ġ,cN];rfl,?_⟩
 have rf:mL os.length free:=by
  rw[ha.fr]
  exact jF _ _ _
 have lf8:=rf.len
 rcases bI t.D with e|e
 all_goals
  rw[e]
  cases b
  all_goals
   cases t with
   |tri x t1 t2 =>
    cases kk with
    |zero=>exact g.elim
    |succ d =>
     refine⟨_,"try",4,rfl,by decide,aF (B:=True) ?_⟩
     first
     |exact⟨d,n,us,ws,false,os,free,ask,num,x,t1,t2,tk,lf,rfl,rfl,g.1,g.2,lu,n16,ou,lo,oo,ha,rfl,q⟩
     |exact⟨d,n,us,ws,true,os,free,ask,num,x,t1,t2,tk,lf,rfl,rfl,g.1,g.2,lu,n16,ou,lo,oo,ha,rfl,q⟩
   |bar s =>
    have g:Few s:=by cases kk <;> exact g
    have q:P (.bool (aJ n s&&decide (0<lack us os (oN os.length lf) (Dp s)))):=q
    refine⟨_,"try",4,rfl,by decide,ak (A:=True) ⟨_,"barred",2,rfl,by decide,aF (B:=True) ⟨s,rfl,?_⟩⟩⟩
    have q0:aJ n s=false->P (.bool false):=λz=>by rw[z] at q;exact q
    have q1:∀l,s=iD l->Proper n l->P (.bool (decide (0<lack ws os free l))):=λl z pl=>by
     subst z
     rw[show aJ n (iD l)=true from eF pl,ĺ,uI,←ha.Ul l] at q
     exact q
    first
     |exact⟨n,ws,false,os,free,s,rfl,ha.wl lu lo,n16,ha.ok ou oo,lo,oo,rf,g,λz=>⟨rfl,q0 z⟩,λl z pl=>⟨rfl,q1 l z pl⟩⟩
     |exact⟨n,ws,true,os,free,s,rfl,ha.wl lu lo,n16,ha.ok ou oo,lo,oo,rf,g,λz=>⟨rfl,q0 z⟩,λl z pl=>⟨rfl,q1 l z pl⟩⟩
   |wts r =>
    have g:iu r:=by cases kk <;> exact g
    have q:P (.bool (kW n r&&(((cg os.length tk lf).all λk=>decide (wOn (oA os k) (sU r)<=(oA os k).2.2))&&decide (num<=cst os tk+((sU r).map λr=>r.2 * lack us os tk r.1).sum)))):=q
    refine⟨_,"try",4,rfl,by decide,ak (A:=True) ⟨_,"barred",2,rfl,by decide,ak (A:=True) ⟨_,"weights",2,rfl,by decide,aF (B:=True) ⟨r,rfl,?_⟩⟩⟩⟩
    have q0:kW n r=false->P (.bool false):=λz=>by rw[z] at q;exact q
    have q1:∀rs,r=.list (rs.map rwD)->RwG n rs->P (.bool ((free.all λk=>decide (wOn (oA os k) rs<=(oA os k).2.2))&&decide (ask<=(rs.map λr=>r.2 * lack ws os [] r.1).sum))):=λrs z ok=>by
     subst z
     rw[Bl ok,ĺ,wI,←ha.fr] at q
     have e2:(rs.map λr=>r.2 * lack ws os [] r.1)=rs.map λr=>r.2 * lack us os tk r.1:=œ λr _=>by rw[ha.weigh]
     rw[e2,show decide (ask<=(rs.map λr=>r.2 * lack us os tk r.1).sum)=decide (num<=cst os tk+(rs.map λr=>r.2 * lack us os tk r.1).sum) from by rw[Ģ,decide_eq_true_eq,decide_eq_true_eq,ha.as];omega]
     exact q
    first
     |exact⟨n,ws,false,os,free,ask,r,rfl,ha.wl lu lo,n16,lo,by omega,rf.2,g,λz=>⟨rfl,q0 z⟩,λl z pl=>⟨rfl,q1 l z pl⟩⟩
     |exact⟨n,ws,true,os,free,ask,r,rfl,ha.wl lu lo,n16,lo,by omega,rf.2,g,λz=>⟨rfl,q0 z⟩,λl z pl=>⟨rfl,q1 l z pl⟩⟩
   |odd d =>
    have g:bC "try" 4 d=false/\bC "barred" 2 d=false/\bC "weights" 2 d=false:=by cases kk <;> exact g
    refine⟨d,"try",4,rfl,by decide,?_⟩
    show if bC "try" 4 d=true then _ else _
    rw[g.1]
    refine ak (A:=True) ⟨d,"barred",2,rfl,by decide,?_⟩
    show if bC "barred" 2 d=true then _ else _
    rw[g.2.1]
    refine ak (A:=True) ⟨d,"weights",2,rfl,by decide,?_⟩
    show if bC "weights" 2 d=true then _ else _
    rw[g.2.2]
    exact ak (A:=True) ⟨rfl,q⟩
end
def fNo(ds:List D)(P:D->Prop):Prop:=False
def fTH(ds:List D)(P:D->Prop):Prop:=∃(n:Int) (us:List Tie) (b:Bool) (os:List Off) (num:Int) (t:Bt),ds=[aA n us,oT b os,.int num,t.D]/\t.Ok 7/\us.length<=40/\n<=16/\OkN n us/\os.length<=8/\OkO n os/\P (.bool (gB n us os num t [] []))
def Er(ds:List D)(P:D->Prop):Prop:=∃d,ds=[d]/\P (.bool (isW d))
def Jj(ds:List D)(P:D->Prop):Prop:=∃(n:Int) (d:D),ds=[.int n,d]/\n<=16/\Few d/\P (.bool (aJ n d))
def fLk(ds:List D)(P:D->Prop):Prop:=∃(n:Int) (us:List Tie) (b:Bool) (os:List Off) (ks l:List Int),ds=[aA n us,oT b os,iD ks,iD l]/\us.length<=40/\ks.length<=8/\(∀k∈ks,0<=k/\k<((os.length:Nat):Int))/\P (.int (lack us os ks l))
def Rt(us:List Tie)(os:List Off)(num:Int):At41 us os num [] [] us (cB os.length) num:=by
 refine⟨List.nodup_nil,λk hk=>(ĸ hk).elim,λk hk=>(ĸ hk).elim,?_,?_,?_⟩
 ·show us.Perm (us++[])
  rw[Ā]
 ·unfold cg
  exact(List.filter_eq_self.mpr λa _=>rfl).symm
 ·show num=num - 0
  omega
def sV{es:List D}{i:Nat}{v:Int}(et:es.take (i+1)=es.take i++[.int v])(pw:((es.take i).map toI).Pairwise (·<·))(h:∀y∈(es.take i).map toI,y<v):gZ ((es.take (i+1)).map toI)=true:=by
 rw[et,î]
 refine ï.mpr λt ht=>decide_eq_true (tQ (List.pairwise_append.mpr ⟨pw,Ŗ _ _,λx hx y hy=>?_⟩) t ht)
 rw[Ò.mp hy]
 exact h x hx
section
variable {P:Program}{w:World}{K:Ô}{mg:Str->Option Value}{base:Heap}{f f1:Addr}{fd fd1:FuncData}
def KC(F:Fun K "try_holds" "try_holds" (top 40) f fd):FnOk P w K mg base CX0 1 f fd ["made","offers","free","asked","tree"] (spD fNo) :=
 F.ok gw (Ć λds P h=>h.elim) (λcdv A outer s H vs Q E hr h=>by
  obtain⟨_,_,_,t,_⟩:=h
  exact t.elim)
def DY(F:Fun K "holds" "holds" (top 41) f fd):FnOk P w K mg base CX0 10 f fd ["made","offers","free","asked","tree"] (spD (fHo 0)) :=
 F.ok pZ (Ć λds P h=>h.elim) (λcdv A outer s H vs Q E hr h=>by
  obtain⟨_,_,_,t,_⟩:=h
  exact t.elim)
def DW(k:Nat)(F:Fun K "holds" "holds" (top 41) f fd)(B:Ė mg)(b:Binds K fd ["made","offers","free","asked","tree"] [])(m:mg "holds"=some (.ref f))(F1:Fun K "try_holds" "try_holds" (top 40) f1 fd1)(b1:Binds K fd1 ["made","offers","free","asked","tree"] [])(m1:mg "try_holds"=some (.ref f1))(C_is_whole:Ñ P w K mg base 1 "is_whole" ["thing"] (spD jZ))(C_with_offers:Ñ P w K mg base 2 "with_offers" ["web","offers","numbers"] (spD ji))(C_has_form:Ñ P w K mg base 1 "has_form" ["thing","word","count"] (spD CG))(C_bars:Ñ P w K mg base 8 "bars" ["made","offers","free","thing"] (spD vN))(C_weights_hold:Ñ P w K mg base 9 "weights_hold" ["made","offers","free","asked","rows"] (spD Mh)) :
  FnOk P w K mg base CX0 (2 * k+10) f fd ["made","offers","free","asked","tree"] (spD (fHo k)):=by
 induction k with
 |zero=>exact DY F
 |succ k ih =>
  have t:=KD F1 B C_is_whole ⟨f,fd,ih,b,F.kp,m⟩ C_with_offers
  have r:=DQ F B C_has_form ⟨f1,fd1,t,b1,F1.kp,m1⟩ C_bars C_weights_hold
  rw[show 2 * (k+1)+10=2 * k+12 by omega]
  exact r
def DX(F:Fun K "holds" "holds" (top 41) f fd)(B:Ė mg)(b:Binds K fd ["made","offers","free","asked","tree"] [])(m:mg "holds"=some (.ref f))(F1:Fun K "try_holds" "try_holds" (top 40) f1 fd1)(b1:Binds K fd1 ["made","offers","free","asked","tree"] [])(m1:mg "try_holds"=some (.ref f1))(C_is_whole:Ñ P w K mg base 1 "is_whole" ["thing"] (spD jZ))(C_with_offers:Ñ P w K mg base 2 "with_offers" ["web","offers","numbers"] (spD ji))(C_has_form:Ñ P w K mg base 1 "has_form" ["thing","word","count"] (spD CG))(C_bars:Ñ P w K mg base 8 "bars" ["made","offers","free","thing"] (spD vN))(C_weights_hold:Ñ P w K mg base 9 "weights_hold" ["made","offers","free","asked","rows"] (spD Mh)) :
  FnOk P w K mg base CX0 26 f fd ["made","offers","free","asked","tree"] (spD (fHo 8)):=DW 8 F B b m F1 b1 m1 C_is_whole C_with_offers C_has_form C_bars C_weights_hold
def jL:FnScope ["web","offers","number","tree"] ["web","offers","number","tree"] (aj (top 42)):=zC
def rH(F:Fun K "tree_holds" "tree_holds" (top 42) f fd)(B:Ė mg)(C_check_offers:Ñ P w K mg base 5 "check_offers" ["web","thing"] (spD Mj))(C_holds:Ñ P w K mg base 26 "holds" ["made","offers","free","asked","tree"] (spD (fHo 8))):FnOk P w K mg base CX0 27 f fd ["web","offers","number","tree"] (spD fTH):=by
 refine F.ok jL Ć (λcdv A outer s H vs Q E hr h=>?_)
 have nd:=jL.nd
 refine⟨_,ē (Û (Wr.mG (ĉ C_check_offers hr (À (Ä 0) (À (Ä 1) Á))))
  (Ö (ß (ĉ C_holds hr (À (Ä 0) (À (Ä 1) (À (Wr.cR rfl B.list B.range (À (ă B.len (À (Ä 1) Á)) Á)) (À (Ä 2) (À (Ä 3) Á))))))))),aM h ?_⟩
 rintro ds P ⟨n,us,b,os,num,t,rfl,g,lu,n16,ou,lo,oo,q⟩
 refine⟨[.im (aA n us),if b=true then .sh (oT true os) else .im (oT false os),.im (.int num),aD t.D],by show [aD (aA _ us),aD (oT b os),_,_]=_;rw[ġ,cN];rfl,?_⟩
 have ha:=Rt us os num
 have lm:(os.map oD).length=os.length:=Â ..
 have eI:Ď (bA 0 ((((os.map oD).length:Nat):Int) - 0).toNat)=iD (cB os.length):=by
  rw[lm,show((((os.length:Nat):Int)) - 0).toNat=os.length by omega]
  unfold bA cB iD
  rw[ç]
  rfl
 rcases bI t.D with e|e
 all_goals
  rw[e]
  cases b with
  |false =>
   refine⟨n,us,false,os,rfl,lo,oo,?_⟩
   refine⟨⟨by show(-1000:Int)<=(((os.map oD).length:Nat):Int);omega,by show(((os.map oD).length:Nat):Int)<=1000;omega⟩,?_⟩
   exact⟨n,us,us,false,os,cB os.length,num,num,t,[],[],(by show [_,_,Ď (bA 0 ((((os.map oD).length:Nat):Int) - 0).toNat),_,_]=_;rw[eI] <;> rfl),g,lu,n16,ou,lo,oo,ha,rfl,q⟩
  |true =>
   refine⟨n,us,true,os,rfl,lo,oo,?_⟩
   refine⟨⟨by show(-1000:Int)<=(((os.map oD).length:Nat):Int);omega,by show(((os.map oD).length:Nat):Int)<=1000;omega⟩,?_⟩
   exact⟨n,us,us,true,os,cB os.length,num,num,t,[],[],(by show [_,_,Ď (bA 0 ((((os.map oD).length:Nat):Int) - 0).toNat),_,_]=_;rw[eI] <;> rfl),g,lu,n16,ou,lo,oo,ha,rfl,q⟩
def kI:FnScope ["_law_thing"] ["_law_thing"] (aj (top 50)):=zC
def u9(F:Fun K "_law_whole" "_law_whole" (top 50) f fd)(B:Ė mg):FnOk P w K mg base CX0 1 f fd ["_law_thing"] (spD Er):=by
 refine F.ok kI Ć (λcdv A outer s H vs Q E hr h=>?_)
 have nd:=kI.nd
 refine⟨_,ē (Ö (ß (Ŏ (ī Ck B.isinstance (Ä 0) (Wr.wty rfl B.int boot_int)) (ű (Wr.uV (ī qQ B.isinstance (Ä 0) (Wr.wty rfl B.bool boot_bool))))))),aM h ?_⟩
 rintro ds P ⟨d,rfl,q⟩
 refine⟨[aD d],rfl,?_⟩
 cases d with
 |int i=>exact aF (B:=True) ⟨rfl,q⟩
 |bool b=>exact aF (B:=True) ⟨rfl,q⟩
 |tuple es=>rcases bI (.tuple es) with e|e <;> rw[e] <;> exact ak (A:=True) ⟨rfl,q⟩
 |_=>exact ak (A:=True) ⟨rfl,q⟩
def jP:FnScope ["_law_n","_law_thing","_law_k"] ["_law_n","_law_thing"] (aj (top 51)):=zC
def rN(F:Fun K "_law_is_set" "_law_is_set" (top 51) f fd)(B:Ė mg)(C__law_whole:Ñ P w K mg base 1 "_law_whole" ["_law_thing"] (spD Er)):FnOk P w K mg base CX0 2 f fd ["_law_n","_law_thing"] (spD Jj):=by
 refine F.ok jP Ć (λcdv A outer s H vs Q E hr h=>?_)
 have nd:=jP.nd
 refine⟨_,ē (Û (ý (ř (ĥ (ċ (ö (ī lW B.isinstance (Ä 1) (Wr.wty rfl B.list boot_list)))) (Ĺ (ċ (Wr.fZ oF oF Ã (ă B.len (À (Ä 1) Á)) (Ä 0)))))) (Ö (ß Ħ)) â)
  (Û (Wr.gK Ğ rfl (Wr.bY B.range (À (ă B.len (À (Ä 1) Á)) Á)) (ì (i:=2) nd rfl zQ) (Û (ý (ř (ĥ (ċ (ö (ĉ C__law_whole hr (À (Õ (Ä 1) (Ä 2)) Á)))) (ĥ (ċ (Wr.fZ wO oF Ã (Õ (Ä 1) (Ä 2)) (Ä 0))) (Ĺ (ř (Wr.dU (Wr.iR (Ä 2) Ã) (Wr.dg (Wr.qj (Õ (Ä 1) (Ä 2)) (Õ (Ä 1) (Ł (Ä 2) Ã)))))))))) (Ö (ß Ħ)) â) (ŏ [2] â)))
  (ŏ [2] (Ö (ß Ħ))))),aM h ?_⟩
 rintro ds P ⟨n,d,rfl,n16,few,q⟩
 refine⟨[.im (.int n),aD d,.any],rfl,?_⟩
 cases d with
 |list es =>
  have le:=few es rfl
  have q:P (.bool ((es.all (bV n)&&gZ (es.map toI))&&(decide ((1:Int)<=(es.length:Nat))&&decide (((es.length:Nat):Int)<n)))):=q
  show if decide ((0:Int)<((es.length:Nat):Int))=true then _ else _
  refine bH (λc0=>?_) (λc0=>?_)
  rotate_left
  ·have:decide ((1:Int)<=((es.length:Nat):Int))=false:=decide_eq_false λz=>c0 (decide_eq_true (by omega))
   rw[this,Bool.false_and,ļ] at q
   exact aF (B:=True) ⟨rfl,q⟩
  show if (!decide (((es.length:Nat):Int)<n))=true then _ else _
  have c0:=of_decide_eq_true c0
  rw[decide_eq_true (show(1:Int)<=((es.length:Nat):Int) by omega),ĺ] at q
  cases c1:decide (((es.length:Nat):Int)<n) with
  |false =>
   rw[c1,ļ] at q
   exact aF (B:=True) ⟨rfl,q⟩
  |true =>
  rw[c1,Bool.and_true] at q
  have c1:=of_decide_eq_true c1
  refine ak (A:=True) ?_
  refine⟨⟨by omega,by omega⟩,rfl,λ(i:Nat) ρ=>ρ=[.im (.int n),.sh (.list es),.any]/\(es.take i).all (bV n)=true/\gZ ((es.take i).map toI)=true,⟨rfl,rfl,rfl⟩,?_,?_⟩
  ·rintro i d ρ hd ⟨rfl,al,ri⟩
   obtain⟨hi,rfl⟩:=bW hd
   have hi:i<es.length:=by omega
   have hx:atI es (0+((i:Nat):Int))=some es[i]:=by
    rw[Int.zero_add]
    exact ż (È hi)
   have mx:es[i]∈es:=ņ hi
   have et:es.take (i+1)=es.take i++[es[i]]:=by rw[Ē,È hi];rfl
   have no:bV n es[i]=false->P (.bool false):=λz=>by
    have:es.all (bV n)=false:=Bool.eq_false_iff.mpr λy=>by
     rw[ï.mp y _ mx] at z
     cases z
    rw[this] at q
    exact q
   generalize ex:es[i]=x at hx et no
   cases x with
   |int v =>
    have al2:bV n (.int v)=(decide (0<=v)&&decide (v<n)):=Bool.decide_and _ _
    refine⟨.int v,hx,.int v,rfl,ak (A:=True) ⟨.int v,hx,?_⟩⟩
    show if decide ((0:Int)<=v)=true then _ else _
    refine bH (λd0=>?_) (λd0=>?_)
    rotate_left
    ·exact aF (B:=True) ⟨rfl,no (by rw[al2,Bool.eq_false_iff.mpr d0];rfl)⟩
    show if (!decide (v<n))=true then _ else _
    cases d1:decide (v<n) with
    |false=>exact aF (B:=True) ⟨rfl,no (by rw[al2,d1,ļ])⟩
    |true =>
    have be:bV n (.int v)=true:=by rw[al2,d0,d1];rfl
    refine ak (A:=True) ?_
    show if decide ((0:Int)<0+((i:Nat):Int))=true then _ else _
    have alX:(es.take (i+1)).all (bV n)=true:=by
     rw[et,List.all_append,al,Ő,be]
     rfl
    have pw:=kZ ri
    refine bH (λk0=>?_) (λk0=>?_)
    ·have k0:=of_decide_eq_true k0
     have hp:i - 1<es.length:=by omega
     have mp:es[i - 1]∈es.take i:=List.mem_take_iff_getElem.mpr ⟨i - 1,by omega,rfl⟩
     obtain⟨u,eu⟩:=nP (ï.mp al _ mp)
     have hx2:atI es (0+((i:Nat):Int) - 1)=some (.int u):=by
      rw[show(0+((i:Nat):Int) - 1)=((i - 1:Nat):Int) by omega,←eu]
      exact ż (È hp)
     refine⟨.int v,hx,.int u,hx2,?_⟩
     show if decide (v<=u)=true then _ else _
     refine bH (λk1=>⟨rfl,?_⟩) (λk1=>⟨rfl,alX,?_⟩)
     ·have k1:=of_decide_eq_true k1
      have:gZ (es.map toI)=false:=Bool.eq_false_iff.mpr λz=>by
       have pz:=kZ z
       have:=ŋ.mp pz (i - 1) i (by rw[Â];omega) (by rw[Â];omega) (by omega)
       rw[List.getElem_map,List.getElem_map,ex,eu] at this
       have this:u<v:=this
       omega
      rw[this,ļ] at q
      exact q
     ·have k1:¬v<=u:=λz=>k1 (decide_eq_true z)
      refine sV et pw λy hy=>?_
      obtain⟨j,hj,rfl⟩:=List.getElem_of_mem hy
      rw[Â,ģ] at hj
      by_cases e:j=i - 1
      ·subst e
       rw[List.getElem_map,List.getElem_take,eu]
       show u<v
       omega
      ·have:=ŋ.mp pw j (i - 1) (by rw[Â,ģ];omega) (by rw[Â,ģ];omega) (by omega)
       have eU:((es.take i).map toI)[i - 1]'(by rw[Â,ģ];omega)=u:=by
        rw[List.getElem_map,List.getElem_take,eu]
        rfl
       rw[eU] at this
       omega
    ·have k0:¬(0:Int)<0+((i:Nat):Int):=λz=>k0 (decide_eq_true z)
     have e0:i=0:=by omega
     subst e0
     exact⟨rfl,alX,sV et pw λy hy=>nomatch hy⟩
   |tuple xs =>
    refine⟨.tuple xs,hx,?_⟩
    first
     |exact⟨.tuple xs,rfl,aF (B:=True) ⟨rfl,no rfl⟩⟩
   |_=>exact⟨_,hx,_,rfl,aF (B:=True) ⟨rfl,no rfl⟩⟩
  ·rintro ρ ⟨rfl,al,ri⟩
   rw[Ľ,ŀ,ě] at al ri
   rw[al,ri] at q
   exact⟨rfl,q⟩
 |tuple es=>rcases bI (.tuple es) with e|e <;> rw[e] <;> exact aF (B:=True) ⟨rfl,q⟩
 |_=>exact aF (B:=True) ⟨rfl,q⟩
def jO:FnScope ["_law_one","_law_some"] ["_law_one","_law_some"] (aj (top 54)):=zC
def rM(F:Fun K "_law_leaves" "_law_leaves" (top 54) f fd)(B:Ė mg):FnOk P w K mg base CX0 1 f fd ["_law_one","_law_some"] (spD fLv):=by
 refine F.ok jO Ć (λcdv A outer s H vs Q E hr h=>?_)
 have nd:=jO.nd
 refine⟨_,ē (Ö (ß (Wr.uW hr.units (Wr.sX hr.units (Õ (Ä 0) Ã) (Ä 1)) (Wr.sX hr.units (Õ (Ä 0) Ã) (Ä 1))))),aM h ?_⟩
 rintro ds P ⟨t,ee,l,rfl,im,q⟩
 refine⟨[.im (.tuple (.int t.1::.int t.2::ee)),.sh (.list (l.map Å))],?_,?_⟩
 ·show [aD (.tuple (.int t.1::.int t.2::ee)),_]=_
  have e:aD (.tuple (.int t.1::.int t.2::ee))=.im (.tuple (.int t.1::.int t.2::ee)):=if_pos (show(true&&(true&&cD ee))=true by rw[im];rfl)
  rw[e]
  rfl
 refine⟨.int t.1,ż (xs:=Å t.1::.int t.2::ee) (j:=0) rfl,rfl,dI l,.int t.2,ż (xs:=Å t.1::.int t.2::ee) (j:=1) rfl,rfl,dI l,?_⟩
 show _/\P (.bool (!decide ((((l.map Å).any λe=>ą e (.int t.1)):Bool)=((l.map Å).any λe=>ą e (.int t.2)))))
 rw[Ů,Ů]
 have e:(!decide ((decide (t.1∈l):Bool)=decide (t.2∈l)))=lv l t:=by
  unfold lv
  cases decide (t.1∈l) <;> cases decide (t.2∈l) <;> rfl
 rw[e]
 exact⟨rfl,q⟩
def nU:FnScope ["_law_web_here","_law_offers_here","_law_numbers","_law_some","_law_many"] ["_law_web_here","_law_offers_here","_law_numbers","_law_some"] (aj (top 55)):=zC
def rQ:(["_law_tie","_law_web_here","_law_offers_here","_law_numbers","_law_some","_law_many"]:List Str).Nodup:=by decide +kernel
def rP:(["_law_k","_law_web_here","_law_offers_here","_law_numbers","_law_some","_law_many"]:List Str).Nodup:=by decide +kernel
def wR(F:Fun K "_law_lack" "_law_lack" (top 55) f fd)(B:Ė mg)(C__law_leaves:Ñ P w K mg base 1 "_law_leaves" ["_law_one","_law_some"] (spD fLv)):FnOk P w K mg base CX0 2 f fd ["_law_web_here","_law_offers_here","_law_numbers","_law_some"] (spD fLk):=by
 refine F.ok nU Ć (λcdv A outer s H vs Q E hr h=>?_)
 have nd:=nU.nd
 refine⟨_,ē (Û (ć none (i:=4) nd rfl zQ (ă B.len (À (Ŭ ["_law_tie"] rfl (ĩ (Õ (Ä 0) Ã)) (λc=>(ì (i:=0) rQ rfl zQ)) (λc=>(Ş (ö (ĉ C__law_leaves hr (À (Ä 0) (À (Ä 4) Á)))))) (λc=>(Ä 0))) Á)))
  (Ö (ß (Wr.lF rfl B.max (À Ã (À (Ł (Ł Ã (Ä 4)) (ă B.len (À (Ŭ ["_law_k"] rfl (ĩ (Ä 2)) (λc=>(ì (i:=0) rP rfl zQ)) (λc=>(Ş (ö (ĉ C__law_leaves hr (À (Õ (Ä 2) (Ä 0)) (À (Ä 4) Á)))))) (λc=>(Ä 0))) Á))) Á)))))),aM h ?_⟩
 rintro ds P ⟨n,us,b,os,ks,l,rfl,lu,lk,rk,q⟩
 refine⟨[.im (aA n us),if b=true then .sh (oT true os) else .im (oT false os),.sh (iD ks),.sh (iD l),.any],by show [aD (aA _ us),aD (oT b os),_,_,_]=_;rw[ġ,cN];rfl,?_⟩
 cases b
 all_goals
  refine⟨.tuple (us.map pD),rfl,?_⟩
  refine jf us pD (lv l) pD .imm rfl (by omega) (λt ht A B hA hB=>⟨t,[],l,rfl,rfl,?_⟩) ?_
  ·show if lv l t=true then _ else _
   cases h:lv l t with
   |true=>exact aF (B:=B) ⟨rfl,hA h⟩
   |false=>exact ak (A:=True) (hB h)
  refine jf ks Å (λk=>lv l (tO (oA os k))) Å .imm rfl (by omega) (λk hk A B hA hB=>⟨oD (oA os k),eN (rk k hk).1 (rk k hk).2,tO (oA os k),[.int (oA os k).2.2],l,rfl,rfl,?_⟩) ?_
  ·show if lv l (tO (oA os k))=true then _ else _
   cases h:lv l (tO (oA os k)) with
   |true=>exact aF (B:=B) ⟨rfl,hA h⟩
   |false=>exact ak (A:=True) (hB h)
  have e1:((us.filter (lv l)).map pD).length=lvN us l:=Â ..
  have e2:((ks.filter λk=>lv l (tO (oA os k))).map Å).length=ofN os ks l:=Â ..
  show _/\P (.int (if (2:Int) - ((((us.filter (lv l)).map pD).length:Nat):Int) - ((((ks.filter λk=>lv l (tO (oA os k))).map Å).length:Nat):Int) > 0 then (2:Int) - ((((us.filter (lv l)).map pD).length:Nat):Int) - ((((ks.filter λk=>lv l (tO (oA os k))).map Å).length:Nat):Int) else 0))
  rw[e1,e2]
  exact⟨rfl,q⟩
end
def wV(us:List Tie)(os:List Off)(num:Int)(rs:List Rw)(tk lf:List Int):Bool:=((cg os.length tk lf).all λk=>decide (wOn (oA os k) rs<=(oA os k).2.2))&&decide (num<=cst os tk+(rs.map λr=>r.2 * lack us os tk r.1).sum)
def Mg(ds:List D)(P:D->Prop):Prop:=∃(n:Int) (us:List Tie) (b:Bool) (os:List Off) (num:Int) (d:D) (tk lf:List Int),ds=[aA n us,oT b os,.int num,d,iD tk,iD lf]/\n<=16/\us.length<=40/\tk.length<=8/\os.length<=8/\(∀k∈tk,0<=k/\k<((os.length:Nat):Int))/\iu d/\(kW n d=false->P (.bool false))/\∀rs,d=.list (rs.map rwD)->RwG n rs->P (.bool (wV us os num rs tk lf))
section
variable {P:Program}{w:World}{K:Ô}{mg:Str->Option Value}{base:Heap}{f:Addr}{fd:FuncData}
def jM:FnScope ["_law_web_here","_law_offers_here","_law_number","_law_rows","_law_taken","_law_left","_law_row","_law_k","_law_low"] ["_law_web_here","_law_offers_here","_law_number","_law_rows","_law_taken","_law_left"] (aj (top 56)):=zC
def cO:(["_law_some","_law_weight","_law_web_here","_law_offers_here","_law_number","_law_rows","_law_taken","_law_left","_law_row","_law_k","_law_low"]:List Str).Nodup:=by decide +kernel
def oW:(["_law_k","_law_web_here","_law_offers_here","_law_number","_law_rows","_law_taken","_law_left","_law_row","","_law_low"]:List Str).Nodup:=by decide +kernel
def rJ(F:Fun K "_law_weighs" "_law_weighs" (top 56) f fd)(B:Ė mg)(m_sum:mg "sum"=none)(C__law_is_set:Ñ P w K mg base 2 "_law_is_set" ["_law_n","_law_thing"] (spD Jj))(C__law_whole:Ñ P w K mg base 1 "_law_whole" ["_law_thing"] (spD Er))(C__law_leaves:Ñ P w K mg base 1 "_law_leaves" ["_law_one","_law_some"] (spD fLv))(C__law_lack:Ñ P w K mg base 2 "_law_lack" ["_law_web_here","_law_offers_here","_law_numbers","_law_some"] (spD fLk)):FnOk P w K mg base CX0 3 f fd ["_law_web_here","_law_offers_here","_law_number","_law_rows","_law_taken","_law_left"] (spD Mg):=by
 refine F.ok jM Ć (λcdv A outer s H vs Q E hr h=>?_)
 have nd:=jM.nd
 refine⟨_,ē (Û (ý (ċ (ö (ī lW B.isinstance (Ä 3) (Wr.wty rfl B.list boot_list)))) (Ö (ß Ħ)) â)
  (Û (Wr.gK Ğ rfl (ĩ (Ä 3)) (ì (i:=6) nd rfl zQ) (Û (ý (ř (ĥ (ċ (ö (ī kit_tuple B.isinstance (Ä 6) (Wr.wty rfl B.tuple boot_tuple)))) (ĥ (ĭ hr.units (ă B.len (À (Ä 6) Á)) Ã) (Ĺ (ċ (ö (ĉ C__law_is_set hr (À (Õ (Ä 0) Ã) (À (Õ (Ä 6) Ã) Á))))))))) (Ö (ß Ħ)) â)
  (Û (ý (ř (ĥ (ċ (ö (ĉ C__law_whole hr (À (Õ (Ä 6) Ã) Á)))) (Ĺ (Wr.qg (Õ (Ä 6) Ã) Ã)))) (Ö (ß Ħ)) â) (ŏ [6] â))))
  (ŏ [6] (Û (Wr.gK Ğ rfl (Wr.bY B.range (À (ă B.len (À (Ä 1) Á)) Á)) (ì (i:=7) nd rfl zQ) (Û (ý (ř (Wr.dU (Wr.d7 hr.units (Ä 7) (Ä 4)) (Wr.dg (Wr.d7 hr.units (Ä 7) (Ä 5))))) (Ö (ý (Wr.iR (Wr.fD rfl m_sum (À (Ŭ ["_law_some","_law_weight"] rfl (ĩ (Ä 3)) (λc=>(Wr.j6 (n:=2) rfl (Ŝ (ì (i:=0) cO rfl zQ) (Ŝ (ì (i:=1) cO rfl zQ) Wr.gM)))) (λc=>(Ş (ö (ĉ C__law_leaves hr (À (Õ (Ä 3) (Ä 9)) (À (Ä 0) Á)))))) (λc=>(Ä 1))) Á)) (Õ (Õ (Ä 1) (Ä 7)) Ã)) (Ö (ß Ħ)) â)) â) (ŏ [7] â)))
  (ŏ [7] (Û (ć none (i:=8) nd rfl zQ (Wr.fD rfl m_sum (À (Wr.yZ ["_law_k"] ["_law_web_here","_law_offers_here","_law_number","_law_rows","_law_taken","_law_left","_law_row","","_law_low"] rfl (ĩ (Ä 4)) (λc=>(ì (i:=0) oW rfl zQ)) (λc=>Wr.cj) (λc=>(Õ (Õ (Ä 2) (Ä 0)) Ã)) (hk:=rfl)) Á)))
  (Û (ć none (i:=8) nd rfl zQ (ė (Ä 8) (Wr.fD rfl m_sum (À (Ŭ ["_law_some","_law_weight"] rfl (ĩ (Ä 3)) (λc=>(Wr.j6 (n:=2) rfl (Ŝ (ì (i:=0) cO rfl zQ) (Ŝ (ì (i:=1) cO rfl zQ) Wr.gM)))) (λc=>Wr.cj) (λc=>(Wr.lB (Ä 1) (ĉ C__law_lack hr (À (Ä 2) (À (Ä 3) (À (Ä 6) (À (Ä 0) Á)))))))) Á))))
  (Ö (ß (Wr.sZ (Ä 8) (Ä 2))))))))))),aM h ?_⟩
 rintro ds P ⟨n,us,b,os,num,d,tk,lf,rfl,n16,lu,lt,lo,rt,few,q0,q1⟩
 cases hr9:kW n d with
 |false =>
  refine⟨[.im (aA n us),if b=true then .sh (oT true os) else .im (oT false os),.im (.int num),aD d,.sh (iD tk),.sh (iD lf),.any,.any,.any],by show [aD (aA _ us),aD (oT b os),_,aD d,_,_,_,_,_]=_;rw[ġ,cN];rfl,?_⟩
  cases d with
  |list es =>
   obtain⟨le,fe⟩:=few es rfl
   refine ak (A:=True) ?_
   refine ak (A:=True) ?_
   refine⟨rfl,λ(i:Nat) ρ=>ρ=[.im (aA n us),if b=true then .sh (oT true os) else .im (oT false os),.im (.int num),.sh (.list es),.sh (iD tk),.sh (iD lf),.any,.any,.any]/\(es.take i).all (rwB n)=true,⟨rfl,rfl⟩,?_,?_⟩
   ·rintro i e ρ he ⟨rfl,al⟩
    have me:e∈es:=Ð he
    have et:es.take (i+1)=es.take i++[e]:=by rw[Ē,he];rfl
    refine IW (.inr rfl) ?_
    cases e with
    |tuple xs =>
     match xs,me,et with
     |[],me,et=>rintro s (rfl|rfl) <;> exact ak (A:=True) (aF (B:=True) ⟨rfl,q0 hr9⟩)
     |[x],me,et=>rintro s (rfl|rfl) <;> exact ak (A:=True) (aF (B:=True) ⟨rfl,q0 hr9⟩)
     |x::y::z::r,me,et=>rintro s (rfl|rfl) <;> exact ak (A:=True) (aF (B:=True) ⟨rfl,q0 hr9⟩)
     |[x,y],me,et =>
      have fx:=fe _ me x y rfl
      rintro s (rfl|rfl)
      all_goals
       refine ak (A:=True) ?_
       refine ak (A:=True) ⟨.int n,rfl,x,rfl,n,x,rfl,n16,fx,?_⟩
       show if (!aJ n x)=true then _ else _
       cases hp:aJ n x with
       |false=>exact aF (B:=True) ⟨rfl,q0 hr9⟩
       |true =>
        refine ak (A:=True) (ak (A:=True) ⟨y,rfl,y,rfl,?_⟩)
        cases y with
        |int v =>
         refine ak (A:=True) ⟨.int v,rfl,?_⟩
         show if decide (v<1)=true then _ else _
         refine bH (λc=>⟨rfl,q0 hr9⟩) (λc=>⟨rfl,?_⟩)
         have c:¬v<1:=λz=>c (decide_eq_true z)
         rw[et,List.all_append,al,Ő]
         show(true&&((aJ n x&&decide ((1:Int)<=v))&&true))=true
         rw[hp,decide_eq_true (by omega)]
         rfl
        |_=>exact aF (B:=True) ⟨rfl,q0 hr9⟩
    |_=>rintro s (rfl|rfl) <;> exact aF (B:=True) ⟨rfl,q0 hr9⟩
   ·rintro ρ ⟨rfl,al⟩
    rw[ě] at al
    have hr9:es.all (rwB n)=false:=hr9
    rw[al] at hr9
    cases hr9
  |tuple es=>rcases bI (.tuple es) with e|e <;> rw[e] <;> exact aF (B:=True) ⟨rfl,q0 hr9⟩
  |_=>exact aF (B:=True) ⟨rfl,q0 hr9⟩
 |true =>
 obtain⟨rs,rfl,ok⟩:=Bm n16 few hr9
 have q:=q1 rs rfl ok
 refine⟨[.im (aA n us),if b=true then .sh (oT true os) else .im (oT false os),.im (.int num),.sh (.list (rs.map rwD)),.sh (iD tk),.sh (iD lf),.any,.any,.any],by show [aD (aA _ us),aD (oT b os),_,_,_,_,_,_,_]=_;rw[ġ,cN];rfl,?_⟩
 have lr:=ok.1
 have lm:(os.map oD).length=os.length:=Â ..
 cases b
 all_goals
  refine ak (A:=True) ?_
  refine ak (A:=True) ?_
  refine LQ rs rwD (λρ=>ρ=[.im (aA n us),_,.im (.int num),.sh (.list (rs.map rwD)),.sh (iD tk),.sh (iD lf),.any,.any,.any]) rfl rfl rfl ?_ ?_
  ·rintro r hr ρ rfl
   refine ak (A:=True) ?_
   refine ak (A:=True) ⟨.int n,rfl,iD r.1,rfl,n,iD r.1,rfl,n16,qW (by have:=(ok.2 r hr).1.few;omega),?_⟩
   show if (!aJ n (iD r.1))=true then _ else _
   rw[show aJ n (iD r.1)=true from eF (ok.2 r hr).1]
   refine ak (A:=True) (ak (A:=True) ⟨.int r.2,rfl,.int r.2,rfl,ak (A:=True) ⟨.int r.2,rfl,?_⟩⟩)
   show if decide (r.2<1)=true then _ else _
   rw[decide_eq_false (by have:=(ok.2 r hr).2;omega)]
   exact ak (A:=True) rfl
  ·rintro ρ rfl
   refine⟨⟨by show(-(2:Int) ^ 62)<=(((os.map oD).length:Nat):Int);omega,by show(((os.map oD).length:Nat):Int)<2 ^ 62;omega⟩,?_⟩
   refine⟨rfl,λ(i:Nat) ρ=>ρ=[.im (aA n us),_,.im (.int num),.sh (.list (rs.map rwD)),.sh (iD tk),.sh (iD lf),.any,.any,.any]/\∀j:Nat,j<i->0+((j:Nat):Int)∉tk->0+((j:Nat):Int)∉lf->wOn (oA os (0+((j:Nat):Int))) rs<=(oA os (0+((j:Nat):Int))).2.2,⟨rfl,λj hj=>absurd hj (by omega)⟩,?_,?_⟩
   ·rintro i d ρ hd ⟨rfl,hv⟩
    obtain⟨x,hx,rfl⟩:=jC hd
    obtain⟨hi,rfl⟩:=Ý.mp hx
    rw[ĳ,show((((os.map oD).length:Nat):Int)).toNat=os.length by rw[lm];rfl] at hi
    rw[List.getElem_range]
    generalize hk:0+((i:Nat):Int)=k at *
    have k0:0<=k:=by omega
    have k1:k<((os.length:Nat):Int):=by omega
    refine⟨rfl,dI tk,?_⟩
    show if (!((tk.map Å).any λe=>ą e (.int k)))=true then _ else _
    rw[Ů]
    by_cases c1:k∈tk
    ·rw[decide_eq_true c1]
     exact ak (A:=True) ⟨rfl,λj hj n1 n2=>by
      rcases Nat.lt_succ_iff_lt_or_eq.mp hj with z|rfl
      ·exact hv j z n1 n2
      ·rw[hk] at n1
       exact(n1 c1).elim⟩
    rw[decide_eq_false c1]
    refine aF (B:=True) ⟨rfl,dI lf,?_⟩
    show if (!((lf.map Å).any λe=>ą e (.int k)))=true then _ else _
    rw[Ů]
    by_cases c2:k∈lf
    ·rw[decide_eq_true c2]
     exact ak (A:=True) ⟨rfl,λj hj n1 n2=>by
      rcases Nat.lt_succ_iff_lt_or_eq.mp hj with z|rfl
      ·exact hv j z n1 n2
      ·rw[hk] at n2
       exact(n2 c2).elim⟩
    rw[decide_eq_false c2]
    refine aF (B:=True) ?_
    refine jf rs rwD (λr=>lv r.1 (tO (oA os k))) (λr=>.int r.2) .imm rfl (by omega) (λr hr A B hA hB=>⟨rfl,vK λs0 s1 e0 e1=>?_⟩) ?_
    ·have e0:s0=.sh (iD r.1):=e0
     have e1:s1=.im (.int r.2):=e1
     subst e0 e1
     refine⟨oD (oA os k),eN k0 k1,tO (oA os k),[.int (oA os k).2.2],r.1,rfl,rfl,?_⟩
     show if lv r.1 (tO (oA os k))=true then _ else _
     cases h:lv r.1 (tO (oA os k)) with
     |true=>exact aF (B:=B) ⟨rfl,hA h⟩
     |false=>exact ak (A:=True) (hB h)
    ·refine⟨(rs.filter λr:Rw=>lv r.1 (tO (oA os k))).map λr:Rw=>r.2,by rw[ç];rfl,oD (oA os k),eN k0 k1,.int (oA os k).2.2,rfl,?_⟩
     show if decide ((oA os k).2.2<wOn (oA os k) rs)=true then _ else _
     by_cases c3:(oA os k).2.2<wOn (oA os k) rs
     ·rw[decide_eq_true c3]
      refine aF (B:=True) ⟨rfl,?_⟩
      have e:wV us os num rs tk lf=false:=by
       show(((cg os.length tk lf).all λk=>decide (wOn (oA os k) rs<=(oA os k).2.2))&&_)=false
       rw[show((cg os.length tk lf).all λk=>decide (wOn (oA os k) rs<=(oA os k).2.2))=false from by
        rw[List.all_eq_false]
        exact⟨k,aX.mpr ⟨⟨k0,k1⟩,c1,c2⟩,by rw[decide_eq_true_eq];omega⟩]
       rfl
      rw[e] at q
      exact q
     ·rw[decide_eq_false c3]
      exact ak (A:=True) ⟨rfl,λj hj n1 n2=>by
       rcases Nat.lt_succ_iff_lt_or_eq.mp hj with z|rfl
       ·exact hv j z n1 n2
       ·rw[hk]
        omega⟩
   ·rintro ρ ⟨rfl,hv⟩
    have q:P (.bool (decide (num<=cst os tk+(rs.map λr=>r.2 * lack us os tk r.1).sum))):=by
     have e:wV us os num rs tk lf=(((cg os.length tk lf).all λk=>decide (wOn (oA os k) rs<=(oA os k).2.2))&&decide (num<=cst os tk+(rs.map λr=>r.2 * lack us os tk r.1).sum)):=rfl
     rw[e,show((cg os.length tk lf).all λk=>decide (wOn (oA os k) rs<=(oA os k).2.2))=true from ï.mpr λk hk=>by
      have hk:=aX.mp hk
      have e:0+((k.toNat:Nat):Int)=k:=by omega
      have:=hv k.toNat (by unfold bA;rw[Â,ĳ,lm];omega) (by rw[e];exact hk.2.1) (by rw[e];exact hk.2.2)
      rw[e] at this
      exact decide_eq_true this] at q
     exact q
    refine qP tk Å (λk=>.int (oA os k).2.2) .imm rfl (by omega) (λk hk A B hA=>aF (B:=B) ⟨oD (oA os k),eN (rt k hk).1 (rt k hk).2,.int (oA os k).2.2,rfl,rfl,hA⟩) ?_
    refine⟨tk.map λk=>(oA os k).2.2,by rw[ç];rfl,?_⟩
    refine qP rs rwD (λr=>.int (r.2 * lack us os tk r.1)) .imm rfl (by omega) (λr hr A B hA=>⟨rfl,vK λs0 s1 e0 e1=>?_⟩) ?_
    ·have e0:s0=.sh (iD r.1):=e0
     have e1:s1=.im (.int r.2):=e1
     subst e0 e1
     have lr:=xK us os tk r.1
     refine aF (B:=B) ?_
     first
      |exact⟨n,us,false,os,tk,r.1,rfl,lu,lt,rt,.inr ⟨by omega,by omega⟩,rfl,hA⟩
      |exact⟨n,us,true,os,tk,r.1,rfl,lu,lt,rt,.inr ⟨by omega,by omega⟩,rfl,hA⟩
    ·refine⟨rs.map λr:Rw=>r.2 * lack us os tk r.1,by rw[ç];rfl,?_⟩
     exact⟨rfl,q⟩
end
def fLH:Nat->List D->(D->Prop)->Prop
 |0,_,_=>False
 |d+1,ds,P=>∃(n:Int) (us:List Tie) (b:Bool) (os:List Off) (num:Int) (t:Bt) (tk lf:List Int),ds=[aA n us,oT b os,.int num,t.D,iD tk,iD lf]/\t.Ok d/\n<=16/\us.length<=40/\os.length<=8/\tk.length+d<=8/\lf.length+d<=8/\(∀k∈tk,0<=k/\k<((os.length:Nat):Int))/\P (.bool (gB n us os num t tk lf))
def vI:∀l:List Int,cD (l.map Å)=true
 |[]=>rfl
 |_::l=>vI l
def vP(a b:List Int):a.map Å++b.map Å=(a++b).map Å:=List.map_append.symm
def pN(a:List Int)(k:Int):a.map Å++[Å k]=(a++[k]).map Å:=vP a [k]
def T8{w:Str}{y a b:D}:bC w 4 (.tuple [.str w,y,a,b])=true:=by
 show(decide ((4:Int)=4)&&decide (w=w))=true
 rw[decide_eq_true rfl,decide_eq_true rfl]
 rfl
def Jc{w:Str}{y:D}:bC w 2 (.tuple [.str w,y])=true:=by
 show(decide ((2:Int)=2)&&decide (w=w))=true
 rw[decide_eq_true rfl,decide_eq_true rfl]
 rfl
section
variable {P:Program}{w:World}{K:Ô}{mg:Str->Option Value}{base:Heap}{f:Addr}{fd:FuncData}{kk:Nat}
def gA:FnScope ["_law_web_here","_law_offers_here","_law_number","_law_wood","_law_taken","_law_left","_law_others"] ["_law_web_here","_law_offers_here","_law_number","_law_wood","_law_taken","_law_left"] (aj (top 57)):=zC
def qK:(["_law_k","_law_web_here","_law_offers_here","_law_number","_law_wood","_law_taken","_law_left","_law_others"]:List Str).Nodup:=by decide +kernel
def Qn(F:Fun K "_law_holds" "_law_holds" (top 57) f fd)(B:Ė mg)(m_str:mg "str"=none)(C__law_whole:Ñ P w K mg base 1 "_law_whole" ["_law_thing"] (spD Er))(C__law_holds:Ñ P w K mg base (kk+4) "_law_holds" ["_law_web_here","_law_offers_here","_law_number","_law_wood","_law_taken","_law_left"] (spD (fLH kk)))(C__law_lack:Ñ P w K mg base 2 "_law_lack" ["_law_web_here","_law_offers_here","_law_numbers","_law_some"] (spD fLk))(C__law_is_set:Ñ P w K mg base 2 "_law_is_set" ["_law_n","_law_thing"] (spD Jj))(C__law_weighs:Ñ P w K mg base 3 "_law_weighs" ["_law_web_here","_law_offers_here","_law_number","_law_rows","_law_taken","_law_left"] (spD Mg)):FnOk P w K mg base CX0 (kk+5) f fd ["_law_web_here","_law_offers_here","_law_number","_law_wood","_law_taken","_law_left"] (spD (fLH (kk+1))):=by
 refine F.ok gA Ć (λcdv A outer s H vs Q E hr h=>?_)
 have nd:=gA.nd
 refine⟨_,ē (Û (ý (ř (ĥ (ċ (ö (ī kit_tuple B.isinstance (Ä 3) (Wr.wty rfl B.tuple boot_tuple)))) (ĥ (Wr.qg (ă B.len (À (Ä 3) Á)) Ã) (Ĺ (ċ (ö (ī Cj B.isinstance (Õ (Ä 3) Ã) (Wr.wty rfl m_str Dl.boot_str)))))))) (Ö (ß Ħ)) â)
  (Û (ý (Č hr.units (Õ (Ä 3) Ã) č) (Û (ý (ř (ĥ (ĭ hr.units (ă B.len (À (Ä 3) Á)) Ã) (ĥ (ċ (ö (ĉ (hk:=by omega) C__law_whole hr (À (Õ (Ä 3) Ã) Á)))) (Ĺ (ċ (Wr.fZ wO oF Ã (Õ (Ä 3) Ã) (ă B.len (À (Ä 1) Á)))))))) (Ö (ß Ħ)) â)
  (Û (ý (Wr.ql hr.units (Õ (Ä 3) Ã) (ė (Ä 4) (Ä 5))) (Ö (ß Ħ)) â)
  (Û (ý (ċ (ö (ĉ (hk:=by omega) C__law_holds hr (À (Ä 0) (À (Ä 1) (À (Ä 2) (À (Õ (Ä 3) Ã) (À (ė (Ä 4) (í (À (Õ (Ä 3) Ã) Á))) (À (Ä 5) Á))))))))) (Ö (ß Ħ)) â)
  (Ö (ß (ĉ (hk:=by omega) C__law_holds hr (À (Ä 0) (À (Ä 1) (À (Ä 2) (À (Õ (Ä 3) Ã) (À (Ä 4) (À (ė (Ä 5) (í (À (Õ (Ä 3) Ã) Á))) Á)))))))))))) â)
  (Û (ý (ĭ hr.units (ă B.len (À (Ä 3) Á)) Ã) (Ö (ß Ħ)) â)
  (Û (ý (Č hr.units (Õ (Ä 3) Ã) č) (Û (Wr.jk none ["_law_k"] (i:=6) rfl nd rfl zQ (Wr.bY B.range (À (ă B.len (À (Ä 1) Á)) Á)) (λc=>(ì (i:=0) qK rfl zQ)) (λc=>(Ş (Wr.d7 hr.units (Ä 0) (Ä 6)))) (λc=>(Ä 0)))
  (Ö (ß (Ŏ (ĉ (hk:=by omega) C__law_is_set hr (À (Õ (Ä 0) Ã) (À (Õ (Ä 3) Ã) Á))) (ű (Wr.sY (ĉ (hk:=by omega) C__law_lack hr (À (Ä 0) (À (Ä 1) (À (Ä 6) (À (Õ (Ä 3) Ã) Á))))) Ã)))))) â)
  (ŏ [6] (Ö (ß (Ŏ (Wr.uZ hr.units (Õ (Ä 3) Ã) č) (ű (ĉ (hk:=by omega) C__law_weighs hr (À (Ä 0) (À (Ä 1) (À (Ä 2) (À (Õ (Ä 3) Ã) (À (Ä 4) (À (Ä 5) Á)))))))))))))))),aM h ?_⟩
 rintro ds P ⟨n,us,b,os,num,t,tk,lf,rfl,g,n16,lu,lo,lt,ll,rt,q⟩
 refine⟨[.im (aA n us),if b=true then .sh (oT true os) else .im (oT false os),.im (.int num),aD t.D,.sh (iD tk),.sh (iD lf),.any],by show [aD (aA _ us),aD (oT b os),_,_,_,_,_]=_;rw[ġ,cN];rfl,?_⟩
 have lm:(os.map oD).length=os.length:=Â ..
 rcases bI t.D with e|e
 all_goals
  rw[e]
  cases b
  all_goals
   cases t with
   |tri x t1 t2 =>
    cases kk with
    |zero=>exact g.elim
    |succ d =>
     refine ak (A:=True) (ak (A:=True) (ak (A:=True) ⟨.str "try",rfl,ak (A:=True) (ak (A:=True) ?_)⟩))
     refine⟨.str "try",rfl,aF (B:=True) (ak (A:=True) ?_)⟩
     refine⟨x,rfl,x,rfl,?_⟩
     cases x with
     |int k =>
      have q:P (.bool (decide (k∈cg os.length tk lf)&&(gB n us os num t1 (tk++[k]) lf&&gB n us os num t2 tk (lf++[k])))):=q
      have out:¬(0<=k/\k<((os.length:Nat):Int))->P (.bool false):=λz=>by
       rw[decide_eq_false (λy=>z (aX.mp y).1)] at q
       exact q
      refine ak (A:=True) ⟨.int k,rfl,?_⟩
      show if decide ((0:Int)<=k)=true then _ else _
      refine bH (λd0=>?_) (λd0=>aF (B:=True) ⟨rfl,out λz=>d0 (decide_eq_true z.1)⟩)
      have k0:=of_decide_eq_true d0
      show if (!decide (k<(((os.map oD).length:Nat):Int)))=true then _ else _
      rw[lm]
      cases d1:decide (k<((os.length:Nat):Int)) with
      |false=>exact aF (B:=True) ⟨rfl,out λz=>by rw[decide_eq_true z.2] at d1;cases d1⟩
      |true =>
      have k1:=of_decide_eq_true d1
      refine ak (A:=True) ⟨.int k,rfl,?_⟩
      have la:(tk.map Å).length=tk.length:=Â ..
      have lb:(lf.map Å).length=lf.length:=Â ..
      have im1:cD (tk.map Å++lf.map Å)=true:=by rw[vP];exact vI _
      have im2:cD (tk.map Å++[Å k])=true:=by rw[pN];exact vI _
      have im3:cD (lf.map Å++[Å k])=true:=by rw[pN];exact vI _
      refine⟨by omega,.inl ⟨im1,rfl,by rw[vP];exact dI _,?_⟩⟩
      show if ((tk.map Å++lf.map Å).any λe=>ą e (.int k))=true then _ else _
      rw[vP,Ů]
      by_cases c:k∈tk++lf
      ·rw[decide_eq_true c]
       rw[decide_eq_false (λz=>by have z:=aX.mp z;exact(Ù.mp c).elim z.2.1 z.2.2)] at q
       exact aF (B:=True) ⟨rfl,q⟩
      rw[decide_eq_false c]
      rw[decide_eq_true (aX.mpr ⟨⟨k0,k1⟩,λz=>c (ū _ z),λz=>c (ë _ z)⟩),ĺ] at q
      refine ak (A:=True) ⟨t1.D,rfl,.int k,rfl,one_le 999,by show(tk.map Å).length+1<=1000;omega,.inl ⟨im2,?_⟩⟩
      have d1:∀b':Bool,[aA n us,oT b' os,.int num,t1.D,.list (tk.map Å++[Å k]),iD lf]=[aA n us,oT b' os,.int num,t1.D,iD (tk++[k]),iD lf]:=λb'=>by
       rw[pN]
       rfl
      have d2:∀b':Bool,[aA n us,oT b' os,.int num,t2.D,iD tk,.list (lf.map Å++[Å k])]=[aA n us,oT b' os,.int num,t2.D,iD tk,iD (lf++[k])]:=λb'=>by
       rw[pN]
       rfl
      have l1:(tk++[k]).length+d<=8:=by rw[Î];show tk.length+1+d<=8;omega
      have l2:(lf++[k]).length+d<=8:=by rw[Î];show lf.length+1+d<=8;omega
      have r1:∀x∈tk++[k],0<=x/\x<((os.length:Nat):Int):=λx hx=>by
       rcases Ù.mp hx with z|z
       ·exact rt x z
       ·rw[Ò.mp z]
        exact⟨k0,k1⟩
      first
       |refine⟨n,us,false,os,num,t1,tk++[k],lf,d1 false,g.1,n16,lu,lo,l1,by omega,r1,?_⟩
       |refine⟨n,us,true,os,num,t1,tk++[k],lf,d1 true,g.1,n16,lu,lo,l1,by omega,r1,?_⟩
      all_goals
       show if (!gB n us os num t1 (tk++[k]) lf)=true then _ else _
       cases e1:gB n us os num t1 (tk++[k]) lf with
       |false =>
        rw[e1] at q
        exact aF (B:=True) ⟨rfl,q⟩
       |true =>
        rw[e1] at q
        refine ak (A:=True) ⟨t2.D,rfl,.int k,rfl,one_le 999,by show(lf.map Å).length+1<=1000;omega,.inl ⟨im3,?_⟩⟩
        first
         |exact⟨n,us,false,os,num,t2,tk,lf++[k],d2 false,g.2,n16,lu,lo,by omega,l2,rt,rfl,q⟩
         |exact⟨n,us,true,os,num,t2,tk,lf++[k],d2 true,g.2,n16,lu,lo,by omega,l2,rt,rfl,q⟩
     |tuple xs=>exact aF (B:=True) ⟨rfl,q⟩
     |_=>exact aF (B:=True) ⟨rfl,q⟩
   |bar s =>
    have g:Few s:=by cases kk <;> exact g
    have q:P (.bool (aJ n s&&decide (0<lack us os (oN os.length lf) (Dp s)))):=q
    refine ak (A:=True) (ak (A:=True) (ak (A:=True) ⟨.str "barred",rfl,ak (A:=True) (ak (A:=True) ?_)⟩))
    refine⟨.str "barred",rfl,ak (A:=True) (ak (A:=True) (ak (A:=True) ⟨.str "barred",rfl,aF (B:=True) ?_⟩))⟩
    refine⟨⟨by show(-(2:Int) ^ 62)<=(((os.map oD).length:Nat):Int);omega,by show(((os.map oD).length:Nat):Int)<2 ^ 62;omega⟩,?_⟩
    have eI:bA 0 (((os.map oD).length:Nat):Int).toNat=(cB os.length).map Å:=by
     rw[lm]
     unfold bA cB
     rw[ç]
     rfl
    have lz:(cB os.length).length=os.length:=by
     unfold cB
     rw[Â,ĳ]
    refine jf (cB os.length) Å (λx=>!decide (x∈lf)) Å .imm eI (by omega) (λx hx A B hA hB=>⟨rfl,dI lf,?_⟩) ?_
    ·show if (!((lf.map Å).any λe=>ą e (.int x)))=true then _ else _
     rw[Ů]
     by_cases e:x∈lf
     ·rw[decide_eq_true e]
      exact ak (A:=True) (hB (by rw[decide_eq_true e];rfl))
     ·rw[decide_eq_false e]
      exact aF (B:=B) ⟨rfl,hA (by rw[decide_eq_false e];rfl)⟩
    have lo8:(oN os.length lf).length<=8:=by
     have:=List.length_filter_le (λx=>!decide (x∈lf)) (cB os.length)
     unfold oN
     omega
    have ro:∀k∈oN os.length lf,0<=k/\k<((os.length:Nat):Int):=λk hk=>fV.mp (đ.mp hk).1
    refine⟨.int n,rfl,s,rfl,n,s,rfl,n16,g,?_⟩
    show if aJ n s=true then _ else _
    cases hp:aJ n s with
    |false =>
     rw[hp] at q
     exact ak (A:=True) ⟨rfl,q⟩
    |true =>
     rw[hp,ĺ] at q
     obtain⟨l,rfl,pl⟩:=jV n16 hp
     rw[uI] at q
     refine aF (B:=True) ⟨iD l,rfl,?_⟩
     first
      |exact⟨n,us,false,os,oN os.length lf,l,rfl,lu,lo8,ro,rfl,q⟩
      |exact⟨n,us,true,os,oN os.length lf,l,rfl,lu,lo8,ro,rfl,q⟩
   |wts r =>
    have g:iu r:=by cases kk <;> exact g
    have q:P (.bool (kW n r&&wV us os num (sU r) tk lf)):=q
    refine ak (A:=True) (ak (A:=True) (ak (A:=True) ⟨.str "weights",rfl,ak (A:=True) (ak (A:=True) ?_)⟩))
    refine⟨.str "weights",rfl,ak (A:=True) (ak (A:=True) (ak (A:=True) ⟨.str "weights",rfl,ak (A:=True) ⟨.str "weights",rfl,aF (B:=True) ⟨r,rfl,?_⟩⟩⟩))⟩
    have q0:kW n r=false->P (.bool false):=λz=>by rw[z] at q;exact q
    have q1:∀rs,r=.list (rs.map rwD)->RwG n rs->P (.bool (wV us os num rs tk lf)):=λrs z ok=>by
     subst z
     rw[Bl ok,ĺ,wI] at q
     exact q
    first
     |exact⟨n,us,false,os,num,r,tk,lf,rfl,n16,lu,by omega,lo,rt,g,λz=>⟨rfl,q0 z⟩,λrs z ok=>⟨rfl,q1 rs z ok⟩⟩
     |exact⟨n,us,true,os,num,r,tk,lf,rfl,n16,lu,by omega,lo,rt,g,λz=>⟨rfl,q0 z⟩,λrs z ok=>⟨rfl,q1 rs z ok⟩⟩
   |odd d =>
    have g:bC "try" 4 d=false/\bC "barred" 2 d=false/\bC "weights" 2 d=false:=by cases kk <;> exact g
    cases d with
    |tuple es =>
     match es,g with
     |[],g=>exact ak (A:=True) (aF (B:=True) ⟨rfl,q⟩)
     |[x],g=>exact ak (A:=True) (aF (B:=True) ⟨rfl,q⟩)
     |x::y::r,g =>
      have a0:atI (x::y::r) 0=some x:=at0
      cases x with
      |str z =>
       refine ak (A:=True) (ak (A:=True) (ak (A:=True) ⟨.str z,a0,ak (A:=True) (ak (A:=True) ?_)⟩))
       refine⟨.str z,a0,?_⟩
       show if decide (z="try")=true then _ else _
       refine bH (λc=>?_) (λc=>?_)
       ·have c:=of_decide_eq_true c
        match r,g with
        |[],g=>exact aF (B:=True) ⟨rfl,q⟩
        |[_],g=>exact aF (B:=True) ⟨rfl,q⟩
        |[a,b],g =>
         subst c
         exact absurd g.1 (by rw[T8];exact Bool.noConfusion)
        |_::_::_::_,g=>exact aF (B:=True) ⟨rfl,q⟩
       ·match r,g with
        |_::_,g=>exact aF (B:=True) ⟨rfl,q⟩
        |[],g =>
         have nb:z≠"barred":=λe=>by
          subst e
          exact absurd g.2.1 (by rw[Jc];exact Bool.noConfusion)
         have nw:z≠"weights":=λe=>by
          subst e
          exact absurd g.2.2 (by rw[Jc];exact Bool.noConfusion)
         have a0:atI [PyData.str z,y] 0=some (.str z):=at0
         refine ak (A:=True) (ak (A:=True) ⟨.str z,a0,?_⟩)
         show if decide (z="barred")=true then _ else _
         rw[decide_eq_false nb]
         refine ak (A:=True) ⟨.str z,a0,?_⟩
         show if decide (z="weights")=true then _ else _
         rw[decide_eq_false nw]
         exact ak (A:=True) ⟨rfl,q⟩
      |_=>exact ak (A:=True) (ak (A:=True) (ak (A:=True) ⟨_,a0,aF (B:=True) ⟨rfl,q⟩⟩))
    |_=>exact aF (B:=True) ⟨rfl,q⟩
def Qq(F:Fun K "_law_holds" "_law_holds" (top 57) f fd):FnOk P w K mg base CX0 4 f fd ["_law_web_here","_law_offers_here","_law_number","_law_wood","_law_taken","_law_left"] (spD (fLH 0)) :=
 F.ok gA (Ć λds P h=>h.elim) (λcdv A outer s H vs Q E hr h=>by
  obtain⟨_,_,_,t,_⟩:=h
  exact t.elim)
def Qo(k:Nat)(F:Fun K "_law_holds" "_law_holds" (top 57) f fd)(B:Ė mg)(m_str:mg "str"=none)(b:Binds K fd ["_law_web_here","_law_offers_here","_law_number","_law_wood","_law_taken","_law_left"] [])(m:mg "_law_holds"=some (.ref f))(C1:Ñ P w K mg base 1 "_law_whole" ["_law_thing"] (spD Er))(C2:Ñ P w K mg base 2 "_law_is_set" ["_law_n","_law_thing"] (spD Jj))(C3:Ñ P w K mg base 2 "_law_lack" ["_law_web_here","_law_offers_here","_law_numbers","_law_some"] (spD fLk))(C4:Ñ P w K mg base 3 "_law_weighs" ["_law_web_here","_law_offers_here","_law_number","_law_rows","_law_taken","_law_left"] (spD Mg)):FnOk P w K mg base CX0 (k+4) f fd ["_law_web_here","_law_offers_here","_law_number","_law_wood","_law_taken","_law_left"] (spD (fLH k)):=by
 induction k with
 |zero=>exact Qq F
 |succ k ih =>
  have r:=Qn F B m_str C1 ⟨f,fd,ih,b,F.kp,m⟩ C3 C2 C4
  rw[show k+1+4=k+5 by omega]
  exact r
def Qp(F:Fun K "_law_holds" "_law_holds" (top 57) f fd)(B:Ė mg)(m_str:mg "str"=none)(b:Binds K fd ["_law_web_here","_law_offers_here","_law_number","_law_wood","_law_taken","_law_left"] [])(m:mg "_law_holds"=some (.ref f))(C1:Ñ P w K mg base 1 "_law_whole" ["_law_thing"] (spD Er))(C2:Ñ P w K mg base 2 "_law_is_set" ["_law_n","_law_thing"] (spD Jj))(C3:Ñ P w K mg base 2 "_law_lack" ["_law_web_here","_law_offers_here","_law_numbers","_law_some"] (spD fLk))(C4:Ñ P w K mg base 3 "_law_weighs" ["_law_web_here","_law_offers_here","_law_number","_law_rows","_law_taken","_law_left"] (spD Mg)):FnOk P w K mg base CX0 12 f fd ["_law_web_here","_law_offers_here","_law_number","_law_wood","_law_taken","_law_left"] (spD (fLH 8)):=Qo 8 F B m_str b m C1 C2 C3 C4
end
def Ai(n:Nat)(b:Int):List Nat:=(ä n).filter λv=>decide (Builtin.bitAnd (b / 2 ^ (0+((v:Nat):Int)).toNat) 1=1)
def Mt:((ä 9).all λn=>(ä (2 ^ n - 2)).all λb=>decide (1<=(Ai n (1+((b:Nat):Int))).length)&&decide ((Ai n (1+((b:Nat):Int))).length<n))=true:=by decide +kernel
def zL(l:List Nat):List Int:=l.map λv=>0+((v:Nat):Int)
def xY{n b:Int}(n2:2<=n)(n8:n<=8)(b0:0<=b)(b1:b<1 * 2 ^ n.toNat - 2):Proper n (zL (Ai n.toNat (1+b))):=by
 have h:=ï.mp Mt n.toNat (ę.mpr (by omega))
 have e2:((2 ^ n.toNat:Nat):Int)=2 ^ n.toNat:=by rw[Int.natCast_pow];rfl
 have hb:b.toNat<2 ^ n.toNat - 2:=by omega
 have h:=ï.mp h b.toNat (ę.mpr hb)
 rw[show((b.toNat:Nat):Int)=b by omega,Ê,decide_eq_true_iff,decide_eq_true_iff] at h
 have len:(zL (Ai n.toNat (1+b))).length=(Ai n.toNat (1+b)).length:=Â ..
 refine⟨by omega,by omega,λx hx=>?_,?_,by omega⟩
 ·obtain⟨v,hv,rfl⟩:=ø.mp hx
  have:=ę.mp (đ.mp hv).1
  omega
 ·unfold zL
  rw[Ŧ]
  exact(List.pairwise_lt_range.filter _).imp λh=>by omega
def Mi(ds:List D)(P:D->Prop):Prop:=∃n:Int,ds=[.int n]/\2<=n/\n<=8/\∀l,Proper n l->P (iD l)
section
variable {P:Program}{w:World}{K:Ô}{mg:Str->Option Value}{base:Heap}{f:Addr}{fd:FuncData}
def pY:FnScope ["_law_pen_here","_law_n","_law_bits"] ["_law_pen_here","_law_n"] (aj (top 49)):=zC
def vm:(["_law_v","_law_pen_here","_law_n","_law_bits"]:List Str).Nodup:=by decide +kernel
def zu(F:Fun K "_law_set" "_law_set" (top 49) f fd)(B:Ė mg)(C__law_draw:Ñ P w K mg base 1 "_law_draw" ["_law_pen_here","_law_many"] (bB 1 eV)):FnOk P w K mg base CX0 2 f fd ["_law_pen_here","_law_n"] (bB 10 Mi):=by
 refine F.ok pY dF (λcdv A outer s H vs Q E hr h=>?_)
 have nd:=pY.nd
 refine⟨_,Wb.BSs.h (Wb.cons (Wb.set none (i:=2) nd rfl zQ (Wb.plus (Wb.e0 Ã) (Wb.dcP C__law_draw hr (Ă 0) (Wb.a0 (À (Ł (Wr.PN Ã (Ä 1)) Ã) Á)))))
  (Wb.ss0 (Ö (ß (Ŭ ["_law_v"] rfl (Wr.bY B.range (À (Ä 1) Á)) (λc=>(ì (i:=0) vm rfl zQ)) (λc=>(Ş (Č hr.units (Wr.Kv (Wr.PL (Ä 3) (Ä 0)) Ã) Ã))) (λc=>(Ä 0))))))),Wb.nH h rfl ?_⟩
 rintro ds P ⟨n,rfl,n2,n8,q⟩
 refine⟨[.im (.int n),.any],rfl,?_⟩
 have p2:(4:Int)<=2 ^ n.toNat/\(2:Int) ^ n.toNat<=256:=by
  have:n=2\/n=3\/n=4\/n=5\/n=6\/n=7\/n=8:=by omega
  rcases this with rfl|rfl|rfl|rfl|rfl|rfl|rfl <;> exact⟨by decide,by decide⟩
 refine⟨rfl,⟨by omega,by omega,by decide⟩,_,rfl,by omega,by omega,λb b0 b1=>?_⟩
 refine⟨⟨by omega,by omega⟩,jf (ä n.toNat) (λv=>Å (0+((v:Nat):Int))) (λv=>decide (Builtin.bitAnd ((1+b) / 2 ^ (0+((v:Nat):Int)).toNat) 1=1)) (λv=>Å (0+((v:Nat):Int))) .imm rfl (by rw[ĳ];omega) (λv hv A B hA hB=>⟨by omega,?_⟩) ?_⟩
 ·show if decide (Builtin.bitAnd ((1+b) / 2 ^ (0+((v:Nat):Int)).toNat) 1=1)=true then _ else _
  exact bH (λc=>⟨rfl,hA c⟩) (λc=>hB (by simpa using c))
 have e:((ä n.toNat).filter λv=>decide (Builtin.bitAnd ((1+b) / 2 ^ (0+((v:Nat):Int)).toNat) 1=1)).map (λv=>Å (0+((v:Nat):Int)))=(zL (Ai n.toNat (1+b))).map Å:=by
  unfold zL Ai
  rw[ç]
  rfl
 rw[e]
 exact⟨rfl,q _ (xY n2 n8 b0 b1)⟩
end
def vM:Nat->List D->(D->Prop)->Prop
 |0,_,_=>False
 |d+1,ds,P=>∃(n:Int) (m:Nat) (fr:List Int) (e:Nat),ds=[.int n,iD fr,.int ((e:Nat):Int)]/\e<=d/\1<=n/\n<=8/\m<=8/\fr.length<=8/\(∀k∈fr,0<=k/\k<(m:Int))/\∀t,Tr.Ok n m e t->P t.D
def Ij:∀l:List Int,Ĝ (l.map Å)=true
 |[]=>rfl
 |_::l=>Ij l
def xT:∀l:List Int,ô (l.map Å)<=1
 |[]=>à _
 |_::l=>by
  have:=xT l
  show max 0 (ô (l.map Å))<=1
  omega
def Qx(l:List Int):okD (iD l)=true:=by
 have h1:=Ij l
 have h2:ô (l.map Å)+1<=60:=by have:=xT l;omega
 show(Ĝ (l.map Å)&&decide (ô (l.map Å)+1<=60))=true
 rw[h1,decide_eq_true h2]
 rfl
def TQ{l:List Int}{k:Int}(h0:0<=k)(h1:k<(l.length:Nat)):∃z,atI (l.map Å) k=some (.int z)/\z∈l:=by
 obtain⟨k,rfl⟩:=Int.eq_ofNat_of_zero_le h0
 have hk:k<l.length:=by omega
 refine⟨l[k],ż (by rw[å,È hk];rfl),ņ hk⟩
def zT:∀t:Tr,cI t.D=false
 |.tri k a b=>by
  have:=zT a
  show(cI (.str "try")&&(cI (.int k)&&(cI a.D&&(cI b.D&&true))))=false
  rw[this,Bool.false_and,ļ,ļ]
 |.bar l=>rfl
 |.wts rs=>rfl
def aZ(t:Tr):¬cI t.D=true:=by
 rw[zT]
 exact Ì
def uG(d:D):(norm .snw d).le .n0=true:=by
 show(if cI d then Kd.imm else .snw).le .n0=true
 split <;> rfl
def RT(n:Int)(kk:Nat)(fr:List Int)(s7:Sl):List Sl:=[.pen TP,.im (.int n),.sh (iD fr),.im (.int ((kk:Nat):Int)),.any,.any,.any,s7,.any]
section
variable {P:Program}{w:World}{K:Ô}{mg:Str->Option Value}{base:Heap}{f:Addr}{fd:FuncData}{CN:Addr}{kk cc:Nat}
def iC:FnScope ["_law_pen_here","_law_n","_law_free","_law_deep","_law_number","_law_rest","_law_one","_law_rows","_law_k"] ["_law_pen_here","_law_n","_law_free","_law_deep"] (aj (top 58)):=zC
def rO:(["_law_k","_law_pen_here","_law_n","_law_free","_law_deep","_law_number","_law_rest","_law_one","_law_rows",""]:List Str).Nodup:=by decide +kernel
def KH(F:Fun K "_law_tree" "_law_tree" (top 58) f fd)(B:Ė mg)(C__law_draw:Ñ P w K mg base 1 "_law_draw" ["_law_pen_here","_law_many"] (bB 1 eV))(C__law_tree:Ñ P w K mg base (kk+3) "_law_tree" ["_law_pen_here","_law_n","_law_free","_law_deep"] (bB cc (vM kk)))(C__law_set:Ñ P w K mg base 2 "_law_set" ["_law_pen_here","_law_n"] (bB 10 Mi)):FnOk P w K mg base CX0 (kk+4) f fd ["_law_pen_here","_law_n","_law_free","_law_deep"] (bB (2*cc+20000) (vM (kk+1))):=by
 refine F.ok iC dF (λcdv A outer s H vs Q E hr h=>?_)
 have nd:=iC.nd
 refine⟨_,Wb.BSs.h (Wb.gn (Wb.if_ (Wb.wt (Wb.vW (Wb.t0 (ĭ hr.units (Ä 2) (í Á))) (Wb.vW (Wb.t0 (Wr.iR (Ä 3) Ã)) (Wb.yh (Wb.tgt (Wb.dcP (hk:=by omega) C__law_draw hr (Ă 0) (Wb.a0 (À Ã Á))) (Wb.e0 Ã)))))) (Wb.cons (Wb.set none (i:=4) nd rfl zQ (Wb.ix (Wb.e0 (Ä 2)) (Wb.dcP (hk:=by omega) C__law_draw hr (Ă 0) (Wb.a0 (À (ă B.len (À (Ä 2) Á)) Á)))))
  (Wb.cons (Wb.s0 (Wr.Es none ["_law_k"] ["_law_pen_here","_law_n","_law_free","_law_deep","_law_number","_law_rest","_law_one","_law_rows",""] (i:=5) rfl nd rfl zQ (ĩ (Ä 2)) (λc=>(ì (i:=0) rO rfl zQ)) (λc=>(Ş (ĭ hr.units (Ä 0) (Ä 5)))) (λc=>(Ä 0))))
  (Wb.cons (Wb.set none (i:=6) nd rfl zQ (Wb.dcP (hk:=by omega) C__law_tree hr (Ă 0) (Wb.a0 (À (Ä 1) (À (Ä 5) (À (Ł (Ä 3) Ã) Á))))))
  (Wb.one (Wb.ret (Wb.tup (Wb.aQ (Wb.e0 č) (Wb.aQ (Wb.e0 (Ä 4)) (Wb.aQ (Wb.e0 (Ä 6)) (Wb.aQ (Wb.dcP (hk:=by omega) C__law_tree hr (Ă 0) (Wb.a0 (À (Ä 1) (À (Ä 5) (À (Ł (Ä 3) Ã) Á))))) (Wb.a0 Á))))))))))) (Wb.ss0 â))
  (Wb.drops [4,5,6] (Wb.gn (Wb.if_ (Wb.wt (Wb.vW (Wb.t0 (Wr.iR (Ä 1) Ã)) (Wb.yh (Wb.teq hr.units (Wb.dcP (hk:=by omega) C__law_draw hr (Ă 0) (Wb.a0 (À Ã Á))) (Wb.e0 Ã))))) (Wb.one (Wb.ret (Wb.tup (Wb.aQ (Wb.e0 č) (Wb.aQ (Wb.dcP (hk:=by omega) C__law_set hr (Ă 0) (Wb.a0 (À (Ä 1) Á))) (Wb.a0 Á)))))) (Wb.ss0 â))
  (Wb.cons (Wb.s0 (ć (some 0) (i:=7) nd rfl zQ (í Á)))
  (Wb.gn (Wb.for_ Ğ rfl (Wb.yM B.range (Wb.aQ (Wb.times (Wb.dcP (hk:=by omega) C__law_draw hr (Ă 0) (Wb.a0 (À Ã Á))) (Wb.e0 (Wr.pH B.int boot_int (À (Wr.sY (Ä 1) Ã) Á)))) (Wb.a0 Á))) (ì (i:=8) nd rfl zQ) (Wb.cons (Wb.append (Ă 7) (Wb.aQ (Wb.tup (Wb.aQ (Wb.dcP (hk:=by omega) C__law_set hr (Ă 0) (Wb.a0 (À (Ä 1) Á))) (Wb.aQ (Wb.plus (Wb.e0 Ã) (Wb.dcP (hk:=by omega) C__law_draw hr (Ă 0) (Wb.aQ (Wb.ix (Wb.e0 (í (À Ã (À Ã (À (Wr.iU Ã Ã) Á))))) (Wb.dcP (hk:=by omega) C__law_draw hr (Ă 0) (Wb.a0 (À Ã Á)))) (Wb.a0 Á)))) (Wb.a0 Á)))) (Wb.a0 Á))) (Wb.drops [8] (Wb.ss0 â))))
  (Wb.drops [8] (Wb.ss0 (Ö (ß (ê (À č (À (Ä 7) Á)))))))))))),Wb.nH h (ť (by omega)) ?_⟩
 rintro ds P ⟨n,m,fr,e,rfl,he,n1,n8,m8,lf,hf,q⟩
 refine⟨[.im (.int n),.sh (iD fr),.im (.int ((e:Nat):Int)),.any,.any,.any,.any,.any],rfl,?_⟩
 have lm:(fr.map Å).length=fr.length:=Â ..
 refine⟨λρ=>ρ=RT n e fr .any,?_,?_⟩
 ·refine⟨zK,Qx fr,rfl,?_⟩
  show if (!PyData.eqv (.list (fr.map Å)) (.list []))=true then _ else _
  refine bH (λc=>?_) (λc=>rfl)
  have ne:fr≠[]:=λz=>by
   subst z
   exact absurd c (by decide)
  have pos:0<fr.length:=Ŕ.mpr ne
  refine bH (λc=>?_) (λc=>rfl)
  have c:(0:Int)<((e:Nat):Int):=of_decide_eq_true c
  refine⟨rfl,3,rfl,by decide,by decide,λy _ _=>bH (λc2=>?_) (λc2=>rfl)⟩
  obtain⟨d,rfl⟩:∃d,e=d+1:=⟨e - 1,by omega⟩
  obtain⟨g,rfl⟩:∃g,kk=g+1:=⟨kk - 1,by omega⟩
  refine⟨rfl,_,rfl,by omega,by omega,λx x0 x1=>?_⟩
  have xl:x<((fr.length:Nat):Int):=by omega
  obtain⟨z,hz,hm⟩:=TQ x0 xl
  obtain⟨k0,k1⟩:=hf z hm
  refine⟨.int z,hz,?_⟩
  refine jf fr Å (λx=>!decide (x=z)) Å .imm rfl (by omega) (λx hx A B hA hB=>?_) ?_
  ·show if (!decide (x=z))=true then _ else _
   by_cases e2:x=z
   ·rw[decide_eq_true e2]
    exact ak (A:=True) (hB (by rw[decide_eq_true e2];rfl))
   ·rw[decide_eq_false e2]
    exact aF (B:=B) ⟨rfl,hA (by rw[decide_eq_false e2];rfl)⟩
  have ed:((d+1:Nat):Int) - 1=((d:Nat):Int):=by omega
  have lf':(fr.filter λx=>!decide (x=z)).length<=8:=é (List.length_filter_le _ _) lf
  have hf':∀k∈fr.filter (λx=>!decide (x=z)),0<=k/\k<(m:Int):=λk hk=>hf k (đ.mp hk).1
  refine⟨rfl,n,m,fr.filter (λx=>!decide (x=z)),d,by show [_,_,Å (((d+1:Nat):Int) - 1)]=_;rw[ed];rfl,by omega,n1,n8,m8,lf',hf',λt1 h1=>?_⟩
  refine bQ (s:=.sn t1.D) (by rw[Ċ (aZ t1),Ċ (aZ t1)];rfl) ?_
  refine⟨rfl,n,m,fr.filter (λx=>!decide (x=z)),d,by show [_,_,Å (((d+1:Nat):Int) - 1)]=_;rw[ed];rfl,by omega,n1,n8,m8,lf',hf',λt2 h2=>?_⟩
  refine⟨zK,?_,q (.tri z t1 t2) ⟨k0,k1,h1,h2⟩⟩
  show(norm (joins [(Kd.imm,PyData.str (ú "try")),(.imm,.int z),(.snw,t1.D),(norm .new t2.D,t2.D)]) (.tuple [.str (ú "try"),.int z,t1.D,t2.D])).le .n0=true
  rw[Ċ (aZ t2)]
  exact uG _
 rintro ρ rfl
 refine⟨λρ=>ρ=RT n e fr .any,?_,?_⟩
 ·refine bH (λc=>?_) (λc=>rfl)
  have c:1<n:=of_decide_eq_true c
  refine⟨rfl,3,rfl,by decide,by decide,λy _ _=>bH (λc2=>?_) (λc2=>rfl)⟩
  exact⟨rfl,n,rfl,by omega,n8,λl hl=>⟨zK,rfl,q (.bar l) (by cases e <;> exact hl)⟩⟩
 rintro ρ rfl
 refine⟨zK,?_⟩
 refine⟨λρ=>∃rs:List Rw,Fp n rs/\ρ=RT n e fr (.dw 0 (.list (rs.map rwD))),?_,?_⟩
 ·refine⟨rfl,4,rfl,by decide,by decide,λr r0 r1=>?_⟩
  have hT:∀b:Bool,(b=true->1<n)->∀t:Int,t=r * (if b=true then (1:Int) else 0)->0<=t/\t<=3/\(0<t->1<n):=by
   intro b hb t ht
   subst ht
   cases b with
   |true=>exact⟨by simpa using r0,by simp;omega,λ_=>hb rfl⟩
   |false=>exact⟨by simp,by simp,λz=>absurd z (by simp)⟩
  replace hT:=hT (decide (1<n)) (λz=>of_decide_eq_true z) _ rfl
  refine⟨.inl ⟨by omega,by omega⟩,?_⟩
  generalize r * (if decide (1<n)=true then (1:Int) else 0)=T at hT ⊢
  obtain⟨T0,T1,T2⟩:=hT
  refine⟨⟨by omega,by omega⟩,by rw[Ľ];omega,rfl,λ(i:Nat) ρ=>∃rs:List Rw,rs.length=i/\(∀r∈rs,Proper n r.1/\1<=r.2/\r.2<=10 ^ 29)/\ρ=RT n e fr (.dw 0 (.list (rs.map rwD))),⟨[],rfl,(λo ho=>nomatch ho),rfl⟩,?_,?_⟩
  ·rintro i d ρ hd ⟨rs,lr,ok,rfl⟩
   obtain⟨hi,rfl⟩:=bW hd
   have n2:=T2 (by omega)
   refine⟨rfl,n,rfl,by omega,n8,λl hl=>?_⟩
   refine⟨rfl,⟨by decide,by decide,by decide⟩,zK,rfl,3,rfl,by decide,by decide,λy y0 y1=>?_⟩
   have hx:∃v:Int,atI [Å 1,.int 3,.int (10 ^ (29:Int).toNat)] y=some (.int v)/\0<v/\v<=10 ^ 29:=by
    have:y=0\/y=1\/y=2:=by omega
    rcases this with rfl|rfl|rfl
    ·exact⟨1,rfl,by decide,by decide⟩
    ·exact⟨3,rfl,by decide,by decide⟩
    ·exact⟨10 ^ 29,rfl,by decide,by decide⟩
   obtain⟨v,hv,v0,v1⟩:=hx
   have e29:(10:Int) ^ 29=100000000000000000000000000000:=by decide
   refine⟨.int v,hv,v,rfl,v0,by rw[e29] at v1;omega,λx x0 x1=>⟨zK,rfl,by rw[Â];omega,rs++[(l,1+x)],by rw[Î,lr];rfl,λs hs=>?_,?_⟩⟩
   ·rcases Ù.mp hs with z|z
    ·exact ok s z
    ·rw[Ò.mp z]
     exact⟨hl,by show 1<=1+x;omega,by show 1+x<=10 ^ 29;omega⟩
   ·show [Sl.pen TP,.im (.int n),.sh (iD fr),.im (.int ((e:Nat):Int)),.any,.any,.any,.dw 0 (.list (rs.map rwD++[rwD (l,1+x)])),.any]=_
    unfold RT
    rw[î]
    rfl
  ·rintro ρ ⟨rs,lr,ok,rfl⟩
   rw[Ľ] at lr
   exact⟨rs,⟨by omega,ok⟩,rfl⟩
 rintro ρ ⟨rs,ok,rfl⟩
 exact⟨zK,rfl,q (.wts rs) (by cases e <;> exact ok)⟩
def KN(F:Fun K "_law_tree" "_law_tree" (top 58) f fd):FnOk P w K mg base CX0 3 f fd ["_law_pen_here","_law_n","_law_free","_law_deep"] (bB 0 (vM 0)) :=
 F.ok iC (dF λds P h=>h.elim) (λcdv A outer s H vs Q E hr h=>by
  obtain⟨_,_,_,_,_,_,_,_,t,_⟩:=h
  exact t.elim)
def cT:Nat->Nat
 |0=>0
 |k+1=>2 * cT k+20000
def Qi(k:Nat)(F:Fun K "_law_tree" "_law_tree" (top 58) f fd)(B:Ė mg)(b:Binds K fd ["_law_pen_here","_law_n","_law_free","_law_deep"] [])(m:mg "_law_tree"=some (.ref f))(C1:Ñ P w K mg base 1 "_law_draw" ["_law_pen_here","_law_many"] (bB 1 eV))(C2:Ñ P w K mg base 2 "_law_set" ["_law_pen_here","_law_n"] (bB 10 Mi)):FnOk P w K mg base CX0 (k+3) f fd ["_law_pen_here","_law_n","_law_free","_law_deep"] (bB (cT k) (vM k)):=by
 induction k with
 |zero=>exact KN F
 |succ k ih=>exact KH F B C1 ⟨f,fd,ih,b,F.kp,m⟩ C2
def KJ(F:Fun K "_law_tree" "_law_tree" (top 58) f fd)(B:Ė mg)(b:Binds K fd ["_law_pen_here","_law_n","_law_free","_law_deep"] [])(m:mg "_law_tree"=some (.ref f))(C1:Ñ P w K mg base 1 "_law_draw" ["_law_pen_here","_law_many"] (bB 1 eV))(C2:Ñ P w K mg base 2 "_law_set" ["_law_pen_here","_law_n"] (bB 10 Mi)):FnOk P w K mg base CX0 7 f fd ["_law_pen_here","_law_n","_law_free","_law_deep"] (bB 300000 (vM 4)):=Qi 4 F B b m C1 C2
end
def lD(l:List Int):D:=.list (l.map Å)
def subs:Nat->List (List Int)
 |0=>[[]]
 |k+1=>subs k++(subs k).map λl=>l++[0+((k:Nat):Int)]
def qO:∀k,(subs k).length=2 ^ k
 |0=>rfl
 |k+1=>by
  show(subs k++(subs k).map _).length=_
  rw[Î,Â,qO k,Nat.pow_succ]
  omega
def mU:∀k,∃r,subs k=[]::r/\∀l∈r,l≠[]
 |0=>⟨[],rfl,λl h=>nomatch h⟩
 |k+1=>by
  obtain⟨r,e,h⟩:=mU k
  refine⟨r++(subs k).map λl=>l++[0+((k:Nat):Int)],?_,λl hl=>?_⟩
  ·have h2:∀M:List (List Int),subs k++M=[]::(r++M):=λM=>by rw[e];rfl
   exact h2 _
  ·rcases Ù.mp hl with z|z
   ·exact h l z
   ·obtain⟨a,_,rfl⟩:=ø.mp z
    simp
def dR:∀k (l:List Int),l∈subs k->l.Pairwise (·<·)/\(∀x∈l,0<=x/\x<k)/\l.length<=k
 |0,l,h=>by
  rw[Ò.mp h]
  exact⟨.nil,λx h=>(nomatch h),Ç _⟩
 |k+1,l,h=>by
  rcases Ù.mp h with z|z
  ·obtain⟨h1,h2,h3⟩:=dR k l z
   exact⟨h1,λx hx=>by have:=h2 x hx;omega,by omega⟩
  ·obtain⟨a,ha,rfl⟩:=ø.mp z
   obtain⟨h1,h2,h3⟩:=dR k a ha
   refine⟨List.pairwise_append.mpr ⟨h1,by simp,λx hx y hy=>?_⟩,λx hx=>?_,by rw[Î,ň];omega⟩
   ·rw[Ò.mp hy]
    have:=h2 x hx
    omega
   ·rcases Ù.mp hx with z|z
    ·have:=h2 x z;omega
    ·rw[Ò.mp z];omega
def qb(k:Nat):List Int:=(ä k).map λi=>0+((i:Nat):Int)
def pI(p:Int->Bool):∀k,(qb k).filter p∈subs k
 |0=>Ò.mpr rfl
 |k+1=>by
  have e:qb (k+1)=qb k++[0+((k:Nat):Int)]:=by
   unfold qb
   rw[List.range_succ,î]
   rfl
  rw[e,ž]
  cases hp:p (0+((k:Nat):Int)) with
  |true =>
   rw[List.filter_cons_of_pos hp]
   exact ë _ (ø.mpr ⟨_,pI p k,rfl⟩)
  |false =>
   rw[List.filter_cons_of_neg (by rw[hp];exact Ì)]
   rw[List.filter_nil,Ā]
   exact ū _ (pI p k)
def fSB(ds:List D)(P:D->Prop):Prop:=∃c:Int,ds=[.int c]/\0<=c/\c<=7/\P (.list ((subs c.toNat).map lD))
def vZ(n:Int)(us:List Tie)(fa:Int):Prop:=∀l∈(subs (n - 1).toNat).drop 1,fa<((us.filter (lv l)).length:Nat)
def Cy(ds:List D)(P:D->Prop):Prop:=∃(n:Int) (us:List Tie) (fa:Int),ds=[aA n us,.int fa]/\1<=n/\n<=8/\us.length<=100/\∀b:Bool,(b=true↔vZ n us fa)->P (.bool b)
def Ur(n:Int)(us:List Tie)(fa:Int)(d:D):Prop:=(d=.none/\vZ n us fa)\/∃l:List Int,d=.list (l.map Å)/\l∈(subs (n - 1).toNat).drop 1/\Proper n l/\((us.filter (lv l)).length:Int)<=fa
def j4(ds:List D)(P:D->Prop):Prop:=∃(n:Int) (us:List Tie) (fa:Int),ds=[aA n us,.int fa]/\1<=n/\n<=8/\us.length<=100/\∀d:D,Ur n us fa d->P d
def iy{n:Int}{l:List Int}(n1:1<=n)(n8:n<=8)(h:l∈(subs (n - 1).toNat).drop 1):Proper n l:=by
 obtain⟨r,e,hr⟩:=mU (n - 1).toNat
 obtain⟨h1,h2,h3⟩:=dR _ l (List.mem_of_mem_drop h)
 rw[e] at h
 have hne:=hr l h
 have hp:0<l.length:=Ŕ.mpr hne
 exact⟨hp,by omega,λx hx=>by have:=h2 x hx;omega,h1,by omega⟩
section
variable {P:Program}{w:World}{K:Ô}{mg:Str->Option Value}{base:Heap}{f:Addr}{fd:FuncData}
def Nj:FnScope ["count","told","place"] ["count"] (aj (top 15)):=zC
def Tn:(["some","count","told","place"]:List Str).Nodup:=by decide +kernel
def Td(F:Fun K "sets_below" "sets_below" (top 15) f fd)(B:Ė mg):FnOk P w K mg base CX0 1 f fd ["count"] (spD fSB):=by
 refine F.ok Nj Ć (λcdv A outer s H vs Q E hr h=>?_)
 have nd:=Nj.nd
 refine⟨_,dX (j5 none (dN (i:=1) nd rfl (Œ rfl) (gD (aC (gD aL) aL))))
  (dX (gK Ğ rfl (bY B.range (aC (dv 0) aL)) (dY (fj (i:=2) nd rfl (Or.inr rfl)))
   (bL (j5 none (dN (i:=1) nd rfl (Œ rfl) (G4 (dv 1) (qu ["some"] rfl (jl (dv 1)) (λc=>dY (fj (i:=0) Tn rfl (Œ rfl))) (λc=>cj) (λc=>G4 (dv 0) (gD (aC (dv 3) aL)))))))))
  (bL (cF (dv 1)))),aM h ?_⟩
 rintro ds P ⟨c,rfl,c0,c7,q⟩
 refine⟨[.im (.int c),.any,.any],rfl,zK,zK,⟨by omega,by omega⟩,rfl,λ(i:Nat) ρ=>∃s2,ρ=[.im (.int c),.sn (.list ((subs i).map lD)),s2],⟨_,rfl⟩,?_,?_⟩
 ·rintro i d ρ hd ⟨s2,rfl⟩
  obtain⟨hi,rfl⟩:=bW hd
  have ls:((subs i).map lD).length<=64:=by
   rw[Â,qO]
   exact Nat.pow_le_pow_right (by decide) (show i<=6 by omega)
  refine⟨by omega,.new,λj ys=>ys=((subs i).take j).map λl=>lD (l++[0+((i:Nat):Int)]),rfl,?_,?_⟩
  ·rintro j d ys hd rfl
   obtain⟨l,hl,rfl⟩:=jC hd
   have hok:=dR i l (Ð hl)
   have im:=lZ (l++[0+((i:Nat):Int)])
   rw[î] at im
   refine aF (B:=True) ⟨zK,?_,.inl ⟨im,rfl,?_⟩⟩
   ·show(l.map Å).length+1<=1000
    rw[Â]
    omega
   ·dsimp only
    rw[vp _ hl]
    show _++[Ď (l.map Å++[.int (0+((i:Nat):Int))])]=_++[Ď ((l++[0+((i:Nat):Int)]).map Å)]
    rw[î]
    rfl
  ·rintro ys rfl
   refine⟨?_,.inr ⟨.im (.int (0+((i:Nat):Int))),?_⟩⟩
   ·rw[Â (as:=ŭ _ _),ģ]
    rw[Â] at ls ⊢
    omega
   ·have e:(subs i).map lD++(((subs i).take ((subs i).map lD).length).map λl=>lD (l++[0+((i:Nat):Int)]))=(subs (i+1)).map lD:=by
     rw[Â,ě]
     show _=(subs i++(subs i).map _).map lD
     rw[î,ç]
     rfl
    rw[e]
    rfl
 ·rintro ρ ⟨s2,rfl⟩
  rw[Ľ]
  exact⟨rfl,q⟩
def Ni:FnScope ["web","falls","some"] ["web","falls"] (aj (top 21)):=zC
def Ho(F:Fun K "needy_set" "needy_set" (top 21) f fd)(SB:Ñ P w K mg base 1 "sets_below" ["count"] (spD fSB))(NE:Ñ P w K mg base 8 "need" ["web","falls","some"] (spD Jh)):FnOk P w K mg base CX0 9 f fd ["web","falls"] (spD j4):=by
 refine F.ok Ni Ć (λcdv A outer s H vs Q E hr h=>?_)
 have nd:=Ni.nd
 refine⟨_,dX (gK Ğ rfl (jl (yV (dc SB hr (aC (qm (jW (dv 0) bJ (λ_ _=>rfl)) bJ) aL)) (cu bJ) cA)) (dY (fj (i:=2) nd rfl (Œ rfl)))
   (bL (tU (iR (dc NE hr (aC (dv 0) (aC (dv 1) (aC (dv 2) aL)))) bJ) (bL (cF (dv 2))) nJ)))
  (bL (cF iV)),aM h ?_⟩
 rintro ds P ⟨n,us,fa,rfl,n1,n8,lu,q⟩
 refine⟨[.im (aA n us),.im (.int fa),.any],?_,.int n,rfl,n - 1,rfl,by omega,by omega,.inr ?_⟩
 ·show [aD (aA n us),aD (.int fa),.any]=_
  rw[ġ]
  rfl
 dsimp only
 rw[mH,←List.map_drop]
 refine⟨rfl,λ(i:Nat) ρ=>∃s2,ρ=[.im (aA n us),.im (.int fa),s2]/\∀l∈((subs (n - 1).toNat).drop 1).take i,fa<((us.filter (lv l)).length:Nat),⟨_,rfl,λl h=>nomatch h⟩,?_,?_⟩
 ·rintro i d ρ hd ⟨s2,rfl,al⟩
  obtain⟨l,hl,rfl⟩:=jC hd
  refine⟨n,us,l,fa,rfl,iy n1 n8 (Ð hl),lu,bH (λc=>?_) (λc=>⟨_,rfl,λl' hl'=>?_⟩)⟩
  ·have c:=of_decide_eq_true c
   refine⟨rfl,q _ (.inr ⟨l,rfl,Ð hl,iy n1 n8 (Ð hl),?_⟩)⟩
   split at c <;> omega
  ·rw[Ē,hl] at hl'
   rcases Ù.mp hl' with z|z
   ·exact al l' z
   ·have z:l'=l:=by simpa using z
    rw[z]
    have c:¬(0<if 0 > fa+1 - ((us.filter (lv l)).length:Nat) then 0 else fa+1 - ((us.filter (lv l)).length:Nat)):=λy=>c (decide_eq_true y)
    split at c <;> omega
 ·rintro ρ ⟨s2,rfl,al⟩
  rw[Â,ě] at al
  exact⟨rfl,q _ (.inl ⟨rfl,al⟩)⟩
def Sq:FnScope ["web","falls"] ["web","falls"] (aj (top 22)):=zC
def Dv(F:Fun K "stands" "stands" (top 22) f fd)(NS:Ñ P w K mg base 9 "needy_set" ["web","falls"] (spD j4)):FnOk P w K mg base CX0 10 f fd ["web","falls"] (spD Cy):=by
 refine F.ok Sq Ć (λcdv A outer s H vs Q E hr h=>?_)
 refine⟨_,bL (cF (PX (dc NS hr (aC (dv 0) (aC (dv 1) aL))) iV)),aM h ?_⟩
 rintro ds P ⟨n,us,fa,rfl,n1,n8,lu,q⟩
 refine⟨[.im (aA n us),.im (.int fa)],?_,n,us,fa,rfl,n1,n8,lu,λd hd=>?_⟩
 ·show [aD (aA n us),aD (.int fa)]=_
  rw[ġ]
  rfl
 rcases hd with ⟨rfl,h⟩|⟨l,rfl,ml,pr,c⟩
 ·exact⟨rfl,q _ ⟨λ_=>h,λ_=>rfl⟩⟩
 ·exact⟨rfl,q _ ⟨λz=>absurd z Ì,λz=>absurd (z l ml) (by omega)⟩⟩
end
def jK(n:Int)(us:List Tie)(os:List Off)(ks:List Int):Prop:=∀l,Proper n l->2<=lvN us l+ofN os ks l
def InR(m:Nat)(ks:List Int):Prop:=ks.Nodup/\∀k∈ks,0<=k/\k<((m:Nat):Int)
def JK(n:Int)(us:List Tie)(os:List Off)(num:Int):Prop:=∀ks,InR os.length ks->jK n us os ks->num<=cst os ks
def Hz:∀{a b:List Int},a.Nodup->(∀x∈a,x∈b)->a.length<=b.length
 |[],_,_,_=>à _
 |x::a,b,nd,h=>by
  obtain⟨n1,n2⟩:=List.nodup_cons.mp nd
  have hx:=h x Ú
  have ih:=Hz (b:=b.erase x) n2 λy hy=>(List.mem_erase_of_ne (λe:y=x=>n1 (by rw[←e];exact hy))).mpr (h y (Ó _ hy))
  rw[List.length_erase_of_mem hx] at ih
  have:=List.length_pos_of_mem hx
  rw[ÿ]
  omega
def HN{l l':List Int}{t:Tie}(h1:t.1∈l↔t.1∈l')(h2:t.2∈l↔t.2∈l'):lv l t=lv l' t:=by
 unfold lv
 rw[decide_eq_decide.mpr h1,decide_eq_decide.mpr h2]
def HS{l l':List Int}{t:Tie}(h1:t.1∈l'↔t.1∉l)(h2:t.2∈l'↔t.2∉l):lv l' t=lv l t:=by
 unfold lv
 by_cases a:t.1∈l <;> by_cases b:t.2∈l <;> simp[h1,h2,a,b]
def Alike(n:Int)(l' l:List Int):Prop:=(∀x,0<=x->x<n->(x∈l'↔x∈l))\/(∀x,0<=x->x<n->(x∈l'↔x∉l))
def yj{n:Int}{l' l:List Int}{t:Tie}(h:Alike n l' l)(ok:OkT n t):lv l' t=lv l t:=by
 obtain⟨⟨a0,a1⟩,⟨b0,b1⟩,_⟩:=ok
 rcases h with h|h
 ·exact HN (h _ a0 a1) (h _ b0 b1)
 ·exact HS (h _ a0 a1) (h _ b0 b1)
def Fo{n:Int}{us:List Tie}{l' l:List Int}(h:Alike n l' l)(ok:OkN n us):lvN us l'=lvN us l:=by
 unfold lvN
 rw[List.filter_congr λt ht=>yj h (ok t ht)]
def Fl{n:Int}{os:List Off}{ks:List Int}{l' l:List Int}(h:Alike n l' l)(ok:OkO n os)(hk:∀k∈ks,0<=k/\k<((os.length:Nat):Int)):ofN os ks l'=ofN os ks l:=by
 unfold ofN
 rw[List.filter_congr λk z=>yj h (Ca ok hk _ (ø.mpr ⟨k,z,rfl⟩))]
def iK{m:Nat}{k:Int}:k∈qb m↔0<=k/\k<(m:Int):=fV
def yF{n:Int}(n1:1<=n){l:List Int}(h:Proper n l):∃l'∈(subs (n - 1).toNat).drop 1,Alike n l' l:=by
 have key:∀p:Int->Bool,(∃x,0<=x/\x<n - 1/\p x=true)->(qb (n - 1).toNat).filter p∈(subs (n - 1).toNat).drop 1:=λp ⟨x,x0,x1,px⟩=>by
  have hm:=pI p (n - 1).toNat
  obtain⟨r,e,_⟩:=mU (n - 1).toNat
  rw[e] at hm ⊢
  rcases è.mp hm with z|z
  ·have:x∈(qb (n - 1).toNat).filter p:=đ.mpr ⟨iK.mpr ⟨x0,by omega⟩,px⟩
   rw[z] at this
   cases this
  ·exact z
 by_cases hn:n - 1∈l
 ·obtain⟨x,x0,x1,hx⟩:∃x,0<=x/\x<n - 1/\x∉l:=by
   apply Classical.byContradiction
   intro c
   have sub:∀x∈qb n.toNat,x∈l:=λx hx=>by
    have:=iK.mp hx
    by_cases e:x=n - 1
    ·rw[e];exact hn
    ·exact Classical.byContradiction λz=>c ⟨x,this.1,by omega,z⟩
   have nd:(qb n.toNat).Nodup:=(cU n.toNat).imp λh=>by omega
   have:=Hz nd sub
   have e:(qb n.toNat).length=n.toNat:=by unfold qb;rw[Â,ĳ]
   have:=h.few
   omega
  refine⟨_,key (λx=>!decide (x∈l)) ⟨x,x0,x1,by simpa using hx⟩,.inr λy y0 y1=>?_⟩
  rw[đ,iK]
  simp only[Ĵ,decide_eq_false_iff_not]
  refine⟨λz=>z.2,λz=>⟨⟨y0,?_⟩,z⟩⟩
  have:y≠n - 1:=λe=>z (e ▸ hn)
  omega
 ·obtain⟨x,hx⟩:∃x,x∈l:=by
   cases l with
   |nil=>exact absurd h.one (by simp)
   |cons a r=>exact⟨a,Ú⟩
  have hr:=h.rng x hx
  have:x≠n - 1:=λe=>hn (e ▸ hx)
  refine⟨_,key (λx=>decide (x∈l)) ⟨x,hr.1,by omega,by simpa using hx⟩,.inl λy y0 y1=>?_⟩
  rw[đ,iK]
  simp only[decide_eq_true_eq]
  refine⟨λz=>z.2,λz=>⟨⟨y0,?_⟩,z⟩⟩
  have:y≠n - 1:=λe=>hn (e ▸ z)
  omega
def cQ{n:Int}{us ws:List Tie}{os:List Off}{ks:List Int}(n1:1<=n)(n8:n<=8)(ok:OkN n us)(oko:OkO n os)(hk:∀k∈ks,0<=k/\k<((os.length:Nat):Int))(hw:ws.Perm (us++(dW os ks).map mmT)):vZ n ws 1↔jK n us os ks:=by
 constructor
 ·intro h l hl
  obtain⟨l',m',al⟩:=yF n1 hl
  have:=h l' m'
  have e:(ws.filter (lv l')).length=lvN ws l':=rfl
  rw[e,lO hw,Fo al ok,Fl al oko hk] at this
  omega
 ·intro h l hl
  have e:(ws.filter (lv l)).length=lvN ws l:=rfl
  have:=h l (iy n1 n8 hl)
  rw[e,lO hw]
  omega
def Jy{os:List Off}{a b:List Int}(h:a.Perm b):cst os a=cst os b:=by
 unfold cst
 induction h with
 |nil=>rfl
 |cons x _ ih=>rw[û,ź,û,ź,ih]
 |swap x y l=>rw[û,ź,û,ź,û,ź,û,ź];omega
 |trans _ _ a b=>rw[a,b]
def fCO(ds:List D)(P:D->Prop):Prop:=∃(b:Bool) (os:List Off) (ks:List Int),ds=[oT b os,iD ks]/\ks.length<=8/\(∀k∈ks,0<=k/\k<((os.length:Nat):Int))/\P (.int (cst os ks))
def fTF:Nat->List D->(D->Prop)->Prop
 |0,_,_=>False
 |d+1,ds,P=>∃(n:Int) (us ws:List Tie) (b:Bool) (os:List Off) (free:List Int) (ask num:Int) (tk lf:List Int),ds=[aA n ws,oT b os,iD free,.int ask]/\1<=n/\n<=8/\us.length<=40/\OkN n us/\os.length<=8/\OkO n os/\At41 us os num tk lf ws free ask/\free.length<=d/\JK n us os num /\
  ∀t,t.Ok n os.length d->hL us os num t tk lf=true->P t.D
def Ei{n:Int}{us ws:List Tie}{os:List Off}{num ask:Int}{tk lf free:List Int}(h:At41 us os num tk lf ws free ask)(oo:OkO n os)(c:ask<=0):hL us os num (.wts []) tk lf=true:=by
 show(((cg os.length tk lf).all λk=>decide (wOn (oA os k) []<=(oA os k).2.2))&&decide (num<=cst os tk+0))=true
 rw[Ê,ï,decide_eq_true_iff]
 refine⟨λk hk=>decide_eq_true ?_,by have:=h.as;omega⟩
 obtain⟨k0,k1⟩:=(aX.mp hk).1
 exact(oo _ (Ð (K6 (b:=true) k0 k1))).2.1
def Ig{us ws:List Tie}{os:List Off}{num ask:Int}{tk lf free l:List Int}(h:At41 us os num tk lf ws free ask)(c:(((ws.filter (lv l)).length:Nat):Int)+((ofN os free l:Nat):Int)<2):hL us os num (.bar l) tk lf=true:=by
 refine decide_eq_true ?_
 rw[←h.Ul]
 have e:(ws.filter (lv l)).length=lvN ws l:=rfl
 rw[e] at c
 unfold lack
 split <;> omega
section
variable {P:Program}{w:World}{K:Ô}{mg:Str->Option Value}{base:Heap}{f:Addr}{fd:FuncData}{kk:Nat}
def p7:FnScope ["offers","numbers"] ["offers","numbers"] (aj (top 28)):=zC
def vo:(["number","offers","numbers"]:List Str).Nodup:=by decide +kernel
def zx(F:Fun K "cost_of" "cost_of" (top 28) f fd)(B:Ė mg)(m_sum:mg "sum"=none):FnOk P w K mg base CX0 1 f fd ["offers","numbers"] (spD fCO):=by
 refine F.ok p7 Ć (λcdv A outer s H vs Q E hr h=>?_)
 have nd:=p7.nd
 refine⟨_,ē (Ö (ß (Wr.fD rfl m_sum (À (Ŭ ["number"] rfl (ĩ (Ä 1)) (λc=>(ì (i:=0) vo rfl zQ)) (λc=>Wr.cj) (λc=>(Õ (Õ (Ä 1) (Ä 0)) Ã))) Á)))),aM h ?_⟩
 rintro ds P ⟨b,os,ks,rfl,lk,hk,q⟩
 cases b
 all_goals
  first
  |refine⟨[.sh (.list (os.map oD)),.sh (iD ks)],by show [aD (oT true os),aD (iD ks)]=_;rw[cN];rfl,?_⟩
  |refine⟨[.im (.tuple (os.map oD)),.sh (iD ks)],by show [aD (oT false os),aD (iD ks)]=_;rw[cN];rfl,?_⟩
  refine qP ks Å (λk=>Å (oA os k).2.2) .imm rfl (by omega) (λk z A B h=>?_) ?_
  ·obtain⟨k0,k1⟩:=hk k z
   exact aF (B:=B) ⟨_,eN k0 k1,.int (oA os k).2.2,rfl,rfl,h⟩
  ·exact⟨ks.map (λk=>(oA os k).2.2),by rw[ç];rfl,rfl,q⟩
def iB:FnScope ["made","offers","free","asked","some","useful","tried","rest","taken"] ["made","offers","free","asked"] (aj (top 30)):=zC
def jR:(["number","made","offers","free","asked","some","useful","tried","rest","taken"]:List Str).Nodup:=by decide +kernel
def Qj(F:Fun K "tree_for" "tree_for" (top 30) f fd)(B:Ė mg)(C_needy_set:Ñ P w K mg base 9 "needy_set" ["web","falls"] (spD j4))(C_leaves:Ñ P w K mg base 1 "leaves" ["tie","some"] (spD fLv))(C_leaving:Ñ P w K mg base 7 "leaving" ["web","some"] (spD tR))(C_tree_for:Ñ P w K mg base (kk+12) "tree_for" ["made","offers","free","asked"] (spD (fTF kk)))(C_with_offers:Ñ P w K mg base 2 "with_offers" ["web","offers","numbers"] (spD ji)):FnOk P w K mg base CX0 (kk+13) f fd ["made","offers","free","asked"] (spD (fTF (kk+1))):=by
 refine F.ok iB Ć (λcdv A outer s H vs Q E hr h=>?_)
 have nd:=iB.nd
 refine⟨_,ē (Û (ý (Wr.qj (Ä 3) Ã) (Ö (ß (ê (À č (À (í Á) Á))))) â)
  (Û (ć none (i:=4) nd rfl zQ (ĉ (hk:=by omega) C_needy_set hr (À (Ä 0) (À Ã Á))))
  (Û (Wr.jk none ["number"] (i:=5) rfl nd rfl zQ (ĩ (Ä 2)) (λc=>(ì (i:=0) jR rfl zQ)) (λc=>(Ş (ö (ĉ (hk:=by omega) C_leaves hr (À (Õ (Ä 2) (Ä 0)) (À (Ä 5) Á)))))) (λc=>(Ä 0)))
  (Û (ý (Wr.qg (ė (ĉ (hk:=by omega) C_leaving hr (À (Ä 0) (À (Ä 4) Á))) (ă B.len (À (Ä 5) Á))) Ã) (Ö (ß (ê (À č (À (Ä 4) Á))))) â)
  (Û (ć none (i:=6) nd rfl zQ (Õ (Ä 5) Ã))
  (Û (Wr.jk none ["number"] (i:=7) rfl nd rfl zQ (ĩ (Ä 2)) (λc=>(ì (i:=0) jR rfl zQ)) (λc=>(Ş (ĭ hr.units (Ä 0) (Ä 7)))) (λc=>(Ä 0)))
  (Û (ć none (i:=8) nd rfl zQ (ĉ (hk:=by omega) C_tree_for hr (À (ĉ (hk:=by omega) C_with_offers hr (À (Ä 0) (À (Ä 1) (À (í (À (Ä 6) Á)) Á)))) (À (Ä 1) (À (Ä 7) (À (Ł (Ä 3) (Õ (Õ (Ä 1) (Ä 6)) Ã)) Á))))))
  (Ö (ß (ê (À č (À (Ä 6) (À (Ä 8) (À (ĉ (hk:=by omega) C_tree_for hr (À (Ä 0) (À (Ä 1) (À (Ä 7) (À (Ä 3) Á))))) Á)))))))))))))),aM h ?_⟩
 rintro ds P ⟨n,us,ws,b,os,free,ask,num,tk,lf,rfl,n1,n8,lu,ou,lo,oo,g41,ll,lb,q⟩
 have lf8:free.length<=8:=by
  have:=(jF os.length tk lf).len
  rw[←g41.fr] at this
  omega
 have hfr:∀k∈free,0<=k/\k<((os.length:Nat):Int):=λk hk=>by
  rw[g41.fr] at hk
  exact(aX.mp hk).1
 have lw:=g41.wl lu lo
 have okw:=g41.ok ou oo
 cases b
 all_goals
  first
  |refine⟨[.im (aA n ws),.sh (.list (os.map oD)),.sh (iD free),.im (.int ask),.any,.any,.any,.any,.any],by show [aD (aA n ws),aD (oT true os),aD (iD free),aD (.int ask),.any,.any,.any,.any,.any]=_;rw[ġ,cN];rfl,?_⟩
  |refine⟨[.im (aA n ws),.im (.tuple (os.map oD)),.sh (iD free),.im (.int ask),.any,.any,.any,.any,.any],by show [aD (aA n ws),aD (oT false os),aD (iD free),aD (.int ask),.any,.any,.any,.any,.any]=_;rw[ġ,cN];rfl,?_⟩
  refine bH (λc=>?_) (λc=>?_)
  ·have c:ask<=0:=of_decide_eq_true c
   refine⟨zK,zK,rfl,q (.wts []) (by cases kk <;> exact⟨à _,(λr hr=>nomatch hr)⟩) (Ei g41 oo c)⟩
  have c:¬ask<=0:=λz=>c (decide_eq_true z)
  refine⟨n,ws,1,rfl,n1,n8,by omega,λd hd=>?_⟩
  rcases hd with ⟨rfl,st⟩|⟨l,rfl,ml,pr,cl⟩
  ·exact absurd (lb tk ⟨g41.nd,g41.rg⟩ ((cQ n1 n8 ou oo g41.rg g41.ws).mp st)) (by have:=g41.as;omega)
  refine jf free Å (λk=>lv l (tO (oA os k))) Å .imm rfl (by omega) (λk hk A B hA hB=>?_) ?_
  ·obtain⟨k0,k1⟩:=hfr k hk
   exact⟨_,eN k0 k1,tO (oA os k),[.int (oA os k).2.2],l,rfl,rfl,bH (λc=>⟨rfl,hA c⟩) (λc=>hB (Bool.eq_false_iff.mpr c))⟩
  refine⟨n,ws,l,rfl,pr,by omega,?_⟩
  have lU:((free.filter λk=>lv l (tO (oA os k))).map Å).length=ofN os free l:=Â ..
  have c:¬ask<=0:=c
  refine bH (λc2=>?_) (λc2=>?_)
  ·have c2:(((ws.filter (lv l)).length:Nat):Int)+((((free.filter λk=>lv l (tO (oA os k))).map Å).length:Nat):Int)<2:=of_decide_eq_true c2
   refine⟨zK,rfl,q (.bar l) (by cases kk <;> exact pr) (Ig g41 (by rw[lU] at c2;exact c2))⟩
  have c2:¬(((ws.filter (lv l)).length:Nat):Int)+((((free.filter λk=>lv l (tO (oA os k))).map Å).length:Nat):Int)<2:=λz=>c2 (decide_eq_true z)
  obtain⟨z,r,er⟩:∃z r,(free.filter λk=>lv l (tO (oA os k)))=z::r:=by
   cases e:free.filter λk=>lv l (tO (oA os k)) with
   |nil=>rw[e] at c2;exact absurd c2 (by simp;omega)
   |cons z r=>exact⟨z,r,rfl⟩
  have zf:z∈free:=(đ.mp (show z∈free.filter λk=>lv l (tO (oA os k)) by rw[er];exact Ú)).1
  obtain⟨z0,z1⟩:=hfr z zf
  refine⟨.int z,by rw[er];exact(show atI ((z::r).map Å) ((0:Nat):Int)=_ from ż rfl),?_⟩
  refine jf free Å (λx=>!decide (x=z)) Å .imm rfl (by omega) (λx hx A B hA hB=>?_) ?_
  ·show if (!decide (x=z))=true then _ else _
   exact bH (λc=>⟨rfl,hA c⟩) (λc=>hB (by simpa using c))
  have lr:(free.filter λx=>!decide (x=z)).length<free.length:=by
   refine Nat.lt_of_le_of_ne (List.length_filter_le _ _) λe=>?_
   have:=List.length_filter_eq_length_iff.mp e z zf
   simp at this
  obtain⟨d,rfl⟩:∃d,kk=d+1:=⟨kk - 1,by omega⟩
  have rz:mL os.length [z]:=⟨Ŗ _ _,λx hx=>by rw[Ò.mp hx];exact⟨z0,z1⟩⟩
  have nz:z∉tk++lf:=by
   have zf:=zf
   rw[g41.fr,aX] at zf
   exact λy=>(Ù.mp y).elim zf.2.1 zf.2.2
  first
   |refine⟨one_le 999,n,ws,false,os,[z],rfl,lw,by omega,okw,lo,oo,rz,λys hp=>?_⟩
   |refine⟨one_le 999,n,ws,true,os,[z],rfl,lw,by omega,okw,lo,oo,rz,λys hp=>?_⟩
  refine⟨oD (oA os z),eN z0 z1,.int (oA os z).2.2,rfl,?_⟩
  first
   |refine⟨n,us,ys,false,os,_,_,num,tk++[z],lf,rfl,n1,n8,lu,ou,lo,oo,g41.take zf hp,by omega,lb,λt1 h1 e1=>?_⟩
   |refine⟨n,us,ys,true,os,_,_,num,tk++[z],lf,rfl,n1,n8,lu,ou,lo,oo,g41.take zf hp,by omega,lb,λt1 h1 e1=>?_⟩
  refine bQ (s:=.sn t1.D) (by rw[Ċ (aZ t1),Ċ (aZ t1)];rfl) ?_
  first
   |refine⟨n,us,ws,false,os,_,ask,num,tk,lf++[z],rfl,n1,n8,lu,ou,lo,oo,g41.left zf,by omega,lb,λt2 h2 e2=>?_⟩
   |refine⟨n,us,ws,true,os,_,ask,num,tk,lf++[z],rfl,n1,n8,lu,ou,lo,oo,g41.left zf,by omega,lb,λt2 h2 e2=>?_⟩
  refine⟨zK,?_,q (.tri z t1 t2) ⟨z0,z1,h1,h2⟩ ?_⟩
  ·show(norm (joins [(Kd.imm,PyData.str (ú "try")),(.imm,.int z),(.snw,t1.D),(norm .new t2.D,t2.D)]) (.tuple [.str (ú "try"),.int z,t1.D,t2.D])).le .n0=true
   rw[Ċ (aZ t2)]
   exact uG _
  ·show(!decide (z∈tk++lf)&&(hL us os num t1 (tk++[z]) lf&&hL us os num t2 tk (lf++[z])))=true
   rw[decide_eq_false nz,e1,e2]
   rfl
def Ql(F:Fun K "tree_for" "tree_for" (top 30) f fd):FnOk P w K mg base CX0 12 f fd ["made","offers","free","asked"] (spD (fTF 0)) :=
 F.ok iB (Ć λds P h=>h.elim) (λcdv A outer s H vs Q E hr h=>by
  obtain⟨_,_,_,t,_⟩:=h
  exact t.elim)
def Tc(k:Nat)(F:Fun K "tree_for" "tree_for" (top 30) f fd)(B:Ė mg)(b:Binds K fd ["made","offers","free","asked"] [])(m:mg "tree_for"=some (.ref f))(C1:Ñ P w K mg base 9 "needy_set" ["web","falls"] (spD j4))(C2:Ñ P w K mg base 1 "leaves" ["tie","some"] (spD fLv))(C3:Ñ P w K mg base 7 "leaving" ["web","some"] (spD tR))(C4:Ñ P w K mg base 2 "with_offers" ["web","offers","numbers"] (spD ji)):FnOk P w K mg base CX0 (k+12) f fd ["made","offers","free","asked"] (spD (fTF k)):=by
 induction k with
 |zero=>exact Ql F
 |succ k ih=>exact Qj F B C1 C2 C3 ⟨f,fd,ih,b,F.kp,m⟩ C4
def Qk(F:Fun K "tree_for" "tree_for" (top 30) f fd)(B:Ė mg)(b:Binds K fd ["made","offers","free","asked"] [])(m:mg "tree_for"=some (.ref f))(C1:Ñ P w K mg base 9 "needy_set" ["web","falls"] (spD j4))(C2:Ñ P w K mg base 1 "leaves" ["tie","some"] (spD fLv))(C3:Ñ P w K mg base 7 "leaving" ["web","some"] (spD tR))(C4:Ñ P w K mg base 2 "with_offers" ["web","offers","numbers"] (spD ji)):FnOk P w K mg base CX0 18 f fd ["made","offers","free","asked"] (spD (fTF 6)):=Tc 6 F B b m C1 C2 C3 C4
end
def lamOf:Expr->Arguments×Expr×Scope×Pos
 |.Lambda a b s p=>(a,b,s,p)
 |e=>(⟨[],[],none,[],[],none,[]⟩,e,{ kind:=.function,names:=[],isGenerator:=false,isCoroutine:=false },⟨0,0,0,0⟩)
def Lj:List Stmt->Expr
 |[.For _ (.Call _ _ [k] _) _ _ _,_]=>k.value
 |_=>.Constant .none 0 ⟨0,0,0,0⟩
def TJ(st:Stmt):Arguments:=(lamOf (Lj (cJ st))).1
def TF(st:Stmt):Expr:=(lamOf (Lj (cJ st))).2.1
def Li(st:Stmt):Scope:=(lamOf (Lj (cJ st))).2.2.1
def lamP(st:Stmt):Pos:=(lamOf (Lj (cJ st))).2.2.2
def caq:Str:=("cheapest_answer":Str)++".<locals>."++"<lambda>"
def fX(PT:Addr):Pn:=wL PT (lamP (top 29)) caq
def Cr(dc dx:D)(k:Int):Prop:=∃(b:Bool) (os:List Off) (ks:List Int),dc=oT b os/\dx=iD ks/\ks.length<=8/\(∀k∈ks,0<=k/\k<((os.length:Nat):Int))/\k=cst os ks
def fCA(ds:List D)(P:D->Prop):Prop:=∃(n:Int) (us:List Tie) (b:Bool) (os:List Off),ds=[aA n us,oT b os]/\1<=n/\n<=8/\us.length<=40/\OkN n us/\os.length<=5/\OkO n os/\((∀ks,InR os.length ks->¬jK n us os ks)->P .none) /\
 ∀ks,mL os.length ks->jK n us os ks->JK n us os (cst os ks)->P (iD ks)
def wB{m:Nat}(h:m<=5):(subs m).length<64:=by
 rw[qO]
 have:m=0\/m=1\/m=2\/m=3\/m=4\/m=5:=by omega
 rcases this with rfl|rfl|rfl|rfl|rfl|rfl <;> decide
def j9{m:Nat}{l:List Int}(h:l∈subs m):mL m l:=⟨(dR m l h).1,(dR m l h).2.1⟩
def mL.inr{m:Nat}{l:List Int}(h:mL m l):InR m l:=⟨h.1.imp λh=>by omega,h.2⟩
def Cq{m:Nat}{ks:List Int}(h:InR m ks):∃l∈subs m,l.Perm ks:=by
 refine⟨_,pI (λx=>decide (x∈ks)) m,(List.perm_ext_iff_of_nodup ?_ h.1).mpr λx=>?_⟩
 ·exact((cU m).filter _).imp λh=>by omega
 ·rw[đ,iK,decide_eq_true_iff]
  exact⟨λz=>z.2,λz=>⟨h.2 x z,z⟩⟩
def yg{n:Int}{us:List Tie}{os:List Off}{a b:List Int}(h:a.Perm b)(an:jK n us os b):jK n us os a:=λl pr=>by rw[xg h];exact an l pr
def Im:∀{a b:List Int},lD a=lD b->a=b:=λ{a b} e=>by
 have e:a.map Å=b.map Å:=by injection e
 exact(List.map_inj_right λx y h=>by injection h).mp e
def oY{os:List Off}{L:List (List Int)}{ps:List (Int×D)}(hp:ps.Perm ((L.map (cst os)).zip (L.map lD))){p:Int×D}:p∈ps↔∃l∈L,p=(cst os l,lD l):=by
 rw[hp.mem_iff,List.zip_map',List.mem_map]
 exact⟨λ⟨l,h,e⟩=>⟨l,h,e.symm⟩,λ⟨l,h,e⟩=>⟨l,h,e.symm⟩⟩
section
variable {P:Program}{w:World}{K:Ô}{mg:Str->Option Value}{base:Heap}{f:Addr}{fd:FuncData}{PT:Addr}
def Nh:FnScope ["web","offers","numbers"] ["web","offers"] (aj (top 29)):=zC
def Ek(b:Nat):LamScope ["some"] ["offers"] (Li (top 29)) [(ú "offers",b)]:=by
 have fr:∀y∈(Li (top 29)).names,y.2=.free->y.1="offers":=by decide +kernel
 have lw:List.lookup (ú "offers") [(ú "offers",b)]=some b:=by rw[þ,beq_self_eq_true]
 have inv:∀x c,List.lookup x [(ú "offers",b)]=some c->x="offers":=λx c h=>by
  rw[þ] at h
  cases e1:x == ú "offers" with
  |true=>exact eq_of_beq e1
  |false=>rw[e1] at h;cases h
 refine⟨rfl,rfl,rfl,by decide +kernel,λx hx=>?_,λy hy=>?_,by decide +kernel,λx h=>?_,λx y c h1 h2=>?_⟩
 ·rw[Ò.mp hx];rfl
 ·rw[Ò.mp hy];rfl
 ·have z:x="offers":=fr _ (Ě h) rfl
  subst z
  exact⟨_,lw⟩
 ·rw[inv x c h1,inv y c h2]
def QS(C_cost:∀base,Ñ P w K mg base 1 "cost_of" ["offers","numbers"] (spD fCO)){cvs:List V}{base':Heap}{fl c':Addr}{pm ctv:Value}{b:Nat}(hl:cvs.length=1)(e:base'.get? fl=some (Ŵ "<lambda>" caq (TJ (top 29)) (TF (top 29)) (Li (top 29)) [(ú "offers",b)] pm c' ctv))(C:Caps base' [(ú "offers",b)] ["offers"] cvs) :
  ∃fd,FnOk P w K mg base' CX0 3 fl fd ["some"] (Ox caq Cr cvs c')/\Binds K fd ["some"] []:=by
 refine⟨_,Rf (cvs:=cvs) e (λ_ _ _ _ h=>h.1) (Ek b) C (λvs H Q E h=>?_) (λA outer s H vs Q E hr h=>?_),.all λus hl=>?_⟩
 ·obtain⟨_,v0,v1,dc,dx,k,_,rfl,_⟩:=h
  rfl
 ·obtain⟨kn,v0,v1,dc,dx,k,rfl,rfl,r0,r1,⟨b,os,ks,rfl,rfl,lk,hk,rfl⟩,kk⟩:=h
  refine⟨_,(ĉ (C_cost base') hr (À (Ä 1) (À (Ä 0) Á))).h,?_⟩
  refine⟨g8,H,λ_=>none,[.sh (iD ks),.sh (oT b os)],λk d=>d=.int (cst os ks),?_,?_,λkd d v H' hd A rp=>?_⟩
  ·refine⟨λ_ _ e _=>e,trivial,(λ_ _ e=>(nomatch e)),λi s e=>?_,rfl,trivial⟩
   match i,e with
   |0,e=>cases e;exact⟨v1,rfl,r1.mono (λ_ _=>⟨λz=>z,rfl⟩) (λ_ _ _ e=>e) λ_ _ e=>e⟩
   |1,e=>cases e;exact⟨v0,rfl,r0.mono (λ_ _=>⟨λz=>z,rfl⟩) (λ_ _ _ e=>e) λ_ _ e=>e⟩
  ·exact⟨b,os,ks,rfl,lk,hk,rfl⟩
  ·subst hd
   have:=rp.int'
   subst this
   exact kk H' (λb o e=>A.kp b o e λz=>z)
 ·obtain⟨_,rfl⟩:∃a,us=[a]:=by
   match us,hl with
   |[a],_=>exact⟨a,rfl⟩
  rfl
abbrev xCA(P:Program)(w:World)(K:Ô)(mg:Str->Option Value)(base:Heap)(f c:Addr)(A:Around)(outer:List Env)(s:Shared)(H:Hp)(E:XK):Cx:=(Ad CX0 P w K mg base ["web","offers","numbers"] "cheapest_answer" (aj (top 29)) f (.ref c) A outer s H E).nox
def Te{c:Addr}{oc kV doc pm ct:Value}{od an:Option Addr}{osl:Array (Option Value)}(lk:K.lookup f=some ⟨oc,od,.func (W.fnOf "cheapest_answer" "cheapest_answer" (fJ (top 29)) (cJ (top 29)) (aj (top 29)) .none kV doc pm an (.ref c) ct),osl⟩)(hcd:W.codeIn K (.ref c) "cheapest_answer"=true)(hC:∀h:Heap,K.In h->W.CodeHd h c PT)(hB:base.BuiltinsAt mg PT)(B:Ė mg)(C_cost:∀base,Ñ P w K mg base 1 "cost_of" ["offers","numbers"] (spD fCO))(C_sets_below:Ñ P w K mg base 1 "sets_below" ["count"] (spD fSB))(C_stands:Ñ P w K mg base 10 "stands" ["web","falls"] (spD Cy))(C_with_offers:Ñ P w K mg base 2 "with_offers" ["web","offers","numbers"] (spD ji)) :
  FnOk P w K mg base CX0 12 f (W.fnOf "cheapest_answer" "cheapest_answer" (fJ (top 29)) (cJ (top 29)) (aj (top 29)) .none kV doc pm an (.ref c) ct) ["web","offers"] (spT (fX PT) fCA):=by
 refine N7 (N:=["web","offers","numbers"]) lk hcd Nh Cg (λA outer s H vs Q E hr h=>?_)
 have nd:=Nh.nd
 letI:=grU (fX PT)
 have SLAM:∀{e:Expr}{te:DE}{p pos kp:Pos},Wr.WD (xCA P w K mg base f c A outer s H E) e te->starEach [e] (xCA P w K mg base f c A outer s H E).env=(false,eval e (xCA P w K mg base f c A outer s H E).env)::starEach [] (xCA P w K mg base f c A outer s H E).env ->
   Wr.WD (xCA P w K mg base f c A outer s H E) (.Call (.Name "sorted" p) [e] [⟨some "key",.Lambda (TJ (top 29)) (TF (top 29)) (Li (top 29)) (lamP (top 29)),kp⟩] pos) (tSL 1 Cr te):=λ{e te p pos kp} he hs=>by
  refine⟨PE.wk (yR (X:=xCA P w K mg base f c A outer s H E) (c:=c) (P:=PT) (ys:=["offers"]) (ps:=["some"]) (qual:=caq) (k:=3) (cl:=[(ú "offers",s.heap.objs.size+1)]) (spL:=Ox caq Cr) (λcvs base' fl c' pm ctv hl e C=>QS C_cost hl e C) (Room.in1 (Room.in1 (hr.mono (show 5<=11 by decide)))) rfl B.sorted he.h rfl rfl rfl rfl (hC base) (λ_=>hB) (λ_=>rfl) ?_ ?_ hs) (Lb rfl)⟩
  ·intro y b h
   exact h
  ·intro y hy
   rw[Ò.mp hy]
   exact⟨rfl,_,rfl⟩
 refine⟨_,PSs.nox (ē (Û (Wr.gK Ğ rfl (ĩ (SLAM (ĉ C_sets_below hr (À (ă B.len (À (Ä 1) Á)) Á)) rfl)) (ì (i:=2) nd rfl zQ) (Û (ý (ö (ĉ C_stands hr (À (ĉ C_with_offers hr (À (Ä 0) (À (Ä 1) (À (Ä 2) Á)))) (À Ã Á)))) (Ö (ß (Ä 2))) â) (ŏ [2] â)))
  (ŏ [2] (Ö (ß Wr.iV))))),Jo h ?_⟩
 rintro ds P ⟨n,us,b,os,rfl,n1,n8,lu,ou,lo,oo,q0,q1⟩
 have lmo:(os.map oD).length=os.length:=Â ..
 have fin:∀ps:List (Int×D),ps.Perm (((subs os.length).map (cst os)).zip ((subs os.length).map lD))->ps.Pairwise (λp q=>p.1<=q.1)->∀(i:Nat) (p:Int×D),ps[i]?=some p->(∀p∈ps.take i,∀l∈subs os.length,p=(cst os l,lD l)->¬jK n us os l)->∀l∈subs os.length,p=(cst os l,lD l)->jK n us os l->JK n us os (cst os l):=λps hp hw i p hpi al l hl e an ks ir an2=>by
  obtain⟨l',hl',pp⟩:=Cq ir
  have m':=(oY hp (p:=(cst os l',lD l'))).mpr ⟨l',hl',rfl⟩
  obtain⟨j,hj,ej⟩:=List.getElem_of_mem m'
  have hi:i<ps.length:=(Ý.mp hpi).1
  have ei:ps[i]=p:=(Ý.mp hpi).2
  rw[←Jy pp]
  rcases Nat.lt_trichotomy i j with z|z|z
  ·have:=ŋ.mp hw i j hi hj z
   rw[ei,ej,e] at this
   exact this
  ·subst z
   rw[ei,e] at ej
   rw[(Prod.mk.inj ej).1]
   exact Int.le_refl _
  ·refine absurd (yg pp an2) (al (cst os l',lD l') ?_ l' hl' rfl)
   rw[←ej]
   exact List.mem_take_iff_getElem.mpr ⟨j,by omega,rfl⟩
 have nin:∀ps:List (Int×D),ps.Perm (((subs os.length).map (cst os)).zip ((subs os.length).map lD))->(∀p∈ps,∀l∈subs os.length,p=(cst os l,lD l)->¬jK n us os l)->∀ks,InR os.length ks->¬jK n us os ks:=λps hp al ks ir an=>by
  obtain⟨l,hl,pp⟩:=Cq ir
  exact al _ ((oY hp).mpr ⟨l,hl,rfl⟩) l hl rfl (yg pp an)
 have hgk:∀(j:Nat) (x:D) (c:Int),((subs os.length).map lD)[j]?=some x->((subs os.length).map (cst os))[j]?=some c->Cr (oT b os) x c:=λj x c h1 h2=>by
  rw[å] at h1 h2
  obtain⟨l,hl,rfl⟩:=ł.mp h1
  rw[hl] at h2
  cases h2
  have ml:=Ð hl
  obtain⟨_,hr,hll⟩:=dR _ l ml
  exact⟨b,os,l,rfl,rfl,by omega,hr,rfl⟩
 cases b with
 |true =>
  refine⟨[.im (aA n us),.sh (.list (os.map oD)),.any],by show [aD (aA n us),aD (oT true os),.any]=_;rw[ġ,cN];rfl,?_⟩
  refine⟨_,rfl,by omega,by omega,?_⟩
  refine⟨(subs os.length).map lD,(subs os.length).map (cst os),oT true os,by show Ď ((subs ((((os.map oD).length:Nat):Int)).toNat).map lD)=_;rw[lmo,ŀ],.inl rfl,by rw[Â,Â],by rw[Â];exact wB lo,hgk,λps hp hw=>?_⟩
  refine⟨rfl,λ(i:Nat) ρ=>ρ=[.im (aA n us),.sh (.list (os.map oD)),.any]/\∀p∈ps.take i,∀l∈subs os.length,p=(cst os l,lD l)->¬jK n us os l,⟨rfl,λp h=>nomatch h⟩,?_,?_⟩
  ·rintro i d ρ hd ⟨rfl,al⟩
   rw[å] at hd
   obtain⟨p,hpi,rfl⟩:=ł.mp hd
   obtain⟨l,hl,e⟩:=(oY hp).mp (Ð hpi)
   obtain⟨_,hrr,hll⟩:=dR _ l hl
   have ed:p.2=iD l:=by rw[e];rfl
   rw[ed]
   refine⟨n,us,true,os,l,rfl,by omega,by omega,ou,by omega,oo,j9 hl,λws hpw=>?_⟩
   have lw:ws.length<=100:=by
    rw[hpw.length_eq,Î,Â]
    unfold dW
    rw[Â]
    omega
   refine⟨n,ws,1,rfl,n1,n8,lw,λbb hb=>bH (λc=>?_) (λc=>?_)⟩
   ·have an:=(cQ n1 n8 ou oo hrr hpw).mp (hb.mp c)
    exact⟨rfl,q1 l (j9 hl) an (fin ps hp hw i p hpi al l hl e an)⟩
   ·refine⟨rfl,λp' hp' l' hl' e'=>?_⟩
    rw[Ē,hpi] at hp'
    rcases Ù.mp hp' with z|z
    ·exact al p' z l' hl' e'
    ·have z:p'=p:=by simpa using z
     rw[z,e] at e'
     have el:=Im (Prod.mk.inj e').2
     rw[←el]
     exact λan=>c (hb.mpr ((cQ n1 n8 ou oo hrr hpw).mpr an))
  ·rintro ρ ⟨rfl,al⟩
   rw[Â,ě] at al
   exact⟨rfl,q0 (nin ps hp al)⟩
 |false =>
  refine⟨[.im (aA n us),.im (.tuple (os.map oD)),.any],by show [aD (aA n us),aD (oT false os),.any]=_;rw[ġ,cN];rfl,?_⟩
  refine⟨_,rfl,by omega,by omega,?_⟩
  refine⟨(subs os.length).map lD,(subs os.length).map (cst os),oT false os,by show Ď ((subs ((((os.map oD).length:Nat):Int)).toNat).map lD)=_;rw[lmo,ŀ],.inr rfl,by rw[Â,Â],by rw[Â];exact wB lo,hgk,λps hp hw=>?_⟩
  refine⟨rfl,λ(i:Nat) ρ=>ρ=[.im (aA n us),.im (.tuple (os.map oD)),.any]/\∀p∈ps.take i,∀l∈subs os.length,p=(cst os l,lD l)->¬jK n us os l,⟨rfl,λp h=>nomatch h⟩,?_,?_⟩
  ·rintro i d ρ hd ⟨rfl,al⟩
   rw[å] at hd
   obtain⟨p,hpi,rfl⟩:=ł.mp hd
   obtain⟨l,hl,e⟩:=(oY hp).mp (Ð hpi)
   obtain⟨_,hrr,hll⟩:=dR _ l hl
   have ed:p.2=iD l:=by rw[e];rfl
   rw[ed]
   refine⟨n,us,false,os,l,rfl,by omega,by omega,ou,by omega,oo,j9 hl,λws hpw=>?_⟩
   have lw:ws.length<=100:=by
    rw[hpw.length_eq,Î,Â]
    unfold dW
    rw[Â]
    omega
   refine⟨n,ws,1,rfl,n1,n8,lw,λbb hb=>bH (λc=>?_) (λc=>?_)⟩
   ·have an:=(cQ n1 n8 ou oo hrr hpw).mp (hb.mp c)
    exact⟨rfl,q1 l (j9 hl) an (fin ps hp hw i p hpi al l hl e an)⟩
   ·refine⟨rfl,λp' hp' l' hl' e'=>?_⟩
    rw[Ē,hpi] at hp'
    rcases Ù.mp hp' with z|z
    ·exact al p' z l' hl' e'
    ·have z:p'=p:=by simpa using z
     rw[z,e] at e'
     have el:=Im (Prod.mk.inj e').2
     rw[←el]
     exact λan=>c (hb.mpr ((cQ n1 n8 ou oo hrr hpw).mpr an))
  ·rintro ρ ⟨rfl,al⟩
   rw[Â,ě] at al
   exact⟨rfl,q0 (nin ps hp al)⟩
end
def fCh(ds:List D)(P:D->Prop):Prop:=∃(n:Int) (us:List Tie) (b:Bool) (os:List Off),ds=[aA n us,oT b os]/\1<=n/\n<=8/\us.length<=40/\OkN n us/\os.length<=5/\OkO n os/\(∀l,Proper n l->(∀ks,InR os.length ks->¬jK n us os ks)->P (.tuple [.str "barred",iD l])) /\
 ∀ks t,mL os.length ks->jK n us os ks->JK n us os (cst os ks)->t.Ok n os.length 5->hL us os (cst os ks) t [] []=true->P (.tuple [.str "cheapest",.int (cst os ks),iD ks,t.D])
def yd(us:List Tie)(os:List Off)(num:Int):At41 us os num [] [] us (cB os.length) num:=⟨List.Pairwise.nil,(λk hk=>nomatch hk),(λk hk=>nomatch hk),by show us.Perm (us++[]);rw[Ā],by
 unfold cg
 rw[List.filter_eq_self.mpr]
 intro k hk
 rfl,by show num=num - 0;omega⟩
section
variable {P:Program}{w:World}{K:Ô}{mg:Str->Option Value}{base:Heap}{f:Addr}{fd:FuncData}{PT:Addr}
def oh:FnScope ["web","offers","every","numbers","cost"] ["web","offers"] (aj (top 31)):=zC
def wZ(F:Fun K "cheapest" "cheapest" (top 31) f fd)(B:Ė mg)(C_check_offers:Ñ P w K mg base 5 "check_offers" ["web","thing"] (spD Mj))(C_cheapest_answer:Ñ P w K mg base 12 "cheapest_answer" ["web","offers"] (spT (fX PT) fCA))(C_needy_set:Ñ P w K mg base 9 "needy_set" ["web","falls"] (spD j4))(C_with_offers:Ñ P w K mg base 2 "with_offers" ["web","offers","numbers"] (spD ji))(C_cost_of:Ñ P w K mg base 1 "cost_of" ["offers","numbers"] (spD fCO))(C_tree_for:Ñ P w K mg base 18 "tree_for" ["made","offers","free","asked"] (spD (fTF 6))):FnOk P w K mg base CX0 19 f fd ["web","offers"] (spT (fX PT) fCh):=by
 refine F.ok oh Cg (λcdv A outer s H vs Q E hr h=>?_)
 have nd:=oh.nd
 letI:=grU (fX PT)
 refine⟨_,ē (Û (Wr.mG (ĉ C_check_offers hr (À (Ä 0) (À (Ä 1) Á))))
  (Û (ć none (i:=2) nd rfl zQ (Wr.cR rfl B.list B.range (À (ă B.len (À (Ä 1) Á)) Á)))
  (Û (ć none (i:=3) nd rfl zQ (Wr.dcU C_cheapest_answer hr (À (Ä 0) (À (Ä 1) Á))))
  (Û (ý (Wr.uQ (Ä 3) Wr.iV) (Ö (ß (ê (À č (À (ĉ C_needy_set hr (À (ĉ C_with_offers hr (À (Ä 0) (À (Ä 1) (À (Ä 2) Á)))) (À Ã Á))) Á))))) â)
  (Û (ć none (i:=4) nd rfl zQ (ĉ C_cost_of hr (À (Ä 1) (À (Ä 3) Á))))
  (Ö (ß (ê (À č (À (Ä 4) (À (Ä 3) (À (ĉ C_tree_for hr (À (Ä 0) (À (Ä 1) (À (Ä 2) (À (Ä 4) Á))))) Á)))))))))))),Jo h ?_⟩
 rintro ds P ⟨n,us,b,os,rfl,n1,n8,lu,ou,lo,oo,q0,q1⟩
 have lmo:(os.map oD).length=os.length:=Â ..
 have eR:∀k:Nat,k=os.length->Ď (bA 0 (((k:Nat):Int) - 0).toNat)=iD (cB os.length):=λk e=>by
  subst e
  rw[Int.sub_zero,ŀ]
  unfold cB
  show Ď ((ä os.length).map _)=Ď (List.map Å _)
  rw[ç]
  rfl
 have hR:∀k∈cB os.length,0<=k/\k<((os.length:Nat):Int):=λk hk=>fV.mp hk
 have lR:(cB os.length).length=os.length:=by
  unfold cB
  rw[Â,ĳ]
 cases b with
 |true =>
  refine⟨[.im (aA n us),.sh (.list (os.map oD)),.any,.any,.any],by show [aD (aA n us),aD (oT true os),.any,.any,.any]=_;rw[ġ,cN];rfl,?_⟩
  refine⟨n,us,true,os,rfl,by omega,oo,?_⟩
  refine⟨⟨by omega,by omega⟩,?_⟩
  refine⟨n,us,true,os,rfl,n1,n8,lu,ou,lo,oo,λno=>?_,λks rk an lb=>?_⟩
  ·refine aF (B:=True) ?_
   refine⟨n,us,true,os,cB os.length,?_,by omega,by omega,ou,by omega,oo,⟨cU _,hR⟩,λws hw=>?_⟩
   ·show [aA n us,oT true os,.list (bA 0 ((((os.map oD).length:Nat):Int) - 0).toNat)]=_
    rw[eR _ lmo]
   have lw:ws.length<=100:=by
    rw[hw.length_eq,Î,Â]
    unfold dW
    rw[Â]
    omega
   refine⟨n,ws,1,rfl,n1,n8,lw,λd hd=>?_⟩
   rcases hd with ⟨rfl,st⟩|⟨l,rfl,ml,pr,cl⟩
   ·exact absurd ((cQ n1 n8 ou oo hR hw).mp st) (no _ ⟨(cU _).imp λh=>by omega,hR⟩)
   ·exact⟨zK,rfl,q0 l pr no⟩
  ·refine ak (A:=True) ?_
   have lk:=rk.len
   refine⟨true,os,ks,rfl,by omega,rk.2,?_⟩
   refine⟨n,us,us,true,os,cB os.length,cst os ks,cst os ks,[],[],?_,n1,n8,lu,ou,by omega,oo,yd us os _,(show(cB os.length).length<=5 by omega),lb,λt h1 h2=>?_⟩
   ·show [aA n us,oT true os,.list (bA 0 ((((os.map oD).length:Nat):Int) - 0).toNat),.int (cst os ks)]=_
    rw[eR _ lmo]
   refine⟨zK,?_,q1 ks t rk an lb h1 h2⟩
   show(norm (joins [(Kd.imm,PyData.str (ú "cheapest")),(.imm,.int (cst os ks)),(.snw,iD ks),(norm .new t.D,t.D)]) (.tuple [.str (ú "cheapest"),.int (cst os ks),iD ks,t.D])).le .n0=true
   rw[Ċ (aZ t)]
   exact uG _
 |false =>
  refine⟨[.im (aA n us),.im (.tuple (os.map oD)),.any,.any,.any],by show [aD (aA n us),aD (oT false os),.any,.any,.any]=_;rw[ġ,cN];rfl,?_⟩
  refine⟨n,us,false,os,rfl,by omega,oo,?_⟩
  refine⟨⟨by omega,by omega⟩,?_⟩
  refine⟨n,us,false,os,rfl,n1,n8,lu,ou,lo,oo,λno=>?_,λks rk an lb=>?_⟩
  ·refine aF (B:=True) ?_
   refine⟨n,us,false,os,cB os.length,?_,by omega,by omega,ou,by omega,oo,⟨cU _,hR⟩,λws hw=>?_⟩
   ·show [aA n us,oT false os,.list (bA 0 ((((os.map oD).length:Nat):Int) - 0).toNat)]=_
    rw[eR _ lmo]
   have lw:ws.length<=100:=by
    rw[hw.length_eq,Î,Â]
    unfold dW
    rw[Â]
    omega
   refine⟨n,ws,1,rfl,n1,n8,lw,λd hd=>?_⟩
   rcases hd with ⟨rfl,st⟩|⟨l,rfl,ml,pr,cl⟩
   ·exact absurd ((cQ n1 n8 ou oo hR hw).mp st) (no _ ⟨(cU _).imp λh=>by omega,hR⟩)
   ·exact⟨zK,rfl,q0 l pr no⟩
  ·refine ak (A:=True) ?_
   have lk:=rk.len
   refine⟨false,os,ks,rfl,by omega,rk.2,?_⟩
   refine⟨n,us,us,false,os,cB os.length,cst os ks,cst os ks,[],[],?_,n1,n8,lu,ou,by omega,oo,yd us os _,(show(cB os.length).length<=5 by omega),lb,λt h1 h2=>?_⟩
   ·show [aA n us,oT false os,.list (bA 0 ((((os.map oD).length:Nat):Int) - 0).toNat),.int (cst os ks)]=_
    rw[eR _ lmo]
   refine⟨zK,?_,q1 ks t rk an lb h1 h2⟩
   show(norm (joins [(Kd.imm,PyData.str (ú "cheapest")),(.imm,.int (cst os ks)),(.snw,iD ks),(norm .new t.D,t.D)]) (.tuple [.str (ú "cheapest"),.int (cst os ks),iD ks,t.D])).le .n0=true
   rw[Ċ (aZ t)]
   exact uG _
@[irreducible] def xP(ds:List D)(P:D->Prop):Prop:=fCh ds P
def Mf{ds:List D}{P:D->Prop}(h:fCh ds P):xP ds P:=by
 unfold xP
 exact h
def Qt(F:Fun K "cheapest" "cheapest" (top 31) f fd)(B:Ė mg)(C1:Ñ P w K mg base 5 "check_offers" ["web","thing"] (spD Mj))(C2:Ñ P w K mg base 12 "cheapest_answer" ["web","offers"] (spT (fX PT) fCA))(C3:Ñ P w K mg base 9 "needy_set" ["web","falls"] (spD j4))(C4:Ñ P w K mg base 2 "with_offers" ["web","offers","numbers"] (spD ji))(C5:Ñ P w K mg base 1 "cost_of" ["offers","numbers"] (spD fCO))(C6:Ñ P w K mg base 18 "tree_for" ["made","offers","free","asked"] (spD (fTF 6))):FnOk P w K mg base CX0 19 f fd ["web","offers"] (spT (fX PT) xP) :=
 (wZ F B C1 C2 C3 C4 C5 C6).imp λvs H Q E ⟨ds,P,pi,r,t,k⟩=>⟨ds,P,pi,r,by unfold xP at t;exact t,k⟩
end
def Sh(k m:Nat)(d:D):Prop:=d.showable=true/\d.leavesShort 40=true/\d.depth<=k/\d.bulk<=m
instance (k m:Nat)(d:D):Decidable (Sh k m d):=by unfold Sh;exact inferInstance
def Sh.mono{k m k' m':Nat}{d:D}(h:Sh k m d)(h1:k<=k')(h2:m<=m'):Sh k' m' d:=⟨h.1,h.2.1,é h.2.2.1 h1,é h.2.2.2 h2⟩
def Sh.int{k m:Nat}{i:Int}(h0:-1000<=i)(h1:i<=1000):Sh k m (.int i):=by
 refine⟨?_,?_,à _,à _⟩
 ·simp only[PyData.showable,decide_eq_true_eq]
  have:=Nat.log2_le_self i.natAbs
  omega
 ·simp only[PyData.leavesShort,decide_eq_true_eq]
  have:=PyData.shown_int_le (i:=i) (by omega)
  omega
def yK{k m:Nat}:∀{ds:List D},(∀d∈ds,Sh k m d)->ń ds=true/\ĵ 40 ds=true/\ô ds<=k/\Ũ ds<=ds.length * (m+1)
 |[],_=>⟨rfl,rfl,à _,à _⟩
 |d::ds,h=>by
  obtain⟨h1,h2,h3,h4⟩:=yK (ds:=ds) λe he=>h e (Ó _ he)
  obtain⟨g1,g2,g3,g4⟩:=h d Ú
  refine⟨?_,?_,?_,?_⟩
  ·show(d.showable&&ń ds)=true
   rw[g1,h1];rfl
  ·show(d.leavesShort 40&&ĵ 40 ds)=true
   rw[g2,h2];rfl
  ·show max d.depth (ô ds)<=k
   omega
  ·show d.bulk+1+Ũ ds<=(ds.length+1) * (m+1)
   rw[Nat.add_mul]
   omega
def Sh.list{k m c:Nat}{ds:List D}(h:∀d∈ds,Sh k m d)(hc:ds.length * (m+1)<=c):Sh (k+1) c (.list ds):=by
 obtain⟨h1,h2,h3,h4⟩:=yK h
 exact⟨h1,h2,Nat.succ_le_succ h3,é h4 hc⟩
def Sh.tuple{k m c:Nat}{ds:List D}(h:∀d∈ds,Sh k m d)(hc:ds.length * (m+1)<=c):Sh (k+1) c (.tuple ds):=by
 obtain⟨h1,h2,h3,h4⟩:=yK h
 exact⟨h1,h2,Nat.succ_le_succ h3,é h4 hc⟩
def Sh.ok{k m:Nat}{d:D}(h:Sh k m d)(hk:k<=50)(hm:m<=100000):K3 d:=by
 obtain⟨h1,h2,h3,h4⟩:=h
 refine⟨h1,by omega,?_⟩
 have b:=PyData.shown_le_bulk 40 (by decide) d h2
 have h24:=õ
 have:(40+2) * d.bulk<=42 * 100000:=Nat.mul_le_mul (by decide) (by omega)
 omega
def Sh.big{k m:Nat}{i:Int}(h0:0<=i)(h1:i<10 ^ 30):Sh k m (.int i):=by
 have hn:i.natAbs<10 ^ 30:=by
  have e1:(10:Int) ^ 30=1000000000000000000000000000000:=by decide
  have e2:(10:Nat) ^ 30=1000000000000000000000000000000:=by decide
  rw[e2]
  rw[e1] at h1
  omega
 refine⟨?_,?_,à _,à _⟩
 ·simp only[PyData.showable,decide_eq_true_eq]
  by_cases z:i.natAbs=0
  ·rw[z]
   decide
  ·have h2:i.natAbs<2 ^ 100:=ã hn (by decide)
   have:=(Nat.log2_lt z).mpr h2
   omega
 ·simp only[PyData.leavesShort,decide_eq_true_eq]
  have e:=PySem.int_text_length_le10 (k:=30) (by decide) hn
  rw[PyData.shown_int]
  have e2:=PySem.ofString_length (toString i)
  omega
def O4{n:Int}{t:Tie}(n8:n<=8)(h:OkT n t):Sh 1 2 (pD t):=Sh.tuple (k:=0) (m:=0) (λd hd=>by
 obtain⟨⟨a0,a1⟩,⟨b0,b1⟩,_⟩:=h
 simp only[è,ĸ,or_false] at hd
 rcases hd with rfl|rfl
 ·exact Sh.int (by omega) (by omega)
 ·exact Sh.int (by omega) (by omega)) (by show 2 * (0+1)<=2;decide)
def O5{n:Int}{o:Off}(n8:n<=8)(h:OkT n (tO o))(c0:0<=o.2.2)(c1:o.2.2<10 ^ 30):Sh 1 3 (oD o):=Sh.tuple (k:=0) (m:=0) (λd hd=>by
 obtain⟨⟨a0,a1⟩,⟨b0,b1⟩,_⟩:=h
 have a0:0<=o.1:=a0
 have a1:o.1<n:=a1
 have b0:0<=o.2.1:=b0
 have b1:o.2.1<n:=b1
 simp only[è,ĸ,or_false] at hd
 rcases hd with rfl|rfl|rfl
 ·exact Sh.int (by omega) (by omega)
 ·exact Sh.int (by omega) (by omega)
 ·exact Sh.big c0 c1) (by show 3 * (0+1)<=3;decide)
def O1{n:Int}{us:List Tie}(n1:1<=n)(n8:n<=8)(lu:us.length<=52)(ok:OkN n us):Sh 3 1000 (aA n us):=Sh.tuple (k:=2) (m:=200) (λd hd=>by
 simp only[è,ĸ,or_false] at hd
 rcases hd with rfl|rfl
 ·exact Sh.int (by omega) (by omega)
 ·refine Sh.tuple (k:=1) (m:=2) (λd hd=>?_) (by rw[Â];omega)
  obtain⟨t,ht,rfl⟩:=ø.mp hd
  exact O4 n8 (ok t ht)) (by show 2 * (200+1)<=1000;decide)
def J2{n:Int}{os:List Off}(b:Bool)(n8:n<=8)(lo:os.length<=8)(ok:OkO n os):Sh 3 1000 (oT b os):=by
 have h:∀d∈os.map oD,Sh 2 10 d:=λd hd=>by
  obtain⟨o,ho,rfl⟩:=ø.mp hd
  obtain⟨h1,h2,h3⟩:=ok o ho
  exact(O5 n8 h1 h2 h3).mono (by decide) (by decide)
 cases b with
 |true=>exact Sh.list h (by rw[Â];omega)
 |false=>exact Sh.tuple h (by rw[Â];omega)
def O2:Sh 0 9 (.str "try"):=⟨by decide +kernel,by decide +kernel,à _,by decide +kernel⟩
def Gd:Sh 0 9 (.str "barred"):=⟨by decide +kernel,by decide +kernel,à _,by decide +kernel⟩
def FW:Sh 0 9 (.str "weights"):=⟨by decide +kernel,by decide +kernel,à _,by decide +kernel⟩
def FZ{n:Int}{l:List Int}(n8:n<=8)(h:Proper n l):Sh 1 9 (iD l):=Sh.list (k:=0) (m:=0) (λd hd=>by
 obtain⟨x,hx,rfl⟩:=ø.mp hd
 have:=h.rng x hx
 exact Sh.int (by omega) (by omega)) (by have:=h.few;rw[Â];omega)
def Ga{n:Int}{r:Rw}(n8:n<=8)(h:Proper n r.1)(h1:1<=r.2)(h2:r.2<=10 ^ 29):Sh 2 20 (rwD r):=Sh.tuple (k:=1) (m:=9) (λd hd=>by
 simp only[è,ĸ,or_false] at hd
 rcases hd with rfl|rfl
 ·exact FZ n8 h
 ·refine Sh.big (by omega) (Int.lt_of_le_of_lt h2 (by decide))) (by show 2 * (9+1)<=20;decide)
def ShA(k m:Nat)(ds:List D):Prop:=ń ds=true/\ĵ 40 ds=true/\ô ds<=k/\Ũ ds<=m
def ShA.nil{k m:Nat}:ShA k m []:=⟨rfl,rfl,à _,à _⟩
def ShA.cons{k m1 m2 m:Nat}{d:D}{ds:List D}(h:Sh k m1 d)(g:ShA k m2 ds)(e:m1+1+m2<=m):ShA k m (d::ds):=by
 obtain⟨h1,h2,h3,h4⟩:=h
 obtain⟨g1,g2,g3,g4⟩:=g
 refine⟨?_,?_,?_,?_⟩
 ·show(d.showable&&ń ds)=true
  rw[h1,g1];rfl
 ·show(d.leavesShort 40&&ĵ 40 ds)=true
  rw[h2,g2];rfl
 ·show max d.depth (ô ds)<=k
  omega
 ·show d.bulk+1+Ũ ds<=m
  omega
def ShA.mono{k m k' m':Nat}{d:List D}(h:ShA k m d)(h1:k<=k')(h2:m<=m'):ShA k' m' d:=⟨h.1,h.2.1,é h.2.2.1 h1,é h.2.2.2 h2⟩
def ShA.tup{k m:Nat}{ds:List D}(h:ShA k m ds):Sh (k+1) m (.tuple ds):=⟨h.1,h.2.1,Nat.succ_le_succ h.2.2.1,h.2.2.2⟩
def ShA.lst{k m:Nat}{ds:List D}(h:ShA k m ds):Sh (k+1) m (.list ds):=⟨h.1,h.2.1,Nat.succ_le_succ h.2.2.1,h.2.2.2⟩
def ShA.of{k m:Nat}{ds:List D}(h:Sh (k+1) m (.tuple ds)):ShA k m ds:=⟨h.1,h.2.1,Nat.le_of_succ_le_succ h.2.2.1,h.2.2.2⟩
def ShA.tail{k m:Nat}{d:D}{ds:List D}(h:ShA k m (d::ds)):ShA k m ds:=by
 obtain⟨h1,h2,h3,h4⟩:=h
 have h1:(d.showable&&ń ds)=true:=h1
 have h2:(d.leavesShort 40&&ĵ 40 ds)=true:=h2
 have h3:max d.depth (ô ds)<=k:=h3
 have h4:d.bulk+1+Ũ ds<=m:=h4
 rw[Ê] at h1 h2
 exact⟨h1.2,h2.2,by omega,by omega⟩
def ShA.app{k m':Nat}{es:List D}(g:ShA k m' es):∀{ds:List D}{m:Nat},ShA k m ds->ShA k (m+m') (ds++es)
 |[],m,_=>g.mono (Ç _) (Nat.le_add_left _ _)
 |d::ds,m,h=>by
  obtain⟨h1,h2,h3,h4⟩:=h
  have h1:(d.showable&&ń ds)=true:=h1
  have h2:(d.leavesShort 40&&ĵ 40 ds)=true:=h2
  have h3:max d.depth (ô ds)<=k:=h3
  have h4:d.bulk+1+Ũ ds<=m:=h4
  rw[Ê] at h1 h2
  exact ShA.cons (m1:=d.bulk) (m2:=(m - d.bulk - 1)+m') ⟨h1.1,h2.1,by omega,Ç _⟩ (ShA.app g (ds:=ds) (m:=m - d.bulk - 1) ⟨h1.2,h2.2,by omega,by omega⟩) (by omega)
def tb:Nat->Nat
 |0=>200
 |d+1=>2 * tb d+100
def sG:∀d,200<=tb d
 |0=>Ç _
 |d+1=>by
  have:=sG d
  show 200<=2 * tb d+100
  omega
def R8{n:Int}{l:List Int}(n8:n<=8)(h:Proper n l):Sh 4 200 (Tr.bar l).D:=(Sh.tuple (k:=1) (m:=9) (c:=20) (λd hd=>by
 simp only[è,ĸ,or_false] at hd
 rcases hd with rfl|rfl
 ·exact Gd.mono (by decide) (by decide)
 ·exact FZ n8 h) (by show 2 * (9+1)<=20;decide)).mono (by decide) (by decide)
def R7{n:Int}{rs:List Rw}(n8:n<=8)(h:Fp n rs):Sh 4 200 (Tr.wts rs).D:=Sh.tuple (k:=3) (m:=84) (λd hd=>by
 simp only[è,ĸ,or_false] at hd
 rcases hd with rfl|rfl
 ·exact FW.mono (by decide) (by decide)
 ·refine Sh.list (k:=2) (m:=20) (λd hd=>?_) (by have:=h.1;rw[Â];omega)
  obtain⟨r,hr,rfl⟩:=ø.mp hd
  obtain⟨h1,h2,h3⟩:=h.2 r hr
  exact Ga n8 h1 h2 h3) (by show 2 * (84+1)<=200;decide)
def o8{k m1 m2:Nat}{x a b:D}(hx:Sh k 50 x)(ha:Sh k m1 a)(hb:Sh k m2 b):Sh (k+1) (m1+m2+70) (.tuple [.str "try",x,a,b]):=ShA.tup (ShA.cons (m2:=m1+m2+55) (O2.mono (à _) (Ç _)) (ShA.cons (m2:=m1+m2+3) hx (ShA.cons (m2:=m2+1) ha (ShA.cons hb (ShA.nil (m:=0)) (by omega)) (by omega)) (by omega)) (by omega))
def gq{n:Int}{m:Nat}(n8:n<=8)(m8:m<=8):∀(d:Nat) (t:Tr),t.Ok n m d->Sh (d+4) (tb d) t.D
 |0,.bar l,h=>R8 n8 h
 |0,.wts rs,h=>R7 n8 h
 |0,.tri k a b,h=>h.elim
 |d+1,.bar l,h=>(R8 n8 h).mono (by omega) (sG _)
 |d+1,.wts rs,h=>(R7 n8 h).mono (by omega) (sG _)
 |d+1,.tri k a b,h=>by
  obtain⟨k0,k1,ha,hb⟩:=h
  exact(o8 (Sh.int (by omega) (by omega)) (gq n8 m8 d a ha) (gq n8 m8 d b hb)).mono (Ç _) (by show _<=2 * tb d+100;omega)
def gR(d:Nat)(e:D):Prop:=∃t:Bt,t.D=e/\t.Ok (d+2)/\Sh (d+5) (tb (d+1)) e
def yD(d:Nat):500<=tb (d+1):=by
 have:=sG d
 show 500<=2 * tb d+100
 omega
def cG{d:Nat}{e:D}(h:(bC "try" 4 e || (bC "barred" 2 e || bC "weights" 2 e))=false)(s:Sh 4 200 e):gR d e:=by
 rw[Bool.or_eq_false_iff,Bool.or_eq_false_iff] at h
 exact⟨.odd e,rfl,h,s.mono (by omega) (by have:=yD d;omega)⟩
def JG{d:Nat}{e:D}(h:Few e)(s:Sh 4 100 e):gR d (.tuple [.str "barred",e]):=⟨.bar e,rfl,h,(ShA.tup (ShA.cons (m2:=101) (m:=120) (Gd.mono (à _) (Ç _)) (ShA.cons s (ShA.nil (m:=0)) (by omega)) (by omega))).mono (by omega) (by have:=yD d;omega)⟩
def jq{d:Nat}{e:D}(h:iu e)(s:Sh 4 300 e):gR d (.tuple [.str "weights",e]):=⟨.wts e,rfl,h,(ShA.tup (ShA.cons (m2:=301) (m:=320) (FW.mono (à _) (Ç _)) (ShA.cons s (ShA.nil (m:=0)) (by omega)) (by omega))).mono (by omega) (by have:=yD d;omega)⟩
def Tr.B:Tr->Bt
 |.tri k a b=>.tri (.int k) a.B b.B
 |.bar l=>.bar (iD l)
 |.wts rs=>.wts (.list (rs.map rwD))
def Tr.BD:∀t:Tr,t.B.D=t.D
 |.tri k a b=>by
  show İ [.str "try",.int k,a.B.D,b.B.D]=.tuple [.str "try",.int k,a.D,b.D]
  rw[Tr.BD a,Tr.BD b]
 |.bar l=>rfl
 |.wts rs=>rfl
def pJ{n:Int}{l:List Int}(n8:n<=8)(h:Proper n l):Few (iD l):=λes e=>by
 cases e
 have:=h.few
 rw[Â]
 omega
def Cv{n:Int}{rs:List Rw}(n8:n<=8)(h:Fp n rs):iu (.list (rs.map rwD)):=λes e=>by
 cases e
 have:=h.1
 refine⟨by rw[Â];omega,λe he=>?_⟩
 obtain⟨r,hr,rfl⟩:=ø.mp he
 intro a b z
 cases z
 exact pJ n8 (h.2 r hr).1
def Tr.BOk{n:Int}{m:Nat}(n8:n<=8):∀(d:Nat) (t:Tr),t.Ok n m d->t.B.Ok d
 |0,.bar l,h=>pJ n8 h
 |0,.wts rs,h=>Cv n8 h
 |0,.tri k a b,h=>h.elim
 |d+1,.bar l,h=>pJ n8 h
 |d+1,.wts rs,h=>Cv n8 h
 |d+1,.tri k a b,h=>⟨Tr.BOk n8 d a h.2.2.1,Tr.BOk n8 d b h.2.2.2⟩
def Bt.up:∀(d:Nat) (t:Bt),t.Ok d->t.Ok (d+1)
 |0,.bar l,h=>h
 |0,.wts rs,h=>h
 |0,.odd _,h=>h
 |0,.tri k a b,h=>h.elim
 |d+1,.bar l,h=>h
 |d+1,.wts rs,h=>h
 |d+1,.odd _,h=>h
 |d+1,.tri k a b,h=>⟨Bt.up d a h.1,Bt.up d b h.2⟩
def ur{n:Int}{m d:Nat}(n8:n<=8)(m8:m<=8){t:Tr}(h:t.Ok n m d):gR d t.D:=⟨t.B,t.BD,Bt.up _ _ (Bt.up _ _ (Tr.BOk n8 d t h)),(gq n8 m8 d t h).mono (by omega) (by show _<=2 * tb d+100;omega)⟩
def JF{n:Int}{m d:Nat}(n8:n<=8)(m8:m<=8){x:D}(hx:Sh (d+4) 50 x){t:Tr}(h:t.Ok n m d):gR d (.tuple [.str "try",x,t.D,t.D]):=by
 have s:=gq n8 m8 d t h
 have g:=Bt.up _ _ (Tr.BOk n8 d t h)
 exact⟨.tri x t.B t.B,by show İ [_,_,t.B.D,t.B.D]=_;rw[t.BD],⟨g,g⟩,(o8 hx s s).mono (Ç _) (by show _<=2 * tb d+100;omega)⟩
def Rr{n:Int}{m d:Nat}(n8:n<=8)(m8:m<=8){k:Int}(k0:0<=k)(k1:k<=8){a:D}{b:Tr}(ha:gR d a)(hb:b.Ok n m d):gR (d+1) (.tuple [.str "try",.int k,a,b.D]):=by
 obtain⟨t,rfl,o,s⟩:=ha
 refine⟨.tri (.int k) t b.B,by show İ [_,_,_,b.B.D]=_;rw[b.BD],⟨o,Bt.up _ _ (Bt.up _ _ (Tr.BOk n8 d b hb))⟩,(o8 (Sh.int (by omega) (by omega)) s ((gq n8 m8 d b hb).mono (by omega) (Ç _))).mono (Ç _) ?_⟩
 show 2 * tb d+100+tb d+70<=2 * (2 * tb d+100)+100
 have:=sG d
 omega
def Rq{n:Int}{m d:Nat}(n8:n<=8)(m8:m<=8){k:Int}(k0:0<=k)(k1:k<=8){b:D}{a:Tr}(hb:gR d b)(ha:a.Ok n m d):gR (d+1) (.tuple [.str "try",.int k,a.D,b]):=by
 obtain⟨t,rfl,o,s⟩:=hb
 refine⟨.tri (.int k) a.B t,by show İ [_,_,a.B.D,_]=_;rw[a.BD],⟨Bt.up _ _ (Bt.up _ _ (Tr.BOk n8 d a ha)),o⟩,(o8 (Sh.int (by omega) (by omega)) ((gq n8 m8 d a ha).mono (by omega) (Ç _)) s).mono (Ç _) ?_⟩
 show tb d+(2 * tb d+100)+70<=2 * (2 * tb d+100)+100
 have:=sG d
 omega
def uw{n:Int}{m d:Nat}(n8:n<=8)(m8:m<=8){t:Tr}(h:t.Ok n m d){w:Str}{es:List D}(e:t.D=.tuple (.str w::es)):ShA (d+3) (tb d) (.str w::es):=ShA.of (by rw[←e];exact gq n8 m8 d t h)
def rC{d:Nat}{e:D}(h:(bC "try" 4 e || (bC "barred" 2 e || bC "weights" 2 e))=false)(s:Sh (d+5) (tb d+50) e):gR d e:=by
 rw[Bool.or_eq_false_iff,Bool.or_eq_false_iff] at h
 exact⟨.odd e,rfl,h,s.mono (Ç _) (by show _<=2 * tb d+100;omega)⟩
def Tr.form:∀t:Tr,∃w es,t.D=.tuple (.str w::es)/\1<=es.length/\es.length<=3/\(bC "try" 4 (.tuple (.str w::(es++[.int 0]))) || (bC "barred" 2 (.tuple (.str w::(es++[.int 0]))) || bC "weights" 2 (.tuple (.str w::(es++[.int 0])))))=false
 |.tri k a b=>⟨_,_,rfl,Nat.succ_pos _,Ç 3,rfl⟩
 |.bar l=>⟨_,_,rfl,Nat.succ_pos _,Nat.succ_pos _,rfl⟩
 |.wts rs=>⟨_,_,rfl,Nat.succ_pos _,Nat.succ_pos _,rfl⟩
def w6{n:Int}{us:List Tie}{b:Bool}{os:List Off}{d:D}(n1:1<=n)(n8:n<=8)(lu:us.length<=52)(ok:OkN n us)(lo:os.length<=8)(oko:OkO n os)(ht:gR 5 d):K3 (.tuple [aA n us,oT b os,d]):=(Sh.tuple (k:=10) (m:=30000) (c:=100000) (λe hd=>by
 simp only[è,ĸ,or_false] at hd
 rcases hd with rfl|rfl|rfl
 ·exact(O1 n1 n8 lu ok).mono (by decide) (by decide)
 ·exact(J2 b n8 lo oko).mono (by decide) (by decide)
 ·obtain⟨_,_,_,s⟩:=ht
  exact s.mono (by decide) (by decide)) (by show 3 * (30000+1)<=100000;decide)).ok (by decide) (by decide)
def fOR(ds:List D)(P:D->Prop):Prop:=∃n:Int,ds=[.int n]/\1<=n/\n<=8/\∀d,iu d->Sh 4 300 d->P d
def N8:D->Bool
 |.tuple [.list es,_]=>Nat.ble es.length 40
 |_=>true
def T7{d:D}(h:N8 d=true):M8 d:=λa b e es e2=>by
 subst e
 subst e2
 have:=Ŋ h
 omega
def Al{ds:List D}{y:Int}(y0:0<=y)(y1:y<((ds.length:Nat):Int)):∃d,atI ds y=some d/\d∈ds:=by
 obtain⟨k,rfl⟩:=Int.eq_ofNat_of_zero_le y0
 have hk:k<ds.length:=by omega
 exact⟨ds[k],ż (È hk),ņ hk⟩
def Ao(d:D):Prop:=M8 d/\Sh 3 60 d
def all_nil{p:D->Prop}:∀e∈([]:List D),p e:=λ_ h=>nomatch h
def all_cons{p:D->Prop}{a:D}{l:List D}(h:p a)(t:∀e∈l,p e):∀e∈a::l,p e:=λe he=>(è.mp he).elim (λz=>z ▸ h) (t e)
def jG{p:D->Prop}{a l:List D}(h:∀e∈a,p e)(t:∀e∈l,p e):∀e∈a++l,p e:=λe he=>(Ù.mp he).elim (h e) (t e)
def pW{k m:Nat}{d:D}(h:Sh k m d):ShA k (m+1) [d]:=ShA.cons h (ShA.nil (m:=0)) (Ç _)
def Dm{k m1 m2:Nat}{a b:D}(h:Sh k m1 a)(g:Sh k m2 b):ShA k (m1+m2+2) [a,b]:=ShA.cons h (pW g) (by omega)
def Sh.n{n:Int}(k m:Nat)(n1:1<=n)(n8:n<=8):Sh k m (.int n):=Sh.int (by omega) (by omega)
def Sh.p{n:Int}(k m:Nat)(n1:1<=n)(n8:n<=8):Sh k m (.int (n - 1)):=Sh.int (by omega) (by omega)
def Gb{n:Int}(n1:1<=n)(n8:n<=8):Sh 1 20 (.list (bA 0 (n - 0).toNat)):=Sh.list (k:=0) (m:=0) (λd hd=>by
 unfold bA at hd
 obtain⟨i,hi,rfl⟩:=ø.mp hd
 have:=ę.mp hi
 exact Sh.int (by omega) (by omega)) (by rw[Ľ];omega)
def OR1(n:Int):List D:=[.tuple [.list [.int 0],.int 0],.tuple [.list [.int 0],.bool true],.tuple [.list [.int 0]],.list [.list [.int 0],.int 1],.tuple [.list [.int 0],.int 1,.int 1],.tuple [.tuple [.int 0],.int 1],.tuple [.list [.int 0],.str "1"],.tuple [.list [],.int 1],.tuple [.list (bA 0 (n - 0).toNat),.int 1]]
def OR2(n:Int):List D:=[.none,.tuple [.list [.int n],.int 1],.tuple [.list [.int 0,.int 0],.int 1],.tuple [.int 0,.int 1],.tuple [.list [.int 0],.none],.tuple [.list [.int 0],.int (-1)],.tuple [.str "0",.int 1],.tuple [.list [.bool true],.int 1],.tuple [.list [.int 0],.list [.int 1]]]
def OR3(n:Int):List D:=[.tuple [.list [.int (n - 1),.int 0],.int 1],.tuple [.list [.str "0"],.int 1],.tuple [.list [.none],.int 1],.tuple [.list [.list [.int 0]],.int 1],.tuple [.list [.int (-1)],.int 1],.tuple [.list [.int (-1)],.int (10 ^ (29:Int).toNat)],.tuple [.list [.int (-1),.int 0],.int 1]]
def rb{d:D}(h:N8 d=true)(s:Sh 3 60 d):Ao d:=⟨T7 h,s⟩
def Va{n:Int}(n1:1<=n)(n8:n<=8):Ao (.tuple [.list [.int n],.int 1]):=rb rfl ((ShA.tup (Dm (m1:=1) (ShA.lst (pW (Sh.n 1 0 n1 n8))) (Sh.int (m:=0) (by decide) (by decide)))).mono (by decide) (by decide))
def U9{n:Int}(n1:1<=n)(n8:n<=8):Ao (.tuple [.list [.int (n - 1)],.int 1]):=rb rfl ((ShA.tup (Dm (m1:=1) (ShA.lst (pW (Sh.p 1 0 n1 n8))) (Sh.int (m:=0) (by decide) (by decide)))).mono (by decide) (by decide))
def MK{n:Int}(n1:1<=n)(n8:n<=8):∀e∈OR1 n,Ao e :=
 all_cons (rb rfl (by decide +kernel)) (all_cons (rb rfl (by decide +kernel)) (all_cons (rb rfl (by decide +kernel)) (all_cons (rb rfl (by decide +kernel)) (all_cons (rb rfl (by decide +kernel)) (all_cons (rb rfl (by decide +kernel)) (all_cons (rb rfl (by decide +kernel)) (all_cons (rb rfl (by decide +kernel))
  (all_cons (rb (by show Nat.ble (bA 0 (n - 0).toNat).length 40=true;rw[Ľ];exact ť (by omega)) ((ShA.tup (Dm (Gb n1 n8) (Sh.int (m:=0) (by decide) (by decide)))).mono (by decide) (by decide))) all_nil))))))))
def MJ{n:Int}(n1:1<=n)(n8:n<=8):∀e∈OR2 n,Ao e :=
 all_cons (rb rfl (by decide +kernel)) (all_cons (Va n1 n8) (all_cons (rb rfl (by decide +kernel)) (all_cons (rb rfl (by decide +kernel)) (all_cons (rb rfl (by decide +kernel)) (all_cons (rb rfl (by decide +kernel)) (all_cons (rb rfl (by decide +kernel)) (all_cons (rb rfl (by decide +kernel)) (all_cons (rb rfl (by decide +kernel)) all_nil))))))))
def MF{n:Int}(n1:1<=n)(n8:n<=8):∀e∈OR3 n,Ao e :=
 all_cons (rb rfl ((ShA.tup (Dm (m1:=2) (ShA.lst (Dm (Sh.p 1 0 n1 n8) (Sh.int (m:=0) (by decide) (by decide)))) (Sh.int (m:=0) (by decide) (by decide)))).mono (by decide) (by decide))) (all_cons (rb rfl (by decide +kernel)) (all_cons (rb rfl (by decide +kernel)) (all_cons (rb rfl (by decide +kernel)) (all_cons (rb rfl (by decide +kernel)) (all_cons (rb rfl (by decide +kernel)) (all_cons (rb rfl (by decide +kernel)) all_nil))))))
def lz3{R:List D}{d:D}(h:R.length<=1):(R++[d]).length+R.length<=1000:=by
 rw[Î]
 show R.length+1+R.length<=1000
 omega
def Bp{es:List D}(l:es.length<=3)(h:∀e∈es,Ao e):iu (.list es)/\Sh 4 300 (.list es):=by
 refine⟨λes' e=>?_,Sh.list (k:=3) (m:=60) (λe he=>(h e he).2) (by omega)⟩
 cases e
 exact⟨by omega,λe he=>(h e he).1⟩
def fBe:Nat->List D->(D->Prop)->Prop
 |0,_,_=>False
 |d+1,ds,P=>∃(n:Int) (m:Nat) (t0:Tr),ds=[.int n,.int ((m:Nat):Int),t0.D]/\1<=n/\n<=8/\m<=8/\t0.Ok n m d/\∀e,gR d e->P e
section
variable {P:Program}{w:World}{K:Ô}{mg:Str->Option Value}{base:Heap}{f:Addr}{fd:FuncData}{CN:Addr}{kk cc:Nat}
def gW:FnScope ["_law_pen_here","_law_n","_law_rows","_law_odd","_law_right"] ["_law_pen_here","_law_n"] (aj (top 59)):=zC
def oR(F:Fun K "_law_odd_rows" "_law_odd_rows" (top 59) f fd)(B:Ė mg)(C__law_draw:Ñ P w K mg base 1 "_law_draw" ["_law_pen_here","_law_many"] (bB 1 eV)):FnOk P w K mg base CX0 2 f fd ["_law_pen_here","_law_n"] (dM 10 fOR):=by
 refine F.ok gW nC (λcdv A outer s H vs Q E hr h=>?_)
 have nd:=gW.nd
 obtain⟨pa,pn,pok,vs,ds,P,rfl,pi9,r9,t9,k9⟩:=h
 letI:Tb:=⟨Cd pok pa H⟩
 refine⟨_,@Wb.BR.h _ _ _ _ _ (Wb.eY (Wb.s0 (ć none (i:=2) nd rfl zQ (í (Wr.fC 8 ["_law_pen_here","_law_n","_law_rows","_law_odd","_law_right"] (aj (top 59)) (.cons (.tup (.cons (.lst (.cons (.int 0) .nil)) (.cons (.int 0) .nil))) (.cons (.tup (.cons (.lst (.cons (.int 0) .nil)) (.cons (.bl true) .nil))) (.cons (.tup (.cons (.lst (.cons (.int 0) .nil)) .nil)) (.cons (.lst (.cons (.lst (.cons (.int 0) .nil)) (.cons (.int 1) .nil))) (.cons (.tup (.cons (.lst (.cons (.int 0) .nil)) (.cons (.int 1) (.cons (.int 1) .nil)))) (.cons (.tup (.cons (.tup (.cons (.int 0) .nil)) (.cons (.int 1) .nil))) (.cons (.tup (.cons (.lst (.cons (.int 0) .nil)) (.cons (.str "1") .nil))) (.cons (.tup (.cons (.lst .nil) (.cons (.int 1) .nil))) .nil)))))))) (À (ê (À (Wr.cR rfl B.list B.range (À (Ä 1) Á)) (À Ã Á))) Á) (by decide +kernel)))))
  (Wb.eY (Wb.s0 (ć none (i:=2) nd rfl zQ (ė (Ä 2) (Wr.qp ["_law_pen_here","_law_n","_law_rows","_law_odd","_law_right"] (aj (top 59)) (.lst (.cons .non (.cons (.tup (.cons (.lst (.cons (.var 1) .nil)) (.cons (.int 1) .nil))) (.cons (.tup (.cons (.lst (.cons (.int 0) (.cons (.int 0) .nil))) (.cons (.int 1) .nil))) (.cons (.tup (.cons (.int 0) (.cons (.int 1) .nil))) (.cons (.tup (.cons (.lst (.cons (.int 0) .nil)) (.cons .non .nil))) (.cons (.tup (.cons (.lst (.cons (.int 0) .nil)) (.cons (.neg 1) .nil))) (.cons (.tup (.cons (.str "0") (.cons (.int 1) .nil))) (.cons (.tup (.cons (.lst (.cons (.bl true) .nil)) (.cons (.int 1) .nil))) (.cons (.tup (.cons (.lst (.cons (.int 0) .nil)) (.cons (.lst (.cons (.int 1) .nil)) .nil))) .nil)))))))))) (by decide +kernel)))))
  (Wb.eY (Wb.s0 (ć none (i:=2) nd rfl zQ (ė (Ä 2) (í (À (ê (À (í (À (Ł (Ä 1) Ã) (À Ã Á))) (À Ã Á))) (Wr.fC 4 ["_law_pen_here","_law_n","_law_rows","_law_odd","_law_right"] (aj (top 59)) (.cons (.tup (.cons (.lst (.cons (.str "0") .nil)) (.cons (.int 1) .nil))) (.cons (.tup (.cons (.lst (.cons .non .nil)) (.cons (.int 1) .nil))) (.cons (.tup (.cons (.lst (.cons (.lst (.cons (.int 0) .nil)) .nil)) (.cons (.int 1) .nil))) (.cons (.tup (.cons (.lst (.cons (.neg 1) .nil)) (.cons (.int 1) .nil))) .nil)))) (À (ê (À (í (À (Wr.nj Ã) Á)) (À (Wr.iU Ã Ã) Á))) (À (ê (À (í (À (Wr.nj Ã) (À Ã Á))) (À Ã Á))) Á)) (by decide +kernel)))))))
  (Wb.eY (Wb.set none (i:=3) nd rfl zQ (Wb.ix (Wb.e0 (Ä 2)) (Wb.dcP (Dl.Cal.eZ C__law_draw) hr (Ă 0) (Wb.a0 (À (ă B.len (À (Ä 2) Á)) Á)))))
  (Wb.eY (Wb.set none (i:=4) nd rfl zQ (Wb.times (Wb.e0 (í (À (ê (À (í (À (Ł (Ä 1) Ã) Á)) (À Ã Á))) Á))) (Wb.dcP (Dl.Cal.eZ C__law_draw) hr (Ă 0) (Wb.a0 (À Ã Á)))))
  (Wb.yL (Wb.e0 (ė (ė (Ä 4) (í (À (Ä 3) Á))) (Ä 4))))))))),Wb.CK (f:=fOR) pi9 r9 k9 (ť (by omega)) ?_⟩
 revert t9
 rintro⟨n,rfl,n1,n8,q⟩
 refine⟨[.im (.int n),.any,.any,.any],rfl,?_⟩
 refine⟨_,rfl,⟨by omega,by omega⟩,zK,zK,?_⟩
 show sW _ _ P [Sl.pen TP,.im (.int n),.sn (.list (OR1 n)),.any,.any]
 refine⟨_,_,rfl,zK,?_⟩
 refine .inr ?_
 show sW _ _ P [Sl.pen TP,.im (.int n),.sn (.list (OR1 n++OR2 n)),.any,.any]
 refine⟨zK,zK,_,rfl,zK,⟨by decide,by decide,by decide⟩,zK,zK,zK,zK,zK,.inr ?_⟩
 show sW _ _ P [Sl.pen TP,.im (.int n),.sn (.list (OR1 n++OR2 n++OR3 n)),.any,.any]
 refine⟨rfl,25,rfl,by decide,by decide,λy y0 y1=>?_⟩
 obtain⟨od,ho,hm⟩:=Al (ds:=OR1 n++OR2 n++OR3 n) y0 y1
 refine⟨od,ho,?_⟩
 have ob:=jG (jG (MK n1 n8) (MJ n1 n8)) (MF n1 n8) od hm
 obtain⟨s3,hs3,e3⟩:∃s,(s=Sl.im od\/s=Sl.sn od)/\Dl.stK none [Sl.pen TP,.im (.int n),.sn (.list (OR1 n++OR2 n++OR3 n)),.any,.any] 3 (norm (norm .snw od) od) od=some s:=by
  by_cases hi:cI od=true
  ·exact⟨_,.inl rfl,by rw[Ÿ hi];rfl⟩
  ·exact⟨_,.inr rfl,by rw[Ċ hi,Ċ hi];rfl⟩
 refine bQ (rg:=none) (i:=3) (ρ:=[Sl.pen TP,.im (.int n),.sn (.list (OR1 n++OR2 n++OR3 n)),.any,.any]) (k:=norm .snw od) (d:=od) e3 ?_
 have rr:=U9 n1 n8
 have fin:∀z:Int,0<=z->z<2->P (.list ((Í z.toNat [İ [.list [.int (n - 1)],.int 1]]).flatten++[od]++(Í z.toNat [İ [.list [.int (n - 1)],.int 1]]).flatten))/\(Í z.toNat [İ [.list [.int (n - 1)],.int 1]]).flatten.length<=1:=λz z0 z1=>by
  have hz:z=0\/z=1:=by omega
  rcases hz with rfl|rfl
  ·obtain⟨a,b⟩:=Bp (es:=[od]) (show 1<=3 by decide) (all_cons ob all_nil)
   exact⟨q _ a b,à 1⟩
  ·obtain⟨a,b⟩:=Bp (es:=[İ [.list [.int (n - 1)],.int 1],od,İ [.list [.int (n - 1)],.int 1]]) (by show 3<=3;decide) (all_cons rr (all_cons ob (all_cons rr all_nil)))
   exact⟨q _ a b,Ç 1⟩
 rcases hs3 with rfl|rfl
 all_goals
  refine⟨zK,zK,zK,rfl,2,rfl,by decide,by decide,λz z0 z1=>?_⟩
  obtain⟨pz,lz⟩:=fin z z0 z1
  refine⟨z0,by omega,(show 1 * z.toNat<=1000 by omega),.inr ?_⟩
  exact⟨zK,é (Nat.add_le_add_right lz 1) (by decide),.inr ⟨lz3 lz,.inr pz⟩⟩
end
def Ru(t:Tr):aD t.D=.sh t.D:=by
 unfold aD
 rw[zT]
 rfl
def Shr(s:Sl)(d:D):Prop:=s=.im d\/s=.sn d\/s=.sh d
def Om{ρ:List Sl}{i:Nat}{s:Sl}{d:D}{Q:Kd->D->Prop}(h:ρ[i]?=some s)(hs:Shr s d)(q:∀k,k.le .shr=true->Q k d):tV i ρ Q:=by
 unfold tV
 rw[h]
 rcases hs with rfl|rfl|rfl
 ·exact q _ rfl
 ·exact q _ rfl
 ·exact q _ rfl
def bG{a b:Kd}(ha:a.le .shr=true)(hb:b.le .shr=true):(a.join b).le .shr=true:=by
 cases a <;> cases b <;> first
  |rfl
  |(cases ha;done)
  |(cases hb;done)
def cC{a:Kd}{d:D}(ha:a.le .shr=true):(norm a d).le .shr=true:=by
 by_cases h:cI d=true
 ·rw[Ÿ h];rfl
 ·rw[Ċ h];exact ha
def Gi{E:DEnds}{ρ:List Sl}{i:Nat}{k:Kd}{d:D}(hk:k.le .shr=true)(g:∀s,Shr s d->E.nx (ρ.set i s)):(match Dl.stK none ρ i (norm k d) d with
  |some s=>E.nx (ρ.set i s)
  |none=>False):=by
 have hk:=cC (d:=d) hk
 cases e9:norm k d <;> rw[e9] at hk <;> first
  |exact g _ (.inl rfl)
  |exact g _ (.inr (.inl rfl))
  |exact g _ (.inr (.inr rfl))
  |cases hk
def iH{u:DR}{P R:D->Prop}{Bk Ct:List Sl->Prop}{ρ:List Sl}{i:Nat}{k:Kd}{d:D}(hk:k.le .shr=true)(e:∀s,Shr s d->stp (ρ.set i s)=ρ.set i s)(g:∀s,Shr s d->u P (ρ.set i s)):(match Dl.stK none ρ i (norm k d) d with
  |some s=>(DEnds.mk (λr=>u P (stp r)) R Bk Ct).nx (ρ.set i s)
  |none=>False):=Gi hk λs hs=>by
 show u P (stp (ρ.set i s))
 rw[e s hs]
 exact g s hs
def kh{g:G2}{tb:DE}{u:DR}{P:D->Prop}{ρ:List Sl}{i:Nat}{s:Sl}{d:D}(h:ρ[i]?=some s)(hs:Shr s d)(q:∀k,k.le .shr=true->tb ρ λk2 d2=>g k d k2 d2 λk d=>match Dl.stK none ρ i (norm k d) d with
  |some s=>(DEnds.mk (λr=>u P (stp r)) (λ_=>False) (λ_=>False) (λ_=>False)).nx (ρ.set i s)
  |none=>False):sW (rY i none (t2 g (tV i) tb)) u P ρ:=by
 unfold sW rY t2
 exact Om h hs q
def R6(n:Int)(m:Nat)(t:Tr):([(Kd.imm,Å n),(.imm,.int ((m:Nat):Int)),(norm .shr t.D,t.D)].all λk=>k.1.le .shr)=true:=by
 rw[Ċ (aZ t)]
 rfl
def Ke{tc:DT}{t u:DR}{P:D->Prop}{ρ:List Sl}(hu:u P ρ)(h:u P ρ->rIf tc t u P ρ):rIf tc t u P ρ:=h hu
def Ui(x:D)(es:List D):cX (x::es) none (some 1)=[x]:=by
 unfold cX
 have e:HT.sIx (x::es).length (x::es).length (some 1)=1:=by
  show(if (1:Int)<0 then ((1:Int)+(((es.length+1:Nat)):Int)).toNat else min (1:Int).toNat (es.length+1))=1
  rw[if_neg (by decide)]
  show min 1 (es.length+1)=1
  omega
 rw[e]
 rfl
def Jw(x:D)(es:List D):cX (x::es) (some 1) none=es:=by
 unfold cX
 have e:HT.sIx (x::es).length 0 (some 1)=1:=by
  show(if (1:Int)<0 then ((1:Int)+(((es.length+1:Nat)):Int)).toNat else min (1:Int).toNat (es.length+1))=1
  rw[if_neg (by decide)]
  show min 1 (es.length+1)=1
  omega
 rw[e]
 show es.take (es.length+1 - 1)=es
 exact ě
def Vk(x:D){es:List D}(l:1<=es.length):¬(HT.sIx (x::es).length 0 none=0/\HT.sIx (x::es).length (x::es).length (some 1)=(x::es).length):=λh=>by
 have h:=h.2
 have e:(if (1:Int)<0 then ((1:Int)+(((es.length+1:Nat)):Int)).toNat else min (1:Int).toNat (es.length+1))=es.length+1:=h
 rw[if_neg (by decide)] at e
 have e:min 1 (es.length+1)=es.length+1:=e
 omega
def Tj(x:D)(es:List D):¬(HT.sIx (x::es).length 0 (some 1)=0/\HT.sIx (x::es).length (x::es).length none=(x::es).length):=λh=>by
 have h:=h.1
 have e:(if (1:Int)<0 then ((1:Int)+(((es.length+1:Nat)):Int)).toNat else min (1:Int).toNat (es.length+1))=0:=h
 rw[if_neg (by decide)] at e
 have e:min 1 (es.length+1)=0:=e
 omega
def N5(x:D){es:List D}(l:es.length<=3):1+(cX (x::es) (some 1) none).length<=1000:=by
 rw[Jw]
 omega
def Cu{x:D}{es:List D}(h1:uD "try" x=false)(h2:uD "barred" x=false)(h3:uD "weights" x=false):(bC "try" 4 (.tuple (x::es)) || (bC "barred" 2 (.tuple (x::es)) || bC "weights" 2 (.tuple (x::es))))=false:=by
 show((decide _&&uD "try" x) || ((decide _&&uD "barred" x) || (decide _&&uD "weights" x)))=false
 rw[h1,h2,h3,ļ,ļ]
 rfl
def ShA.hd{k m:Nat}{d:D}{ds:List D}(h:ShA k m (d::ds)):ShA k m [d]:=by
 obtain⟨h1,h2,h3,h4⟩:=h
 have h1:(d.showable&&ń ds)=true:=h1
 have h2:(d.leavesShort 40&&ĵ 40 ds)=true:=h2
 have h3:max d.depth (ô ds)<=k:=h3
 have h4:d.bulk+1+Ũ ds<=m:=h4
 rw[Ê] at h1 h2
 exact ShA.cons (m1:=d.bulk) ⟨h1.1,h2.1,by omega,Ç _⟩ (ShA.nil (m:=0)) (by omega)
abbrev bD(d:D):D:=.tuple [.str "barred",d]
def OB1(W:List D):List D:=[.none,.tuple [],.list [],.str "weights",.list W,.tuple (W++[.int 0]),.tuple (cX W none (some 1)),.tuple ([.int 0]++cX W (some 1) none),.tuple [.str "",.list []],.bool true,.int 0,.dict []]
def OB2(n:Int)(W:List D):List D:=[.tuple ([.str "Try"]++cX W (some 1) none),bD (.list []),bD (.list (bA 0 (n - 0).toNat)),bD .none,.tuple [.list [.str "try"],.int 0]]
def OB3:List D:=[.tuple [.str "weights",.none],.tuple [.str "weights",.tuple []],.tuple [.str "weights",.dict []],bD (.tuple [.int 0]),.tuple [.str "barred",.list [.int 0],.int 0]]
def OB4(n:Int):List D:=[.tuple [.str "try"],bD (.list [.int (n - 1),.int 0]),bD (.list [.str "0"]),bD (.list [.none]),bD (.list [.bool true])]
def OB5(n:Int):List D:=[bD (.list [.int n]),bD (.list [.int (-1)]),bD (.list [.int 0,.int 0]),bD (.list [.list [.int 0]]),bD (.list [.int (-1),.int 0])]
def T9:D->Bool
 |.list es=>Nat.ble es.length 400
 |_=>true
def Rh{d:D}(h:T9 d=true):Few d:=λes e=>by
 subst e
 exact Ŋ h
def bb{d:Nat}{e:D}(h:T9 e=true)(s:Sh 4 100 e):gR d (bD e):=JG (Rh h) s
def qU{e:D}(h:∀es,e≠.list es):iu e:=λes z=>absurd z (h es)
def M7{n:Int}{m d:Nat}{t:Tr}{w:Str}{es:List D}(n8:n<=8)(m8:m<=8)(h:t.Ok n m d)(e:t.D=.tuple (.str w::es))(l:1<=es.length)(l3:es.length<=3)(fo:(bC "try" 4 (.tuple (.str w::(es++[.int 0]))) || (bC "barred" 2 (.tuple (.str w::(es++[.int 0]))) || bC "weights" 2 (.tuple (.str w::(es++[.int 0])))))=false):∀e∈OB1 (.str w::es),gR d e:=by
 have s:=uw n8 m8 h e
 unfold OB1
 rw[Ui,Jw]
 refine all_cons (cG rfl (by decide +kernel)) (all_cons (cG rfl (by decide +kernel)) (all_cons (cG rfl (by decide +kernel)) (all_cons (cG rfl (by decide +kernel)) (all_cons ?_ (all_cons ?_ (all_cons ?_ (all_cons ?_ (all_cons (cG rfl (by decide +kernel)) (all_cons (cG rfl (by decide +kernel)) (all_cons (cG rfl (by decide +kernel)) (all_cons (cG rfl (by decide +kernel)) all_nil)))))))))))
 ·exact rC rfl (s.lst.mono (by omega) (by omega))
 ·exact rC fo ((ShA.tup (ShA.app (pW (Sh.int (i:=0) (m:=0) (by decide) (by decide))) s)).mono (by omega) (by omega))
 ·exact rC rfl ((ShA.tup (ShA.hd s)).mono (by omega) (by omega))
 ·exact rC (Cu rfl rfl rfl) ((ShA.tup (ShA.cons (Sh.int (m:=0) (by decide) (by decide)) s.tail (Ç _))).mono (by omega) (by omega))
def M6{n:Int}{m d:Nat}{t:Tr}{w:Str}{es:List D}(n1:1<=n)(n8:n<=8)(m8:m<=8)(h:t.Ok n m d)(e:t.D=.tuple (.str w::es)):∀e∈OB2 n (.str w::es),gR d e:=by
 have s:=uw n8 m8 h e
 unfold OB2
 rw[Jw]
 refine all_cons (rC (Cu (by decide +kernel) (by decide +kernel) (by decide +kernel)) ((ShA.tup (ShA.cons (m1:=9) (show Sh (d+3) 9 (.str "Try") from⟨by decide +kernel,by decide +kernel,à _,by decide +kernel⟩) s.tail (Ç _))).mono (by omega) (by omega))) (all_cons (bb rfl (by decide +kernel)) (all_cons (bb ?_ ((Gb n1 n8).mono (by decide) (by decide))) (all_cons (bb rfl (by decide +kernel)) (all_cons (cG rfl (by decide +kernel)) all_nil))))
 ·show Nat.ble (bA 0 (n - 0).toNat).length 400=true
  rw[Ľ]
  exact ť (by omega)
def M5{d:Nat}:∀e∈OB3,gR d e :=
 all_cons (jq (qU λ_ h=>nomatch h) (by decide +kernel)) (all_cons (jq (qU λ_ h=>nomatch h) (by decide +kernel)) (all_cons (jq (qU λ_ h=>nomatch h) (by decide +kernel)) (all_cons (bb rfl (by decide +kernel)) (all_cons (cG rfl (by decide +kernel)) all_nil))))
def M4{n:Int}{d:Nat}(n1:1<=n)(n8:n<=8):∀e∈OB4 n,gR d e :=
 all_cons (cG rfl (by decide +kernel)) (all_cons (bb rfl ((ShA.lst (Dm (Sh.p 1 0 n1 n8) (Sh.int (m:=0) (by decide) (by decide)))).mono (by decide) (by decide))) (all_cons (bb rfl (by decide +kernel)) (all_cons (bb rfl (by decide +kernel)) (all_cons (bb rfl (by decide +kernel)) all_nil))))
def MP{n:Int}{d:Nat}(n1:1<=n)(n8:n<=8):∀e∈OB5 n,gR d e :=
 all_cons (bb rfl ((ShA.lst (pW (Sh.n 1 0 n1 n8))).mono (by decide) (by decide))) (all_cons (bb rfl (by decide +kernel)) (all_cons (bb rfl (by decide +kernel)) (all_cons (bb rfl (by decide +kernel)) (all_cons (bb rfl (by decide +kernel)) all_nil))))
def OB6(m:Int):List D:=[.int m,.int (-1),.bool true,.none,.str "0",.list [.int 0],.int (10 ^ (29:Int).toNat),.int 0,.int (if m - 1 > 0 then m - 1 else 0),.tuple [.int 0]]
def MN{m:Nat}(m8:m<=8):∀e∈OB6 ((m:Nat):Int),Sh 4 50 e :=
 all_cons (Sh.int (by omega) (by omega)) (all_cons (Sh.int (by decide) (by decide)) (all_cons (by decide +kernel) (all_cons (by decide +kernel) (all_cons (by decide +kernel) (all_cons (by decide +kernel) (all_cons (by decide +kernel) (all_cons (by decide +kernel) (all_cons (Sh.int (by split <;> omega) (by split <;> omega)) (all_cons (by decide +kernel) all_nil)))))))))
def Rj{l:List D}{e:D}(h:e∈cX l none (some 1)):e∈l:=List.mem_of_mem_drop (List.mem_of_mem_take h)
def Jx(l:List D):(cX l none (some 1)).length<=l.length:=by
 unfold cX
 rw[ģ,Ņ]
 omega
def QJ{n:Int}{rs:List Rw}(h:Fp n rs):(rs.map rwD).length+(cX (rs.map rwD) none (some 1)).length<=1000:=by
 have:=Jx (rs.map rwD)
 have:=h.1
 rw[Â] at *
 omega
def Mu{n:Int}{d:Nat}{rs:List Rw}(n8:n<=8)(h:Fp n rs):gR d (.tuple [.str "weights",.list (rs.map rwD++cX (rs.map rwD) none (some 1))]):=by
 have l2:=Jx (rs.map rwD)
 have l1:=h.1
 rw[Â] at l2
 have ll:(rs.map rwD++cX (rs.map rwD) none (some 1)).length<=8:=by
  rw[Î,Â]
  omega
 have hm:∀e∈rs.map rwD++cX (rs.map rwD) none (some 1),∃r∈rs,e=rwD r:=λe he=>by
  have:e∈rs.map rwD:=(Ù.mp he).elim id Rj
  obtain⟨r,hr,rfl⟩:=ø.mp this
  exact⟨r,hr,rfl⟩
 refine jq (λes z=>?_) (Sh.list (k:=3) (m:=20) (λe he=>?_) (by omega))
 ·cases z
  refine⟨by omega,λe he=>?_⟩
  obtain⟨r,hr,rfl⟩:=hm e he
  intro a b z
  cases z
  exact pJ n8 (h.2 r hr).1
 ·obtain⟨r,hr,rfl⟩:=hm e he
  obtain⟨h1,h2,h3⟩:=h.2 r hr
  exact(Ga n8 h1 h2 h3).mono (by decide) (Ç _)
def RB(n:Int)(m:Nat)(W:List D)(pk:Int)(s6:Sl):List Sl:=[.pen TP,.im (.int n),.im (.int ((m:Nat):Int)),.sh (.tuple W),.any,.im (.int pk),s6,.any]
def pR{n:Int}{m:Nat}{W:List D}{pk:Int}{s6:Sl}{d:D}(h:Shr s6 d):stp (RB n m W pk s6)=RB n m W pk s6:=by
 rcases h with rfl|rfl|rfl <;> rfl
section
variable {P:Program}{w:World}{K:Ô}{mg:Str->Option Value}{base:Heap}{f:Addr}{fd:FuncData}{CN:Addr}{kk cc:Nat}
def iG:FnScope ["_law_pen_here","_law_n","_law_many","_law_wood","_law_at","_law_pick","_law_odd","_law_leaf"] ["_law_pen_here","_law_n","_law_many","_law_wood"] (aj (top 60)):=zC
def Qu(F:Fun K "_law_bent" "_law_bent" (top 60) f fd)(B:Ė mg)(C__law_draw:Ñ P w K mg base 1 "_law_draw" ["_law_pen_here","_law_many"] (bB 1 eV))(C__law_bent:Ñ P w K mg base (kk+8) "_law_bent" ["_law_pen_here","_law_n","_law_many","_law_wood"] (dM cc (fBe kk)))(C__law_odd_rows:Ñ P w K mg base 2 "_law_odd_rows" ["_law_pen_here","_law_n"] (dM 10 fOR))(C__law_tree:Ñ P w K mg base 7 "_law_tree" ["_law_pen_here","_law_n","_law_free","_law_deep"] (bB 300000 (vM 4))):FnOk P w K mg base CX0 (kk+9) f fd ["_law_pen_here","_law_n","_law_many","_law_wood"] (dM (cc+400000) (fBe (kk+1))):=by
 refine F.ok iG nC (λcdv A outer s H vs Q E hr h=>?_)
 have nd:=iG.nd
 obtain⟨pa,pn,pok,vs,ds,P,rfl,pi9,r9,t9,k9⟩:=h
 letI:Tb:=⟨Cd pok pa H⟩
 refine⟨_,@Wb.BR.h _ _ _ _ _ (Wb.rif (Wb.wt (Wb.vW (Wb.t0 (Č hr.units (Õ (Ä 3) Ã) č)) (Wb.yh (Wb.tgt (Wb.dcP (hk:=by omega) (Dl.Cal.eZ C__law_draw) hr (Ă 0) (Wb.a0 (À Ã Á))) (Wb.e0 Ã))))) (Wb.eY (Wb.set none (i:=4) nd rfl zQ (Wb.plus (Wb.e0 Ã) (Wb.dcP (hk:=by omega) (Dl.Cal.eZ C__law_draw) hr (Ă 0) (Wb.a0 (À Ã Á)))))
  (Wb.yL (Wb.plus (Wb.plus (Wb.e0 (Wr.iT (Ä 3) Wr.cA (Wr.cu (Ä 4)))) (Wb.tup (Wb.aQ (Wb.Jr (hk:=by omega) (Dl.Cal.Gz C__law_bent) hr (Ă 0) (Wb.a0 (À (Ä 1) (À (Ä 2) (À (Õ (Ä 3) (Ä 4)) Á))))) (Wb.a0 Á)))) (Wb.e0 (Wr.iT (Ä 3) (Wr.cu (ė (Ä 4) Ã)) Wr.cA)))))
  (Wb.eY (Wb.set none (i:=5) nd rfl zQ (Wb.dcP (hk:=by omega) (Dl.Cal.eZ C__law_draw) hr (Ă 0) (Wb.a0 (À Ã Á))))
  (Wb.rif (Wb.t0 (Č hr.units (Ä 5) Ã)) (Wb.eY (Wb.s0 (ć none (i:=6) nd rfl zQ (í (À Wr.iV (À (ê Á) (À (í Á) (À č (À (Wr.uX B.list (À (Ä 3) Á)) (À (ė (Ä 3) (ê (À Ã Á))) (À (Wr.iT (Ä 3) Wr.cA (Wr.cu Ã)) (À (ė (ê (À Ã Á)) (Wr.iT (Ä 3) (Wr.cu Ã) Wr.cA)) (Wr.fC 4 ["_law_pen_here","_law_n","_law_many","_law_wood","_law_at","_law_pick","_law_odd","_law_leaf"] (aj (top 60)) (.cons (.tup (.cons (.str "") (.cons (.lst .nil) .nil))) (.cons (.bl true) (.cons (.int 0) (.cons .dct .nil)))) Á (by decide +kernel)))))))))))))
  (Wb.eY (Wb.s0 (ć none (i:=6) nd rfl zQ (ė (Ä 6) (í (À (ė (ê (À č Á)) (Wr.iT (Ä 3) (Wr.cu Ã) Wr.cA)) (À (ê (À č (À (í Á) Á))) (À (ê (À č (À (Wr.cR rfl B.list B.range (À (Ä 1) Á)) Á))) (Wr.fC 2 ["_law_pen_here","_law_n","_law_many","_law_wood","_law_at","_law_pick","_law_odd","_law_leaf"] (aj (top 60)) (.cons (.tup (.cons (.str "barred") (.cons .non .nil))) (.cons (.tup (.cons (.lst (.cons (.str "try") .nil)) (.cons (.int 0) .nil))) .nil)) Á (by decide +kernel)))))))))
  (Wb.eY (Wb.s0 (ć none (i:=6) nd rfl zQ (ė (Ä 6) (Wr.qp ["_law_pen_here","_law_n","_law_many","_law_wood","_law_at","_law_pick","_law_odd","_law_leaf"] (aj (top 60)) (.lst (.cons (.tup (.cons (.str "weights") (.cons .non .nil))) (.cons (.tup (.cons (.str "weights") (.cons (.tup .nil) .nil))) (.cons (.tup (.cons (.str "weights") (.cons .dct .nil))) (.cons (.tup (.cons (.str "barred") (.cons (.tup (.cons (.int 0) .nil)) .nil))) (.cons (.tup (.cons (.str "barred") (.cons (.lst (.cons (.int 0) .nil)) (.cons (.int 0) .nil)))) .nil)))))) (by decide +kernel)))))
  (Wb.eY (Wb.s0 (ć none (i:=6) nd rfl zQ (ė (Ä 6) (í (À (ê (À č Á)) (À (ê (À č (À (í (À (Ł (Ä 1) Ã) (À Ã Á))) Á))) (Wr.fC 3 ["_law_pen_here","_law_n","_law_many","_law_wood","_law_at","_law_pick","_law_odd","_law_leaf"] (aj (top 60)) (.cons (.tup (.cons (.str "barred") (.cons (.lst (.cons (.str "0") .nil)) .nil))) (.cons (.tup (.cons (.str "barred") (.cons (.lst (.cons .non .nil)) .nil))) (.cons (.tup (.cons (.str "barred") (.cons (.lst (.cons (.bl true) .nil)) .nil))) .nil))) Á (by decide +kernel))))))))
  (Wb.eY (Wb.s0 (ć none (i:=6) nd rfl zQ (ė (Ä 6) (Wr.qp ["_law_pen_here","_law_n","_law_many","_law_wood","_law_at","_law_pick","_law_odd","_law_leaf"] (aj (top 60)) (.lst (.cons (.tup (.cons (.str "barred") (.cons (.lst (.cons (.var 1) .nil)) .nil))) (.cons (.tup (.cons (.str "barred") (.cons (.lst (.cons (.neg 1) .nil)) .nil))) (.cons (.tup (.cons (.str "barred") (.cons (.lst (.cons (.int 0) (.cons (.int 0) .nil))) .nil))) (.cons (.tup (.cons (.str "barred") (.cons (.lst (.cons (.lst (.cons (.int 0) .nil)) .nil)) .nil))) (.cons (.tup (.cons (.str "barred") (.cons (.lst (.cons (.neg 1) (.cons (.int 0) .nil))) .nil))) .nil)))))) (by decide +kernel)))))
  (Wb.yL (Wb.ix (Wb.e0 (Ä 6)) (Wb.dcP (hk:=by omega) (Dl.Cal.eZ C__law_draw) hr (Ă 0) (Wb.a0 (À (ă B.len (À (Ä 6) Á)) Á))))))))))
  (Wb.rif (Wb.t0 (Č hr.units (Ä 5) Ã)) (Wb.yL (Wb.tup (Wb.aQ (Wb.e0 č) (Wb.aQ (Wb.Jr (hk:=by omega) (Dl.Cal.Gz C__law_odd_rows) hr (Ă 0) (Wb.a0 (À (Ä 1) Á))) (Wb.a0 Á)))))
  (Wb.rif (Wb.t0 (Č hr.units (Ä 5) Ã)) (Wb.eY (Wb.s0 (ć none (i:=6) nd rfl zQ (í (Wr.fC 6 ["_law_pen_here","_law_n","_law_many","_law_wood","_law_at","_law_pick","_law_odd","_law_leaf"] (aj (top 60)) (.cons (.var 2) (.cons (.neg 1) (.cons (.bl true) (.cons .non (.cons (.str "0") (.cons (.lst (.cons (.int 0) .nil)) .nil)))))) (À (Wr.iU Ã Ã) (À Ã (À (Wr.lF rfl B.max (À Ã (À (Ł (Ä 2) Ã) Á))) (À (ê (À Ã Á)) Á)))) (by decide +kernel)))))
  (Wb.yL (Wb.tup (Wb.aQ (Wb.e0 č) (Wb.aQ (Wb.ix (Wb.e0 (Ä 6)) (Wb.dcP (hk:=by omega) (Dl.Cal.eZ C__law_draw) hr (Ă 0) (Wb.a0 (À Ã Á)))) (Wb.a0 (À (Ä 3) (À (Ä 3) Á))))))))
  (Wb.eY (Wb.set none (i:=7) nd rfl zQ (Wb.dcP (hk:=by omega) (Dl.Cal.eZ C__law_tree) hr (Ă 0) (Wb.a0 (À (Ä 1) (À (í Á) (À Ã Á))))))
  (Wb.rif (Wb.wt (Wb.vW (Wb.t0 (Č hr.units (Õ (Ä 7) Ã) č)) (Wb.yh (Wb.teq hr.units (Wb.dcP (hk:=by omega) (Dl.Cal.eZ C__law_draw) hr (Ă 0) (Wb.a0 (À Ã Á))) (Wb.e0 Ã))))) (Wb.yL (Wb.e0 (ê (À č (À (ė (Õ (Ä 7) Ã) (Wr.iT (Õ (Ä 7) Ã) Wr.cA (Wr.cu Ã))) Á)))))
  (Wb.yL (Wb.e0 (Ä 7)))))))))),Wb.CK (f:=(fBe (kk+1))) pi9 r9 k9 (ť (by omega)) ?_⟩
 revert t9
 rintro⟨n,m,t0,rfl,n1,n8,m8,ht,q⟩
 refine⟨[.im (.int n),.im (.int ((m:Nat):Int)),.sh t0.D,.any,.any,.any,.any],by show [_,_,aD t0.D,_,_,_,_]=_;rw[Ru];rfl,?_⟩
 refine Ke ?_ (λhu=>?_)
 ·obtain⟨wd,es,e0,l1,l3,fo⟩:=t0.form
  have o1:=M7 n8 m8 ht e0 l1 l3 fo
  have o2:=M6 n1 n8 m8 ht e0
  have oall:∀e∈OB1 (.str wd::es)++OB2 n (.str wd::es)++OB3++OB4 n++OB5 n,P e:=λe he=>q e (jG (jG (jG (jG o1 o2) M5) (M4 n1 n8)) (MP n1 n8) e he)
  have btry:∀x,Sh (kk+4) 50 x->P (.tuple [.str "try",x,.tuple (.str wd::es),.tuple (.str wd::es)]):=λx hx=>by
   have:=q _ (JF n8 m8 hx ht)
   rw[e0] at this
   exact this
  rw[e0]
  refine⟨rfl,4,rfl,by decide,by decide,λpk p0 p1=>?_⟩
  refine bH (λc=>?_) (λc=>?_)
  ·refine⟨à _,à _,.inr ⟨zK,(show es.length+1+1<=1000 by omega),Vk _ l1,zK,Tj _ _,N5 _ l3,_,rfl,zK,?_⟩⟩
   refine iH (ρ:=RB n m (.str wd::es) pk .any) (i:=6) (d:=.list (OB1 (.str wd::es))) ?hk (λs6 h6=>pR (s6:=s6) h6) (λs6 h6=>?_)
   case hk=>exact bG (by repeat' first|exact rfl|exact cC (a:=.shr) rfl|refine cC ?_|refine bG ?_ ?_) rfl
   refine kh (i:=6) (s:=s6) (ρ:=RB n m (.str wd::es) pk s6) rfl h6 (λk6 hk6=>?_)
   refine⟨zK,Tj _ _,N5 _ l3,à _,zK,⟨by omega,by omega⟩,zK,_,rfl,zK,zK,.inr ?_⟩
   refine iH (ρ:=RB n m (.str wd::es) pk s6) (i:=6) (d:=.list (OB1 (.str wd::es)++OB2 n (.str wd::es))) ?hk (λs6 h6=>pR (s6:=s6) h6) (λs6 h6=>?_)
   case hk=>exact bG (bG hk6 (by repeat' first|exact rfl|exact cC (a:=.shr) rfl|refine cC ?_|refine bG ?_ ?_)) rfl
   refine kh (i:=6) (s:=s6) (ρ:=RB n m (.str wd::es) pk s6) rfl h6 (λk6 hk6=>?_)
   refine⟨_,_,rfl,zK,.inr ?_⟩
   refine iH (ρ:=RB n m (.str wd::es) pk s6) (i:=6) (d:=.list (OB1 (.str wd::es)++OB2 n (.str wd::es)++OB3)) ?hk (λs6 h6=>pR (s6:=s6) h6) (λs6 h6=>?_)
   case hk=>exact bG (bG hk6 (by repeat' first|exact rfl|exact cC (a:=.shr) rfl|refine cC ?_|refine bG ?_ ?_)) rfl
   refine kh (i:=6) (s:=s6) (ρ:=RB n m (.str wd::es) pk s6) rfl h6 (λk6 hk6=>?_)
   refine⟨zK,zK,zK,_,rfl,zK,zK,.inr ?_⟩
   refine iH (ρ:=RB n m (.str wd::es) pk s6) (i:=6) (d:=.list (OB1 (.str wd::es)++OB2 n (.str wd::es)++OB3++OB4 n)) ?hk (λs6 h6=>pR (s6:=s6) h6) (λs6 h6=>?_)
   case hk=>exact bG (bG hk6 (by repeat' first|exact rfl|exact cC (a:=.shr) rfl|refine cC ?_|refine bG ?_ ?_)) rfl
   refine kh (i:=6) (s:=s6) (ρ:=RB n m (.str wd::es) pk s6) rfl h6 (λk6 hk6=>?_)
   refine⟨_,_,rfl,zK,.inr ?_⟩
   refine iH (ρ:=RB n m (.str wd::es) pk s6) (i:=6) (d:=.list (OB1 (.str wd::es)++OB2 n (.str wd::es)++OB3++OB4 n++OB5 n)) ?hk (λs6 h6=>pR (s6:=s6) h6) (λs6 h6=>?_)
   case hk=>exact bG (bG hk6 (by repeat' first|exact rfl|exact cC (a:=.shr) rfl|refine cC ?_|refine bG ?_ ?_)) rfl
   have fin:∀y:Int,0<=y->y<32->∃d,atI (OB1 (.str wd::es)++OB2 n (.str wd::es)++OB3++OB4 n++OB5 n) y=some d/\P d:=λy y0 y1=>by
    obtain⟨d,hd,hm⟩:=Al (ds:=OB1 (.str wd::es)++OB2 n (.str wd::es)++OB3++OB4 n++OB5 n) y0 y1
    exact⟨d,hd,oall d hm⟩
   rcases h6 with rfl|rfl|rfl
   all_goals exact⟨rfl,32,rfl,by decide,by decide,fin⟩
  ·refine bH (λc=>?_) (λc=>?_)
   ·exact⟨rfl,rfl,n,rfl,n1,n8,λd h1 h2=>⟨zK,q _ (jq h1 h2)⟩⟩
   refine bH (λc=>?_) (λc=>?_)
   ·refine⟨_,rfl,⟨by decide,by decide,by decide⟩,zK,zK,?_⟩
    refine⟨rfl,10,rfl,by decide,by decide,λy y0 y1=>?_⟩
    obtain⟨x,hx,hm⟩:=Al (ds:=OB6 ((m:Nat):Int)) y0 y1
    exact⟨x,hx,zK,btry x ((MN m8 x hm).mono (by omega) (Ç _))⟩
   ·refine⟨rfl,à _,n,m,[],0,rfl,by decide,n1,n8,m8,à _,(λk hk=>nomatch hk),λt ot=>?_⟩
    refine bQ (s:=.sn t.D) (by rw[Ċ (aZ t),Ċ (aZ t)];rfl) ?_
    cases t with
    |tri k a b=>exact ot.elim
    |bar l=>exact⟨.str "barred",rfl,ak (A:=True) (q _ (ur n8 m8 (t:=.bar l) (by cases kk <;> exact ot)))⟩
    |wts rs =>
     refine⟨.str "weights",rfl,aF (B:=True) ⟨rfl,2,rfl,by decide,by decide,λy _ _=>bH (λc=>?_) (λc=>q _ (ur n8 m8 (t:=.wts rs) (by cases kk <;> exact ot)))⟩⟩
     exact⟨_,rfl,_,rfl,.inr ⟨QJ ot,.inr ⟨zK,q _ (Mu n8 ot)⟩⟩⟩
 ·cases t0 with
  |bar l=>exact⟨.str "barred",rfl,ak (A:=True) hu⟩
  |wts rs=>exact⟨.str "weights",rfl,ak (A:=True) hu⟩
  |tri k a b =>
   refine⟨.str "try",rfl,aF (B:=True) ?_⟩
   refine⟨rfl,3,rfl,by decide,by decide,λy _ _=>bH (λc=>?_) (λc=>hu)⟩
   obtain⟨d,rfl⟩:∃d,kk=d+1:=by
    cases kk with
    |zero=>exact ht.elim
    |succ d=>exact⟨d,rfl⟩
   obtain⟨k0,k1,ha,hb⟩:=ht
   refine⟨rfl,2,rfl,by decide,by decide,λz z0 z1=>?_⟩
   have hz:z=0\/z=1:=by omega
   rcases hz with rfl|rfl
   ·refine⟨(show ¬(HT.sIx 4 0 none=0/\HT.sIx 4 4 (some (2+0))=4) by decide),rfl,a.D,rfl,R6 n m a,n,m,a,rfl,n1,n8,m8,ha,λt ht=>?_⟩
    refine⟨zK,zK,(show ¬(HT.sIx 4 0 (some (2+0+1))=0/\HT.sIx 4 4 none=4) by decide),zK,?_⟩
    exact q _ (Rr n8 m8 k0 (by omega) ht hb)
   ·refine⟨(show ¬(HT.sIx 4 0 none=0/\HT.sIx 4 4 (some (2+1))=4) by decide),rfl,b.D,rfl,R6 n m b,n,m,b,rfl,n1,n8,m8,hb,λt ht=>?_⟩
    refine⟨zK,zK,(show ¬(HT.sIx 4 0 (some (2+1+1))=0/\HT.sIx 4 4 none=4) by decide),zK,?_⟩
    exact q _ (Rq n8 m8 k0 (by omega) ht ha)
def Qw(F:Fun K "_law_bent" "_law_bent" (top 60) f fd):FnOk P w K mg base CX0 8 f fd ["_law_pen_here","_law_n","_law_many","_law_wood"] (dM 0 (fBe 0)) :=
 F.ok iG (nC λds P h=>h.elim) (λcdv A outer s H vs Q E hr h=>by
  obtain⟨_,_,_,_,_,_,_,_,_,t,_⟩:=h
  exact t.elim)
def cE:Nat->Nat
 |0=>0
 |k+1=>cE k+400000
def Tf(k:Nat)(F:Fun K "_law_bent" "_law_bent" (top 60) f fd)(B:Ė mg)(b:Binds K fd ["_law_pen_here","_law_n","_law_many","_law_wood"] [])(m:mg "_law_bent"=some (.ref f))(C1:Ñ P w K mg base 1 "_law_draw" ["_law_pen_here","_law_many"] (bB 1 eV))(C2:Ñ P w K mg base 2 "_law_odd_rows" ["_law_pen_here","_law_n"] (dM 10 fOR))(C3:Ñ P w K mg base 7 "_law_tree" ["_law_pen_here","_law_n","_law_free","_law_deep"] (bB 300000 (vM 4))):FnOk P w K mg base CX0 (k+8) f fd ["_law_pen_here","_law_n","_law_many","_law_wood"] (dM (cE k) (fBe k)):=by
 induction k with
 |zero=>exact Qw F
 |succ k ih=>exact Qu F B C1 ⟨f,fd,ih,b,F.kp,m⟩ C2 C3
def Qv(F:Fun K "_law_bent" "_law_bent" (top 60) f fd)(B:Ė mg)(b:Binds K fd ["_law_pen_here","_law_n","_law_many","_law_wood"] [])(m:mg "_law_bent"=some (.ref f))(C1:Ñ P w K mg base 1 "_law_draw" ["_law_pen_here","_law_many"] (bB 1 eV))(C2:Ñ P w K mg base 2 "_law_odd_rows" ["_law_pen_here","_law_n"] (dM 10 fOR))(C3:Ñ P w K mg base 7 "_law_tree" ["_law_pen_here","_law_n","_law_free","_law_deep"] (bB 300000 (vM 4))):FnOk P w K mg base CX0 14 f fd ["_law_pen_here","_law_n","_law_many","_law_wood"] (dM 2400000 (fBe 6)):=Tf 6 F B b m C1 C2 C3
end
def FQ(K:Ô)(T:Pn):Sp:=λvs H Q _=>∃(a:Addr) (ns:List Int),vs=[.ref a]/\SqL K H a (ns.map V.int)/\T.PI H/\∀H',Q (.bl true) H'
def QB{PT sc:Addr}{H:Hp}{xs:List V}(hT:(fX PT).PI H):Rd H sc (.lst xs)->¬(fX PT).fp sc:=λr z=>by
 obtain⟨ps,h,_⟩:=hT
 have z:sc=PT:=z
 rcases r with r|⟨o,r⟩
 ·rw[z,h] at r;cases r
 ·rw[z,h] at r;cases r
def OkB.okN{n:Int}{us:List Tie}(h:OkB n us):OkN n us:=λt ht=>by
 have:=h t ht
 exact⟨⟨by omega,by omega⟩,⟨by omega,by omega⟩,by omega⟩
def Told(n:Int)(us:List Tie)(os:List Off)(d:D):Prop:=(∃l,d=.tuple [.str "barred",iD l]/\∀ks,InR os.length ks->¬jK n us os ks) ∨
 ∃ks t,d=.tuple [.str "cheapest",.int (cst os ks),iD ks,t.D]/\mL os.length ks/\jK n us os ks/\JK n us os (cst os ks)/\Tr.Ok n os.length 5 t/\hL us os (cst os ks) t [] []=true
def j8{n:Int}{us:List Tie}{os:List Off}{d:D}(h:Told n us os d):¬cI d=true:=by
 rcases h with ⟨l,rfl,_⟩|⟨ks,t,rfl,_⟩
 ·exact Ì
 ·exact Ì
def Cw{n:Int}{us:List Tie}{b:Bool}{os:List Off}{P:D->Prop}(n1:1<=n)(n8:n<=8)(lu:us.length<=40)(ou:OkN n us)(lo:os.length<=5)(oo:OkO n os)(h:∀d,Told n us os d->P d):xP [aA n us,oT b os] P:=Mf
 ⟨n,us,b,os,rfl,n1,n8,lu,ou,lo,oo,λl pl no=>h _ (.inl ⟨l,rfl,no⟩),λks t rk an lb ok e=>h _ (.inr ⟨ks,t,rfl,rk,an,lb,ok,e⟩)⟩
def tu{n:Int}{m:Nat}:∀{d d':Nat}{t:Tr},t.Ok n m d->d<=d'->t.Ok n m d'
 |0,0,_,h,_=>h
 |0,_+1,.bar _,h,_=>h
 |0,_+1,.wts _,h,_=>h
 |_+1,_+1,.bar _,h,_=>h
 |_+1,_+1,.wts _,h,_=>h
 |0,_+1,.tri _ _ _,h,_=>h.elim
 |d+1,d'+1,.tri _ _ _,h,l=>⟨h.1,h.2.1,tu h.2.2.1 (by omega),tu h.2.2.2 (by omega)⟩
def RQ(sc:Addr)(i:Nat)(n:Int)(us:List Tie)(s4 s5 s6 s7 s8 s9 s10:Sl):List Sl:=[.scr (.ref sc) false,.im (.int (0+((i:Nat):Int))),.pen TP,.im (aA n us),s4,s5,s6,s7,s8,s9,s10,.any]
section
variable {P:Program}{w:World}{K:Ô}{mg:Str->Option Value}{base:Heap}{f:Addr}{fd:FuncData}{CN PT:Addr}
def Gf:FnScope ["_law_script","_law_k","_law_pen_here","_law_web_here","_law_offers_here","_law_told","_law_wood","_law_number","_law_turn","_law_bent_here","_law_kept","_law_found"] ["_law_script"] (aj (top 61)):=zC
def Qs(F:Fun K "law" "law" (top 61) f fd)(B:Ė mg)(m_repr:mg "repr"=none)(SY:Dl.yq base)(C__law_pen:Ñ P w K mg base 1 "_law_pen" ["_law_script","_law_k"] (Wb.JX K SX))(C__law_web:Ñ P w K mg base 3 "_law_web" ["_law_pen_here","_law_most"] (bB 4000000 Ua))(C__law_offers:Ñ P w K mg base 3 "_law_offers" ["_law_pen_here","_law_n","_law_most"] (bB 20000 Oc))(C_cheapest:Ñ P w K mg base 19 "cheapest" ["web","offers"] (spT (fX PT) xP))(C__law_tree:Ñ P w K mg base 7 "_law_tree" ["_law_pen_here","_law_n","_law_free","_law_deep"] (bB 300000 (vM 4)))(C__law_draw:Ñ P w K mg base 1 "_law_draw" ["_law_pen_here","_law_many"] (bB 1 eV))(C__law_bent:Ñ P w K mg base 14 "_law_bent" ["_law_pen_here","_law_n","_law_many","_law_wood"] (dM 2400000 (fBe 6)))(C_tree_holds:Ñ P w K mg base 27 "tree_holds" ["web","offers","number","tree"] (spD fTH))(C__law_holds:Ñ P w K mg base 12 "_law_holds" ["_law_web_here","_law_offers_here","_law_number","_law_wood","_law_taken","_law_left"] (spD (fLH 8))):FnOk P w K mg base CX0 28 f fd ["_law_script"] (FQ K (fX PT)):=by
 refine F.ok Gf (λvs H Q E h=>by obtain⟨a,ns,rfl,_⟩:=h;rfl) (λcdv A outer s H vs Q E hr h=>?_)
 obtain⟨sc,ns,rfl,hS,hT,q⟩:=h
 have nd:=Gf.nd
 letI:Tb:=⟨fX PT⟩
 refine⟨_,(Wb.Rz (K:=K) (sc:=sc) (ns:=ns) Ğ rfl (Wr.bY B.range (À Ã Á)) (ì (i:=1) nd rfl zQ) (Wb.GJ this C__law_pen hr (Ă 0) (À (Ä 1) Á) nd (i:=2) rfl zQ
  (Wb.cons (Wb.set none (i:=3) nd rfl zQ (Wb.dcP (Dl.Cal.eZ C__law_web) hr (Ă 2) (Wb.a0 (À Ã Á))))
  (Wb.cons (Wb.set none (i:=4) nd rfl zQ (Wb.dcP (Dl.Cal.eZ C__law_offers) hr (Ă 2) (Wb.a0 (À (Õ (Ä 3) Ã) (À Ã Á)))))
  (Wb.cons (Wb.set none (i:=5) nd rfl zQ (Wb.Vw C_cheapest hr (Wb.a0 (À (Ä 3) (À (Ä 4) Á)))))
  (Wb.cons (Wb.set none (i:=6) nd rfl zQ (Wb.dcP (Dl.Cal.eZ C__law_tree) hr (Ă 2) (Wb.a0 (À (Õ (Ä 3) Ã) (À (Wr.cR rfl B.list B.range (À (ă B.len (À (Ä 4) Á)) Á)) (À Ã Á))))))
  (Wb.cons (Wb.set none (i:=7) nd rfl zQ (Wb.sub (Wb.dcP (Dl.Cal.eZ C__law_draw) hr (Ă 2) (Wb.a0 (À Ã Á))) (Wb.e0 Ã)))
  (Wb.gn (Wb.if_ (Wb.wt (Wb.vW (Wb.t0 (Č hr.units (Õ (Ä 5) Ã) č)) (Wb.yh (Wb.tgt (Wb.dcP (Dl.Cal.eZ C__law_draw) hr (Ă 2) (Wb.a0 (À Ã Á))) (Wb.e0 Ã))))) (Wb.ss0 (Û (ć none (i:=6) nd rfl zQ (Õ (Ä 5) Ã))
  (Ö (ć none (i:=7) nd rfl zQ (Õ (Ä 5) Ã))))) (Wb.ss0 â))
  (Wb.gn (Wb.for_ Ğ rfl (Wb.i0 (Wr.bY B.range (À Ã Á))) (ì (i:=8) nd rfl zQ) (Wb.cons (Wb.set none (i:=9) nd rfl zQ (Wb.Jr (Dl.Cal.Gz C__law_bent) hr (Ă 2) (Wb.a0 (À (Õ (Ä 3) Ã) (À (ă B.len (À (Ä 4) Á)) (À (Ä 6) Á))))))
  (Wb.ss0 (Û (ć none (i:=10) nd rfl zQ (Wr.lE SY hr.gd hr.units m_repr (À (ê (À (Ä 3) (À (Ä 4) (À (Ä 9) Á)))) Á)))
  (Û (ć none (i:=11) nd rfl zQ (ĉ C_tree_holds hr (À (Ä 3) (À (Ä 4) (À (Ä 7) (À (Ä 9) Á))))))
  (Û (ý (ř (ĥ (ċ (ö (ī qQ B.isinstance (Ä 11) (Wr.wty rfl B.bool boot_bool)))) (Ĺ (ĭ hr.units (Ä 11) (ĉ C__law_holds hr (À (Ä 3) (À (Ä 4) (À (Ä 7) (À (Ä 9) (À (í Á) (À (í Á) Á))))))))))) (Ö (ß Ħ)) â)
  (Û (ý (ĭ hr.units (Wr.lE SY hr.gd hr.units m_repr (À (ê (À (Ä 3) (À (Ä 4) (À (Ä 9) Á)))) Á)) (Ä 10)) (Ö (ß Ħ)) â) (ŏ [8,9,10,11] â))))))))
  (Wb.drops [8,9,10,11] (Wb.ss0 (Û (ý (ĭ hr.units (ĉ C_tree_holds hr (À (Ä 3) (À (Ä 4) (À (Ä 7) (À (Ä 6) Á))))) (ĉ C__law_holds hr (À (Ä 3) (À (Ä 4) (À (Ä 7) (À (Ä 6) (À (í Á) (À (í Á) Á)))))))) (Ö (ß Ħ)) â) (ŏ [1,3,4,5,6,7,8,9,10,11] â))))))))))) rfl)
  (Ö (ß Ħ))),Mp hS hT (QB hT) q (by decide) ?_⟩
 refine⟨⟨by decide,by decide⟩,rfl,λ(i:Nat) ρ=>∃b,ρ=[.scr (.ref sc) b,.any,.any,.any,.any,.any,.any,.any,.any,.any,.any,.any],⟨false,rfl⟩,?_,?_⟩
 rotate_left
 ·rintro ρ ⟨b,rfl⟩
  exact⟨rfl,rfl⟩
 rintro i d ρ hd ⟨b,rfl⟩
 obtain⟨hi,rfl⟩:=bW hd
 refine⟨⟨b,rfl⟩,(show 2<12 by decide),⟨_,rfl,by omega,by omega⟩,?_⟩
 refine⟨rfl,6,rfl,by decide,by decide,λn us n1 n6 lu ok srt=>?_⟩
 refine bQ (s:=.im (aA n us)) (by rw[Ÿ (jE n us)];rfl) ?_
 have okn:=ok.okN
 refine⟨rfl,.int n,rfl,n,5,rfl,n1,by omega,by decide,by decide,λb os lo okc=>?_⟩
 have oo:=okc.ok
 have lo5:os.length<=5:=lo
 have lmo:(os.map oD).length=os.length:=Â ..
 have eR:∀k:Nat,k=os.length->Ď (bA 0 (((k:Nat):Int) - 0).toNat)=iD (cB os.length):=λk e=>by
  subst e
  rw[Int.sub_zero,ŀ]
  unfold cB
  show Ď ((ä os.length).map _)=Ď (List.map Å _)
  rw[ç]
  rfl
 have lR:(cB os.length).length<=8:=by
  unfold cB
  rw[Â,ĳ]
  omega
 have hR:∀k∈cB os.length,0<=k/\k<((os.length:Nat):Int):=λk hk=>fV.mp hk
 cases b with
 |true =>
  refine bQ (rg:=none) (i:=4) (ρ:=RQ sc i n us .any .any .any .any .any .any .any) (k:=norm .new (oT true os)) (d:=oT true os) (s:=.sn (.list (os.map oD))) (by rfl) ?_
  show xP [aA n us,oT true os] _
  refine Cw n1 (by omega) (by omega) okn lo5 oo λd hd=>?_
  refine bQ (s:=.sn d) (by rw[Ċ (j8 hd),Ċ (j8 hd)];rfl) ?_
  refine⟨rfl,.int n,rfl,⟨by omega,by omega⟩,n,os.length,cB os.length,2,?_,by decide,n1,by omega,by omega,lR,hR,λt3 h3=>?_⟩
  ·show [Å n,.list (bA 0 ((((os.map oD).length:Nat):Int) - 0).toNat),.int 2]=_
   rw[eR _ lmo]
   rfl
  refine bQ (s:=.sn t3.D) (by rw[Ċ (aZ t3),Ċ (aZ t3)];rfl) ?_
  refine⟨rfl,3,rfl,by decide,by decide,λx x0 x1=>?_⟩
  refine⟨λρ=>∃(t:Tr) (num:Int),t.Ok n os.length 5/\ρ=RQ sc i n us (.sn (.list (os.map oD))) (.sn d) (.sn t.D) (.im (.int num)) .any .any .any,?_,?_⟩
  ·rcases hd with ⟨l,rfl,no⟩|⟨ks,t2,rfl,rk,an,lb,o2,e2⟩
   ·exact⟨.str "barred",rfl,ak (A:=True) ⟨t3,_,tu (d:=2) h3 (by decide),rfl⟩⟩
   ·refine⟨.str "cheapest",rfl,aF (B:=True) ⟨rfl,4,rfl,by decide,by decide,λy _ _=>bH (λc=>?_) (λc=>⟨t3,_,tu (d:=2) h3 (by decide),rfl⟩)⟩⟩
    refine⟨t2.D,rfl,?_⟩
    refine bQ (s:=.sn t2.D) (by rw[Ċ (aZ t2),Ċ (aZ t2)];rfl) ?_
    exact⟨.int (cst os ks),rfl,t2,_,o2,rfl⟩
  rintro ρ ⟨t,num,okt,rfl⟩
  refine⟨λρ=>ρ=RQ sc i n us (.sn (.list (os.map oD))) (.sn d) (.sn t.D) (.im (.int num)) .any .any .any,?_,?_⟩
  ·refine⟨⟨by decide,by decide⟩,by rw[Ľ];decide,rfl,λ(j:Nat) ρ=>ρ=RQ sc i n us (.sn (.list (os.map oD))) (.sn d) (.sn t.D) (.im (.int num)) .any .any .any,rfl,?_,?_⟩
   ·rintro j dj ρ hdj rfl
    obtain⟨hj,rfl⟩:=bW hdj
    refine⟨rfl,.int n,rfl,rfl,n,os.length,t,by show [_,Å (((os.map oD).length:Nat):Int),_]=_;rw[lmo],n1,by omega,by omega,okt,λe he=>?_⟩
    have okr:=w6 (b:=true) n1 (by omega) (by omega) okn (by omega) oo he
    obtain⟨t9,rfl,o7,_⟩:=he
    refine mq (k:=norm .shr t9.D) (vf t9.D) ?_
    rintro s (rfl|rfl)
    all_goals
     refine⟨zK,_,_,rfl,okr,?_⟩
     refine⟨n,us,true,os,num,t9,rfl,o7,by omega,by omega,okn,by omega,oo,?_⟩
     refine ak (A:=True) ?_
     refine⟨zK,zK,n,us,true,os,num,t9,[],[],rfl,o7,by omega,by omega,by omega,by decide,by decide,(λk hk=>nomatch hk),?_⟩
     show if (!decide (gB n us os num t9 [] []=gB n us os num t9 [] []))=true then _ else _
     rw[decide_eq_true rfl]
     refine ak (A:=True) ⟨zK,_,_,rfl,okr,?_⟩
     show if (!decide ((İ [aA n us,oT true os,t9.D]).shown=(İ [aA n us,oT true os,t9.D]).shown))=true then _ else _
     rw[decide_eq_true rfl]
     exact ak (A:=True) rfl
   ·rintro ρ rfl
    exact rfl
  rintro ρ rfl
  have o7:t.B.Ok 7:=Bt.up _ _ (Bt.up _ _ (Tr.BOk (by omega) 5 t okt))
  refine⟨n,us,true,os,num,t.B,by rw[t.BD];rfl,o7,by omega,by omega,okn,by omega,oo,?_⟩
  refine⟨zK,zK,n,us,true,os,num,t.B,[],[],by rw[t.BD];rfl,o7,by omega,by omega,by omega,by decide,by decide,(λk hk=>nomatch hk),?_⟩
  show if (!decide (gB n us os num t.B [] []=gB n us os num t.B [] []))=true then _ else _
  rw[decide_eq_true rfl]
  refine ak (A:=True) ?_
  exact⟨⟨_,rfl⟩,rfl,⟨_,rfl⟩⟩
 |false =>
  refine bQ (rg:=none) (i:=4) (ρ:=RQ sc i n us .any .any .any .any .any .any .any) (k:=norm .new (oT false os)) (d:=oT false os) (s:=.im (.tuple (os.map oD))) (by show Dl.stK none (RQ sc i n us .any .any .any .any .any .any .any) 4 (norm (norm .new (.tuple (os.map oD))) (.tuple (os.map oD))) (.tuple (os.map oD))=_;rw[Ÿ (k:=norm .new (.tuple (os.map oD))) (show cI (.tuple (os.map oD))=true from lY os)];rfl) ?_
  show xP [aA n us,oT false os] _
  refine Cw n1 (by omega) (by omega) okn lo5 oo λd hd=>?_
  refine bQ (s:=.sn d) (by rw[Ċ (j8 hd),Ċ (j8 hd)];rfl) ?_
  refine⟨rfl,.int n,rfl,⟨by omega,by omega⟩,n,os.length,cB os.length,2,?_,by decide,n1,by omega,by omega,lR,hR,λt3 h3=>?_⟩
  ·show [Å n,.list (bA 0 ((((os.map oD).length:Nat):Int) - 0).toNat),.int 2]=_
   rw[eR _ lmo]
   rfl
  refine bQ (s:=.sn t3.D) (by rw[Ċ (aZ t3),Ċ (aZ t3)];rfl) ?_
  refine⟨rfl,3,rfl,by decide,by decide,λx x0 x1=>?_⟩
  refine⟨λρ=>∃(t:Tr) (num:Int),t.Ok n os.length 5/\ρ=RQ sc i n us (.im (.tuple (os.map oD))) (.sn d) (.sn t.D) (.im (.int num)) .any .any .any,?_,?_⟩
  ·rcases hd with ⟨l,rfl,no⟩|⟨ks,t2,rfl,rk,an,lb,o2,e2⟩
   ·exact⟨.str "barred",rfl,ak (A:=True) ⟨t3,_,tu (d:=2) h3 (by decide),rfl⟩⟩
   ·refine⟨.str "cheapest",rfl,aF (B:=True) ⟨rfl,4,rfl,by decide,by decide,λy _ _=>bH (λc=>?_) (λc=>⟨t3,_,tu (d:=2) h3 (by decide),rfl⟩)⟩⟩
    refine⟨t2.D,rfl,?_⟩
    refine bQ (s:=.sn t2.D) (by rw[Ċ (aZ t2),Ċ (aZ t2)];rfl) ?_
    exact⟨.int (cst os ks),rfl,t2,_,o2,rfl⟩
  rintro ρ ⟨t,num,okt,rfl⟩
  refine⟨λρ=>ρ=RQ sc i n us (.im (.tuple (os.map oD))) (.sn d) (.sn t.D) (.im (.int num)) .any .any .any,?_,?_⟩
  ·refine⟨⟨by decide,by decide⟩,by rw[Ľ];decide,rfl,λ(j:Nat) ρ=>ρ=RQ sc i n us (.im (.tuple (os.map oD))) (.sn d) (.sn t.D) (.im (.int num)) .any .any .any,rfl,?_,?_⟩
   ·rintro j dj ρ hdj rfl
    obtain⟨hj,rfl⟩:=bW hdj
    refine⟨rfl,.int n,rfl,rfl,n,os.length,t,by show [_,Å (((os.map oD).length:Nat):Int),_]=_;rw[lmo],n1,by omega,by omega,okt,λe he=>?_⟩
    have okr:=w6 (b:=false) n1 (by omega) (by omega) okn (by omega) oo he
    obtain⟨t9,rfl,o7,_⟩:=he
    refine mq (k:=norm .shr t9.D) (vf t9.D) ?_
    rintro s (rfl|rfl)
    all_goals
     refine⟨zK,_,_,rfl,okr,?_⟩
     refine⟨n,us,false,os,num,t9,rfl,o7,by omega,by omega,okn,by omega,oo,?_⟩
     refine ak (A:=True) ?_
     refine⟨zK,zK,n,us,false,os,num,t9,[],[],rfl,o7,by omega,by omega,by omega,by decide,by decide,(λk hk=>nomatch hk),?_⟩
     show if (!decide (gB n us os num t9 [] []=gB n us os num t9 [] []))=true then _ else _
     rw[decide_eq_true rfl]
     refine ak (A:=True) ⟨zK,_,_,rfl,okr,?_⟩
     show if (!decide ((İ [aA n us,oT false os,t9.D]).shown=(İ [aA n us,oT false os,t9.D]).shown))=true then _ else _
     rw[decide_eq_true rfl]
     exact ak (A:=True) rfl
   ·rintro ρ rfl
    exact rfl
  rintro ρ rfl
  have o7:t.B.Ok 7:=Bt.up _ _ (Bt.up _ _ (Tr.BOk (by omega) 5 t okt))
  refine⟨n,us,false,os,num,t.B,by rw[t.BD];rfl,o7,by omega,by omega,okn,by omega,oo,?_⟩
  refine⟨zK,zK,n,us,false,os,num,t.B,[],[],by rw[t.BD];rfl,o7,by omega,by omega,by omega,by decide,by decide,(λk hk=>nomatch hk),?_⟩
  show if (!decide (gB n us os num t.B [] []=gB n us os num t.B [] []))=true then _ else _
  rw[decide_eq_true rfl]
  refine ak (A:=True) ?_
  exact⟨⟨_,rfl⟩,rfl,⟨_,rfl⟩⟩
end
def len1{α:Type}:∀us:List α,us.length=1->∃a,us=[a]
 |[a],_=>⟨a,rfl⟩
def len2{α:Type}:∀us:List α,us.length=2->∃a b,us=[a,b]
 |[a,b],_=>⟨a,b,rfl⟩
def Vo{α:Type}:∀us:List α,us.length=3->∃a b c,us=[a,b,c]
 |[a,b,c],_=>⟨a,b,c,rfl⟩
def Eh{α:Type}:∀us:List α,us.length=4->∃a b c d,us=[a,b,c,d]
 |[a,b,c,d],_=>⟨a,b,c,d,rfl⟩
def QK{α:Type}:∀us:List α,us.length=5->∃a b c d e,us=[a,b,c,d,e]
 |[a,b,c,d,e],_=>⟨a,b,c,d,e,rfl⟩
def Tz{α:Type}:∀us:List α,us.length=6->∃a b c d e f,us=[a,b,c,d,e,f]
 |[a,b,c,d,e,f],_=>⟨a,b,c,d,e,f,rfl⟩
def au{K:Ô}{f:Addr}{oc:Value}{od:Option Addr}{fd:FuncData}{sl:Array (Option Value)}(l:K.lookup f=some ⟨oc,od,.func fd,sl⟩):W.keepIn K (.ref f)=true:=by
 unfold W.keepIn
 simp only[l]
def aG{P:Program}{w:World}{K:Ô}{mg:Str->Option Value}{base:Heap}{k:Nat}{x:Str}{st:Stmt}{f:Addr}{fd:FuncData}{ps:List Str}{sp:Sp}(F:Fun K x x st f fd)(b:Binds K fd ps [])(m:mg x=some (.ref f))(h:FnOk P w K mg base CX0 k f fd ps sp) :
  Ñ P w K mg base k x ps sp:=⟨f,fd,h,b,F.kp,m⟩
abbrev zl(K:Ô)(f:Addr)(x:Str)(st:Stmt)(oc:Value)(od:Option Addr)(kV dc pm:Value)(an:Option Addr)(cd ct:Value)(sl:Array (Option Value)):Prop:=K.lookup f=some ⟨oc,od,.func (W.fnOf x x (fJ st) (cJ st) (aj st) .none kV dc pm an cd ct),sl⟩
abbrev za(K:Ô)(x:Str)(f:Addr):Prop:=W.nsIn K mainGlobals x=some (some (.ref f))
abbrev zc(K:Ô)(x:Str)(cd:Value):Prop:=W.codeIn K cd x=true
abbrev zn(K:Ô)(x:Str):Prop:=W.nsIn K mainGlobals x=some none
def all_mk{l:W.OpenLaw}{w:World}{K:Ô}{h:Heap}{mg:Str->Option Value}{c PT fa f0 f1 f2 f3 f4 f5 f6 f7 f8 f9 f10 f11 f12 f13 f14 f15 f16 f17 f18 f19 f20 f21 f22 f23 f24 f25 f26 f27 f28 f29 f30 f31 f32 f33 f34 f35 f36 f37 f38 f39 f40 f41 f42 f43 f44 f45 f46 f47 f48:Addr}(hT:h.get? PT=some (W.tabObj #[]))(X:K.In h)(G:h.Ns mainGlobals mg)(hfa:mg "law"=some (.ref fa)){od0 an0 od1 an1 od2 an2 od3 an3 od4 an4 od5 an5 od6 an6 od7 an7 od8 an8 od9 an9 od10 an10 od11 an11 od12 an12 od13 an13 od14 an14 od15 an15 od16 an16 od17 an17 od18 an18 od19 an19 od20 an20 od21 an21 od22 an22 od23 an23 od24 an24 od25 an25 od26 an26 od27 an27 od28 an28 od29 an29 od30 an30 od31 an31 od32 an32 od33 an33 od34 an34 od35 an35 od36 an36 od37 an37 od38 an38 od39 an39 od40 an40 od41 an41 od42 an42 od43 an43 od44 an44 od45 an45 od46 an46 od47 an47 od48 an48:Option Addr}{sl0 sl1 sl2 sl3 sl4 sl5 sl6 sl7 sl8 sl9 sl10 sl11 sl12 sl13 sl14 sl15 sl16 sl17 sl18 sl19 sl20 sl21 sl22 sl23 sl24 sl25 sl26 sl27 sl28 sl29 sl30 sl31 sl32 sl33 sl34 sl35 sl36 sl37 sl38 sl39 sl40 sl41 sl42 sl43 sl44 sl45 sl46 sl47 sl48:Array (Option Value)}{oc0 kV0 dc0 pm0 cd0 ct0 oc1 kV1 dc1 pm1 cd1 ct1 oc2 kV2 dc2 pm2 cd2 ct2 oc3 kV3 dc3 pm3 cd3 ct3 oc4 kV4 dc4 pm4 cd4 ct4 oc5 kV5 dc5 pm5 cd5 ct5 oc6 kV6 dc6 pm6 cd6 ct6 oc7 kV7 dc7 pm7 cd7 ct7 oc8 kV8 dc8 pm8 cd8 ct8 oc9 kV9 dc9 pm9 cd9 ct9 oc10 kV10 dc10 pm10 cd10 ct10 oc11 kV11 dc11 pm11 cd11 ct11 oc12 kV12 dc12 pm12 cd12 ct12 oc13 kV13 dc13 pm13 cd13 ct13 oc14 kV14 dc14 pm14 cd14 ct14 oc15 kV15 dc15 pm15 cd15 ct15 oc16 kV16 dc16 pm16 cd16 ct16 oc17 kV17 dc17 pm17 cd17 ct17 oc18 kV18 dc18 pm18 cd18 ct18 oc19 kV19 dc19 pm19 ct19 oc20 kV20 dc20 pm20 cd20 ct20 oc21 kV21 dc21 pm21 cd21 ct21 oc22 kV22 dc22 pm22 cd22 ct22 oc23 kV23 dc23 pm23 cd23 ct23 oc24 kV24 dc24 pm24 cd24 ct24 oc25 kV25 dc25 pm25 cd25 ct25 oc26 kV26 dc26 pm26 cd26 ct26 oc27 kV27 dc27 pm27 cd27 ct27 oc28 kV28 dc28 pm28 cd28 ct28 oc29 kV29 dc29 pm29 cd29 ct29 oc30 kV30 dc30 pm30 cd30 ct30 oc31 kV31 dc31 pm31 cd31 ct31 oc32 kV32 dc32 pm32 cd32 ct32 oc33 kV33 dc33 pm33 cd33 ct33 oc34 kV34 dc34 pm34 cd34 ct34 oc35 kV35 dc35 pm35 cd35 ct35 oc36 kV36 dc36 pm36 cd36 ct36 oc37 kV37 dc37 pm37 cd37 ct37 oc38 kV38 dc38 pm38 cd38 ct38 oc39 kV39 dc39 pm39 cd39 ct39 oc40 kV40 dc40 pm40 cd40 ct40 oc41 kV41 dc41 pm41 cd41 ct41 oc42 kV42 dc42 pm42 cd42 ct42 oc43 kV43 dc43 pm43 cd43 ct43 oc44 kV44 dc44 pm44 cd44 ct44 oc45 kV45 dc45 pm45 cd45 ct45 oc46 kV46 dc46 pm46 cd46 ct46 oc47 kV47 dc47 pm47 cd47 ct47 oc48 kV48 dc48 pm48 cd48 ct48:Value}{tk_MOST_OFFERS:Tok}(a0:za K "is_whole" f0)(l0:zl K f0 "is_whole" (top 5) oc0 od0 kV0 dc0 pm0 an0 cd0 ct0 sl0)(c0:zc K "is_whole" cd0)(a1:za K "is_below" f1)(l1:zl K f1 "is_below" (top 6) oc1 od1 kV1 dc1 pm1 an1 cd1 ct1 sl1)(c1:zc K "is_below" cd1)(a2:za K "is_tie" f2)(l2:zl K f2 "is_tie" (top 7) oc2 od2 kV2 dc2 pm2 an2 cd2 ct2 sl2)(c2:zc K "is_tie" cd2)(a3:za K "with_ties" f3)(l3:zl K f3 "with_ties" (top 8) oc3 od3 kV3 dc3 pm3 an3 cd3 ct3 sl3)(c3:zc K "with_ties" cd3)(a4:za K "hops" f4)(l4:zl K f4 "hops" (top 10) oc4 od4 kV4 dc4 pm4 an4 cd4 ct4 sl4)(c4:zc K "hops" cd4)(a5:za K "is_rising" f5)(l5:zl K f5 "is_rising" (top 12) oc5 od5 kV5 dc5 pm5 an5 cd5 ct5 sl5)(c5:zc K "is_rising" cd5)(a6:za K "is_proper_set" f6)(l6:zl K f6 "is_proper_set" (top 13) oc6 od6 kV6 dc6 pm6 an6 cd6 ct6 sl6)(c6:zc K "is_proper_set" cd6)(a7:za K "check_set" f7)(l7:zl K f7 "check_set" (top 14) oc7 od7 kV7 dc7 pm7 an7 cd7 ct7 sl7)(c7:zc K "check_set" cd7)(a8:za K "sets_below" f8)(l8:zl K f8 "sets_below" (top 15) oc8 od8 kV8 dc8 pm8 an8 cd8 ct8 sl8)(c8:zc K "sets_below" cd8)(a9:za K "leaves" f9)(l9:zl K f9 "leaves" (top 16) oc9 od9 kV9 dc9 pm9 an9 cd9 ct9 sl9)(c9:zc K "leaves" cd9)(a10:za K "ties_that_leave" f10)(l10:zl K f10 "ties_that_leave" (top 17) oc10 od10 kV10 dc10 pm10 an10 cd10 ct10 sl10)(c10:zc K "ties_that_leave" cd10)(a11:za K "leaving" f11)(l11:zl K f11 "leaving" (top 18) oc11 od11 kV11 dc11 pm11 an11 cd11 ct11 sl11)(c11:zc K "leaving" cd11)(a12:za K "need" f12)(l12:zl K f12 "need" (top 19) oc12 od12 kV12 dc12 pm12 an12 cd12 ct12 sl12)(c12:zc K "need" cd12)(a13:za K "needy_set" f13)(l13:zl K f13 "needy_set" (top 21) oc13 od13 kV13 dc13 pm13 an13 cd13 ct13 sl13)(c13:zc K "needy_set" cd13)(a14:za K "stands" f14)(l14:zl K f14 "stands" (top 22) oc14 od14 kV14 dc14 pm14 an14 cd14 ct14 sl14)(c14:zc K "stands" cd14)(a15:za K "is_offer" f15)(l15:zl K f15 "is_offer" (top 25) oc15 od15 kV15 dc15 pm15 an15 cd15 ct15 sl15)(c15:zc K "is_offer" cd15)(a16:za K "check_offers" f16)(l16:zl K f16 "check_offers" (top 26) oc16 od16 kV16 dc16 pm16 an16 cd16 ct16 sl16)(c16:zc K "check_offers" cd16)(a17:za K "with_offers" f17)(l17:zl K f17 "with_offers" (top 27) oc17 od17 kV17 dc17 pm17 an17 cd17 ct17 sl17)(c17:zc K "with_offers" cd17)(a18:za K "cost_of" f18)(l18:zl K f18 "cost_of" (top 28) oc18 od18 kV18 dc18 pm18 an18 cd18 ct18 sl18)(c18:zc K "cost_of" cd18)(a19:za K "cheapest_answer" f19)(l19:zl K f19 "cheapest_answer" (top 29) oc19 od19 kV19 dc19 pm19 an19 (.ref c) ct19 sl19)(c19:zc K "cheapest_answer" (.ref c))(a20:za K "tree_for" f20)(l20:zl K f20 "tree_for" (top 30) oc20 od20 kV20 dc20 pm20 an20 cd20 ct20 sl20)(c20:zc K "tree_for" cd20)(a21:za K "cheapest" f21)(l21:zl K f21 "cheapest" (top 31) oc21 od21 kV21 dc21 pm21 an21 cd21 ct21 sl21)(c21:zc K "cheapest" cd21)(a22:za K "has_form" f22)(l22:zl K f22 "has_form" (top 33) oc22 od22 kV22 dc22 pm22 an22 cd22 ct22 sl22)(c22:zc K "has_form" cd22)(a23:za K "is_row" f23)(l23:zl K f23 "is_row" (top 35) oc23 od23 kV23 dc23 pm23 an23 cd23 ct23 sl23)(c23:zc K "is_row" cd23)(a24:za K "are_rows" f24)(l24:zl K f24 "are_rows" (top 36) oc24 od24 kV24 dc24 pm24 an24 cd24 ct24 sl24)(c24:zc K "are_rows" cd24)(a25:za K "weight_on" f25)(l25:zl K f25 "weight_on" (top 37) oc25 od25 kV25 dc25 pm25 an25 cd25 ct25 sl25)(c25:zc K "weight_on" cd25)(a26:za K "weights_hold" f26)(l26:zl K f26 "weights_hold" (top 38) oc26 od26 kV26 dc26 pm26 an26 cd26 ct26 sl26)(c26:zc K "weights_hold" cd26)(a27:za K "bars" f27)(l27:zl K f27 "bars" (top 39) oc27 od27 kV27 dc27 pm27 an27 cd27 ct27 sl27)(c27:zc K "bars" cd27)(a28:za K "try_holds" f28)(l28:zl K f28 "try_holds" (top 40) oc28 od28 kV28 dc28 pm28 an28 cd28 ct28 sl28)(c28:zc K "try_holds" cd28)(a29:za K "holds" f29)(l29:zl K f29 "holds" (top 41) oc29 od29 kV29 dc29 pm29 an29 cd29 ct29 sl29)(c29:zc K "holds" cd29)(a30:za K "tree_holds" f30)(l30:zl K f30 "tree_holds" (top 42) oc30 od30 kV30 dc30 pm30 an30 cd30 ct30 sl30)(c30:zc K "tree_holds" cd30)(a31:za K "_law_pen" f31)(l31:zl K f31 "_law_pen" (top 44) oc31 od31 kV31 dc31 pm31 an31 cd31 ct31 sl31)(c31:zc K "_law_pen" cd31)(a32:za K "_law_draw" f32)(l32:zl K f32 "_law_draw" (top 45) oc32 od32 kV32 dc32 pm32 an32 cd32 ct32 sl32)(c32:zc K "_law_draw" cd32)(a33:za K "_law_plain" f33)(l33:zl K f33 "_law_plain" (top 46) oc33 od33 kV33 dc33 pm33 an33 cd33 ct33 sl33)(c33:zc K "_law_plain" cd33)(a34:za K "_law_turned" f34)(l34:zl K f34 "_law_turned" (top 47) oc34 od34 kV34 dc34 pm34 an34 cd34 ct34 sl34)(c34:zc K "_law_turned" cd34)(a35:za K "_law_web" f35)(l35:zl K f35 "_law_web" (top 48) oc35 od35 kV35 dc35 pm35 an35 cd35 ct35 sl35)(c35:zc K "_law_web" cd35)(a36:za K "_law_set" f36)(l36:zl K f36 "_law_set" (top 49) oc36 od36 kV36 dc36 pm36 an36 cd36 ct36 sl36)(c36:zc K "_law_set" cd36)(a37:za K "_law_whole" f37)(l37:zl K f37 "_law_whole" (top 50) oc37 od37 kV37 dc37 pm37 an37 cd37 ct37 sl37)(c37:zc K "_law_whole" cd37)(a38:za K "_law_is_set" f38)(l38:zl K f38 "_law_is_set" (top 51) oc38 od38 kV38 dc38 pm38 an38 cd38 ct38 sl38)(c38:zc K "_law_is_set" cd38)(a39:za K "_law_cost" f39)(l39:zl K f39 "_law_cost" (top 52) oc39 od39 kV39 dc39 pm39 an39 cd39 ct39 sl39)(c39:zc K "_law_cost" cd39)(a40:za K "_law_offers" f40)(l40:zl K f40 "_law_offers" (top 53) oc40 od40 kV40 dc40 pm40 an40 cd40 ct40 sl40)(c40:zc K "_law_offers" cd40)(a41:za K "_law_leaves" f41)(l41:zl K f41 "_law_leaves" (top 54) oc41 od41 kV41 dc41 pm41 an41 cd41 ct41 sl41)(c41:zc K "_law_leaves" cd41)(a42:za K "_law_lack" f42)(l42:zl K f42 "_law_lack" (top 55) oc42 od42 kV42 dc42 pm42 an42 cd42 ct42 sl42)(c42:zc K "_law_lack" cd42)(a43:za K "_law_weighs" f43)(l43:zl K f43 "_law_weighs" (top 56) oc43 od43 kV43 dc43 pm43 an43 cd43 ct43 sl43)(c43:zc K "_law_weighs" cd43)(a44:za K "_law_holds" f44)(l44:zl K f44 "_law_holds" (top 57) oc44 od44 kV44 dc44 pm44 an44 cd44 ct44 sl44)(c44:zc K "_law_holds" cd44)(a45:za K "_law_tree" f45)(l45:zl K f45 "_law_tree" (top 58) oc45 od45 kV45 dc45 pm45 an45 cd45 ct45 sl45)(c45:zc K "_law_tree" cd45)(a46:za K "_law_odd_rows" f46)(l46:zl K f46 "_law_odd_rows" (top 59) oc46 od46 kV46 dc46 pm46 an46 cd46 ct46 sl46)(c46:zc K "_law_odd_rows" cd46)(a47:za K "_law_bent" f47)(l47:zl K f47 "_law_bent" (top 60) oc47 od47 kV47 dc47 pm47 an47 cd47 ct47 sl47)(c47:zc K "_law_bent" cd47)(a48:za K "law" f48)(l48:zl K f48 "law" (top 61) oc48 od48 kV48 dc48 pm48 an48 cd48 ct48 sl48)(c48:zc K "law" cd48)(g_MOST_OFFERS:W.nsIn K mainGlobals "MOST_OFFERS"=some (some (.int 8 tk_MOST_OFFERS)))(z0:zn K "isinstance")(z1:zn K "int")(z2:zn K "bool")(z3:zn K "tuple")(z4:zn K "list")(z5:zn K "len")(z6:zn K "all")(z7:zn K "min")(z8:zn K "max")(z9:zn K "sorted")(z10:zn K "range")(z11:zn K "abs")(z12:zn K "zip")(z13:zn K "sum")(z14:zn K "str")(z15:zn K "any")(z16:zn K "repr"){occ:Value}{odc:Option Addr}{vsc:Array Value}{slc:Array (Option Value)}(lc:K.lookup c=some ⟨occ,odc,.fields vsc,slc⟩)(v11:vsc[11]?=some (.ref PT))(hP0:K.lookup PT=none)(hcI:W.codeHdIn K c PT=true)
  :
  ∃(K':Ô) (c PT:Addr) (fd:FuncData) (sp:Sp),K'.In h/\K'.lookup PT=none/\W.CodeHd h c PT/\h.get? PT=some (W.tabObj #[])/\(∀(s:Shared) (u:Value),BindsTo s fd ⟨[u],[]⟩ [("_law_script",u)]) /\
    (∀base:Heap,K'.In base->base.Ns mainGlobals mg->base.BuiltinsAt mg PT->Dl.yq base->FnOk l.prog w K' mg base CX0 28 fa fd ["_law_script"] sp)/\∀(H:Hp) (a:Addr) (ns:List Int),SqL K' H a (ns.map V.int)->H PT=some (.tbl #[])->sp [.ref a] H (λv _=>v=.bl true) λ_ _ _=>False:=by
 have e:=hfa.symm.trans (ñ X G a48)
 cases e
 have F0:=Ą (st:=top 5) l0 c0 (au l0)
 have b0:=F0.binds (ps:=["thing"])
 have m0:=ñ X G a0
 have F1:=Ą (st:=top 6) l1 c1 (au l1)
 have b1:=F1.binds (ps:=["limit","thing"])
 have m1:=ñ X G a1
 have F2:=Ą (st:=top 7) l2 c2 (au l2)
 have b2:=F2.binds (ps:=["n","thing"])
 have m2:=ñ X G a2
 have F3:=Ą (st:=top 8) l3 c3 (au l3)
 have b3:=F3.binds (ps:=["web","added"])
 have m3:=ñ X G a3
 have F4:=Ą (st:=top 10) l4 c4 (au l4)
 have b4:=F4.binds (ps:=["places"])
 have m4:=ñ X G a4
 have F5:=Ą (st:=top 12) l5 c5 (au l5)
 have b5:=F5.binds (ps:=["limit","thing"])
 have m5:=ñ X G a5
 have F6:=Ą (st:=top 13) l6 c6 (au l6)
 have b6:=F6.binds (ps:=["n","thing"])
 have m6:=ñ X G a6
 have F7:=Ą (st:=top 14) l7 c7 (au l7)
 have b7:=F7.binds (ps:=["web","thing"])
 have m7:=ñ X G a7
 have F8:=Ą (st:=top 15) l8 c8 (au l8)
 have b8:=F8.binds (ps:=["count"])
 have m8:=ñ X G a8
 have F9:=Ą (st:=top 16) l9 c9 (au l9)
 have b9:=F9.binds (ps:=["tie","some"])
 have m9:=ñ X G a9
 have F10:=Ą (st:=top 17) l10 c10 (au l10)
 have b10:=F10.binds (ps:=["web","some"])
 have m10:=ñ X G a10
 have F11:=Ą (st:=top 18) l11 c11 (au l11)
 have b11:=F11.binds (ps:=["web","some"])
 have m11:=ñ X G a11
 have F12:=Ą (st:=top 19) l12 c12 (au l12)
 have b12:=F12.binds (ps:=["web","falls","some"])
 have m12:=ñ X G a12
 have F13:=Ą (st:=top 21) l13 c13 (au l13)
 have b13:=F13.binds (ps:=["web","falls"])
 have m13:=ñ X G a13
 have F14:=Ą (st:=top 22) l14 c14 (au l14)
 have b14:=F14.binds (ps:=["web","falls"])
 have m14:=ñ X G a14
 have F15:=Ą (st:=top 25) l15 c15 (au l15)
 have b15:=F15.binds (ps:=["web","thing"])
 have m15:=ñ X G a15
 have F16:=Ą (st:=top 26) l16 c16 (au l16)
 have b16:=F16.binds (ps:=["web","thing"])
 have m16:=ñ X G a16
 have F17:=Ą (st:=top 27) l17 c17 (au l17)
 have b17:=F17.binds (ps:=["web","offers","numbers"])
 have m17:=ñ X G a17
 have F18:=Ą (st:=top 28) l18 c18 (au l18)
 have b18:=F18.binds (ps:=["offers","numbers"])
 have m18:=ñ X G a18
 have F19:=Ą (st:=top 29) l19 c19 (au l19)
 have b19:=F19.binds (ps:=["web","offers"])
 have m19:=ñ X G a19
 have F20:=Ą (st:=top 30) l20 c20 (au l20)
 have b20:=F20.binds (ps:=["made","offers","free","asked"]) λ_ _ _ _ _ _ us hl=>by obtain⟨_,_,_,_,rfl⟩:=Eh us hl;rfl
 have m20:=ñ X G a20
 have F21:=Ą (st:=top 31) l21 c21 (au l21)
 have b21:=F21.binds (ps:=["web","offers"])
 have m21:=ñ X G a21
 have F22:=Ą (st:=top 33) l22 c22 (au l22)
 have b22:=F22.binds (ps:=["thing","word","count"])
 have m22:=ñ X G a22
 have F23:=Ą (st:=top 35) l23 c23 (au l23)
 have b23:=F23.binds (ps:=["web","thing"])
 have m23:=ñ X G a23
 have F24:=Ą (st:=top 36) l24 c24 (au l24)
 have b24:=F24.binds (ps:=["web","thing"])
 have m24:=ñ X G a24
 have F25:=Ą (st:=top 37) l25 c25 (au l25)
 have b25:=F25.binds (ps:=["offer","rows"])
 have m25:=ñ X G a25
 have F26:=Ą (st:=top 38) l26 c26 (au l26)
 have b26:=F26.binds (ps:=["made","offers","free","asked","rows"]) λ_ _ _ _ _ _ us hl=>by obtain⟨_,_,_,_,_,rfl⟩:=QK us hl;rfl
 have m26:=ñ X G a26
 have F27:=Ą (st:=top 39) l27 c27 (au l27)
 have b27:=F27.binds (ps:=["made","offers","free","thing"]) λ_ _ _ _ _ _ us hl=>by obtain⟨_,_,_,_,rfl⟩:=Eh us hl;rfl
 have m27:=ñ X G a27
 have F28:=Ą (st:=top 40) l28 c28 (au l28)
 have b28:=F28.binds (ps:=["made","offers","free","asked","tree"]) λ_ _ _ _ _ _ us hl=>by obtain⟨_,_,_,_,_,rfl⟩:=QK us hl;rfl
 have m28:=ñ X G a28
 have F29:=Ą (st:=top 41) l29 c29 (au l29)
 have b29:=F29.binds (ps:=["made","offers","free","asked","tree"]) λ_ _ _ _ _ _ us hl=>by obtain⟨_,_,_,_,_,rfl⟩:=QK us hl;rfl
 have m29:=ñ X G a29
 have F30:=Ą (st:=top 42) l30 c30 (au l30)
 have b30:=F30.binds (ps:=["web","offers","number","tree"]) λ_ _ _ _ _ _ us hl=>by obtain⟨_,_,_,_,rfl⟩:=Eh us hl;rfl
 have m30:=ñ X G a30
 have F31:=Ą (st:=top 44) l31 c31 (au l31)
 have b31:=F31.binds (ps:=["_law_script","_law_k"])
 have m31:=ñ X G a31
 have F32:=Ą (st:=top 45) l32 c32 (au l32)
 have b32:=F32.binds (ps:=["_law_pen_here","_law_many"])
 have m32:=ñ X G a32
 have F33:=Ą (st:=top 46) l33 c33 (au l33)
 have b33:=F33.binds (ps:=["_law_pen_here","_law_n","_law_pick"])
 have m33:=ñ X G a33
 have F34:=Ą (st:=top 47) l34 c34 (au l34)
 have b34:=F34.binds (ps:=["_law_pen_here","_law_n"])
 have m34:=ñ X G a34
 have F35:=Ą (st:=top 48) l35 c35 (au l35)
 have b35:=F35.binds (ps:=["_law_pen_here","_law_most"])
 have m35:=ñ X G a35
 have F36:=Ą (st:=top 49) l36 c36 (au l36)
 have b36:=F36.binds (ps:=["_law_pen_here","_law_n"])
 have m36:=ñ X G a36
 have F37:=Ą (st:=top 50) l37 c37 (au l37)
 have b37:=F37.binds (ps:=["_law_thing"])
 have m37:=ñ X G a37
 have F38:=Ą (st:=top 51) l38 c38 (au l38)
 have b38:=F38.binds (ps:=["_law_n","_law_thing"])
 have m38:=ñ X G a38
 have F39:=Ą (st:=top 52) l39 c39 (au l39)
 have b39:=F39.binds (ps:=["_law_pen_here"])
 have m39:=ñ X G a39
 have F40:=Ą (st:=top 53) l40 c40 (au l40)
 have b40:=F40.binds (ps:=["_law_pen_here","_law_n","_law_most"])
 have m40:=ñ X G a40
 have F41:=Ą (st:=top 54) l41 c41 (au l41)
 have b41:=F41.binds (ps:=["_law_one","_law_some"])
 have m41:=ñ X G a41
 have F42:=Ą (st:=top 55) l42 c42 (au l42)
 have b42:=F42.binds (ps:=["_law_web_here","_law_offers_here","_law_numbers","_law_some"]) λ_ _ _ _ _ _ us hl=>by obtain⟨_,_,_,_,rfl⟩:=Eh us hl;rfl
 have m42:=ñ X G a42
 have F43:=Ą (st:=top 56) l43 c43 (au l43)
 have b43:=F43.binds (ps:=["_law_web_here","_law_offers_here","_law_number","_law_rows","_law_taken","_law_left"]) λ_ _ _ _ _ _ us hl=>by obtain⟨_,_,_,_,_,_,rfl⟩:=Tz us hl;rfl
 have m43:=ñ X G a43
 have F44:=Ą (st:=top 57) l44 c44 (au l44)
 have b44:=F44.binds (ps:=["_law_web_here","_law_offers_here","_law_number","_law_wood","_law_taken","_law_left"]) λ_ _ _ _ _ _ us hl=>by obtain⟨_,_,_,_,_,_,rfl⟩:=Tz us hl;rfl
 have m44:=ñ X G a44
 have F45:=Ą (st:=top 58) l45 c45 (au l45)
 have b45:=F45.binds (ps:=["_law_pen_here","_law_n","_law_free","_law_deep"]) λ_ _ _ _ _ _ us hl=>by obtain⟨_,_,_,_,rfl⟩:=Eh us hl;rfl
 have m45:=ñ X G a45
 have F46:=Ą (st:=top 59) l46 c46 (au l46)
 have b46:=F46.binds (ps:=["_law_pen_here","_law_n"])
 have m46:=ñ X G a46
 have F47:=Ą (st:=top 60) l47 c47 (au l47)
 have b47:=F47.binds (ps:=["_law_pen_here","_law_n","_law_many","_law_wood"]) λ_ _ _ _ _ _ us hl=>by obtain⟨_,_,_,_,rfl⟩:=Eh us hl;rfl
 have m47:=ñ X G a47
 have F48:=Ą (st:=top 61) l48 c48 (au l48)
 have B:Ė mg:=⟨Ę X G z0,Ę X G z1,Ę X G z2,Ę X G z3,Ę X G z4,Ę X G z5,Ę X G z6,Ę X G z7,Ę X G z8,Ę X G z9,Ę X G z10,Ę X G z11⟩
 have N12:=Ę X G z12
 have N13:=Ę X G z13
 have N14:=Ę X G z14
 have N15:=Ę X G z15
 have N16:=Ę X G z16
 have HC:∀h:Heap,K.In h->W.CodeHd h c PT:=λh X2=>W.codeHd_of_K X2 hcI
 refine⟨K,c,PT,W.fnOf "law" "law" (fJ (top 61)) (cJ (top 61)) (aj (top 61)) .none kV48 dc48 pm48 an48 cd48 ct48,FQ K (fX PT),X,hP0,W.codeHd_of_K X hcI,hT,λs v=>.of_eq rfl,λbase _ _ hBm SY=>?_,λH a ns hS hT=>⟨a,ns,rfl,hS,⟨_,hT,.inl rfl⟩,λ_=>rfl⟩⟩
 have C0:=λbase=>aG F0 b0 m0 (Hj (P:=l.prog) (w:=w) (base:=base) F0 B)
 have C1:=λbase=>aG F1 b1 m1 (Hq (P:=l.prog) (w:=w) (base:=base) F1 (C0 base))
 have C2:=λbase=>aG F2 b2 m2 (DN (P:=l.prog) (w:=w) (base:=base) F2 B (C1 base))
 have C3:=λbase=>aG F3 b3 m3 (u5 (P:=l.prog) (w:=w) (base:=base) F3 B)
 have C4:=λbase=>aG F4 b4 m4 (KY (P:=l.prog) (w:=w) (base:=base) F4 B N12)
 have C5:=λbase=>aG F5 b5 m5 (Dw (P:=l.prog) (w:=w) (base:=base) F5 B (C1 base) (C4 base))
 have C6:=λbase=>aG F6 b6 m6 (Dy (P:=l.prog) (w:=w) (base:=base) F6 B (C5 base))
 have C7:=λbase=>aG F7 b7 m7 (wY (P:=l.prog) (w:=w) (base:=base) F7 (C6 base))
 have C8:=λbase=>aG F8 b8 m8 (Td (P:=l.prog) (w:=w) (base:=base) F8 B)
 have C9:=λbase=>aG F9 b9 m9 (Dz (P:=l.prog) (w:=w) (base:=base) F9 )
 have C10:=λbase=>aG F10 b10 m10 (Qh (P:=l.prog) (w:=w) (base:=base) F10 (C7 base) (C9 base))
 have C11:=λbase=>aG F11 b11 m11 (KR (P:=l.prog) (w:=w) (base:=base) F11 B (C10 base))
 have C12:=λbase=>aG F12 b12 m12 (KQ (P:=l.prog) (w:=w) (base:=base) F12 B (C11 base))
 have C13:=λbase=>aG F13 b13 m13 (Ho (P:=l.prog) (w:=w) (base:=base) F13 (C8 base) (C12 base))
 have C14:=λbase=>aG F14 b14 m14 (Dv (P:=l.prog) (w:=w) (base:=base) F14 (C13 base))
 have C15:=λbase=>aG F15 b15 m15 (wW (P:=l.prog) (w:=w) (base:=base) F15 B (C0 base) (C2 base))
 have C16:=λbase=>aG F16 b16 m16 (oU (P:=l.prog) (w:=w) (base:=base) F16 B (ñ X G g_MOST_OFFERS) (C15 base))
 have C17:=λbase=>aG F17 b17 m17 (qD (P:=l.prog) (w:=w) (base:=base) F17 B (C3 base))
 have C18:=λbase=>aG F18 b18 m18 (zx (P:=l.prog) (w:=w) (base:=base) F18 B N13)
 have C19:=aG F19 b19 m19 (Te (P:=l.prog) (w:=w) (base:=base) l19 c19 HC hBm B C18 (C8 base) (C14 base) (C17 base))
 have C20:=λbase=>aG F20 b20 m20 (Qk (P:=l.prog) (w:=w) (base:=base) F20 B b20 m20 (C13 base) (C9 base) (C11 base) (C17 base))
 have C21:=aG F21 b21 m21 (Qt (P:=l.prog) (w:=w) (base:=base) F21 B (C16 base) C19 (C13 base) (C17 base) (C18 base) (C20 base))
 have C22:=λbase=>aG F22 b22 m22 (wX (P:=l.prog) (w:=w) (base:=base) F22 B N14)
 have C23:=λbase=>aG F23 b23 m23 (DP (P:=l.prog) (w:=w) (base:=base) F23 B (C0 base) (C6 base))
 have C24:=λbase=>aG F24 b24 m24 (w5 (P:=l.prog) (w:=w) (base:=base) F24 B (C23 base))
 have C25:=λbase=>aG F25 b25 m25 (u6 (P:=l.prog) (w:=w) (base:=base) F25 B N13 (C9 base))
 have C26:=λbase=>aG F26 b26 m26 (oO (P:=l.prog) (w:=w) (base:=base) F26 B N15 N13 (C24 base) (C25 base) (C12 base))
 have C27:=λbase=>aG F27 b27 m27 (K1 (P:=l.prog) (w:=w) (base:=base) F27 B (C11 base) (C17 base) (C6 base))
 have C28:=λbase=>aG F28 b28 m28 (KC (P:=l.prog) (w:=w) (base:=base) F28 )
 have C29:=λbase=>aG F29 b29 m29 (DX (P:=l.prog) (w:=w) (base:=base) F29 B b29 m29 F28 b28 m28 (C0 base) (C17 base) (C22 base) (C27 base) (C26 base))
 have C30:=λbase=>aG F30 b30 m30 (rH (P:=l.prog) (w:=w) (base:=base) F30 B (C16 base) (C29 base))
 have C31:=λbase=>aG F31 b31 m31 (Qm (P:=l.prog) (w:=w) (base:=base) F31 B)
 have C32:=λbase=>aG F32 b32 m32 (KZ (P:=l.prog) (w:=w) (base:=base) F32 B)
 have C33:=λbase=>aG F33 b33 m33 (vd (P:=l.prog) (w:=w) (base:=base) F33 B (C32 base))
 have C34:=λbase=>aG F34 b34 m34 (Hl (P:=l.prog) (w:=w) (base:=base) F34 B (C32 base))
 have C35:=λbase=>aG F35 b35 m35 (zq (P:=l.prog) (w:=w) (base:=base) F35 B (C32 base) (C33 base) (C34 base))
 have C36:=λbase=>aG F36 b36 m36 (zu (P:=l.prog) (w:=w) (base:=base) F36 B (C32 base))
 have C37:=λbase=>aG F37 b37 m37 (u9 (P:=l.prog) (w:=w) (base:=base) F37 B)
 have C38:=λbase=>aG F38 b38 m38 (rN (P:=l.prog) (w:=w) (base:=base) F38 B (C37 base))
 have C39:=λbase=>aG F39 b39 m39 (wU (P:=l.prog) (w:=w) (base:=base) F39 B (C32 base))
 have C40:=λbase=>aG F40 b40 m40 (rK (P:=l.prog) (w:=w) (base:=base) F40 B (C32 base) (C39 base))
 have C41:=λbase=>aG F41 b41 m41 (rM (P:=l.prog) (w:=w) (base:=base) F41 B)
 have C42:=λbase=>aG F42 b42 m42 (wR (P:=l.prog) (w:=w) (base:=base) F42 B (C41 base))
 have C43:=λbase=>aG F43 b43 m43 (rJ (P:=l.prog) (w:=w) (base:=base) F43 B N13 (C38 base) (C37 base) (C41 base) (C42 base))
 have C44:=λbase=>aG F44 b44 m44 (Qp (P:=l.prog) (w:=w) (base:=base) F44 B N14 b44 m44 (C37 base) (C38 base) (C42 base) (C43 base))
 have C45:=λbase=>aG F45 b45 m45 (KJ (P:=l.prog) (w:=w) (base:=base) F45 B b45 m45 (C32 base) (C36 base))
 have C46:=λbase=>aG F46 b46 m46 (oR (P:=l.prog) (w:=w) (base:=base) F46 B (C32 base))
 have C47:=λbase=>aG F47 b47 m47 (Qv (P:=l.prog) (w:=w) (base:=base) F47 B b47 m47 (C32 base) (C46 base) (C45 base))
 exact Qs F48 B N16 SY (C31 base) (C35 base) (C40 base) C21 (C45 base) (C32 base) (C47 base) (C30 base) (C44 base)
end Nf
namespace Nf
open PySem PySem.W PyProof.Rows
def tM:List Nat:=[1,2,3,5,6,7,8,10,12,13,14,15,16,17,18,19,21,22,24,25,26,27,28,29,30,31,33,35,36,37,38,39,40,41,42,44,45,46,47,48,49,50,51,52,53,54,55,56,57,58,59,60,61]
def xH(p:Program)(w:World)(os:OsState):=(Dr p 4398 w os).map (λs=>Ge p (view p tM) (λs=>xlAt (view p tM) [] s&&recOk [] s) w s.abs)
def goodW(p:Program):=some (true,openGood (view p tM) [])
def frF(fr:Frag)(k:Nat):=some ((fr.map λp=>some p.2).take k)
def frB(fr:Frag)(k:Nat):=some ((fr.map λp=>some p.2).drop k)
def qT(p:Program)(w:World)(os:OsState)(as:List Addr)(k:Nat):=(Dr p 4398 w os).map (λs=>(as.map s.abs.heap.get?).take k)
def xZ(p:Program)(w:World)(os:OsState)(as:List Addr)(k:Nat):=(Dr p 4398 w os).map (λs=>(as.map s.abs.heap.get?).drop k)
def zH:xH=xH:=rfl
def zV:goodW=goodW:=rfl
def xM:qT=qT:=rfl
def Aj:xZ=xZ:=rfl
end Nf
lay_quick Nf.xH Nf.goodW Nf.qT Nf.xZ
name_quick lookQ for Nf.xH by Nf.zH
name_quick goodQ for Nf.goodW by Nf.zV
name_quick frontQ for Nf.qT by Nf.xM
name_quick backQ for Nf.xZ by Nf.Aj
set_option maxHeartbeats 0 in
def Nf.La(w:PySem.World)(os:PySem.OsState):Nf.xH ó w os=Nf.goodW ó:=by
 rw[PySem.W.Fast.lookQ_eq,PySem.W.Fast.goodQ_eq]
 kernel_rfl
def Nf.well:PySem.Challenge.rw_nofall_k42_trees_bent.wellSaid=true:=by kernel_rfl
open PySem PySem.W PyProof.Rows
local macro_rules
 |`(tactic| k_qdec)=>`(tactic| fail)
local macro_rules
 |`(tactic| o_head (kmHook $k $a $e $t))=>`(tactic| o_head (kHook (λP=>List.append (List.map (λa=>(a,PySem.W.tabObj #[])) $t) ($k P)) (List.append $t $a) (λ_=>by kernel_rfl)))
local macro_rules
 |`(tactic| o_head (kHook $k $a $e))=>`(tactic| (
  refine holds_open (q:=view ó Nf.tM) (loose:=[]) (Xt:=λs=>xlAt (view ó Nf.tM) [] s&&recOk [] s) (XP:=XL (view ó Nf.tM) []) (Yf:=Hook.obs (kHook $k $a $e)) (Ya:=Hook.val (kHook $k $a $e)) (YP:=Hook.says (kHook $k $a $e)) (N:=4398) ?hl (Hook.of (kHook $k $a $e)) (Hook.keeps (kHook $k $a $e)) (λs e=>xl_of s (Bool.and_eq_true_iff.mp e).1) XL.keeps (by rfl) (by rfl) (by rfl) (λs e=>recFacts_of (Bool.and_eq_true_iff.mp e).2) (by rfl) (by first|assumption|decide +kernel) (by decide +kernel) ⟨rfl,rfl,rfl,rfl,rfl,by decide +kernel⟩ ?hw ?hc))
set_option maxRecDepth 100000 in
set_option maxHeartbeats 0 in
theorem PySem.Challenge.cw_nofall_k42_trees_bent_holds : PySem.Challenge.rw_nofall_k42_trees_bent.Holds := by
 w_on;refine PySem.W.holds_law Nf.well λsaid=>?_;k_head
 ·refine Nf.Lg 90 (boot_open (by kernel_rfl) rfl (λs=>by kernel_rfl)) Nf.La (λw os=>?_) (λw os=>?_)
  ·show Nf.qT ó w os _ 90=Nf.frF _ 90
   rw[PySem.W.Fast.frontQ_eq]
   kernel_rfl
  ·show Nf.xZ ó w os _ 90=Nf.frB _ 90
   rw[PySem.W.Fast.backQ_eq]
   kernel_rfl
 ·w_witness2
 k_fill
 refine L2.Fx (n:=63) (k:=28) (x:="_law_script") (l:=PySem.Challenge.rw_nofall_k42_trees_bent) (by rfl) rfl (by decide) rfl ⟨rfl,by decide,by decide,rfl⟩ (λw h Y=>PySem.W.kIn_of Y) ?F
 case F =>
  intro w mg fa h KX2 G hmg
  obtain⟨KX,hPT⟩:=L2.Oq KX2 (by kernel_rfl)
  refine' Nf.all_mk hPT KX G hmg ?a0 ?l0 ?c0 ?a1 ?l1 ?c1 ?a2 ?l2 ?c2 ?a3 ?l3 ?c3 ?a4 ?l4 ?c4 ?a5 ?l5 ?c5 ?a6 ?l6 ?c6 ?a7 ?l7 ?c7 ?a8 ?l8 ?c8 ?a9 ?l9 ?c9 ?a10 ?l10 ?c10 ?a11 ?l11 ?c11 ?a12 ?l12 ?c12 ?a13 ?l13 ?c13 ?a14 ?l14 ?c14 ?a15 ?l15 ?c15 ?a16 ?l16 ?c16 ?a17 ?l17 ?c17 ?a18 ?l18 ?c18 ?a19 ?l19 ?c19 ?a20 ?l20 ?c20 ?a21 ?l21 ?c21 ?a22 ?l22 ?c22 ?a23 ?l23 ?c23 ?a24 ?l24 ?c24 ?a25 ?l25 ?c25 ?a26 ?l26 ?c26 ?a27 ?l27 ?c27 ?a28 ?l28 ?c28 ?a29 ?l29 ?c29 ?a30 ?l30 ?c30 ?a31 ?l31 ?c31 ?a32 ?l32 ?c32 ?a33 ?l33 ?c33 ?a34 ?l34 ?c34 ?a35 ?l35 ?c35 ?a36 ?l36 ?c36 ?a37 ?l37 ?c37 ?a38 ?l38 ?c38 ?a39 ?l39 ?c39 ?a40 ?l40 ?c40 ?a41 ?l41 ?c41 ?a42 ?l42 ?c42 ?a43 ?l43 ?c43 ?a44 ?l44 ?c44 ?a45 ?l45 ?c45 ?a46 ?l46 ?c46 ?a47 ?l47 ?c47 ?a48 ?l48 ?c48 ?g_MOST_OFFERS ?z0 ?z1 ?z2 ?z3 ?z4 ?z5 ?z6 ?z7 ?z8 ?z9 ?z10 ?z11 ?z12 ?z13 ?z14 ?z15 ?z16 ?lc ?v11 ?hP0 ?hcI
  any_goals (show _=_;k_is)
  case v11=>exact rfl
  case hP0=>kernel_rfl
  case hcI=>kernel_rfl
  all_goals rfl
end
