import PyProof.Rows.All
import Wide.All
import OpenK.AllK
import Wide.FinOn
import Lean
import PyProof.EqAt
import PyProof.EqKinds
import PyProof.TupleCall
import PySem.Challenge.RW_nofall_k55_names_of_ties
set_option genSizeOf false
set_option genSizeOfSpec false
set_option Elab.async false
set_option linter.all false
set_option maxRecDepth 100000
open PySem renaming Program → Za,World → Zb,Params → Zd,DictEntry → Ze,OsState → Zh,treeTable → Zk,importedModules → Zl,wpAny_eqBool_int → Zm,sysModules → Zn,tupleKind → Zo,builtinsNs → Zp,bootBuiltins → Zq,Around → Zr,Scope → Zs,Expr → Zt,starEach → Zu,eval → Zv,backTo → Zw,foldedSetIterable → Zx,backToKw → Zy,keywordEach → Zz,Keyword → ZA,GenState → ZC,Model → ZD,isTrue → ZE,Stmt → ZF,wpAny_mono → ZG,wpAny_Name → ZH,wpAny_Constant_int → ZI,CmpOp → ZJ,compareOp → ZK,behindInMarks → ZL,wpAny_isTrue_Compare1 → ZM,wpAny_truthy_bool → ZN,truthy → ZO,wpAny_execs_nil → ZP,swapsWith → ZQ,assign → ZR,assignEach → ZU,wpAny_assign_Name → ZV,wpAny_holding → ZW,wpAny_standAt → ZX,PassesOwn → ZY,wpAny_passesOwn → ZZ,pyNext → Z0,letOwnedTupleGo → Z1,wpAny_pure → Z2,wpAny_load → Z3,rawInt → Z4,rangeSize_one → Z5,call → Z6,binaryOp → Z7,intBits_le_64 → Z8,lastMarks → Yl,sizeLine_eq → Ym,getMethod → Yn,codeAny → Yo,attributeBase → Yp,callWith → Yq,recursionLimit → Yr,cLine → Ys,FuncData → Yt,BindsTo → Yu,wpAny_call → Yv,codeAny_mono → Yw,bindL → Yx,bindC → Yy,Arguments → YA,noFill_tuple_add → YB,seq_tuple_add → YC,IsPart → YD,wpAny_field → YF,getItem → YG,wpAny_callSpecial?_slot → YH,wpAny_call_entry → YI,wpAny_newObj_type → YJ,evalPart_none → YK,evalPart_some → YL,subscripted → YO,sliceBounds → YR,slicePick → YS,wpAny_getItem_list_slice → YT,call_list_seq → YU,typeIs_int → YV,call_meets → YW,cellOf → YX,closureFor → YY,pushCells → YZ,newFunctionEnv → Y0,relabel → Y1,newList → Y2,wpAny_comprehension_free → Y3,wpAny_pyIter_list → Y4,wpAny_pyIter_tuple → Y5,wpAny_newTuple → Wl,wpAny_newList → Wp,collect → WB,wpAny_runValue → WE,codeAny_builtin → WF,checkCount → WP,PyData → VA,wpAny_loadPart' → VC,field → VE,wpAny_seqItems → VI,wpAny_setField → VM,wpAny_rule → VO,firstArgMember → VQ,wpAny_pyNext_enum_itemD → VS,wpAny_letOwnedTupleGo_enum → VT,wpAny_attempt → VU,wpAny_isInstance → VW,isSubtype_stop → VX,wpAny_pyIter_slot → VY,valueAt → VZ,atKey → Uf,tupleKind_room_in1 → UA,ReadsAll → UB,Reads → UC,Const → UI,SetTable → UK,wpAny_letGo → UU,ZipApart → UX,wpAny_pyIter_zip → UY,wpAny_setField_rec → UZ,wpAny_onRaise → U1,wpAny_updateSeq_pair → U2
open PySem.W renaming SharedT → Zc,boot_o_0 → Zf,boot_heap → Zg,boot_drawn → Zi,boot_toks → Zj,kas_rev → Y6,kas_count → Xs,kas_st → XO,kasC_bind → XT,kasC_get → XU,kasC_cons → XV,kasC_pure → XX
open PyProof.Rows renaming AllBare → ZB,lt_int → Z9,envOfC → Yz,slicePart_none → YE,Subscript_ → YM,subscriptTail → YN,subscriptTail_builtinR → YQ,bubble → Y7,getElem?_mirror_all → Y8,getElem?_bubble → Y9,tuples' → XA,SortKind → XB,SortSt → XE,arrOf → XG,failedOf → XI,sortRuns' → XN,pendingOf → XW,setPending → XY,seqObj → XZ,listItems_at → X0,listUpdate_at → X1,get?_update_seq → X9,seqEpoch_at → We,size_push' → WA,entry_proto_collect' → WG,entry_list_iadd' → WH,kind_sorted → WI,plain_sorted → WN,entry_sorted → WO,slot_list_sort → WS,entry_list_sort → WU,args_list_sort → WZ,sortedAll_old → W1,boot_isinstance → UD,boot_list → UE,boot_tuple → UF,boot_sorted → UH,wpS_pure → UM,mirror → UN,wpS_get → UO,wpS_mono → UP,wpS_forRange → UQ,wpS_modify → UR,wpS_lift → US,KskOut → UT,ksk_rest → UV,boot_int → Ta,boot_bool → Tb
noncomputable section
local macro_rules|`(↑$x)=>`(by simpa using $x)
local macro_rules|`($a∩$b∩$c)=>let i:=Lean.mkIdent;`($(i `FnOk) $(i `P) $(i `w) $(i `K) $(i `mg) $(i `fw) $(i `CX0) $a $(i `f) $(i `fd) $b $c)
local macro_rules|`($a∪$b∪$c∪$d)=>let i:=Lean.mkIdent;`($(i `Dl.Cal) $(i `P) $(i `w) $(i `K) $(i `mg) $(i `fw) $a $b $c $d)
local macro_rules|`(~~~$x)=>`((($x :Nat):Int))
local macro_rules|`(())=>`(by lia)
local macro_rules|`(∅)=>`(by decide)
local macro_rules|`(⋯)=>`(by decide +kernel)
local macro_rules|`(⇑$x)=>`(($x).length)
local macro_rules|`(↥$x)=>`(($x).heap.objs.size)
local macro_rules|`(tactic|let $p:term:=$e)=>do
 let rec go(n:Nat)(p:Lean.Syntax):Lean.MacroM (Lean.TSyntax `rcasesPat):=match n with
  |0=>Lean.Macro.throwUnsupported
  |n+1=>match p with
   |`(⟨$xs,*⟩)=>do
    let ys<-xs.getElems.mapM λx=>do let y<-go n x;`(Lean.Parser.Tactic.rcasesPatLo|$y:rcasesPat)
    `(rcasesPat|⟨$ys,*⟩)
   |`(_)=>`(rcasesPat|_)
   |`($x:ident)=>`(rcasesPat|$x:ident)
   |_=>Lean.Macro.throwUnsupported
 let q<-go 50 p
 `(tactic|obtain $q:rcasesPat:=$e)
abbrev ed:=List PySem.PyData->(PySem.PyData->Prop)->Prop
abbrev ee:=List (PySem.Addr×PySem.Obj)
abbrev ef:=List (List Int)
abbrev eg:=List Int
abbrev eh:=List (Int×Int)
abbrev ei:=List Nat
abbrev el:=Array PySem.Value
abbrev eo:=List PySem.Value
abbrev et:=Option PySem.Addr
abbrev ew:=Option PySem.Value
abbrev ez:=List PySem.PyData
def fy:=@decide_eq_true
abbrev ZS:=PySem.Str
abbrev aa:ZS:="_law_pen_here"
abbrev af:ZS:="self"
abbrev ag:ZS:="rows"
abbrev ah:ZS:="fresh"
abbrev ai:ZS:="web"
abbrev am:ZS:="_law_found"
abbrev ar:ZS:="thing"
abbrev av:ZS:="_law_n"
abbrev aw:ZS:="past"
abbrev ax:ZS:="_law_alike"
abbrev ay:ZS:="_law_many"
abbrev az:ZS:="_law_script"
abbrev aE:ZS:="_law_some"
abbrev aI:ZS:="check_tie_number"
abbrev aN:ZS:="check_two_places"
abbrev aS:ZS:="size"
abbrev aT:ZS:="_law_due"
abbrev ba:ZS:="number"
abbrev bb:ZS:="in_order"
abbrev bc:ZS:="_law_keeper"
abbrev be:ZS:="_law_k"
abbrev bg:ZS:="pieces"
abbrev bh:ZS:="sets"
abbrev bi:ZS:="_law_state"
abbrev bj:ZS:="is_tie_number"
abbrev bn:ZS:="place"
abbrev bo:ZS:="steps_of_web"
abbrev bp:ZS:="without_ties"
abbrev bq:ZS:="_law_pick"
abbrev br:ZS:="check_place"
abbrev bt:ZS:="sets_within"
abbrev bu:ZS:="_law_a"
abbrev bv:ZS:="_law_draw"
abbrev bz:ZS:="_law_order"
abbrev bE:ZS:="is_one_way"
abbrev bN:ZS:="_law_share"
abbrev bP:ZS:="_law_shape"
abbrev bS:ZS:="cut_ties"
abbrev bX:ZS:="makes_web"
abbrev ca:ZS:="_law_ring"
abbrev cb:ZS:="_law_half"
abbrev cc:ZS:="_law_done"
abbrev ce:ZS:="_law_pen"
abbrev cf:ZS:="is_whole"
abbrev ci:ZS:="is_below"
abbrev ck:ZS:="is_place"
abbrev cm:ZS:="homes_of"
abbrev cn:ZS:="ties"
abbrev cq:ZS:="set_with"
abbrev cr:ZS:="become"
abbrev cu:ZS:="_law_web"
abbrev cw:ZS:="enumerate"
abbrev cy:ZS:="Keeper.__init__"
abbrev cz:ZS:="part_of"
abbrev cE:ZS:="side_of"
abbrev cK:ZS:="Keeper.pieces"
abbrev da:ZS:="Keeper.become"
abbrev db:ZS:="search"
abbrev de:ZS:="is_tie"
abbrev df:ZS:="is_web"
abbrev di:ZS:="_law_b"
abbrev dl:ZS:="_law_rows"
abbrev dm:ZS:="numbers"
abbrev dn:ZS:="names"
abbrev dq:ZS:="tie"
abbrev dr:ZS:="row"
abbrev dt:ZS:="name"
abbrev du:ZS:="steps"
abbrev dy:ZS:="parts"
abbrev dA:ZS:="great"
def dC:=@decide_eq_false
def dE:=@of_decide_eq_true
def dL:=@decide_eq_true_eq
def dP:=@if_pos
def dQ:=@if_neg
def dS:=@absurd
def dV:=@congrArg
def d4:=@beq_self_eq_true
def d5:=@eq_of_beq
abbrev d6:=PySem.Value->PySem.Shared->Prop
open PySem PyProof.Rows
namespace Nf
open PySem.W
def qI(b:String->Option Builtin)(p:Za)(w:Zb)(m:Nat)(a:ew):Nat->Zc->Thread->Option Zc
 |0,_,_=>none
 |n+1,s,t=>match through t with
  |true=>some s
  |false=>match stepOk m a t with
   |false=>none
   |true=>match stepT (denote b) p w s t with
    |none=>none
    |some r=>qI b p w m a n r.1 r.2
theorem u9{c:String->Option Builtin}{p:Za}{w:Zb}{m:Nat}{a:ew}:∀{n:Nat}{s b:Zc}{t:Thread},qI c p w m a n s t=some b->topRun c p w m a n s.abs t=some b.abs
 |0,_,_,_,h=>by cases h
 |n+1,s,b,t,h=>by
  unfold qI at h;unfold topRun;cases he:through t with
  |true=>rw[he]at h;cases h;rfl
  |false =>
   rw[he]at h;cases hk:stepOk m a t with
   |false=>rw[hk]at h;cases h
   |true =>
    rw[hk]at h;cases hs:stepT (denote c) p w s t with
    |none=>rw[hs]at h;cases h
    |some r=>let⟨d,t2⟩:=r;rw[hs]at h;rw[stepT_spec hs];exact u9 h
def uh(P:Zd):List Ze:=match(Zf P).data with|.dict es _=>es.toList|_=>[]
def jj(P:Zd)(i:Nat):List Ze:=((uh P).drop i).take 16
def b0(P:Zd):List Ze:=by
 refine(?f:(l:List Ze)->l=jj P 0->List Ze) ?l ?h
 case f=>exact λl _=>l
 case h=>unfold jj uh Zf;dsimp only[List.drop,List.take];exact rfl
def b1(P:Zd):List Ze:=by
 refine(?f:(l:List Ze)->l=jj P 16->List Ze) ?l ?h
 case f=>exact λl _=>l
 case h=>unfold jj uh Zf;dsimp only[List.drop,List.take];exact rfl
def b2(P:Zd):List Ze:=by
 refine(?f:(l:List Ze)->l=jj P 32->List Ze) ?l ?h
 case f=>exact λl _=>l
 case h=>unfold jj uh Zf;dsimp only[List.drop,List.take];exact rfl
def b3(P:Zd):List Ze:=by
 refine(?f:(l:List Ze)->l=jj P 48->List Ze) ?l ?h
 case f=>exact λl _=>l
 case h=>unfold jj uh Zf;dsimp only[List.drop,List.take];exact rfl
def b4(P:Zd):List Ze:=by
 refine(?f:(l:List Ze)->l=jj P 64->List Ze) ?l ?h
 case f=>exact λl _=>l
 case h=>unfold jj uh Zf;dsimp only[List.drop,List.take];exact rfl
def b5(P:Zd):List Ze:=by
 refine(?f:(l:List Ze)->l=jj P 80->List Ze) ?l ?h
 case f=>exact λl _=>l
 case h=>unfold jj uh Zf;dsimp only[List.drop,List.take];exact rfl
def b6(P:Zd):List Ze:=by
 refine(?f:(l:List Ze)->l=jj P 96->List Ze) ?l ?h
 case f=>exact λl _=>l
 case h=>unfold jj uh Zf;dsimp only[List.drop,List.take];exact rfl
def b7(P:Zd):List Ze:=by
 refine(?f:(l:List Ze)->l=jj P 112->List Ze) ?l ?h
 case f=>exact λl _=>l
 case h=>unfold jj uh Zf;dsimp only[List.drop,List.take];exact rfl
def b8(P:Zd):List Ze:=by
 refine(?f:(l:List Ze)->l=jj P 128->List Ze) ?l ?h
 case f=>exact λl _=>l
 case h=>unfold jj uh Zf;dsimp only[List.drop,List.take];exact rfl
def b9(P:Zd):List Ze:=by
 refine(?f:(l:List Ze)->l=jj P 144->List Ze) ?l ?h
 case f=>exact λl _=>l
 case h=>unfold jj uh Zf;dsimp only[List.drop,List.take];exact rfl
def bo0(P:Zd):Obj:={ cls:=.type "dict",data:=.dict ⟨b0 P++(b1 P++(b2 P++(b3 P++(b4 P++(b5 P++(b6 P++(b7 P++(b8 P++(b9 P)))))))))⟩ 159 }
def U4:Zf=bo0:=by funext P;kernel_rfl
def M7(P:Zd):Heap:={ objs:=⟨[bo0 P,boot_o_1 P,boot_o_2 P,boot_o_3 P,boot_o_4 P,boot_o_5 P,boot_o_6 P,boot_o_7 P,boot_o_8 P,boot_o_9 P,boot_o_10 P]⟩}
def Ac:Zg=M7:=by
 funext P;show Heap.mk ⟨Zf P::_⟩ _=_;rw[U4];rfl
def Ab(P:Zd):BT:=((((((((((BT.nil.ins 0 (bo0 P)).ins 1 (boot_o_1 P)).ins 2 (boot_o_2 P)).ins 3 (boot_o_3 P)).ins 4 (boot_o_4 P)).ins 5 (boot_o_5 P)).ins 6 (boot_o_6 P)).ins 7 (boot_o_7 P)).ins 8 (boot_o_8 P)).ins 9 (boot_o_9 P)).ins 10 (boot_o_10 P)
def Q0:Life:={}
def HD(P:Zd):absHeap (Ab P) 11 Q0=Zg P:=by rw[Ac];kernel_rfl
def Aq(w:Zb)(a:Zh):Zc:=⟨Ab w.params,11,Q0,#[],Zi,Zj,a⟩
def Gi(w:Zb)(a:Zh):(Aq w a).abs=⟨Zg w.params,#[],Zi,Zj,a⟩:=by
 unfold Aq SharedT.abs;dsimp only;rw[HD]
def Di(P:Zd):=((Zg P).isNs mainGlobals,(Zg P).objs.size,(Zg P).nsMap mainGlobals "__annotations__")
def Ax:Di=Di:=rfl
end Nf
name_quick sizeQ for Nf.Di by Nf.Ax
namespace Nf
open PySem.W
def HF(w:Zb):((Zg w.params).isNs mainGlobals,(Zg w.params).objs.size,(Zg w.params).nsMap mainGlobals "__annotations__")=(true,11,some (.ref 6)):=by
 show Di w.params=_;rw[W.Fast.sizeQ_eq]
 kernel_rfl
def Gn(p:Za)(N:Nat)(w:Zb)(a:Zh):=qI Zk p w 11 (some (.ref 6)) N (Aq w a) (topStub p)
def Ja(p q:Za)(Xt:Shared->Bool)(w:Zb)(s:Shared) :=
 (staticsOk (Zl p.main.body) (M7 w.params) s.heap&&namesBound p s.heap&&gensDone s&&laidKept (M7 w.params) s.heap,openSeen q [] (Zl p.main.body) Xt true s)
def Pg{p q:Za}{Xt:Shared->Bool}{β:Type}{Yf:Shared->List β}{Ya:Zb->List β}{N:Nat}(k:Nat)(c:∀w:Zb,(fencedOpening Zk p w N).map (λs=>(s.heap,s.gens,s.drawn,s.toks))=some (Zg w.params,Array.mk [],Zi,Zj))(g:∀(w:Zb)(a:Zh),(Gn p N w a).map (λs=>Ja p q Xt w s.abs)=some (true,openGood q []))(b:∀(w:Zb)(a:Zh),(Gn p N w a).map (λs=>(Yf s.abs).take k)=some ((Ya w).take k))(f:∀(w:Zb)(a:Zh),(Gn p N w a).map (λs=>(Yf s.abs).drop k)=some ((Ya w).drop k)):LeftO p q [] Xt Yf Ya N:=λw=>by
 let⟨⟨h,m,d,j,a⟩,e,i⟩:=Option.map_eq_some_iff.mp (c w);obtain⟨rfl,rfl,rfl,rfl⟩:h=Zg w.params/\m=#[]/\d=Zi/\j=Zj:=↑i
 obtain⟨y,z,A⟩:_/\_/\_:=by simpa only[Prod.mk.injEq]using HF w
 let⟨s,hs,l⟩:=Option.map_eq_some_iff.mp (g w a);have v:(Yf s.abs).take k=(Ya w).take k:=by
  have:=b w a;rw[hs]at this;exact Option.some.inj this
 have x:(Yf s.abs).drop k=(Ya w).drop k:=by
  have:=f w a;rw[hs]at this;exact Option.some.inj this
 have u:Yf s.abs=Ya w:=by rw[←List.take_append_drop k (Yf s.abs),v,x,List.take_append_drop]
 unfold Ja at l;rw[←Ac]at l;let⟨n,o⟩:=Prod.mk.inj l;have r:=u9 hs;rw[Gi]at r;have t:topFrom Zk p w N ⟨Zg w.params,#[],Zi,Zj,a⟩=some s.abs:=by
  unfold topFrom;dsimp only;rw[y,z,A,r];show(match staticsOk (Zl p.main.body) (Zg w.params) s.abs.heap&&namesBound p s.abs.heap&&gensDone s.abs&&laidKept (Zg w.params) s.abs.heap with|true=>_|false=>_)=_;rw[n]
 unfold openEnds;rw[e];show(topFrom Zk p w N _).map _=_;rw[t];exact dV some (Prod.ext o u)
def vG:ei:=[0,2,3,4,5,6,7,9,10,11,12,13,14,15,16,17,18,19,20,21,23,24,25,26,28,29,30,32,33,34,36,37,38,39,41,42,43,44,45,46,47,48,49]
def yU(p:Za)(w:Zb)(a:Zh):=(Gn p 5812 w a).map (λs=>Ja p (view p vG) (λs=>xlAt (view p vG) [] s&&recOk [] s) w s.abs)
def goodW(p:Za):=some (true,openGood (view p vG) [])
def frF(a:Frag)(k:Nat):=some ((a.map λp=>some p.2).take k)
def frB(a:Frag)(k:Nat):=some ((a.map λp=>some p.2).drop k)
def tX(p:Za)(w:Zb)(b:Zh)(a:List Addr)(k:Nat):=(Gn p 5812 w b).map (λs=>(a.map s.abs.heap.get?).take k)
def Ad(p:Za)(w:Zb)(b:Zh)(a:List Addr)(k:Nat):=(Gn p 5812 w b).map (λs=>(a.map s.abs.heap.get?).drop k)
def Bt:yU=yU:=rfl
def BK:goodW=goodW:=rfl
def zE:tX=tX:=rfl
def Cz:Ad=Ad:=rfl
end Nf
lay_quick Nf.yU Nf.goodW Nf.tX Nf.Ad
name_quick lookQ for Nf.yU by Nf.Bt
name_quick goodQ for Nf.goodW by Nf.BK
name_quick frontQ for Nf.tX by Nf.zE
name_quick backQ for Nf.Ad by Nf.Cz
set_option maxHeartbeats 0 in
def Nf.O7(w:PySem.World)(a:PySem.OsState):Nf.yU PySem.Challenge.pw_nofall_k55_names_of_ties w a=Nf.goodW PySem.Challenge.pw_nofall_k55_names_of_ties:=by
 rw[PySem.W.Fast.lookQ_eq,PySem.W.Fast.goodQ_eq]
 kernel_rfl
def Nf.well:PySem.Challenge.rw_nofall_k55_names_of_ties.wellSaid=true:=by kernel_rfl
namespace L2
open PySem.Spec
def zK{n:Nat}(h:Nat.ble n 1000=true:=by rfl):n<=1000:=Nat.le_of_ble_eq_true h
abbrev Key:=Sum Int Str
def tQ:Key->Value->Bool
 |.inl k,v=>Value.isInt k v
 |.inr x,v=>Value.isStrOf x v
def XQ(w:Zb):Key->Int
 |.inl k=>hashInt k
 |.inr x=>hashStr w x
theorem bY:∀{k:Key}{v:Value},tQ k v=true->(∃i t,k=Sum.inl i/\v=Value.int i t)\/(∃x t,k=Sum.inr x/\v=Value.str x t)
 |.inl i,v,h=>by
  let⟨t,e⟩:=Value.isInt_shape (k:=i) (v:=v) h;exact .inl ⟨i,t,rfl,e⟩
 |.inr x,v,h=>by
  let⟨t,e⟩:=Value.isStrOf_shape (x:=x) (v:=v) h;exact .inr ⟨x,t,rfl,e⟩
def Hf(i:Int)(t:Tok):tQ (.inl i) (.int i t)=true:=by simp[tQ,Value.isInt]
def G9(x:Str)(t:Tok):tQ (.inr x) (.str x t)=true:=by simp[tQ,Value.isStrOf]
def T6(a b:Int):decide ((Sum.inl a:Key)=Sum.inl b)=(a==b):=by
 by_cases e:a=b
 ·subst e;simp
 ·have h:¬(Sum.inl a:Key)=Sum.inl b:=λq=>e (Sum.inl.inj q);rw[dC h];exact(beq_eq_false_iff_ne.mpr e).symm
def TY(a b:Str):decide ((Sum.inr a:Key)=Sum.inr b)=decide (a=b):=by
 by_cases e:a=b
 ·subst e;simp
 ·have h:¬(Sum.inr a:Key)=Sum.inr b:=λq=>e (Sum.inr.inj q);rw[dC h,dC e]
def T5(a:Int)(b:Str):decide ((Sum.inl a:Key)=Sum.inr b)=false:=dC (λq=>nomatch q)
def T4(a:Str)(b:Int):decide ((Sum.inr a:Key)=Sum.inl b)=false:=dC (λq=>nomatch q)
def cj(prog:Za)(w:Zb):PySem.KeyKind prog w Key where
 is:=tQ
 hash:=XQ w
 inj:=λv a b ha hb=>by
  rcases bY ha with⟨i,t,rfl,rfl⟩|⟨x,t,rfl,rfl⟩
  ·rcases bY hb with⟨j,u,rfl,e⟩|⟨y,u,rfl,e⟩
   ·injection e with e1 _;rw[e1]
   ·exact nomatch e
  ·rcases bY hb with⟨j,u,rfl,e⟩|⟨y,u,rfl,e⟩
   ·exact nomatch e
   ·injection e with e1 _;rw[e1]
 byValue:=λk v h=>by
  rcases bY h with⟨i,t,rfl,rfl⟩|⟨x,t,rfl,rfl⟩ <;> rfl
 pyHash:=λhv h=>by
  rcases bY hv with⟨i,t,rfl,rfl⟩|⟨x,t,rfl,rfl⟩
  ·exact wpAny_pyHash_int h
  ·exact wpAny_pyHash_str h
 eqBool:=λhu hv h=>by
  rcases bY hu with⟨i,t,rfl,rfl⟩|⟨x,t,rfl,rfl⟩
  ·rcases bY hv with⟨j,u,rfl,rfl⟩|⟨y,u,rfl,rfl⟩
   ·rw[T6]at h;exact Zm h
   ·rw[T5]at h;exact SeqAt.EqAt.int_str i t y u _ _ _ _ h
  ·rcases bY hv with⟨j,u,rfl,rfl⟩|⟨y,u,rfl,rfl⟩
   ·rw[T4]at h;exact SeqAt.EqAt.str_int x t j u _ _ _ _ h
   ·rw[TY]at h;exact wpAny_eqBool_str h
 «strs»:=λk x t v h=>by
  rcases bY h with⟨i,u,rfl,e⟩|⟨y,u,rfl,e⟩
  ·exact nomatch e
  ·injection e with e1 _;subst e1;cases v <;> rfl
def yQ(prog:Za)(w:Zb)(i:Int)(t:Tok):(cj prog w).is (.inl i) (.int i t)=true:=Hf i t
def yP(prog:Za)(w:Zb)(x:Str)(t:Tok):(cj prog w).is (.inr x) (.str x t)=true:=G9 x t
inductive V where
 |non|bl (b:Bool)|int (i:Int)|str (x:Str)|byt (b:Array UInt8)|flt (b:UInt64)|ref (a:Addr)|ty (n:String)
 deriving DecidableEq
def RelV:V->Value->Prop
 |.non,u=>u=Value.none
 |.bl b,u=>u=Value.bool b
 |.int i,u=>∃t,u=Value.int i t
 |.str x,u=>∃t,u=Value.str x t
 |.byt b,u=>∃t,u=Value.bytes b t
 |.flt b,u=>∃t,u=Value.float b t
 |.ref a,u=>u=Value.ref a
 |.ty n,u=>u=Value.type n
abbrev Vals:List V->eo->Prop:=Paired RelV
def Vals.length{xs:List V}{us:eo}(r:Vals xs us):⇑xs=⇑us:=Paired.length r
theorem Vals.get:∀{xs:List V}{us:eo}{i:Nat}{x:V},Vals xs us->xs[i]?=some x->∃u,us[i]?=some u/\RelV x u
 |_,_,_,_,.nil,e=>by simp at e
 |_,_,0,_,.cons r _,e=>by simp at e;subst e;exact⟨_,rfl,r⟩
 |_,_,i+1,x,.cons _ t,e=>by
  let⟨u,h1,h2⟩:=Vals.get (i:=i) (x:=x) t ↑e;exact⟨u,↑h1,h2⟩
theorem Vals.append:∀{xs ys:List V}{us a:eo},Vals xs us->Vals ys a->Vals (xs++ys) (us++a)
 |_,_,_,_,.nil,s=>s
 |_,_,_,_,.cons r t,s=>.cons r (Vals.append t s)
theorem Vals.take:∀{xs:List V}{us:eo} (n:Nat),Vals xs us->Vals (xs.take n) (us.take n)
 |_,_,0,_=>.nil
 |_,_,_+1,.nil=>.nil
 |_,_,n+1,.cons r t=>.cons r (Vals.take n t)
theorem Vals.drop:∀{xs:List V}{us:eo} (n:Nat),Vals xs us->Vals (xs.drop n) (us.drop n)
 |_,_,0,r=>r
 |_,_,_+1,.nil=>.nil
 |_,_,n+1,.cons _ t=>Vals.drop n t
def Vals.none_of:∀{xs:List V}{us:eo}{i:Nat},Vals xs us->xs[i]?=none->us[i]?=none:=λ{xs us i} r e=>by
 have h1:=⇑r;have h2:⇑xs<=i:=List.getElem?_eq_none_iff.mp e;exact List.getElem?_eq_none_iff.mpr ()
def mH:Option V->ew->Prop
 |some v,some u=>RelV v u
 |none,none=>True
 |_,_=>False
def KV{κ:Type}:List (κ×V)->List (κ×Value)->Prop:=Paired λ(p:κ×V) (q:κ×Value)=>p.1=q.1/\RelV p.2 q.2
def kV:Key->V
 |.inl i=>.int i
 |.inr x=>.str x
inductive HO where
 |lst (xs:List V)
 |tup (xs:List V)
 |dK (kvs:List (Key×V))|dT (kvs:List (List Key×V))
 |set (S:Int->Bool) (n:Nat)
 |ins (C dx:Addr) (fs:List (Str×V))
 |own (x:Addr)
 |xd (fs:List (Str×V))
 |met (f x:Addr)
 |rng (lo hi:Int)
 |frz (o:Obj) (u:HO)
 |tbl (ps:el)
 |ext (φ:Heap->Prop)
abbrev Hp:=Addr->Option HO
def upd(H:Hp)(a:Addr)(o:HO):Hp:=λb=>if b=a then some o else H b
def aB{H:Hp}{a:Addr}{o:HO}:upd H a o a=some o:=by unfold upd;rw[dP rfl]
def ao{H:Hp}{a b:Addr}{o:HO}(h:b≠a):upd H a o b=H b:=by unfold upd;rw[dQ h]
def Wc{H:Hp}{a b:Addr}{o u:HO}(h:H a=some o)(h':H b=some u)(d:o≠u):a≠b:=by
 intro e;subst e;rw[h]at h';exact d (Option.some.inj h')
def au{H:Hp}{a b:Addr}{o:HO}(h:H a=some o)(h':H b=none):a≠b:=by
 intro e;subst e;rw[h]at h';cases h'
section
variable(P:Za) (w:Zb)
def bQ(H:Hp)(h:Heap)(a:Addr):HO->Prop
 |.lst xs=>⇑xs<=sizeLine/\∃(its:eo)(n:Nat),Vals xs its/\h.get? a=some { cls:=.type "list",data:=.seq its.toArray n }
 |.tup xs=>⇑xs<=sizeLine/\∃its:eo,Vals xs its/\IsTup h a its.toArray
 |.dK b=>⇑b<=sizeLine/\(a==Zn)=false/\∃vs,KV b vs/\h.DictOf (cj P w) a vs
 |.dT b=>⇑b<=sizeLine/\(a==Zn)=false/\∃xs:List (List Key×Addr×Value),
   Paired (λ(p:List Key×V) (q:List Key×Addr×Value)=>p.1=q.1/\H q.2.1=some (.tup (p.1.map kV))/\RelV p.2 q.2.2) b xs /\
   ∃o es ep,h.get? a=some o/\o.ExactDict/\o.data=.dict es ep/\es.toList=xs.map (entryOfKey (Zo (cj P w)))/\(xs.map (·.1)).Nodup
 |.set S n=>h.SetOf (intKind P w) a S n
 |.ins C c fs=>H c=some (.own a)/\⇑fs<=1000/\c≠a/\h.get? a=some (W.instObj C c) /\
   ∃mA,h.Ns1 c mA/\(∀f,mH (fs.lookup f) (mA f))/\PySem.Within mA (fs.map (·.1))
 |.own _=>∃o,h.get? a=some o
 |.xd fs=>∃mA,h.Ns1 a mA/\∀f,mH (fs.lookup f) (mA f)
 |.rng lo hi=>∃t u v,h.get? a=some { cls:=.type "range",data:=.fields #[.int lo t,.int hi u,.int 1 v]}
 |.frz o u=>h.get? a=some o/\bQ H h a u
 |.tbl ps=>h.get? a=some { cls:=.none,data:=.fields ps }
 |.met f x=>h.get? a=some (W.methodObj (.ref f) (.ref x))
 |.ext φ=>φ h/\(∃o,h.get? a=some o)/\∀h1 h2:Heap,φ h1->(∀o,h1.get? a=some o->h2.get? a=some o)->φ h2
def HOk(H:Hp)(h:Heap):Prop:=∀a o,H a=some o->bQ P w H h a o
end
section
variable{P:Za}{w:Zb}{H H':Hp}{h h':Heap}{a:Addr}{o:HO}
def bQ.lt(x:bQ P w H h a o):a<h.objs.size:=by
 cases o with
 |lst xs=>let⟨_,_,_,_,e⟩:=x;exact Heap.lt_size e
 |tup xs=>let⟨_,_,_,p⟩:=x;exact p.lt
 |dK b=>let⟨_,_,_,_,o,_,_,e,_⟩:=x;exact Heap.lt_size e
 |dT b=>let⟨_,_,_,_,o,_,_,e,_⟩:=x;exact Heap.lt_size e
 |set S n=>let⟨o,_,_,_,e,_⟩:=x;exact Heap.lt_size e
 |ins C c fs=>let⟨_,_,_,e,_⟩:=x;exact Heap.lt_size e
 |own y=>let⟨_,e⟩:=x;exact Heap.lt_size e
 |xd fs=>let⟨_,⟨_,_,_,e,_⟩,_⟩:=x;exact Heap.lt_size e
 |rng lo hi=>let⟨_,_,_,e⟩:=x;exact Heap.lt_size e
 |frz d u=>let⟨e,_⟩:=x;exact Heap.lt_size e
 |tbl ps=>exact Heap.lt_size (show h.get? a=some _ from x)
 |met f y=>exact Heap.lt_size (show h.get? a=some _ from x)
 |ext φ=>let⟨_,⟨_,e⟩,_⟩:=x;exact Heap.lt_size e
theorem Paired.Bq{α β:Type}{F G:α->β->Prop}:∀{c:List α}{d:List β},Paired F c d->(∀a b,F a b->G a b)->Paired G c d
 |_,_,.nil,_=>.nil
 |_,_,.cons r t,f=>.cons (f _ _ r) (Paired.Bq t f)
def bQ.stay(x:bQ P w H h a o)(k:∀b u,(b=a\/H b=some (.own a))->h.get? b=some u->h'.get? b=some u)(s:∀b,H b=some (.own a)->H' b=some (.own a))(ht:∀b xs,H b=some (.tup xs)->H' b=some (.tup xs)):bQ P w H' h' a o:=by
 induction o with
 |lst xs=>let⟨z,its,n,r,e⟩:=x;exact⟨z,its,n,r,k _ _ (.inl rfl) e⟩
 |tup xs=>let⟨z,its,r,g,e,c⟩:=x;exact⟨z,its,r,g,k _ _ (.inl rfl) e,c⟩
 |dK i=>let⟨z,y,vs,r,g,es,ep,e,c⟩:=x;exact⟨z,y,vs,r,g,es,ep,k _ _ (.inl rfl) e,c⟩
 |dT i =>
  let⟨z,y,xs,r,g,es,ep,e,c⟩:=x;exact⟨z,y,xs,Paired.Bq r λp q z=>⟨z.1,ht _ _ z.2.1,z.2.2⟩,g,es,ep,k _ _ (.inl rfl) e,c⟩
 |set S n=>let⟨g,es,ep,t,e,c⟩:=x;exact⟨g,es,ep,t,k _ _ (.inl rfl) e,c⟩
 |ins C dx fs =>
  let⟨d,z,B,e,j,⟨l,es,ep,m,c⟩,r⟩:=x;exact⟨s _ d,z,B,k _ _ (.inl rfl) e,j,⟨l,es,ep,k _ _ (.inr d) m,c⟩,r⟩
 |own y=>let⟨g,e⟩:=x;exact⟨g,k _ _ (.inl rfl) e⟩
 |xd fs=>let⟨j,⟨l,es,ep,e,c⟩,r⟩:=x;exact⟨j,⟨l,es,ep,k _ _ (.inl rfl) e,c⟩,r⟩
 |rng lo hi=>let⟨t,u,v,e⟩:=x;exact⟨t,u,v,k _ _ (.inl rfl) e⟩
 |frz g u A=>let⟨e,q⟩:=x;exact⟨k _ _ (.inl rfl) e,A q⟩
 |tbl ps =>
  have e:h.get? a=some { cls:=.none,data:=.fields ps }:=x;show h'.get? a=some { cls:=.none,data:=.fields ps };exact k a _ (.inl rfl) e
 |met f y =>
  have e:h.get? a=some (W.methodObj (.ref f) (.ref y)):=x;show h'.get? a=some (W.methodObj (.ref f) (.ref y));exact k a _ (.inl rfl) e
 |ext φ=>let⟨p,⟨o,e⟩,st⟩:=x;exact⟨st _ _ p λo q=>k _ _ (.inl rfl) q,⟨o,k _ _ (.inl rfl) e⟩,st⟩
def HOk.lt(x:HOk P w H h)(e:H a=some o):a<h.objs.size:=(x a o e).lt
def HOk.fresh(x:HOk P w H h)(e:h.objs.size<=a):H a=none:=by
 cases q:H a with
 |none=>rfl
 |some u=>exact dS (Nat.lt_of_lt_of_le (x.lt q) e) (Nat.lt_irrefl _)
def HOk.kept(x:HOk P w H h)(k:∀b u,h.get? b=some u->h'.get? b=some u):HOk P w H h':=λa o e =>
 (x a o e).stay (λb u _ q=>k b u q) (λ_ q=>q) λ_ _ q=>q
def HOk.laid(x:HOk P w H h)(k:∀b u,h.get? b=some u->h'.get? b=some u)(hp:h.objs.size<=a)(new:bQ P w (upd H a o) h' a o):HOk P w (upd H a o) h':=λb u e=>by
 have hn:=x.fresh hp;by_cases hb:b=a
 ·subst hb;rw[aB]at e;cases e;exact new
 ·rw[ao hb]at e;exact(x b u e).stay (λc v _ q=>k c v q) (λc q=>by rw[ao (au q hn)];exact q) λc xs q=>by rw[ao (au q hn)];exact q
end
def Rd(H:Hp)(a:Addr)(u:HO):Prop:=H a=some u\/∃o,H a=some (.frz o u)
def Rd.ok{P:Za}{w:Zb}{H:Hp}{h:Heap}{a:Addr}{u:HO}(r:Rd H a u)(x:HOk P w H h):bQ P w H h a u:=by
 rcases r with r|⟨o,r⟩
 ·exact x a u r
 ·let⟨_,q⟩:=x a _ r;exact q
def Mut:Option HO->Prop
 |some (.lst _)=>True
 |some (.dK _)=>True
 |some (.dT _)=>True
 |some (.set _ _)=>True
 |some (.ins _ _ _)=>True
 |some (.ext _)=>True
 |_=>False
section
variable{P:Za}{w:Zb}{H:Hp}{h h':Heap}{x e:Addr}{o':HO}
def HOk.write(ok:HOk P w H h)(g:Mut (H x))(he:e=x\/H e=some (.own x))(k:∀b u,b≠e->h.get? b=some u->h'.get? b=some u)(i:∃u,h'.get? e=some u)(new:bQ P w (upd H x o') h' x o'):HOk P w (upd H x o') h':=λb u q=>by
 have d:∀c y,H c=some (.own y)->c≠x:=λc y r z=>by subst z;rw[r]at g;exact g
 have f:∀c xs,H c=some (.tup xs)->c≠x:=λc xs r z=>by subst z;rw[r]at g;exact g
 by_cases hb:b=x
 ·subst hb;rw[aB]at q;cases q;exact new
 ·rw[ao hb]at q;by_cases a:b=e
  ·have j:H b=some (.own x):=by
    rcases he with z|z
    ·exact dS (a.trans z) hb
    ·rw[a];exact z
   rw[q]at j;cases j;let⟨v,hv⟩:=i;exact⟨v,by rw[a];exact hv⟩
  ·refine(ok b u q).stay (λc v hc r=>k c v ?_ r) (λc r=>by rw[ao (d c b r)];exact r) λc xs r=>by rw[ao (f c xs r)];exact r
   rcases hc with rfl|hc
   ·exact a
   ·rintro rfl;rcases he with z|z
    ·exact d c b hc z
    ·rw[hc]at z;cases z;exact hb rfl
end
structure Un(fs ex:List Addr)(H H':Hp)(h h':Heap):Prop where
 keep:∀b o,h.get? b=some o->H b=none->b∉fs->b∉ex->h'.get? b=some o
 slot:∀b o,h.get? b=some o->H b=none->b∈fs->b∉ex->∃sl,h'.get? b=some { o with slots:=sl }
 free:∀b o,h.get? b=some o->H b=none->b∉ex->H' b=none
 there:∀b o,h.get? b=some o->b∉ex->∃o',h'.get? b=some o'
 tups:∀b xs,H b=some (.tup xs)->H' b=some (.tup xs)
 frzs:∀b o u,H b=some (.frz o u)->H' b=some (.frz o u)
 tbls:∀b ps,H b=some (.tbl ps)->∃more,H' b=some (.tbl (ps++more))
section
variable{fs fs' ex ex':List Addr}{H H1 H2:Hp}{h h1 h2 h':Heap}{a x e:Addr}{o:HO}
def Un.any(u:Un fs ex H H1 h h1){b:Addr}{c:Obj}(q:h.get? b=some c)(n:H b=none)(d:b∉ex):∃sl,h1.get? b=some { c with slots:=sl }:=by
 by_cases hb:b∈fs
 ·exact u.slot b c q n hb d
 ·exact⟨c.slots,u.keep b c q n hb d⟩
def Un.kept(k:∀b u,h.get? b=some u->h'.get? b=some u):Un fs ex H H h h' :=
 ⟨λb ob q _ _ _=>k b ob q,λb ob q _ _ _=>⟨ob.slots,k b ob q⟩,λ_ _ _ n _=>n,λb ob q _=>⟨ob,k b ob q⟩,λ_ _ q=>q,λ_ _ _ q=>q,λ_ ps q=>⟨#[],by rw[q];simp⟩⟩
def Un.refl:Un fs ex H H h h:=Un.kept λ_ _ q=>q
def Un.laid(k:∀b u,h.get? b=some u->h'.get? b=some u)(hp:h.objs.size<=a)(hn:H a=none):Un fs ex H (upd H a o) h h' where
 keep:=λb u q _ _ _=>k b u q
 slot:=λb u q _ _ _=>⟨u.slots,k b u q⟩
 free:=λb u q n _=>by rw[ao (Nat.ne_of_lt (Nat.lt_of_lt_of_le (Heap.lt_size q) hp))];exact n
 there:=λb u q _=>⟨u,k b u q⟩
 tups:=λb xs q=>by rw[ao (au q hn)];exact q
 frzs:=λb u xs q=>by rw[ao (au q hn)];exact q
 tbls:=λb ps q=>⟨#[],by rw[ao (au q hn),q];simp⟩
def Un.write(d:Mut (H x))(he:e=x\/H e=some (.own x))(k:∀b u,b≠e->h.get? b=some u->h'.get? b=some u)(f:∃u,h'.get? e=some u):Un fs ex H (upd H x o) h h':=by
 have g:∀b,H b=none->b≠x:=λb n z=>by subst z;rw[n]at d;exact d
 have hb:∀b,H b=none->b≠e:=λb n z=>by
  subst z;rcases he with r|r
  ·exact g b n r
  ·rw[n]at r;cases r
 have hm:∀b u,H b=some u->¬Mut (some u)->b≠x:=λb u q nm z=>by subst z;rw[q]at d;exact nm d
 refine⟨λb u q n _ _=>k b u (hb b n) q,λb u q n _ _=>⟨u.slots,k b u (hb b n) q⟩,λb u q n _=>by rw[ao (g b n)];exact n,λb u q _=>?_,
  λb xs q=>by rw[ao (hm b _ q λz=>z)];exact q,λb u xs q=>by rw[ao (hm b _ q λz=>z)];exact q,λb ps q=>⟨#[],by rw[ao (hm b _ q λz=>z),q];simp⟩⟩
 by_cases c:b=e
 ·subst c;exact f
 ·exact⟨u,k b u c q⟩
end
def trk(h:Heap)(H:Hp):List Addr:=(List.range h.objs.size).filter λa=>(H a).isSome
def wR(h:Heap)(H:Hp):Heap:=W.hideAll h (trk h H)
def Hj(h:Heap)(H:Hp):(wR h H).objs.size=h.objs.size:=W.hideAll_size _ _
def tW{h:Heap}{H:Hp}{b:Addr}{o:Obj}(e:h.get? b=some o)(n:H b=none):(wR h H).get? b=some o :=
 W.hideAll_get _ e λhm=>by
  have q:(H b).isSome=true:=(List.mem_filter.mp hm).2;rw[n]at q;simp at q
def OJ{h:Heap}{H:Hp}{b:Addr}{o:Obj}(e:(wR h H).get? b=some o):h.get? b=some o/\H b=none:=by
 have a:h.get? b=some o:=W.of_hideAll (trk h H) e;refine⟨a,?_⟩;cases q:H b with
 |none=>rfl
 |some x =>
  have hm:b∈trk h H:=List.mem_filter.mpr ⟨List.mem_range.mpr (Heap.lt_size a),by simp[q]⟩;have z:(wR h H).get? b=none:=W.hideAll_none (trk h H) hm;rw[z]at e;cases e
def xM(g h:Heap)(L:Addr):ee:=(List.range h.objs.size).filterMap λa=>if a=L\/(g.get? a).isSome=true then none else(h.get? a).map λo=>(a,o)
def sY{g h:Heap}{L:Addr}{p:Addr×Obj}(hp:p∈xM g h L):p.1≠L/\g.get? p.1=none/\h.get? p.1=some p.2:=by
 let⟨b,_,e⟩:=List.mem_filterMap.mp hp;split at e
 ·cases e
 ·rename_i hn;cases q:h.get? b with
  |none=>rw[q]at e;simp at e
  |some u =>
   rw[q]at e;simp only[Option.map_some,Option.some.injEq]at e;subst e;refine⟨λz=>hn (.inl z),?_,q⟩;show g.get? b=none;cases r:g.get? b with
   |none=>rfl
   |some v=>exact(hn (.inr (by simp[r]))).elim
def rest(g h:Heap)(L d:Addr):ee:=(xM g h L).filter λp=>decide (p.1≠d)
def Kq{g h:Heap}{L:Addr}:News g L h (xM g h L):=λp hp=>let⟨a,b,c⟩:=sY hp;⟨c,a,b⟩
structure Mod(K:W.Frag)(mg:Str->ew)(fw:Heap):Prop where
 kin:K.In fw
 glob:fw.Ns mainGlobals mg
 blt:∃mb,fw.Ns Zp mb/\∀x:Str,x≠"__name__"->mb x=Zq x
 nolimit:fw.NoLimit
structure Cx where
 prog:Za
 w:Zb
 K:W.Frag
 mg:Str->ew
 fw:Heap
 A:Zr
 N:List Str
 s₀:Shared
 H₀:Hp
 env:Env
 outer:List Env
 stack:List Env
 ex:List Addr
 fn:Str->Bool
 calm:Bool
 pn:ee
 xe:d6
 sf:List (Addr×Obj×HO):=[]
variable{X:Cx}
def frs(l:List Env):List Addr:=l.filterMap (·.frame)
abbrev Cx.fs(X:Cx):List Addr:=frs X.outer
def Vis(a:Zs)(x:Str):Prop:=a.names.lookup x=some .local\/a.names.lookup x=some .cell\/a.names.lookup x=some .free
def Loc(a:Zs)(x:Str):Prop:=a.names.lookup x=some .local\/a.names.lookup x=some .cell
def Look(env:Env)(h:Heap)(m:Str->ew)(x:Str)(u:Value):Prop :=
 (env.kindOf x=some .local/\m x=some u)\/((env.kindOf x=some .cell\/env.kindOf x=some .free)/\∃c,env.cells.lookup x=some c/\h.IsCell c (some u))
abbrev zS(X:Cx)(e:Zt)(es:List Zt):Prop:=Zu (e::es) X.env=(false,Zv e X.env)::Zu es X.env
abbrev zP(X:Cx)(p:Pos)(es:List Zt):Prop:=(Zw p (Zu es X.env)).any (·.1)=false
abbrev zB(x:Str):Prop:=(x==("__debug__":Str))=false
abbrev zF(X:Cx)(e:Zt):Prop:=∀x,Zx e X.env x=pure x
abbrev zL(X:Cx)(x:Str):Prop:=X.fn x=true\/X.env.scope.names.lookup x=some .local
abbrev zW(X:Cx)(p:Pos)(es:List Zt):Prop:=((Zw p (Zu es X.env)).all (λx=>!x.1)&&(Zy p (Zz [] X.env)).all (λx=>x.1.isSome)&&decide (⇑es+⇑([]:List ZA)+(if([]:List ZA).isEmpty then 0 else 1)<30))=true
def zQ{a:Zs}{x:Str}(h:(a.names.lookup x==some .local||a.names.lookup x==some .cell)=true:=by rfl):Loc a x:=(Bool.or_eq_true_iff.mp h).imp (λz=>d5 z) λz=>d5 z
structure Cx.Ok(X:Cx):Prop where
 mod:Mod X.K X.mg X.fw
 kind:X.env.scope.kind=.function
 glob:X.env.globals=mainGlobals
 blt:X.env.builtins=Zp
 above:X.s₀.heap.objs.size<=X.env.locals
 inj:∀x y c,X.env.cells.lookup x=some c->X.env.cells.lookup y=some c->x=y
 has:∀x,(X.env.kindOf x=some .cell\/X.env.kindOf x=some .free)->∃c,X.env.cells.lookup x=some c
 cab:∀x c,X.fn x=true->X.env.cells.lookup x=some c->X.s₀.heap.objs.size<=c
 hd:X.calm=true->X.A.handled=none
 frames:X.A.frames=some X.stack
 stk:X.stack=X.outer\/(X.stack=X.env::X.outer/\X.env.frame=some X.env.locals)
 exf:∀b∈X.ex,b≠X.env.locals/\∀x c,X.env.cells.lookup x=some c->c≠b
 bs:∀b o,X.fw.get? b=some o->X.s₀.heap.get? b=some o/\X.H₀ b=none
 bsz:X.fw.objs.size<=X.s₀.heap.objs.size
 noex:∀b o,X.fw.get? b=some o->b∉X.ex
 exfs:∀b∈X.ex,b∉X.fs
 mF:X.s₀.heap.FunFrames X.fw X.outer
 frf:∀b∈X.fs,X.H₀ b=none
 sof:∀q∈X.sf,X.A.handled=some (.ref q.1)/\X.H₀ q.1=some (.frz q.2.1 q.2.2)/\∃ws,q.2.1.data=.fields ws/\ws[2]?=some .none
structure Inv(X:Cx)(pins:ee)(σ:List (Option V))(H:Hp)(s:Shared):Prop where
 ok:X.Ok
 os:s.os=X.s₀.os
 bare:ZB s.gens
 fw:Un X.fs X.ex X.H₀ H X.s₀.heap s.heap
 loc:∃m,s.heap.Ns X.env.locals m/\∀(i:Nat)(x:Str)(v:V),X.N[i]?=some x->σ[i]?=some (some v)->Vis X.env.scope x->∃u,RelV v u/\Look X.env s.heap m x u
 cell:∀x c,X.env.cells.lookup x=some c->∃v,s.heap.IsCell c v
 free:H X.env.locals=none
 freeC:∀x c,X.env.cells.lookup x=some c->H c=none
 pin:∀p∈X.pn++pins,s.heap.get? p.1=some p.2/\H p.1=none/\p.1≠X.env.locals/\p.1∉X.fs/\∀v,p.2.data≠.cell v
 hok:HOk X.prog X.w H s.heap
 len:⇑σ=⇑X.N
section
variable{pins:ee}{σ:List (Option V)}{H H':Hp}{s:Shared}{h':Heap}
def Cx.Ok.XH(ok:X.Ok){b:Addr}{o:Obj}(e:X.fw.get? b=some o):b∉X.fs:=λhb=>by
 have:=(ok.mF.mem hb).1;rw[e]at this;cases this
def Inv.bs(I:Inv X pins σ H s):∀b o,X.fw.get? b=some o->s.heap.get? b=some o/\H b=none:=λb o e =>
 ⟨I.fw.keep b o (I.ok.bs b o e).1 (I.ok.bs b o e).2 (I.ok.XH e) (I.ok.noex b o e),I.fw.free b o (I.ok.bs b o e).1 (I.ok.bs b o e).2 (I.ok.noex b o e)⟩
def Inv.bk(I:Inv X pins σ H s):∀b o,X.fw.get? b=some o->s.heap.get? b=some o:=λb o e=>(I.bs b o e).1
def Inv.mod(I:Inv X pins σ H s):Mod X.K X.mg X.fw:=I.ok.mod
def Inv.kIn(I:Inv X pins σ H s):X.K.In s.heap:=I.ok.mod.kin.keeps I.bk
def Inv.fr(I:Inv X pins σ H s):∃m,Fr X.fw X.env.locals s.heap m :=
 let⟨m,hn,_⟩:=I.loc
 ⟨m,hn,I.bk,Nat.le_trans I.ok.bsz I.ok.above⟩
def Inv.lt(I:Inv X pins σ H s):X.env.locals<↥s:=let⟨_,hn,_⟩:=I.loc;hn.lt
def Inv.sz(I:Inv X pins σ H s):X.s₀.heap.objs.size<=↥s:=Nat.le_trans I.ok.above (Nat.le_of_lt I.lt)
def Inv.XF(I:Inv X pins σ H s){a:Addr}(h:↥s<=a):a∉X.fs:=λhb=>by
 let⟨_,o,b,_⟩:=I.ok.mF.mem hb;exact dS (Nat.lt_of_lt_of_le (Heap.lt_size b) (Nat.le_trans I.sz h)) (Nat.lt_irrefl _)
def Inv.cne(I:Inv X pins σ H s):∀x c,X.env.cells.lookup x=some c->c≠X.env.locals:=λx c e z=>by
 let⟨v,o,d,hd⟩:=I.cell x c e;let⟨m,⟨o',es,ep,b,a,_⟩,_⟩:=I.loc;rw[z,b]at d;cases d;rw[a]at hd;cases hd
def Inv.mF(I:Inv X pins σ H s):s.heap.FunFrames X.fw X.outer:=by
 have a:∀(l:List Env),(∀b∈frs l,b∈X.fs)->X.s₀.heap.FunFrames X.fw l->s.heap.FunFrames X.fw l:=by
  intro l;induction l with
  |nil=>intro _ _;trivial
  |cons env r ih =>
   intro hs hl;let⟨hk,⟨L,o,d,hn,f,hd⟩,hr⟩:=hl;have c:L∈X.fs:=hs L (by unfold frs;rw[List.filterMap_cons,d];exact List.mem_cons_self);let⟨g,e⟩:=I.fw.slot L o f (I.ok.frf L c) c λz=>I.ok.exfs L z c;exact⟨hk,⟨L,_,d,hn,e,hd⟩,ih (λb hb=>hs b (by unfold frs;rw[List.filterMap_cons,d];exact List.mem_cons_of_mem _ hb)) hr⟩
 exact a X.outer (λ_ hb=>hb) I.ok.mF
def Inv.stack(I:Inv X pins σ H s):s.heap.FunFrames X.fw X.stack:=by
 rcases I.ok.stk with e|⟨e,a⟩
 ·rw[e];exact I.mF
 ·rw[e];let⟨m,hn,_⟩:=I.loc;refine .cons (by rw[I.ok.kind];decide) a hn ?_ I.mF;exact Heap.get?_none_of_le (Nat.le_trans I.ok.bsz I.ok.above)
def Inv.vY(I:Inv X pins σ H s):∀b∈frs X.stack,b∈X.env.locals::X.fs:=λb hb=>by
 rcases I.ok.stk with e|⟨e,a⟩
 ·rw[e]at hb;exact List.mem_cons_of_mem _ hb
 ·rw[e]at hb;unfold frs at hb;rw[List.filterMap_cons,a]at hb;exact hb
def Inv.Dh(I:Inv X pins σ H s):∀b∈frs X.stack,H b=none:=λb hb=>by
 rcases List.mem_cons.mp (I.vY b hb)with e|hb
 ·rw[e];exact I.free
 ·let⟨_,o,a,_⟩:=I.ok.mF.mem hb;exact I.fw.free b o a (I.ok.frf b hb) λz=>I.ok.exfs b z hb
def Inv.step{g':Array ZC}{t':Nat}{d':Drawn}{ch:List Addr}(I:Inv X pins σ H s)(g:∀b∈ch,(b∈X.ex\/X.s₀.heap.objs.size<=b)/\b≠X.env.locals/\(∀x c,X.env.cells.lookup x=some c->c≠b)/\∀p∈X.pn++pins,p.1≠b)(h:∀b o,b≠X.env.locals->b∉X.fs->b∉ch->s.heap.get? b=some o->H b=none->h'.get? b=some o)(A:∀b o,b≠X.env.locals->b∈X.fs->b∉ch->s.heap.get? b=some o->H b=none->∃sl,h'.get? b=some { o with slots:=sl })(a:∀b o,b∉ch->s.heap.get? b=some o->H b=none->H' b=none)(B:∀b o,b∉ch->s.heap.get? b=some o->∃o',h'.get? b=some o')(J:∀b xs,H b=some (.tup xs)->H' b=some (.tup xs))(E:∀b o u,H b=some (.frz o u)->H' b=some (.frz o u))(G:∀b ps,H b=some (.tbl ps)->∃more,H' b=some (.tbl (ps++more)))(ns:∀m,s.heap.Ns X.env.locals m->h'.Ns X.env.locals m)(K:HOk X.prog X.w H' h')(hg:ZB g') :
  Inv X pins σ H' { s with heap:=h',gens:=g',drawn:=d',toks:=t' }:=by
 have F:∀b o,X.s₀.heap.get? b=some o->b≠X.env.locals:=λb o e=>Nat.ne_of_lt (Nat.lt_of_lt_of_le (Heap.lt_size e) I.ok.above);have y:∀b o,X.s₀.heap.get? b=some o->b∉X.ex->b∉ch:=λb o e hx hb=>by
  rcases(g b hb).1 with z|z
  ·exact hx z
  ·exact dS (Nat.lt_of_lt_of_le (Heap.lt_size e) z) (Nat.lt_irrefl _)
 have f:∀x c,X.env.cells.lookup x=some c->∀v,s.heap.IsCell c v->h'.IsCell c v:=λx c e v ⟨o,C,hd⟩=>by
  have j:c∉ch:=λz=>(g c z).2.2.1 x c e rfl;by_cases hc:c∈X.fs
  ·let⟨sl,q⟩:=A c o (I.cne x c e) hc j C (I.freeC x c e);exact⟨_,q,hd⟩
  ·exact⟨o,h c o (I.cne x c e) hc j C (I.freeC x c e),hd⟩
 refine⟨I.ok,I.os,hg,⟨λb o e n hb hx=>?_,λb o e n hb hx=>?_,λb o e n hx=>?_,λb o e hx=>?_,λb xs e=>J b xs (I.fw.tups b xs e),λb o xs e=>E b o xs (I.fw.frzs b o xs e),λb ps e=>?_⟩,?_,λx c e=>?_,?_,λx c e=>?_,λp hp=>?_,K,I.len⟩
 ·exact h b o (F b o e) hb (y b o e hx) (I.fw.keep b o e n hb hx) (I.fw.free b o e n hx)
 ·let⟨sl,t⟩:=I.fw.slot b o e n hb hx;let⟨L,D⟩:=A b _ (F b o e) hb (y b o e hx) t (I.fw.free b o e n hx);exact⟨L,D⟩
 ·let⟨o',t⟩:=I.fw.there b o e hx;exact a b o' (y b o e hx) t (I.fw.free b o e n hx)
 ·let⟨o',t⟩:=I.fw.there b o e hx;exact B b o' (y b o e hx) t
 ·let⟨O,t⟩:=I.fw.tbls b ps e;let⟨P,D⟩:=G b _ t;exact⟨O++P,by rw[D,Array.append_assoc]⟩
 ·let⟨m,hn,hl⟩:=I.loc;refine⟨m,ns m hn,λi x v t D e3=>?_⟩;let⟨u,r,l⟩:=hl i x v t D e3;refine⟨u,r,?_⟩;rcases l with l|⟨k,c,e,z⟩
  ·exact .inl l
  ·exact .inr ⟨k,c,e,f x c e _ z⟩
 ·let⟨v,z⟩:=I.cell x c e;exact⟨v,f x c e v z⟩
 ·let⟨m,⟨o,_,_,C,_⟩,_⟩:=I.loc;exact a _ o (λz=>(g _ z).2.1 rfl) C I.free
 ·let⟨v,o,C,hd⟩:=I.cell x c e;exact a c o (λz=>(g c z).2.2.1 x c e rfl) C (I.freeC x c e)
 ·let⟨e,n,M,N,d⟩:=I.pin p hp;have j:p.1∉ch:=λz=>(g p.1 z).2.2.2 p hp rfl;exact⟨h p.1 p.2 M N j e n,a p.1 p.2 j e n,M,N,d⟩
def Inv.un{t':Nat}(I:Inv X pins σ H s)(u:Un X.fs [] H H' s.heap h')(f:HOk X.prog X.w H' h'):Inv X pins σ H' { s with heap:=h',toks:=t' }:=by
 let⟨m,⟨o,es,ep,g,r⟩,_⟩:=id I.loc;let⟨j,h⟩:=u.any g I.free (by simp);exact I.step (g':=s.gens) (d':=s.drawn) (ch:=[]) (λ_ z=>nomatch z) (λb o _ hb _ e n=>u.keep b o e n hb (by simp)) (λb o _ hb _ e n=>u.slot b o e n hb (by simp)) (λb o _ e n=>u.free b o e n (by simp)) (λb o _ e=>u.there b o e (by simp)) u.tups u.frzs u.tbls (λm' hm=>by
  let⟨o',d,c,a,i⟩:=hm;rw[g]at a;cases a;exact⟨_,d,c,h,i⟩) f I.bare
def Inv.call{g':Array ZC}{t':Nat}{d':Drawn}{ch:List Addr}(I:Inv X pins σ H s)(u:Un (frs X.stack) ch H H' s.heap h')(i:HOk X.prog X.w H' h')(hg:ZB g')(a:∀b∈ch,(b∈X.ex\/X.s₀.heap.objs.size<=b)/\b≠X.env.locals/\(∀x c,X.env.cells.lookup x=some c->c≠b)/\∀p∈X.pn++pins,p.1≠b) :
  Inv X pins σ H' { s with heap:=h',gens:=g',drawn:=d',toks:=t' }:=by
 let⟨m,⟨o,es,ep,j,r⟩,_⟩:=id I.loc;let⟨l,h⟩:=u.any j I.free λz=>(a _ z).2.1 rfl;exact I.step (ch:=ch) a (λb o h hb hc e n=>u.keep b o e n (λz=>(List.mem_cons.mp (I.vY b z)).elim h hb) hc) (λb o _ _ hc e n=>u.any e n hc) (λb o hc e n=>u.free b o e n hc) (λb o hc e=>u.there b o e hc) u.tups u.frzs u.tbls (λm' hm=>by
  let⟨o',g,f,d,k⟩:=hm;rw[j]at d;cases d;exact⟨_,g,f,h,k⟩) i hg
def Inv.turned{t':Nat}{it:Addr}(I:Inv X pins σ H s)(k:∀b o,b≠it->s.heap.get? b=some o->h'.get? b=some o)(hn:H it=none)(d:it≠X.env.locals)(h1:it∈X.ex\/X.s₀.heap.objs.size<=it)(h2:∀x c,X.env.cells.lookup x=some c->c≠it)(f:∀p∈X.pn++pins,p.1≠it):Inv X pins σ H { s with heap:=h',toks:=t' }:=by
 have a:∀b u,H b=some u->b≠it:=λb u e z=>by rw[z,hn]at e;cases e
 refine I.step (g':=s.gens) (d':=s.drawn) (ch:=[it]) (λb hb=>?_) (λb o _ _ hc e _=>k b o (λz=>hc (by simp[z])) e) (λb o _ _ hc e _=>⟨o.slots,k b o (λz=>hc (by simp[z])) e⟩) (λ_ _ _ _ n=>n)
  (λb o hc e=>⟨o,k b o (λz=>hc (by simp[z])) e⟩) (λ_ _ e=>e) (λ_ _ _ e=>e) (λb ps e=>⟨#[],by rw[e];simp⟩) (λm hm=>?_) (λb u e=>?_) I.bare
 ·have e:b=it:=↑hb
  subst e;exact⟨h1,d,h2,f⟩
 ·let⟨o,es,ep,g,r⟩:=hm;exact⟨o,es,ep,k _ o (Ne.symm d) g,r⟩
 ·refine(I.hok b u e).stay (λc v hc q=>k c v ?_ q) (λ_ q=>q) λ_ _ q=>q;rcases hc with z|z
  ·rw[z];exact a b u e
  ·exact a c _ z
def Inv.tok(I:Inv X pins σ H s)(t:Nat):Inv X pins σ H { s with toks:=t }:=I.un (h':=s.heap) (t':=t) Un.refl I.hok
def Inv.kept{t':Nat}(I:Inv X pins σ H s)(k:∀b u,s.heap.get? b=some u->h'.get? b=some u):Inv X pins σ H { s with heap:=h',toks:=t' }:=I.un (Un.kept k) (I.hok.kept k)
def Inv.laid{a:Addr}{o:HO}{t':Nat}(I:Inv X pins σ H s)(k:∀b u,s.heap.get? b=some u->h'.get? b=some u)(hp:↥s<=a)(new:bQ X.prog X.w (upd H a o) h' a o) :
  Inv X pins σ (upd H a o) { s with heap:=h',toks:=t' }:=I.un (Un.laid k hp (I.hok.fresh hp)) (I.hok.laid k hp new)
def Inv.write{x e:Addr}{o:HO}{t':Nat}(I:Inv X pins σ H s)(c:Mut (H x))(he:e=x\/H e=some (.own x))(k:∀b u,b≠e->s.heap.get? b=some u->h'.get? b=some u)(a:∃u,h'.get? e=some u)(new:bQ X.prog X.w (upd H x o) h' x o):Inv X pins σ (upd H x o) { s with heap:=h',toks:=t' }:=I.un (Un.write c he k a) (I.hok.write c he k a new)
def Inv.qL{a:ee}(I:Inv X pins σ H s)(h:∀p∈a,s.heap.get? p.1=some p.2/\H p.1=none/\p.1≠X.env.locals/\p.1∉X.fs/\∀v,p.2.data≠.cell v):Inv X a σ H s :=
 ⟨I.ok,I.os,I.bare,I.fw,I.loc,I.cell,I.free,I.freeC,λp hp=>(List.mem_append.mp hp).elim (λz=>I.pin p (List.mem_append_left _ z)) (h p),I.hok,I.len⟩
def yM{N:List Str}(hN:N.Nodup){i j:Nat}{x:Str}(a:N[i]?=some x)(b:N[j]?=some x):i=j:=by
 let⟨h1,c⟩:=List.getElem?_eq_some_iff.mp a;let⟨h2,d⟩:=List.getElem?_eq_some_iff.mp b;exact(List.getElem_inj hN).mp (c.trans d.symm)
def vh{M:ZD}{A:Zr}{E:d6}{i:Nat}{x:Str}{v:V}{u:Value}{Q:Unit->Shared->Prop}(I:Inv X pins σ H s)(Z:∀j,X.N[j]?=some x->j=i)(hi:X.N[i]?=some x)(l:Loc X.env.scope x)(r:RelV v u)(h:∀s',Inv X pins (σ.set i (some v)) H s'->(∃a,Heap.SameBut a s.heap s'.heap/\(a=X.env.locals\/X.env.cells.lookup x=some a))->Q .unit s')(hf:X.fn x=true\/X.env.scope.names.lookup x=some .local:=by first|exact .inl rfl|exact .inr rfl|assumption):wpAny M A (storeName X.env x u) Q E s:=by
 let⟨m,hn,hl⟩:=id I.loc;have J:(X.env.scope.kind==.class || (X.env.scope.kind==.module&&X.env.locals != X.env.globals))=false:=by rw[I.ok.kind];rfl
 have B:i<⇑σ:=by rw[I.len];exact(List.getElem?_eq_some_iff.mp hi).1
 have C:=I.cne;have g:∀{a:Addr}{h':Heap},(∃o,s.heap.get? a=some o/\H a=none)->Heap.SameBut a s.heap h'->HOk X.prog X.w H h':=λ{a h'} ha hs b ob e=>by
  let⟨_,_,t⟩:=ha;refine(I.hok b ob e).stay (λc R hc q=>(hs.2 c ?_).trans q) (λ_ q=>q) λ_ _ q=>q;rintro rfl;rcases hc with rfl|hc
  ·rw[t]at e;cases e
  ·rw[t]at hc;cases hc
 rcases l with hk|hk
 ·refine wpAny_storeName_local hk hn (λh' hn' hs=>?_) J;let⟨oL,_,_,S,_⟩:=id hn;refine h _ ⟨I.ok,I.os,I.bare,⟨λb o e n hb l=>?_,λb o e n hb l=>?_,I.fw.free,λb o e l=>?_,I.fw.tups,I.fw.frzs,I.fw.tbls⟩,⟨_,hn',λj y v' f e2 e3=>?_⟩,λy c e=>?_,I.free,I.freeC,λp hp=>?_,g ⟨oL,S,I.free⟩ hs,↑I.len⟩ ⟨_,hs,.inl rfl⟩
  ·exact(hs.2 b (Nat.ne_of_lt (Nat.lt_of_lt_of_le (Heap.lt_size e) I.ok.above))).trans (I.fw.keep b o e n hb l)
  ·let⟨W,f⟩:=I.fw.slot b o e n hb l;exact⟨W,(hs.2 b (Nat.ne_of_lt (Nat.lt_of_lt_of_le (Heap.lt_size e) I.ok.above))).trans f⟩
  ·let⟨o',f⟩:=I.fw.there b o e l;exact⟨o',(hs.2 b (Nat.ne_of_lt (Nat.lt_of_lt_of_le (Heap.lt_size e) I.ok.above))).trans f⟩
  ·by_cases F:j=i
   ·subst F;rw[hi]at f;cases f;rw[List.getElem?_set_self B]at e2;cases e2;exact⟨u,r,.inl ⟨hk,by simp⟩⟩
   ·rw[List.getElem?_set_ne (Ne.symm F)]at e2;let⟨Y,U,q⟩:=hl j y v' f e2 e3;refine⟨Y,U,?_⟩;rcases q with⟨k,e⟩|⟨k,c,e,z⟩
    ·refine .inl ⟨k,?_⟩;have:y≠x:=λe=>F (Z _ (e ▸ f));simp[this,e]
    ·exact .inr ⟨k,c,e,z.sameBut hs (C y c e)⟩
  ·let⟨R,z⟩:=I.cell y c e;exact⟨R,z.sameBut hs (C y c e)⟩
  ·let⟨e,n,P,T,d⟩:=I.pin p hp;exact⟨(hs.2 p.1 P).trans e,n,P,T,d⟩
 ·have D:X.fn x=true:=by
   rcases hf with z|z
   ·exact z
   ·rw[z]at hk;cases hk
  let⟨c,hc⟩:=I.ok.has x (.inl hk);let⟨R,z⟩:=I.cell x c hc;refine wpAny_storeName_cell I.ok.kind hk hc z (λh' hc' hs=>?_);let⟨oc,K,L⟩:=id z;refine h { s with heap:=h' } ⟨I.ok,I.os,I.bare,⟨λb o e n hb l=>?_,λb o e n hb l=>?_,I.fw.free,λb o e l=>?_,I.fw.tups,I.fw.frzs,I.fw.tbls⟩,⟨m,hn.sameBut hs (Ne.symm (C x c hc)),λj y v' f e2 e3=>?_⟩,λy O e=>?_,I.free,I.freeC,λp hp=>?_,g ⟨oc,K,I.freeC x c hc⟩ hs,↑I.len⟩ ⟨c,hs,.inr hc⟩
  ·exact(hs.2 b (Nat.ne_of_lt (Nat.lt_of_lt_of_le (Heap.lt_size e) (I.ok.cab x c D hc)))).trans (I.fw.keep b o e n hb l)
  ·let⟨W,f⟩:=I.fw.slot b o e n hb l;exact⟨W,(hs.2 b (Nat.ne_of_lt (Nat.lt_of_lt_of_le (Heap.lt_size e) (I.ok.cab x c D hc)))).trans f⟩
  ·let⟨o',f⟩:=I.fw.there b o e l;exact⟨o',(hs.2 b (Nat.ne_of_lt (Nat.lt_of_lt_of_le (Heap.lt_size e) (I.ok.cab x c D hc)))).trans f⟩
  ·by_cases F:j=i
   ·subst F;rw[hi]at f;cases f;rw[List.getElem?_set_self B]at e2;cases e2;exact⟨u,r,.inr ⟨.inl hk,c,hc,hc'⟩⟩
   ·rw[List.getElem?_set_ne (Ne.symm F)]at e2;let⟨Y,U,q⟩:=hl j y v' f e2 e3;refine⟨Y,U,?_⟩;rcases q with q|⟨k,O,e,z'⟩
    ·exact .inl q
    ·refine .inr ⟨k,O,e,z'.sameBut hs ?_⟩;rintro rfl;exact F (Z _ (I.ok.inj _ _ _ e hc ▸ f))
  ·by_cases G:O=c
   ·subst G;exact⟨_,hc'⟩
   ·let⟨w2,z2⟩:=I.cell y O e;exact⟨w2,z2.sameBut hs G⟩
  ·let⟨e,n,P,T,d⟩:=I.pin p hp;refine⟨(hs.2 p.1 ?_).trans e,n,P,T,d⟩;intro q;rw[q,K]at e;have q':oc=p.2:=Option.some.inj e;exact d R (by rw[←q'];exact L)
def xR{M:ZD}{A:Zr}{E:d6}{i:Nat}{x:Str}{v:V}{u:Value}{Q:Unit->Shared->Prop}(I:Inv X pins σ H s)(hN:X.N.Nodup)(hi:X.N[i]?=some x)(b:Loc X.env.scope x)(r:RelV v u)(h:∀s',Inv X pins (σ.set i (some v)) H s'->Q .unit s')(a:X.fn x=true\/X.env.scope.names.lookup x=some .local:=by first|exact .inl rfl|exact .inr rfl|assumption):wpAny M A (storeName X.env x u) Q E s :=
 vh I (λj h=>yM hN h hi) hi b r (λs' I' _=>h s' I') a
def Inv.call'{a:Shared}{ch:List Addr}(I:Inv X pins σ H s)(g:a.os=s.os)(u:Un (frs X.stack) ch H H' s.heap a.heap)(f:HOk X.prog X.w H' a.heap)(hg:ZB a.gens)(d:∀b∈ch,(b∈X.ex\/X.s₀.heap.objs.size<=b)/\b≠X.env.locals/\(∀x c,X.env.cells.lookup x=some c->c≠b)/\∀p∈X.pn++pins,p.1≠b):Inv X pins σ H' a:=by
 let⟨h',g',d',t',o'⟩:=a;have e:o'=s.os:=g;subst e;exact I.call (g':=g') (t':=t') (d':=d') u f hg d
end
abbrev XK:=Value->et->Hp->Prop
abbrev St:=List (Option V)
abbrev VK:=V->Hp->Prop
abbrev TE:=St->Hp->VK->Prop
abbrev TT:=St->Hp->(Bool->Hp->Prop)->Prop
abbrev TA:=St->Hp->(List V->Hp->Prop)->Prop
structure Ends where
 nx:St->Hp->Prop
 rt:VK
 bk:St->Hp->Prop:=λ_ _=>False
 ct:St->Hp->Prop:=λ_ _=>False
abbrev TS:=Ends->St->Hp->Prop
def EP(X:Cx)(a:ee)(σ:St)(Q:VK)(u:Value)(b:Shared):Prop:=∃v H',Inv X a σ H' b/\RelV v u/\Q v H'
def TP(X:Cx)(a:ee)(σ:St)(Q:Bool->Hp->Prop)(b:Bool)(c:Shared):Prop:=∃H',Inv X a σ H' c/\Q b H'
def AP(X:Cx)(a:ee)(σ:St)(Q:List V->Hp->Prop)(us:eo)(b:Shared):Prop:=∃vs H',Inv X a σ H' b/\Vals vs us/\Q vs H'
def SP(X:Cx)(a:ee)(D:Ends)(f:Flow)(b:Shared):Prop :=
 match f with
 |.next=>∃σ' H',Inv X a σ' H' b/\D.nx σ' H'
 |.brk=>∃σ' H',Inv X a σ' H' b/\D.bk σ' H'
 |.cont=>∃σ' H',Inv X a σ' H' b/\D.ct σ' H'
 |.ret u=>∃v σ' H',Inv X a σ' H' b/\RelV v u/\D.rt v H'
def PE(X:Cx)(e:Zt)(t:TE):Prop :=
 ∀(pins:ee)(s:Shared)(σ:St)(H:Hp)(Q:VK),Inv X pins σ H s->t σ H Q->wpAny (model X.prog X.w) X.A (Zv e X.env) (EP X pins σ Q) X.xe s
def PT(X:Cx)(e:Zt)(t:TT):Prop :=
 ∀(pins:ee)(s:Shared)(σ:St)(H:Hp)(Q:Bool->Hp->Prop),Inv X pins σ H s->t σ H Q->wpAny (model X.prog X.w) X.A (ZE e X.env (Zv e X.env)) (TP X pins σ Q) X.xe s
def PW(X:Cx)(e:Zt)(t:TT):Prop :=
 ∀(whole:Sem Value)(pins:ee)(s:Shared)(σ:St)(H:Hp)(Q:Bool->Hp->Prop),Inv X pins σ H s->t σ H Q->wpAny (model X.prog X.w) X.A (ZE e X.env whole) (TP X pins σ Q) X.xe s
def PW.pt{X:Cx}{e:Zt}{t:TT}(h:PW X e t):PT X e t:=h _
def PA(X:Cx)(es:List Zt)(t:TA):Prop :=
 ∀(pos:Pos)(pins:ee)(s:Shared)(σ:St)(H:Hp)(Q:List V->Hp->Prop),Inv X pins σ H s->t σ H Q->wpAny (model X.prog X.w) X.A (spliced (Zw pos (Zu es X.env))) (AP X pins σ Q) X.xe s
def PS(X:Cx)(st:ZF)(t:TS):Prop :=
 ∀(pins:ee)(s:Shared)(σ:St)(H:Hp)(D:Ends),Inv X pins σ H s->t D σ H->wpAny (model X.prog X.w) X.A (exec st X.env) (SP X pins D) X.xe s
def PSs(X:Cx)(st:List ZF)(t:TS):Prop :=
 ∀(pins:ee)(s:Shared)(σ:St)(H:Hp)(D:Ends),Inv X pins σ H s->t D σ H->wpAny (model X.prog X.w) X.A (execs st X.env) (SP X pins D) X.xe s
def thn{α:Type}{t:Sem α}{Q b:α->Shared->Prop}{M:ZD}{A:Zr}{E:d6}{s:Shared}(h:wpAny M A t Q E s)(c:∀a s,Q a s->b a s):wpAny M A t b E s:=ZG h c λ_ _ x=>x
section
def bin{a b:Zt}{d e:TE}(ha:PE X a d)(hb:PE X b e){c:ee}{s:Shared}{σ:St}{H:Hp}{R:V->V->Hp->Prop}(I:Inv X c σ H s)(h:d σ H λx H1=>e σ H1 λy H2=>R x y H2){α:Type}{Q:α->Shared->Prop}{f:Value->Value->Sem α}(g:∀v u s2 x y H2,Inv X c σ H2 s2->RelV x v->RelV y u->R x y H2->wpAny (model X.prog X.w) X.A (f v u) Q X.xe s2) :
  wpAny (model X.prog X.w) X.A (Zv a X.env) (λv s₁=>wpAny (model X.prog X.w) X.A (Zv b X.env) (λu s₂=>wpAny (model X.prog X.w) X.A (f v u) Q X.xe s₂) X.xe s₁) X.xe s:=by
 refine thn (ha c s σ H _ I h) λv s1 ⟨x,H1,I1,r1,q1⟩=>?_;refine thn (hb c s1 σ H1 _ I1 q1) λu s2 ⟨y,H2,I2,r2,q2⟩=>?_;exact g v u s2 x y H2 I2 r1 r2 q2
def jJ(i:Nat):TE:=λσ H Q=>∃v,σ[i]?=some (some v)/\Q v H
def tC(v:V):TE:=λ_ H Q=>Q v H
def Sx{i:Nat}{x:Str}{pos:Pos}(hN:X.N[i]?=some x)(hv:Vis X.env.scope x)(hd:(x==("__debug__":Str))=false:=by decide)(hcd:(x==("__classdict__":Str))=false:=by decide):PE X (.Name x pos) (jJ i):=by
 intro d s σ H Q I h;let⟨v,e,h⟩:=h;let⟨m,hn,hl⟩:=I.loc;let⟨u,r,l⟩:=hl i x v hN e hv;have b:EP X d σ Q u s:=⟨v,H,I,r,h⟩
 rcases l with⟨hk,hm⟩|⟨hk,c,hc,a⟩
 ·exact ZH (wpAny_loadName_local I.ok.kind hk hn hm b) hd
 ·rcases hk with hk|hk
  ·exact ZH (wpAny_loadName_cell I.ok.kind hk hc a b) hd
  ·exact ZH (wpAny_loadName_free I.ok.kind hk hc a b hcd) hd
def cV{i j pos}:PE X (.Constant (.int i) j pos) (tC (.int i)):=λ_ _ _ H _ I h=>ZI ⟨.int i,H,I.tok _,⟨_,rfl⟩,h⟩
def V3{b j pos}:PE X (.Constant (.bool b) j pos) (tC (.bl b)):=λ_ _ _ H _ I h=>Constant_bool ⟨.bl b,H,I,rfl,h⟩
def SM{j pos}:PE X (.Constant .none j pos) (tC .non):=λ_ _ _ H _ I h=>Constant_none ⟨.non,H,I,rfl,h⟩
def cG{x j pos}:PE X (.Constant (.str x) j pos) (tC (.str x)):=λ_ _ _ H _ I h=>Calls.Constant_str ⟨.str x,H,I.tok _,⟨_,rfl⟩,h⟩
def Gl(X:Cx)(x:Str):Prop:=X.env.kindOf x=some .globalImplicit
def wL{E:d6}{a:ee}{s:Shared}{σ:St}{H:Hp}{x:Str}{u:Value}{pos:Pos}{Q:d6}(I:Inv X a σ H s)(hg:Gl X x)(hm:X.mg x=some u)(h:Q u s)(hd:(x==("__debug__":Str))=false:=by decide):wpAny (model X.prog X.w) X.A (Zv (.Name x pos) X.env) Q E s :=
 Calls.Name_function_global I.ok.kind hg (Calls.loadGlobal_global (by rw[I.ok.glob];exact I.mod.glob.keeps I.bk) hm h) hd
def kI{E:d6}{a:ee}{s:Shared}{σ:St}{H:Hp}{x:Str}{u:Value}{pos:Pos}{Q:d6}(I:Inv X a σ H s)(hg:Gl X x)(hm:X.mg x=none)(hv:Zq x=some u)(h:Q u s)(hn:x≠"__name__":=by decide)(hd:(x==("__debug__":Str))=false:=by decide):wpAny (model X.prog X.w) X.A (Zv (.Name x pos) X.env) Q E s:=by
 let⟨b,h1,h2⟩:=I.mod.blt;exact Calls.Name_function_global I.ok.kind hg (Calls.loadGlobal_builtin (by rw[I.ok.glob];exact I.mod.glob.keeps I.bk) hm (by rw[I.ok.blt];exact h1.keeps I.bk) ((h2 x hn).trans hv) h) hd
def Oo{x:Str}{v:V}{u:Value}{pos:Pos}(hg:Gl X x)(hm:X.mg x=some u)(r:RelV v u)(hd:(x==("__debug__":Str))=false:=by decide):PE X (.Name x pos) (tC v) :=
 λ_ _ _ H _ I h=>wL I hg hm ⟨v,H,I,r,h⟩ hd
def Ot{x:Str}{v:V}{u:Value}{pos:Pos}(hg:Gl X x)(hm:X.mg x=none)(hv:Zq x=some u)(r:RelV v u)(hn:x≠"__name__":=by decide)(hd:(x==("__debug__":Str))=false:=by decide):PE X (.Name x pos) (tC v) :=
 λ_ _ _ H _ I h=>kI I hg hm hv ⟨v,H,I,r,h⟩ hn hd
variable{a b:Zt}{ta tb:TE}{pos:Pos}
def PC(X:Cx)(c:ZJ)(a b:Zt)(t:TE):Prop :=
 ∀(pins:ee)(s:Shared)(σ:St)(H:Hp)(Q:VK),Inv X pins σ H s->t σ H Q ->
  wpAny (model X.prog X.w) X.A (Zv a X.env) (λv s₁=>wpAny (model X.prog X.w) X.A (Zv b X.env) (λu s₂=>wpAny (model X.prog X.w) X.A (ZK c v u) (EP X pins σ Q) X.xe s₂) X.xe s₁) X.xe s
def tB(t:TE):TT:=λσ H Q=>t σ H λx H1=>∃c,x=.bl c/\Q c H1
def R9{f:ZJ}{t:TE}(h:PC X f a b t)(h1:ZL f b=false:=by first|exact nobehind _ ∅ ∅|rfl):PT X (.Compare a [f] [b] pos) (tB t):=by
 intro e s σ H Q I g;refine ZM (thn (h e s σ H _ I g) λv s1 h1=>thn h1 λu s2 h2=>thn h2 λc s3 ⟨x,H1,I1,r1,q1⟩=>?_) h1;let⟨d,rfl,q⟩:=q1;cases r1;exact ZN ⟨H1,I1,q⟩
def Ju{e:Zt}{t:TE}(h:PE X e t)(he:∀whole,ZE e X.env whole=(do let v ←whole;standAt e.pos;holding [v] (ZO v)):=by intro _;rfl):PT X e (tB t):=by
 intro c s σ H Q I f;refine isTrue_plain (thn (h c s σ H _ I f) λv s1 ⟨x,H1,I1,r1,q1⟩=>?_) (he _);let⟨d,rfl,q⟩:=q1;cases r1;exact ZN ⟨H1,I1,q⟩
variable{tA tB':TT}{rest:List Zt}
def VD(t u:TT):TT:=λσ H Q=>t σ H λc H1=>if c=true then u σ H1 Q else Q false H1
def tOr(t u:TT):TT:=λσ H Q=>t σ H λc H1=>if c=true then Q true H1 else u σ H1 Q
def Xm(t:TT):TT:=λσ H Q=>t σ H λc H1=>Q (!c) H1
def Dt(ha:PT X a tA):PW X (.BoolOp .And [a] pos) tA:=by
 intro f d s σ H Q I h;refine isTrue_and (thn (ha d s σ H Q I h) λc s1 e=>?_);cases c with
 |true=>exact isTrue_and_nil e
 |false=>exact e
def Jq(ha:PT X a tA):PW X (.BoolOp .Or [a] pos) tA:=by
 intro f d s σ H Q I h;refine isTrue_or (thn (ha d s σ H Q I h) λc s1 e=>?_);cases c with
 |false=>exact isTrue_or_nil e
 |true=>exact e
def Jr(ha:PT X a tA)(hb:PW X (.BoolOp .And (b::rest) pos) tB'):PW X (.BoolOp .And (a::b::rest) pos) (VD tA tB'):=by
 intro e d s σ H Q I h;refine isTrue_and (thn (ha d s σ H _ I h) λc s1 ⟨H1,I1,q1⟩=>?_);cases c with
 |true=>exact hb e d s1 σ H1 Q I1 q1
 |false=>exact⟨H1,I1,q1⟩
def QC(ha:PT X a tA)(hb:PW X (.BoolOp .Or (b::rest) pos) tB'):PW X (.BoolOp .Or (a::b::rest) pos) (tOr tA tB'):=by
 intro e d s σ H Q I h;refine isTrue_or (thn (ha d s σ H _ I h) λc s1 ⟨H1,I1,q1⟩=>?_);cases c with
 |true=>exact⟨H1,I1,q1⟩
 |false=>exact hb e d s1 σ H1 Q I1 q1
def Jw(ha:PT X a tA):PT X (.UnaryOp .Not a pos) (Xm tA):=by
 intro d s σ H Q I h;exact isTrue_not (ha d s σ H (λc H1=>Q (!c) H1) I h)
def VB(ta tb:TE):TE:=λσ H Q=>ta σ H λx H1=>∃c,x=.bl c/\if c=true then tb σ H1 Q else Q (.bl false) H1
def Vp(ta:TE):TE:=λσ H Q=>ta σ H λx H1=>∃c,x=.bl c/\Q (.bl (!c)) H1
def Sy{op}{t:TE}(h:PE X a t):PE X (.BoolOp op [a] pos) t:=λpins s σ H Q I hw=>BoolOp_one (h pins s σ H Q I hw)
def SQ(ha:PE X a ta)(hb:PE X (.BoolOp .And (b::rest) pos) tb):PE X (.BoolOp .And (a::b::rest) pos) (VB ta tb):=by
 intro d s σ H Q I h;refine BoolOp_and (thn (ha d s σ H _ I h) λv s1 ⟨x,H1,I1,r1,e⟩=>?_);let⟨c,rfl,e⟩:=e;cases r1;refine ZN ?_;cases c with
 |true=>exact hb d s1 σ H1 Q I1 e
 |false=>exact⟨.bl false,H1,I1,rfl,e⟩
def SJ(ha:PE X a ta):PE X (.UnaryOp .Not a pos) (Vp ta):=by
 intro d s σ H Q I h;refine UnaryOp_ (thn (ha d s σ H _ I h) λv s1 ⟨x,H1,I1,r1,e⟩=>?_);let⟨c,rfl,e⟩:=e;cases r1;exact not_of (ZN ⟨.bl (!c),H1,I1,rfl,e⟩)
def tIf(t:TT)(ta tb:TE):TE:=λσ H Q=>t σ H λc H1=>if c=true then ta σ H1 Q else tb σ H1 Q
def JV{c:Zt}(hc:PT X c tA)(ha:PE X a ta)(hb:PE X b tb):PE X (.IfExp c a b pos) (tIf tA ta tb):=by
 intro e s σ H Q I h;refine wpAny_IfExp (thn (hc e s σ H _ I h) λd s1 ⟨H1,I1,q1⟩=>?_);cases d with
 |true=>exact ha e s1 σ H1 Q I1 q1
 |false=>exact hb e s1 σ H1 Q I1 q1
end
def SqL(K:W.Frag)(H:Hp)(a:Addr)(xs:List V):Prop :=
 Rd H a (.lst xs)∨
  ∃(o:Obj)(its:el)(n:Nat),K.lookup a=some o/\o.cls=.type "list"/\o.dict=none/\o.data=.seq its n/\its.size<=sizeLine/\Vals xs its.toList
def SqT(K:W.Frag)(H:Hp)(a:Addr)(xs:List V):Prop :=
 Rd H a (.tup xs)∨
  ∃(o:Obj)(its:el)(n:Nat),K.lookup a=some o/\o.cls=.type "tuple"/\o.data=.seq its n/\its.size<=sizeLine/\Vals xs its.toList
def X8:Value->Option V
 |.none=>some .non
 |.bool b=>some (.bl b)
 |.int i _=>some (.int i)
 |.str x _=>some (.str x)
 |.bytes b _=>some (.byt b)
 |.float b _=>some (.flt b)
 |.ref a=>some (.ref a)
 |.type n=>some (.ty n)
 |_=>none
def RelV.abs{x:V}{u:Value}(r:RelV x u):X8 u=some x:=by
 cases x with
 |non=>cases r;rfl
 |bl _=>cases r;rfl
 |int _=>let⟨t,rfl⟩:=r;rfl
 |str _=>let⟨t,rfl⟩:=r;rfl
 |byt _=>let⟨t,rfl⟩:=r;rfl
 |flt _=>let⟨t,rfl⟩:=r;rfl
 |ref _=>cases r;rfl
 |ty _=>cases r;rfl
def RelV.inj{x y:V}{u:Value}(r:RelV x u)(q:RelV y u):x=y:=Option.some.inj (r.abs.symm.trans q.abs)
theorem Vals.inj:∀{xs ys:List V}{us:eo},Vals xs us->Vals ys us->xs=ys
 |_,_,_,.nil,.nil=>rfl
 |_,_,_,.cons r t,.cons r' t'=>by rw[r.inj r',Vals.inj t t']
section
variable{pins:ee}{σ:St}{H:Hp}{s:Shared}{a:Addr}{xs ys:List V}
def SqL.of{K:W.Frag}(h:H a=some (.lst xs)):SqL K H a xs:=.inl (.inl h)
def SqT.of{K:W.Frag}(h:H a=some (.tup xs)):SqT K H a xs:=.inl (.inl h)
def Inv.list(I:Inv X pins σ H s)(h:SqL X.K H a xs):∃its:eo,Vals xs its/\PlainL s.heap a its.toArray/\⇑xs<=sizeLine:=by
 rcases h with h|⟨o,its,n,hk,hc,hd,hs,b,r⟩
 ·let⟨z,its,n,r,e⟩:=h.ok I.hok;exact⟨its,r,⟨_,n,e,rfl,rfl,rfl⟩,z⟩
 ·refine⟨its.toList,r,⟨o,n,I.kIn a o hk,hc,hd,↑hs⟩,?_⟩;have e:=⇑r;simp only[Array.length_toList]at e;lia
def Inv.tuple(I:Inv X pins σ H s)(h:SqT X.K H a xs):∃its:eo,Vals xs its/\IsTup s.heap a its.toArray/\⇑xs<=sizeLine:=by
 rcases h with h|⟨o,its,n,hk,hc,hs,b,r⟩
 ·let⟨z,its,r,p⟩:=h.ok I.hok;exact⟨its,r,p,z⟩
 ·refine⟨its.toList,r,⟨o,I.kIn a o hk,hc,n,↑hs⟩,?_⟩;have e:=⇑r;simp only[Array.length_toList]at e;lia
def Inv.oK(I:Inv X pins σ H s)(h:SqL X.K H a xs)(h':SqL X.K H a ys):xs=ys:=by
 let⟨its,r,⟨o,n,e,_,_,d⟩,_⟩:=I.list h;let⟨its',c,⟨o',f,b,_,_,d'⟩,_⟩:=I.list h';rw[e]at b;cases b;rw[d]at d';injection d' with d1 _;have:its=its':=↑(dV Array.toList d1)
 subst this;exact r.inj c
def Inv.lJ(I:Inv X pins σ H s)(h:SqT X.K H a xs)(h':SqT X.K H a ys):xs=ys:=by
 let⟨its,r,⟨o,e,_,n,d⟩,_⟩:=I.tuple h;let⟨its',c,⟨o',b,_,f,d'⟩,_⟩:=I.tuple h';rw[e]at b;cases b;rw[d]at d';injection d' with d1 _;have:its=its':=↑(dV Array.toList d1)
 subst this;exact r.inj c
end
abbrev Cx.wish(X:Cx)(E:d6):Cx:={ X with xe:=E }
abbrev Cx.nox(X:Cx):Cx:=X.wish λ_ _=>False
def Cx.Ok.wish{X:Cx}(ok:X.Ok)(E:d6):(X.wish E).Ok :=
 ⟨ok.mod,ok.kind,ok.glob,ok.blt,ok.above,ok.inj,ok.has,ok.cab,ok.hd,ok.frames,ok.stk,ok.exf,ok.bs,ok.bsz,ok.noex,ok.exfs,ok.mF,ok.frf,ok.sof⟩
def Cx.Ok.jH{X:Cx}{E:d6}(ok:(X.wish E).Ok):X.Ok :=
 ⟨ok.mod,ok.kind,ok.glob,ok.blt,ok.above,ok.inj,ok.has,ok.cab,ok.hd,ok.frames,ok.stk,ok.exf,ok.bs,ok.bsz,ok.noex,ok.exfs,ok.mF,ok.frf,ok.sof⟩
section
variable{pins:ee}{σ:St}{H:Hp}{s:Shared}{E:d6}
def Inv.wish(I:Inv X pins σ H s)(E:d6):Inv (X.wish E) pins σ H s:=⟨I.ok.wish E,I.os,I.bare,I.fw,I.loc,I.cell,I.free,I.freeC,I.pin,I.hok,I.len⟩
def Inv.jH(I:Inv (X.wish E) pins σ H s):Inv X pins σ H s:=⟨I.ok.jH,I.os,I.bare,I.fw,I.loc,I.cell,I.free,I.freeC,I.pin,I.hok,I.len⟩
def SP.jH{D:Ends}{f:Flow}{b:Shared}(h:SP (X.wish E) pins D f b):SP X pins D f b:=by
 cases f with
 |next=>let⟨a,H',I,q⟩:=h;exact⟨a,H',I.jH,q⟩
 |brk=>let⟨a,H',I,q⟩:=h;exact⟨a,H',I.jH,q⟩
 |cont=>let⟨a,H',I,q⟩:=h;exact⟨a,H',I.jH,q⟩
 |ret u=>let⟨v,a,H',I,r,q⟩:=h;exact⟨v,a,H',I.jH,r,q⟩
def PSs.nox{st:List ZF}{t:TS}(h:PSs X.nox st t):PSs X st t:=λpins s σ H D I hw =>
 ZG (h pins s σ H D (I.wish _) hw) (λ_ _ q=>q.jH) λ_ _ z=>False.elim z
end
section
variable{st:ZF}{rest:List ZF}{t u:TS}{e:Zt}{te:TE}{pos:Pos}
def Vq:TS:=λD σ H=>D.nx σ H
def Vm(t u:TS):TS:=λD σ H=>t { D with nx:=u D } σ H
def nJ:PSs X [] Vq:=λ_ _ σ H _ I h=>ZP ⟨σ,H,I,h⟩
def cA(h1:PS X st t)(h2:PSs X rest u):PSs X (st::rest) (Vm t u):=by
 intro a s σ H D I h;refine wpAny_execs_cons (thn (h1 a s σ H { D with nx:=u D } I h) λf s1 q=>?_);cases f with
 |next =>
  let⟨b,H',c,q⟩:=q;exact h2 a s1 b H' D c q
 |ret v=>exact q
 |brk=>exact q
 |cont=>exact q
def iG(h1:PS X st t):PSs X [st] t:=by
 intro a s σ H D I h;refine wpAny_execs_cons (thn (h1 a s σ H D I h) λf s1 q=>?_);cases f with
 |next=>exact ZP q
 |ret v=>exact q
 |brk=>exact q
 |cont=>exact q
def Inv.quiet{a:ee}{σ:St}{H:Hp}{s:Shared}(I:Inv X a σ H s):interactive X.env=false:=by simp[interactive,I.ok.kind]
def vf(te:TE):TS:=λD σ H=>te σ H λ_ H1=>D.nx σ H1
def gA(he:PE X e te)(hs:ZQ e none pos.line X.env=pure false:=by rfl):PS X (.Expr e pos) (vf te):=by
 intro a s σ H D I h;exact wpAny_Expr_any (thn (he a s σ H _ I h) λv s1 ⟨x,H1,I1,r1,q1⟩=>⟨σ,H1,I1,q1⟩) I.quiet hs
def Xl(te:TE):TS:=λD σ H=>te σ H D.rt
def jQ(he:PE X e te):PS X (.Return (some e) pos) (Xl te):=by
 intro a s σ H D I h;exact wpAny_Return_some (thn (he a s σ H _ I h) λv s1 ⟨x,H1,I1,r1,q1⟩=>⟨x,σ,H1,I1,r1,q1⟩)
def Xn(c:TT)(t u:TS):TS:=λD σ H=>c σ H λb H1=>if b=true then t D σ H1 else u D σ H1
def vq{c:Zt}{a b:List ZF}{g:TT}(hc:PT X c g)(ha:PSs X a t)(hb:PSs X b u):PS X (.If c a b pos) (Xn g t u):=by
 intro f s σ H D I h;refine wpAny_If (thn (hc f s σ H _ I h) λd s1 ⟨H1,I1,q1⟩=>?_);cases d with
 |true=>exact ha f s1 σ H1 D I1 q1
 |false=>exact hb f s1 σ H1 D I1 q1
def Ry:TS:=λ_ _ _=>False
def JC:PS X st Ry:=λ_ _ _ _ _ _ h=>h.elim
end
abbrev TG:=V->St->Hp->(St->Hp->Prop)->Prop
abbrev TGs:=List V->St->Hp->(St->Hp->Prop)->Prop
def PG(X:Cx)(a:Zt)(t:TG):Prop :=
 ∀(pins:ee)(s:Shared)(σ:St)(H:Hp)(v:V)(u:Value)(Q:St->Hp->Prop),Inv X pins σ H s->RelV v u->t v σ H Q ->
  wpAny (model X.prog X.w) X.A (ZR a X.env u) (λ_ s'=>∃σ' H',Inv X pins σ' H' s'/\Q σ' H') X.xe s
def PGs(X:Cx)(a:List Zt)(t:TGs):Prop :=
 ∀(pins:ee)(s:Shared)(σ:St)(H:Hp)(vs:List V)(us:eo)(Q:St->Hp->Prop),Inv X pins σ H s->Vals vs us->t vs σ H Q ->
  wpAny (model X.prog X.w) X.A (assignInOrder ((ZU a X.env).map (·.2)) us) (λ_ s'=>∃σ' H',Inv X pins σ' H' s'/\Q σ' H') X.xe s
abbrev Qo:=V->V->V->Hp->(Hp->Prop)->Prop
def Xa(X:Cx)(t:Qo):Prop :=
 ∀(pins:ee)(s:Shared)(σ:St)(H:Hp)(o i v:V)(ov iv u:Value)(Q:Hp->Prop),Inv X pins σ H s->RelV o ov->RelV i iv->RelV v u->t o i v H Q ->
  wpAny (model X.prog X.w) X.A (setItem ov iv u) (λ_ s'=>∃H',Inv X pins σ H' s'/\Q H') X.xe s
section
variable{pos:Pos}
def jC(i:Nat):TG:=λv σ H Q=>Q (σ.set i (some v)) H
def Dw{i:Nat}{x:Str}(hN:X.N.Nodup)(hi:X.N[i]?=some x)(c:Loc X.env.scope x)(b:X.fn x=true\/X.env.scope.names.lookup x=some .local:=by first|exact .inl rfl|exact .inr rfl|assumption):PG X (.Name x pos) (jC i):=by
 intro a s σ H v u Q I r h;exact ZV (xR I hN hi c r (λs' I'=>⟨_,H,I',h⟩) b)
def Wq:TGs:=λvs σ H Q=>vs=[]/\Q σ H
def Lp(t:TG)(u:TGs):TGs:=λvs σ H Q=>∃v r,vs=v::r/\t v σ H λσ' H'=>u r σ' H' Q
def Dv:PGs X [] Wq:=by
 intro a s σ H vs us Q I r h;let⟨e,h⟩:=h;subst e;cases r;exact assignInOrder_nil ⟨σ,H,I,h⟩
def rO{e:Zt}{es:List Zt}{t:TG}{u:TGs}(h1:PG X e t)(h2:PGs X es u)(hs:(ZU (e::es) X.env).map (·.2)=ZR e X.env::(ZU es X.env).map (·.2):=by rfl):PGs X (e::es) (Lp t u):=by
 intro a s σ H vs us Q I r h;let⟨v,c,b,h⟩:=h;subst b;cases r with
 |cons r rr =>
  rw[hs];refine assignInOrder_cons (thn (h1 a s σ H _ _ _ I r h) λ_ s1 ⟨σ1,H1,I1,q1⟩=>?_);exact h2 a s1 σ1 H1 _ _ Q I1 rr q1
def Wo(K:W.Frag)(n:Nat)(t:TGs):TG:=λv σ H Q=>∃a xs,v=.ref a/\SqT K H a xs/\⇑xs=n/\t xs σ H Q
def JL{es:List Zt}{k:Nat}{t:TGs}{n:Nat}(hc:X.calm=true)(h:PGs X es t)(hn:⇑(ZU es X.env)=n:=by rfl)(hst:(ZU es X.env).findIdx? (·.1)=none:=by rfl):PG X (.Tuple es k pos) (Wo X.K n t):=by
 intro c s σ H v u Q I r d;let⟨a,xs,i,j,hl,d⟩:=d;subst i;cases r;let⟨its,f,ht,l⟩:=I.tuple j;refine assign_Tuple_tuple (I.ok.hd hc) ht (by simp[hn,←hl,⇑f]) hst λh' hx=>?_;have g:Inv X c σ H { s with heap:=h' }:=I.kept (t':=s.toks) λb o e=>hx b o (Nat.ne_of_lt (Heap.lt_size e)) e;exact h c _ σ H xs _ Q g ↑f d
def Uc(b a:TE)(t:Qo):TG:=λv σ H Q=>b σ H λo H1=>a σ H1 λi H2=>t o i v H2 λH3=>Q σ H3
def JM{o i:Zt}{c b:TE}{t:Qo}(d:PE X o c)(hi:PE X i b)(hs:Xa X t)(ha:∀v,ZR (.Subscript o i pos) X.env v=(do
   let ov ←holding [v] (Zv o X.env)
   let iv ←holding [v,ov] (Zv i X.env)
   standAt pos
   holding [v,ov,iv] (setItem ov iv v)
   release [v,ov,iv] []):=by intro _;rfl):PG X (.Subscript o i pos) (Uc c b t):=by
 intro a s σ H v u Q I r h;rw[ha];refine wpAny_bind (ZW (thn (d a s σ H _ I h) λov s1 ⟨x,H1,I1,r1,q1⟩=>?_));refine wpAny_bind (ZW (thn (hi a s1 σ H1 _ I1 q1) λiv s2 ⟨y,H2,I2,r2,q2⟩=>?_));refine wpAny_bind (ZX (wpAny_bind (ZW (thn (hs a s2 σ H2 x y v ov iv u _ I2 r1 r2 r q2) λ_ s3 ⟨H3,I3,q3⟩=>?_))));exact wpAny_release ⟨σ,H3,I3,q3⟩
def rF(a:TE)(g:TG):TS:=λD σ H=>a σ H λx H1=>g x σ H1 D.nx
def Sq{b e:Zt}{c:TE}{g:TG}(he:PE X e c)(hg:PG X b g)(hs:swapsWithSole [b] e pos.line X.env=pure false:=by rfl)(d:swappedStores [b] e X.env=pure none:=by rfl)(h1:(ZU [b] X.env).map (·.2)=[ZR b X.env]:=by rfl):PS X (.Assign [b] e pos) (rF c g):=by
 intro a s σ H D I h;refine wpAny_Assign_stores (thn (he a s σ H _ I h) λv s1 ⟨x,H1,I1,r1,q1⟩=>?_) hs d;rw[h1];exact thn (hg a s1 σ H1 x v _ I1 r1 q1) λ_ s2 q=>q
def eN{i:Nat}{x:Str}{e:Zt}{c:TE}{a:Pos}(hN:X.N.Nodup)(hi:X.N[i]?=some x)(f:Loc X.env.scope x)(he:PE X e c)(hs:ZQ e (some (.Name x a)) pos.line X.env=pure false:=by rfl)(d:X.fn x=true\/X.env.scope.names.lookup x=some .local:=by first|exact .inl rfl|exact .inr rfl|assumption) :
  PS X (.Assign [.Name x a] e pos) (rF c (jC i)):=by
 intro b s σ H D I h;refine wpAny_Assign_Name (thn (he b s σ H _ I h) λv s1 ⟨y,H1,I1,r1,q1⟩=>?_) hs;exact xR I1 hN hi f r1 (λs2 I2=>⟨_,H1,I2,q1⟩) d
def Rw(c:TT)(a:TS):TS:=λD σ H=>∃W:Nat->St->Hp->Prop,(∃m,W m σ H)/\∀m σ H,W m σ H ->
 c σ H λb H1=>if b=true then ∃N:St->Hp->Prop,(∀σ' H',N σ' H'->∃m',m'<m/\W m' σ' H')/\a { D with nx:=N,ct:=N,bk:=D.nx } σ H1 else D.nx σ H1
def Jz{c:Zt}{g:List ZF}{t:TT}{r:TS}(hp:ZY (model X.prog X.w) X.A X.env X.xe)(hc:PT X c t)(hb:PSs X g r):PS X (.While c g [] pos) (Rw t r):=by
 intro a s σ H D I h;let⟨W,⟨x,z⟩,j⟩:=h;refine wpAny_While (codeAny_whileLoop (λn s'=>∃σ' H',Inv X a σ' H' s'/\W n σ' H') ?_ x ⟨σ,H,I,z⟩);rintro n y ⟨e,q,u,B⟩;refine ZZ hp (thn (hc a y e q _ u (j n e q B)) λb s2 ⟨H2,I2,k⟩=>?_);cases b with
 |true =>
  let⟨N,hN,k⟩:=k;rw[dP rfl];refine ZZ hp (thn (hb a s2 e H2 _ I2 k) λf s3 q3=>?_);cases f with
  |next =>
   let⟨d,i,l,o⟩:=q3;let⟨m,hm,p⟩:=hN d i o;exact⟨m,hm,d,i,l,p⟩
  |cont =>
   let⟨d,i,l,o⟩:=q3;let⟨m,hm,p⟩:=hN d i o;exact⟨m,hm,d,i,l,p⟩
  |brk=>exact q3
  |ret v=>exact q3
 |false =>
  rw[dQ Bool.false_ne_true];exact ZP ⟨e,H2,I2,k⟩
end
structure It where
 go:Nat->Hp->Prop
 yld:Nat->Hp->V->Hp->Prop
 stop:Nat->Hp->Prop
def mJ(X:Cx)(a:ee)(H:Hp)(b:Addr):Prop :=
 H b=none/\b≠X.env.locals/\b∉X.fs/\(b∈X.ex\/X.s₀.heap.objs.size<=b)/\(∀x c,X.env.cells.lookup x=some c->c≠b)/\∀p∈X.pn++a,p.1≠b
def Inv.zH{X:Cx}{a:ee}{σ:St}{H H':Hp}{s:Shared}{b:Addr}(I:Inv X a σ H s)(hb:↥s<=b)(hn:H' b=none):mJ X a H' b:=by
 refine⟨hn,Nat.ne_of_gt (Nat.lt_of_lt_of_le I.lt hb),I.XF hb,.inr (Nat.le_trans I.sz hb),λx c e z=>?_,λp hp z=>?_⟩
 ·let⟨v,q⟩:=I.cell x c e;exact dS (Nat.lt_of_lt_of_le q.lt (by rw[z];exact hb)) (Nat.lt_irrefl _)
 ·exact dS (Nat.lt_of_lt_of_le (Heap.lt_size (I.pin p hp).1) (by rw[z];exact hb)) (Nat.lt_irrefl _)
structure TurnG(Cm:Cx->Prop)(P:Za)(w:Zb)(K:W.Frag)(tg:Zt)(J:It)(fp:List Addr)(it:Addr)(tn:Nat->Heap->Prop):Prop where
 mem:it∈fp
 obj:∀i h,tn i h->∀b∈fp,∃o,h.get? b=some o/\∀v,o.data≠.cell v
 keep:∀i h h',tn i h->(∀b∈fp,∀o,h.get? b=some o->h'.get? b=some o)->tn i h'
 item:∀(X:Cx),X.prog=P->X.w=w->X.K=K->Cm X->∀(i:Nat)(pins:ee)(s:Shared)(σ:St)(H:Hp)(E:d6),Inv X pins σ H s->(∀b∈fp,mJ X pins H b)->tn i s.heap->J.go i H ->
  wpAny (model P w) X.A (Z0 (.ref it)) (λr s1=>∃u,r=some u /\
   wpAny (model P w) X.A (Z1 tg (.ref it) u) (λ_ s2=>∃x H',Inv X pins σ H' s2/\RelV x u/\J.yld i H x H'/\tn (i+1) s2.heap/\∀b∈fp,H' b=none) E s1) E s
 done:∀(X:Cx),X.prog=P->X.w=w->X.K=K->Cm X->∀(i:Nat)(pins:ee)(s:Shared)(σ:St)(H:Hp)(E:d6),Inv X pins σ H s->(∀b∈fp,mJ X pins H b)->tn i s.heap->J.stop i H ->
  wpAny (model P w) X.A (Z0 (.ref it)) (λr s1=>r=none/\Inv X pins σ H s1) E s
 self:∀(A:Zr)(i:Nat)(s:Shared)(Q:d6)(E:d6),tn i s.heap->Q (.ref it) s->wpAny (model P w) A (pyIter (.ref it)) Q E s
abbrev Turn(P:Za)(w:Zb)(K:W.Frag)(tg:Zt)(J:It)(fp:List Addr)(it:Addr)(tn:Nat->Heap->Prop):Prop:=TurnG (λX=>X.calm=true) P w K tg J fp it tn
abbrev TI:=St->Hp->(It->Hp->Prop)->Prop
def Xb(e:Cx->Prop)(X:Cx)(a:ee)(σ:St)(f:Zt)(R:It->Hp->Prop)(c:Value)(d:Shared):Prop :=
 ∃(it:Addr)(fp:List Addr)(tn:Nat->Heap->Prop)(J:It)(H':Hp),c=.ref it/\Inv X a σ H' d/\TurnG e X.prog X.w X.K f J fp it tn/\tn 0 d.heap/\(∀b∈fp,mJ X a H' b)/\R J H'
def PIG(b:Cx->Prop)(X:Cx)(c a:Zt)(d:TI):Prop :=
 ∀(pins:ee)(s:Shared)(σ:St)(H:Hp)(R:It->Hp->Prop),Inv X pins σ H s->d σ H R ->
  wpAny (model X.prog X.w) X.A (Zv a X.env) (λv s1=>wpAny (model X.prog X.w) X.A (pyIter v) (Xb b X pins σ c R) X.xe s1) X.xe s
abbrev PIE(X:Cx):=Xb (λX=>X.calm=true) X
abbrev PI(X:Cx):=PIG (λX=>X.calm=true) X
def Lg{M:ZD}{A:Zr}{E:d6}{s:Shared}{b:Zt}{it:Addr}{u:Value}{o:Obj}{n:String}{vs:el}{Q:Unit->Shared->Prop}(c:s.heap.get? it=some o)(hc:o.cls=.type n)(hd:o.data=.fields vs)(hn:["enumerate","zip","dict_itemiterator","dict_reverseitemiterator","odict_iterator","itertools.zip_longest","itertools.pairwise"].contains n=false)(a:Q .unit s):wpAny M A (Z1 b (.ref it) u) Q E s:=by
 unfold Z1;cases b <;> first
  |exact Z2 a
  | (cases u <;> first
    |exact Z2 a
    | (refine wpAny_bind (Z3 c ?_)
       rw[hc,hd];show wpAny M A (if(["enumerate","zip","dict_itemiterator","dict_reverseitemiterator","odict_iterator","itertools.zip_longest","itertools.pairwise"].contains n&&vs[0]?==some (Z4 _))=true then _ else _) Q E s;rw[dQ (by intro h;rw[hn,Bool.false_and]at h;cases h)];exact Z2 a))
def Itl(K:W.Frag)(a:Addr):It :=
 ⟨λi H=>∃xs x,SqL K H a xs/\xs[i]?=some x,λi H x H'=>H'=H/\∀xs,SqL K H a xs->xs[i]?=some x,λi H=>∃xs,SqL K H a xs/\⇑xs<=i⟩
def Itt(K:W.Frag)(a:Addr):It :=
 ⟨λi H=>∃xs x,SqT K H a xs/\xs[i]?=some x,λi H x H'=>H'=H/\∀xs,SqT K H a xs->xs[i]?=some x,λi H=>∃xs,SqT K H a xs/\⇑xs<=i⟩
def Itr(lo:Int)(n:Nat):It:=⟨λi _=>i<n,λi H x H'=>H'=H/\x=.int (lo+i),λi _=>n<=i⟩
def Gf{P:Za}{w:Zb}{K:W.Frag}{tg:Zt}(a it:Addr):Turn P w K tg (Itl K a) [it] it (λi h=>h.IsListIter it a i) where
 mem:=by simp
 obj:=λi h st b hb=>by
  have e:b=it:=↑hb
  subst e;let⟨o,e,c,d⟩:=st;exact⟨o,e,λv z=>by rw[d]at z;cases z⟩
 keep:=λi h h' st k=>st.at λo e=>k it (by simp) o e
 item:=by
  intro X hP hw hK hc i pins s σ H E I hf st hg;subst hP hw hK;let⟨xs,x,hq,hx⟩:=hg;let⟨its,rv,p,hz⟩:=I.list hq;let⟨u,hu,ru⟩:=rv.get hx;let⟨f0,f1,f2,f3,f4,f5⟩:=hf it (by simp);refine wpAny_pyNext_list_item st p.isList (x:=u) ↑hu λh' st' sb=>?_;have I1:Inv X pins σ H { s with heap:=h' }:=I.turned (t':=s.toks) (λb o hb e=>(sb.2 b hb).trans e) f0 f1 f3 f4 f5;let⟨o,e,c,d⟩:=id st';exact⟨u,rfl,Lg (s:={ s with heap:=h' }) e c d ∅ ⟨x,H,I1,ru,⟨rfl,λys hy=>by rw[I.oK hy hq];exact hx⟩,st',λb hb=>(hf b hb).1⟩⟩
 done:=by
  intro X hP hw hK hc i pins s σ H E I hf st hg;subst hP hw hK;let⟨xs,hq,hx⟩:=hg;let⟨its,rv,p,hz⟩:=I.list hq;let⟨f0,f1,f2,f3,f4,f5⟩:=hf it (by simp);have hl:=⇑rv;exact wpAny_pyNext_list_end (I.ok.hd hc) st p.isList (by simp;lia) λh' eb=>⟨rfl,I.turned (t':=s.toks) (λb o hb e=>eb b o hb e) f0 f1 f3 f4 f5⟩
 self:=λ_ _ _ _ _ st h=>wpAny_pyIter_listiter st h
def Aj{P:Za}{w:Zb}{K:W.Frag}{tg:Zt}(a it:Addr):Turn P w K tg (Itt K a) [it] it (λi h=>h.IsTupleIter it a i) where
 mem:=by simp
 obj:=λi h st b hb=>by
  have e:b=it:=↑hb
  subst e;let⟨o,e,c,d⟩:=st;exact⟨o,e,λv z=>by rw[d]at z;cases z⟩
 keep:=λi h h' st k=>st.at λo e=>k it (by simp) o e
 item:=by
  intro X hP hw hK hc i pins s σ H E I hf st hg;subst hP hw hK;let⟨xs,x,hq,hx⟩:=hg;let⟨its,rv,p,hz⟩:=I.tuple hq;let⟨u,hu,ru⟩:=rv.get hx;let⟨f0,f1,f2,f3,f4,f5⟩:=hf it (by simp);refine wpAny_pyNext_tuple_item st (show s.heap.IsTuple a its.toArray from p) (x:=u) ↑hu λh' st' sb=>?_;have I1:Inv X pins σ H { s with heap:=h' }:=I.turned (t':=s.toks) (λb o hb e=>(sb.2 b hb).trans e) f0 f1 f3 f4 f5;let⟨o,e,c,d⟩:=id st';exact⟨u,rfl,Lg (s:={ s with heap:=h' }) e c d ∅ ⟨x,H,I1,ru,⟨rfl,λys hy=>by rw[I.lJ hy hq];exact hx⟩,st',λb hb=>(hf b hb).1⟩⟩
 done:=by
  intro X hP hw hK hc i pins s σ H E I hf st hg;subst hP hw hK;let⟨xs,hq,hx⟩:=hg;let⟨its,rv,p,hz⟩:=I.tuple hq;let⟨f0,f1,f2,f3,f4,f5⟩:=hf it (by simp);have hl:=⇑rv;exact wpAny_pyNext_tuple_end (I.ok.hd hc) st (show s.heap.IsTuple a its.toArray from p) (by simp;lia) λh' eb=>⟨rfl,I.turned (t':=s.toks) (λb o hb e=>eb b o hb e) f0 f1 f3 f4 f5⟩
 self:=λ_ _ _ _ _ st h=>wpAny_pyIter_tupleiter st h
def Ak{P:Za}{w:Zb}{K:W.Frag}{tg:Zt}(it:Addr)(lo:Int)(n:Nat):Turn P w K tg (Itr lo n) [it] it (λi h=>IsRangeIter h it (lo+(i:Nat) * 1) ((n:Int) - (i:Nat)) 1) where
 mem:=by simp
 obj:=λi h st b hb=>by
  have e:b=it:=↑hb
  subst e;exact⟨_,st,λv z=>by
   have z':Data.fields _=Data.cell v:=z;cases z'⟩
 keep:=λi h h' st k=>k it (by simp) _ st
 item:=by
  intro X hP hw hK hc i pins s σ H E I hf st hg;subst hP hw hK;let⟨f0,f1,f2,f3,f4,f5⟩:=hf it (by simp);have W:=Walks.range (prog:=X.prog) (w:=X.w) (I.ok.hd hc) it lo 1 n;refine W.item i s _ _ hg st λv h' tk hv st' kk=>?_;let⟨t,rfl⟩:=hv;have I1:Inv X pins σ H { s with heap:=h',toks:=tk }:=I.turned (λb o hb e=>kk b o ↑hb e) f0 f1 f3 f4 f5;refine⟨_,rfl,Lg (s:={ s with heap:=h',toks:=tk }) (n:="range_iterator") st' rfl rfl ∅ ⟨.int (lo+i),H,I1,⟨t,?_⟩,⟨rfl,rfl⟩,st',λb hb=>(hf b hb).1⟩⟩;rw[Int.mul_one]
 done:=by
  intro X hP hw hK hc i pins s σ H E I hf st hg;subst hP hw hK;let⟨f0,f1,f2,f3,f4,f5⟩:=hf it (by simp);exact wpAny_pyNext_range_end (I.ok.hd hc) st (by have:n<=i:=hg;lia) λh' eb=>⟨rfl,I.turned (t':=s.toks) (λb o hb e=>eb b o hb e) f0 f1 f3 f4 f5⟩
 self:=λ_ _ _ _ _ st h=>wpAny_pyIter_rangeiter st h
section
variable{tg:Zt}
def Jm{a:ee}{σ:St}{H:Hp}{s:Shared}{R:It->Hp->Prop}{E:d6}{lo hi:Int}{t u v:Tok}{tk:Nat}(I:Inv X a σ H s)(h1:-(2 ^ 62)<=lo)(h2:lo<2 ^ 62)(g:-(2 ^ 62)<=hi)(h:hi<2 ^ 62)(q:R (Itr lo (hi - lo).toNat) H):wpAny (model X.prog X.w) X.A (pyIter (.ref ↥s)) (PIE X a σ tg R) E { s with heap:=s.heap.push { cls:=.type "range",data:=.fields #[.int lo t,.int hi u,.int 1 v]},toks:=tk }:=by
 refine wpAny_pyIter_range (IsRange.new ..) (small_one h1 h2 g h) ?_;have c:Inv X a σ H { s with heap:=s.heap.push { cls:=.type "range",data:=.fields #[.int lo t,.int hi u,.int 1 v]},toks:=tk }:=I.kept λb o e=>Heap.get?_push_of_some _ e;refine⟨(s.heap.push { cls:=.type "range",data:=.fields #[.int lo t,.int hi u,.int 1 v]}).objs.size,[(s.heap.push { cls:=.type "range",data:=.fields #[.int lo t,.int hi u,.int 1 v]}).objs.size],_,_,H,rfl,
  c.kept (t':=tk) λb o e=>Heap.get?_push_of_some _ e,Ak _ lo (hi - lo).toNat,?_,λb hb=>?_,q⟩
 ·have d:lo+(~~~(0)) * 1=lo:=by simp
  have f:(~~~((hi - lo).toNat)) - (~~~(0))=Builtin.Range.rangeSize lo hi 1:=by rw[Z5];split <;> lia
  show IsRangeIter _ _ (lo+(~~~(0)) * 1) ((~~~((hi - lo).toNat)) - (~~~(0))) 1;rw[d,f];exact Heap.get?_push_size _ rfl
 ·have e:b=(s.heap.push { cls:=.type "range",data:=.fields #[.int lo t,.int hi u,.int 1 v]}).objs.size:=↑hb
  subst e;exact c.zH (Nat.le_refl _) (c.hok.fresh (Nat.le_refl _))
def Wk(a:TA):TI:=λσ H R=>a σ H λvs H1=>∃j:Int,vs=[.int j]/\-(2 ^ 62)<=j/\j<2 ^ 62/\R (Itr 0 j.toNat) H1
def Gs{a:Zt}{d:TA}{p pos:Pos}(hg:Gl X "range")(hm:X.mg "range"=none)(ha:PA X [a] d)(hs:Zu [a] X.env=[(false,Zv a X.env)]:=by rfl):PI X tg (.Call (.Name "range" p) [a] [] pos) (Wk d):=by
 intro b s σ H R I h;refine Call_ (kI I hg hm boot_range (PyProof.Rows.callWith_type1 (thn (ha pos b s σ H _ I h) λus s1 ⟨vs,H1,I1,r1,c⟩=>?_) hs rfl));let⟨j,e,c,f,q⟩:=c;subst e;cases r1 with
 |cons r rr =>
  cases rr;let⟨t,rfl⟩:=r;exact call_range_1 (Jm I1 () () c f ↑q)
def Xo(b:TI)(g:TG)(a:TS):TS:=λD σ H=>b σ H λJ H1=>∃W:Nat->Nat->St->Hp->Prop,(∃m,W 0 m σ H1)/\∀i m σ H,W i m σ H ->
 (J.stop i H/\D.nx σ H)\/(J.go i H/\∃N:St->Hp->Prop,(∀σ' H',N σ' H'->∃m',m'<m/\W (i+1) m' σ' H')/\∀x H',J.yld i H x H'->g x σ H' λσ2 H2=>a { D with nx:=N,ct:=N,bk:=D.nx } σ2 H2)
def jR(a:List Addr)(h:Heap):ee:=a.filterMap λb=>(h.get? b).map λo=>(b,o)
def jw{a:List Addr}{h:Heap}{b:Addr}{o:Obj}(hb:b∈a)(e:h.get? b=some o):(b,o)∈jR a h:=List.mem_filterMap.mpr ⟨b,hb,by rw[e];rfl⟩
def vC{a:List Addr}{h:Heap}{p:Addr×Obj}(hp:p∈jR a h):p.1∈a/\h.get? p.1=some p.2:=by
 let⟨b,hb,e⟩:=List.mem_filterMap.mp hp;cases q:h.get? b with
 |none=>rw[q]at e;cases e
 |some o =>
  rw[q]at e;have c:(b,o)=p:=Option.some.inj e;subst c;exact⟨hb,q⟩
def Inv.pinned{a:ee}{σ:St}{H:Hp}{s:Shared}{c:List Addr}(I:Inv X a σ H s)(j:∀b∈c,mJ X a H b)(k:∀b∈c,∃o,s.heap.get? b=some o/\∀v,o.data≠.cell v):Inv X (a++jR c s.heap) σ H s :=
 I.qL λp hp=>(List.mem_append.mp hp).elim (λz=>I.pin p (List.mem_append_right _ z)) λz=>by
  let⟨hb,e⟩:=vC z;let⟨g,h,i,_⟩:=j p.1 hb;let⟨o,f,d⟩:=k p.1 hb;rw[e]at f;cases f;exact⟨e,g,h,i,d⟩
def Inv.nA{a pl:ee}{σ:St}{H:Hp}{s:Shared}(I:Inv X (a++pl) σ H s):Inv X a σ H s:=I.qL λp hp=>I.pin p (List.mem_append_right _ (List.mem_append_left _ hp))
def Sh{p:Zt}{y:List ZF}{V:TI}{g:TG}{S:TS}{pos:Pos}(hp:ZY (model X.prog X.w) X.A X.env X.xe)(hc:X.calm=true)(hi:PI X tg p V)(hg:PG X tg g)(hb:PSs X y S)(hs:∀x,Zx p X.env x=pure x:=by intro _;rfl):PS X (.For tg p y [] pos) (Xo V g S):=by
 intro a s σ H D I h;refine wpAny_For (thn (hi a s σ H _ I h) λv s1 h1=>thn h1 λitv s2 h2=>?_) hs;let⟨it,B,U,J,Y,e,Z,T,O,Q,W,⟨m0,w0⟩,K⟩:=h2;subst e
 -- what stays true of the iterator's objects through the loop
 have q:∀{H':Hp},(∀b∈B,H' b=none)->∀b∈B,mJ X a H' b:=λhn b hb=>⟨hn b hb,(Q b hb).2⟩
 refine codeAny_forLoop_any (λn s'=>∃i σ' H',Inv X a σ' H' s'/\U i s'.heap/\(∀b∈B,H' b=none)/\W i n σ' H') ?_ m0 ⟨0,σ,Y,Z,O,λb hb=>(Q b hb).1,w0⟩;rintro n R ⟨i,t,L,P,F,C,w3⟩;rcases K i n t L w3 with⟨G,qn⟩|⟨go,N,hN,step⟩
 ·refine ZZ hp (thn (T.done X rfl rfl rfl hc i a R t L X.xe P (q C) F G) λr s4 ⟨hr,I4⟩=>?_);subst hr;exact ZP ⟨t,L,I4,qn⟩
 ·refine ZZ hp (thn (T.item X rfl rfl rfl hc i a R t L X.xe P (q C) F go) λr s4 ⟨u,hr,h4⟩=>?_);subst hr;refine ZZ hp (thn h4 λ_ s5 ⟨x,H5,I5,r5,y5,st5,fr5⟩=>?_);have M:=I5.pinned (q fr5) (T.obj _ _ st5);refine ZZ hp (thn (hg _ s5 t H5 x u _ M r5 (step x H5 y5)) λ_ s6 ⟨σ6,H6,I6,q6⟩=>?_);refine ZZ hp (thn (hb _ s6 σ6 H6 _ I6 q6) λf s7 z=>?_);have l:∀{c:St}{j:Hp},Inv X (a++jR B s5.heap) c j s7->N c j->∃m,m<n/\∃i σ' H',Inv X a σ' H' s7/\U i s7.heap/\(∀b∈B,H' b=none)/\W i m σ' H':=λ{c j} k E=>by
   let⟨m',hm,w7⟩:=hN c j E;refine⟨m',hm,i+1,c,j,k.nA,T.keep _ _ _ st5 λb hb o e=>(k.pin (b,o) (List.mem_append_right _ (List.mem_append_right _ (jw hb e)))).1,λb hb=>?_,w7⟩;let⟨o,e,d⟩:=T.obj _ _ st5 b hb;exact(k.pin (b,o) (List.mem_append_right _ (List.mem_append_right _ (jw hb e)))).2.1
  cases f with
  |next=>let⟨c,j,k,E⟩:=z;exact l k E
  |cont=>let⟨c,j,k,E⟩:=z;exact l k E
  |brk=>let⟨c,j,k,z⟩:=z;exact⟨c,j,k.nA,z⟩
  |ret v=>let⟨x7,c,j,k,r7,z⟩:=z;exact⟨x7,c,j,k.nA,r7,z⟩
end
abbrev R2:=V->V->Hp->VK->Prop
def OpR(X:Cx)(f:Value->Value->Sem Value)(r:R2):Prop :=
 ∀(pins:ee)(s:Shared)(σ:St)(H:Hp)(x y:V)(v u:Value)(Q:VK),Inv X pins σ H s->RelV x v->RelV y u->r x y H Q ->
  wpAny (model X.prog X.w) X.A (f v u) (EP X pins σ Q) X.xe s
def fj(X:Cx)(f:Value)(r:List V->Hp->VK->Prop):Prop :=
 ∀(pins:ee)(s:Shared)(σ:St)(H:Hp)(xs:List V)(us:eo)(Q:VK),Inv X pins σ H s->Vals xs us->r xs H Q ->
  wpAny (model X.prog X.w) X.A (Z6 f us) (EP X pins σ Q) X.xe s
def Yb(X:Cx)(r:V->Hp->(Bool->Hp->Prop)->Prop):Prop :=
 ∀(pins:ee)(s:Shared)(σ:St)(H:Hp)(x:V)(v:Value)(Q:Bool->Hp->Prop),Inv X pins σ H s->RelV x v->r x H Q ->
  wpAny (model X.prog X.w) X.A (ZO v) (TP X pins σ Q) X.xe s
def tOp(r:R2)(a b:TE):TE:=λσ H Q=>a σ H λx H1=>b σ H1 λy H2=>r x y H2 Q
def rI(C:Int->Int->Prop)(g:Int->Int->V):R2:=λx y H Q=>∃i j,x=.int i/\y=.int j/\C i j/\Q (g i j) H
def rI0(g:Int->Int->V):R2:=λx y H Q=>∃i j,x=.int i/\y=.int j/\Q (g i j) H
section
variable{a b c:Zt}{ta tb tc:TE}{pos:Pos}
def U5(ha:PE X a ta)(hb:PE X b tb){d:ee}{s:Shared}{σ:St}{H:Hp}{R:V->V->Hp->Prop}(I:Inv X d σ H s)(h:ta σ H λx H1=>tb σ H1 λy H2=>R x y H2){Q:d6}{f:Value->Value->Sem Value}(e:∀v u s2 x y H2,Inv X d σ H2 s2->RelV x v->RelV y u->R x y H2->wpAny (model X.prog X.w) X.A (f v u) Q X.xe s2) :
  wpAny (model X.prog X.w) X.A (Zv a X.env) (λv s₁=>wpAny (model X.prog X.w) X.A (Zv b X.env) (λu s₂=>wpAny (model X.prog X.w) X.A (f v u) Q X.xe s₂) X.xe s₁) X.xe s:=by
 refine thn (ha d s σ H _ I h) λv s1 ⟨x,H1,I1,r1,q1⟩=>?_;refine thn (hb d s1 σ H1 _ I1 q1) λu s2 ⟨y,H2,I2,r2,q2⟩=>?_;exact e v u s2 x y H2 I2 r1 r2 q2
def dF{e:Operator}{r:R2}(f:OpR X (Z7 e) r)(ha:PE X a ta)(hb:PE X b tb):PE X (.BinOp a e b pos) (tOp r ta tb):=by
 intro d s σ H Q I h;exact wpAny_BinOp (U5 ha hb I h λv u s2 x y H2 I2 rx ry q=>f d s2 σ H2 x y v u Q I2 rx ry q)
def opI{f:Value->Value->Sem Value}{C:Int->Int->Prop}{g:Int->Int->Int}(d:∀(i j:Int)(t u:Tok)(s:Shared)(Q:d6)(E:d6),C i j->Q (.int (g i j) s.toks) { s with toks:=s.toks+1 }->wpAny (model X.prog X.w) X.A (f (.int i t) (.int j u)) Q E s) :
  OpR X f (rI C λi j=>.int (g i j)):=by
 intro e s σ H x y v u Q I k l h;let⟨i,j,rfl,rfl,hc,q⟩:=h;let⟨t,rfl⟩:=k;let⟨t',rfl⟩:=l;exact d i j t t' s _ _ hc ⟨.int (g i j),H,I.tok _,⟨_,rfl⟩,q⟩
def V4{f:Value->Value->Sem Value}{g:Int->Int->Int}(d:∀(i j:Int)(t u:Tok)(s:Shared)(Q:d6)(E:d6),Q (.int (g i j) s.toks) { s with toks:=s.toks+1 }->wpAny (model X.prog X.w) X.A (f (.int i t) (.int j u)) Q E s) :
  OpR X f (rI0 λi j=>.int (g i j)):=by
 intro e s σ H x y v u Q I k l h;let⟨i,j,rfl,rfl,q⟩:=h;let⟨t,rfl⟩:=k;let⟨t',rfl⟩:=l;exact d i j t t' s _ _ ⟨.int (g i j),H,I.tok _,⟨_,rfl⟩,q⟩
def Ox{f:Value->Value->Sem Value}{g:Int->Int->Bool}(d:∀(i j:Int)(t u:Tok)(s:Shared)(Q:d6)(E:d6),Q (.bool (g i j)) s->wpAny (model X.prog X.w) X.A (f (.int i t) (.int j u)) Q E s) :
  OpR X f (rI0 λi j=>.bl (g i j)):=by
 intro e s σ H x y v u Q I k l h;let⟨i,j,rfl,rfl,q⟩:=h;let⟨t,rfl⟩:=k;let⟨t',rfl⟩:=l;exact d i j t t' s _ _ ⟨.bl (g i j),H,I,rfl,q⟩
def U9(i j:Int):Prop:=0<j/\j<1073741824
def Ye(i j:Int):Prop:=0<=j/\j<=1000000/\i.natAbs<2 ^ 64
def HS(i j:Int):Prop:=(-(2 ^ 64)<i/\i<2 ^ 64)\/(-(2 ^ 64)<j/\j<2 ^ 64)
def HS.ok{i j:Int}(h:HS i j):IntMulOk i j:=by
 rcases h with⟨h1,h2⟩|⟨h1,h2⟩
 ·exact .of_left (Z8 h1 h2)
 ·exact .of_right (Z8 h1 h2)
def j5:OpR X (Z7 .Add) (rI0 λi j=>.int (i+j)):=V4 λ_ _ _ _ _ _ _ q=>add_int q
def S8:OpR X (Z7 .Sub) (rI0 λi j=>.int (i - j)):=V4 λ_ _ _ _ _ _ _ q=>sub_int q
def pQ:OpR X (Z7 .Mult) (rI HS λi j=>.int (i * j)):=opI λ_ _ _ _ _ _ _ hc q=>mul_int q hc.ok
def qT:OpR X (Z7 .FloorDiv) (rI U9 λi j=>.int (i / j)):=opI λi j _ _ _ _ _ hc q=>by
 have h1:(0:Int)<j:=hc.1;have h2:j<1073741824:=hc.2;exact floordiv_int () (by rw[Int.fdiv_eq_ediv_of_nonneg i ()];exact q) (.inl (PyProof.noPylong_small ()))
def j4:OpR X (Z7 .Mod) (rI (λ_ j=>0<j) λi j=>.int (i % j)):=opI λi j _ _ _ _ _ hc q=>by
 have h1:(0:Int)<j:=hc;exact mod_int' () (by rw[Int.fmod_eq_emod_of_nonneg i ()];exact q)
def Tc:OpR X (Z7 .Pow) (rI Ye λi j=>.int (i ^ j.toNat)):=opI λ_ _ _ _ _ _ _ hc q=>pow_int_small hc.1 hc.2.1 hc.2.2 q
def VG:V->V->Bool
 |.non,.non=>true|.non,.int _=>true|.int _,.non=>true|.non,.bl _=>true|.bl _,.non=>true|.non,.str _=>true|.str _,.non=>true
 |.int _,.int _=>true|.bl _,.bl _=>true|.str _,.str _=>true|.byt _,.byt _=>true
 |.int _,.str _=>true|.str _,.int _=>true|.bl _,.str _=>true|.str _,.bl _=>true
 |_,_=>false
def rEq:R2:=λx y H Q=>VG x y=true/\Q (.bl (decide (x=y))) H
def rNe:R2:=λx y H Q=>VG x y=true/\Q (.bl (!decide (x=y))) H
def Ft{i j:Int}:decide (V.int i=V.int j)=(i==j):=by
 rw[Bool.eq_iff_iff];simp
def Mp{i j:Bool}:decide (V.bl i=V.bl j)=(i==j):=by
 rw[Bool.eq_iff_iff];simp
def Fq{i j:Str}:decide (V.str i=V.str j)=(i==j):=by
 rw[Bool.eq_iff_iff];simp
def Fv{i j:Array UInt8}:decide (V.byt i=V.byt j)=(i.toList==j.toList):=by
 rw[Bool.eq_iff_iff];cases i;cases j;simp
def bD{d:ee}{σ:St}{H:Hp}{s:Shared}{Q:VK}{k f:Bool}(I:Inv X d σ H s)(q:Q (.bl k) H)(e:k=f):EP X d σ Q (.bool f) s:=by
 subst e;exact⟨.bl k,H,I,rfl,q⟩
def Kc:OpR X (ZK .Eq) rEq:=by
 intro f s σ H x y v u Q I e d h;let⟨hs,q⟩:=h;cases x with
 |non =>
  cases e;cases y with
  |non=>cases d;exact PySem.EqNone.eq_none_none (bD I q (by simp))
  |bl j=>cases d;exact PySem.EqNone.eq_none_bool (bD I q (by simp))
  |int j=>let⟨t',rfl⟩:=d;exact PySem.EqNone.eq_none_int (bD I q (by simp))
  |str j=>let⟨t',rfl⟩:=d;exact PySem.EqNone.eq_none_str (bD I q (by simp))
  |_=>exact dS (show false=true from hs) Bool.false_ne_true
 |bl i =>
  cases e;cases y with
  |non=>cases d;exact PySem.EqNone.eq_bool_none (bD I q (by simp))
  |bl j=>cases d;exact eq_bool (bD I q Mp)
  |str j=>let⟨t',rfl⟩:=d;exact PySem.EqMixed.eq_bool_str (bD I q (by simp))
  |_=>exact dS (show false=true from hs) Bool.false_ne_true
 |int i =>
  let⟨t,rfl⟩:=e;cases y with
  |non=>cases d;exact PySem.EqNone.eq_int_none (bD I q (by simp))
  |int j=>let⟨t',rfl⟩:=d;exact eq_int (bD I q Ft)
  |str j=>let⟨t',rfl⟩:=d;exact PySem.EqMixed.eq_int_str (bD I q (by simp))
  |_=>exact dS (show false=true from hs) Bool.false_ne_true
 |str i =>
  let⟨t,rfl⟩:=e;cases y with
  |non=>cases d;exact PySem.EqNone.eq_str_none (bD I q (by simp))
  |bl j=>cases d;exact PySem.EqMixed.eq_str_bool (bD I q (by simp))
  |int j=>let⟨t',rfl⟩:=d;exact PySem.EqMixed.eq_str_int (bD I q (by simp))
  |str j=>let⟨t',rfl⟩:=d;exact eq_str (bD I q Fq)
  |_=>exact dS (show false=true from hs) Bool.false_ne_true
 |byt i =>
  let⟨t,rfl⟩:=e;cases y with
  |byt j=>let⟨t',rfl⟩:=d;exact W.eq_bytes (bD I q Fv)
  |_=>exact dS (show false=true from hs) Bool.false_ne_true
 |_=>cases y <;> exact dS (show false=true from hs) Bool.false_ne_true
def QG:OpR X (ZK .NotEq) rNe:=by
 intro f s σ H x y v u Q I e d h;let⟨hs,q⟩:=h;cases x with
 |non =>
  cases e;cases y with
  |non=>cases d;exact PySem.EqNone.ne_none_none (bD I q (by simp))
  |bl j=>cases d;exact PySem.EqNone.ne_none_bool (bD I q (by simp))
  |int j=>let⟨t',rfl⟩:=d;exact PySem.EqNone.ne_none_int (bD I q (by simp))
  |str j=>let⟨t',rfl⟩:=d;exact PySem.EqNone.ne_none_str (bD I q (by simp))
  |_=>exact dS (show false=true from hs) Bool.false_ne_true
 |bl i =>
  cases e;cases y with
  |non=>cases d;exact PySem.EqNone.ne_bool_none (bD I q (by simp))
  |bl j=>cases d;exact ne_bool (bD I q (dV not Mp))
  |str j=>let⟨t',rfl⟩:=d;exact PySem.EqMixed.ne_bool_str (bD I q (by simp))
  |_=>exact dS (show false=true from hs) Bool.false_ne_true
 |int i =>
  let⟨t,rfl⟩:=e;cases y with
  |non=>cases d;exact PySem.EqNone.ne_int_none (bD I q (by simp))
  |int j=>let⟨t',rfl⟩:=d;exact ne_int (bD I q (dV not Ft))
  |str j=>let⟨t',rfl⟩:=d;exact PySem.EqMixed.ne_int_str (bD I q (by simp))
  |_=>exact dS (show false=true from hs) Bool.false_ne_true
 |str i =>
  let⟨t,rfl⟩:=e;cases y with
  |non=>cases d;exact PySem.EqNone.ne_str_none (bD I q (by simp))
  |bl j=>cases d;exact PySem.EqMixed.ne_str_bool (bD I q (by simp))
  |int j=>let⟨t',rfl⟩:=d;exact PySem.EqMixed.ne_str_int (bD I q (by simp))
  |str j=>let⟨t',rfl⟩:=d;exact ne_str (bD I q (dV not Fq))
  |_=>exact dS (show false=true from hs) Bool.false_ne_true
 |byt i =>
  let⟨t,rfl⟩:=e;cases y with
  |byt j=>let⟨t',rfl⟩:=d;exact W.ne_bytes (bD I q (dV not Fv))
  |_=>exact dS (show false=true from hs) Bool.false_ne_true
 |_=>cases y <;> exact dS (show false=true from hs) Bool.false_ne_true
def DW:OpR X (ZK .Lt) (rI0 λi j=>.bl (decide (i<j))):=Ox λ_ _ _ _ _ _ _ q=>Z9 q
def J2:OpR X (ZK .LtE) (rI0 λi j=>.bl (decide (i<=j))):=Ox λ_ _ _ _ _ _ _ q=>le_int q
def J7:OpR X (ZK .Gt) (rI0 λi j=>.bl (decide (j<i))):=Ox λ_ _ _ _ _ _ _ q=>gt_int q
def QJ:OpR X (ZK .GtE) (rI0 λi j=>.bl (decide (j<=i))):=Ox λ_ _ _ _ _ _ _ q=>ge_int q
def J6:OpR X (ZK .Is) (λx y H Q=>y=.non/\Q (.bl (decide (x=.non))) H):=by
 intro d s σ H x y v u Q I e f h;let⟨rfl,q⟩:=h;cases f;refine is_none_gen (bD I q ?_);cases x <;> first
  |(cases e;rfl)
  |(let⟨t,rfl⟩:=e;rfl)
def Ou:OpR X (ZK .IsNot) (λx y H Q=>y=.non/\Q (.bl (!decide (x=.non))) H):=by
 intro d s σ H x y v u Q I e f h;let⟨rfl,q⟩:=h;cases f;refine isnot_none_gen (bD I q ?_);cases x <;> first
  |(cases e;rfl)
  |(let⟨t,rfl⟩:=e;rfl)
def dg(b:Zt){d:ZJ}(h:d≠.In:=by decide)(h2:d≠.NotIn:=by decide):ZL d b=false:=by
 have e:(d==CmpOp.In)=false:=by cases d <;> first|rfl|exact dS rfl h
 have f:(d==CmpOp.NotIn)=false:=by cases d <;> first|rfl|exact dS rfl h2
 cases b <;> simp[ZL,e,f]
def DN{e:ZJ}{r:R2}(f:OpR X (ZK e) r)(ha:PE X a ta)(hb:PE X b tb)(hm:ZL e b=false):PE X (.Compare a [e] [b] pos) (tOp r ta tb):=by
 intro d s σ H Q I h;exact wpAny_Compare1 (U5 ha hb I h λv u s2 x y H2 I2 rx ry q=>f d s2 σ H2 x y v u Q I2 rx ry q) hm
def Io(t:TE):TT:=λσ H Q=>t σ H λx H'=>∃k,x=.bl k/\Q k H'
def nH{f:ZJ}{r:R2}(g:OpR X (ZK f) r)(ha:PE X a ta)(hb:PE X b tb)(hm:ZL f b=false):PT X (.Compare a [f] [b] pos) (Io (tOp r ta tb)):=by
 intro d s σ H Q I h;refine ZM (thn (ha d s σ H _ I h) λv s1 ⟨x,H1,I1,r1,q1⟩=>thn (hb d s1 σ H1 _ I1 q1) λu s2 ⟨y,H2,I2,r2,q2⟩ =>
  thn (g d s2 σ H2 x y v u _ I2 r1 r2 q2) λc s3 ⟨z,H3,I3,r3,k,e,q3⟩=>?_) hm
 subst e;cases r3;exact ZN ⟨H3,I3,q3⟩
def rE(r d:R2)(ta tb tc:TE):TE:=λσ H Q=>ta σ H λx H1=>tb σ H1 λy H2=>r x y H2 λz H3=>∃k,z=.bl k /\
 (if k=true then tc σ H3 λw' H4=>d y w' H4 Q else Q (.bl false) H3)
def JX{j g:ZJ}{r l:R2}(m:OpR X (ZK j) r)(i:OpR X (ZK g) l)(ha:PE X a ta)(hb:PE X b tb)(hc:PE X c tc)(hm:Yl [j,g] [b,c]=false:=by with_unfolding_all rfl):PE X (.Compare a [j,g] [b,c] pos) (rE r l ta tb tc):=by
 intro f s σ H Q I h;refine Compare_chain (thn (ha f s σ H _ I h) λv s1 ⟨x,H1,I1,r1,q1⟩=>chain_link (thn (hb f s1 σ H1 _ I1 q1) λu s2 ⟨y,H2,I2,r2,q2⟩ =>
  thn (m f s2 σ H2 x y v u _ I2 r1 r2 q2) λd s3 ⟨z,H3,I3,r3,k,e,q3⟩=>?_)) hm
 subst e;cases r3;refine ZN ?_;cases k with
 |false=>exact ite_ff ⟨.bl false,H3,I3,rfl,q3⟩
 |true=>exact ite_tt (chain_last (thn (hc f s3 σ H3 _ I3 q3) λw' s4 ⟨z',H4,I4,r4,q4⟩=>i f s4 σ H4 y z' u w' Q I4 r2 r4 q4))
def Jx{j g:ZJ}{r l:R2}(n:OpR X (ZK j) r)(i:OpR X (ZK g) l)(ha:PE X a ta)(hb:PE X b tb)(hc:PE X c tc)(hm:Yl [j,g] [b,c]=false:=by with_unfolding_all rfl):PT X (.Compare a [j,g] [b,c] pos) (Io (rE r l ta tb tc)):=by
 intro f s σ H Q I h;refine isTrue_chain (thn (ha f s σ H _ I h) λv s1 ⟨x,H1,I1,r1,q1⟩=>test_link (thn (hb f s1 σ H1 _ I1 q1) λu s2 ⟨y,H2,I2,r2,q2⟩ =>
  thn (n f s2 σ H2 x y v u _ I2 r1 r2 q2) λd s3 ⟨z,H3,I3,r3,k,e,q3⟩=>?_)) hm
 subst e;cases r3;refine ZN ?_;cases k with
 |false =>
  let⟨p,m,o⟩:=q3;cases m;exact ite_ff ⟨H3,I3,o⟩
 |true =>
  refine ite_tt (test_last (thn (hc f s3 σ H3 _ I3 q3) λw' s4 ⟨z',H4,I4,r4,q4⟩=>thn (i f s4 σ H4 y z' u w' _ I4 r2 r4 q4) λd' s5 ⟨z2,H5,I5,r5,k2,e2,q5⟩=>?_));subst e2;cases r5;exact ZN ⟨H5,I5,q5⟩
def W9(K:W.Frag)(x:V)(H:Hp)(k:Bool):Prop :=
 match x with
 |.non=>k=false
 |.bl b=>k=b
 |.int i=>k=(i != 0)
 |.str y=>⇑y<=sizeLine/\k=((⇑y:Int) != 0)
 |.byt y=>y.size<=sizeLine/\k=((y.size:Int) != 0)
 |.ref p=>(∃xs,SqL K H p xs/\k=!xs.isEmpty)\/(∃xs,SqT K H p xs/\k=!xs.isEmpty)\/∃kvs,H p=some (.dK kvs)/\k=!kvs.isEmpty
 |_=>False
def Bx{κ:Type}{d:List (κ×V)}{vs:List (κ×Value)}(r:KV d vs):(!vs.isEmpty)=!d.isEmpty:=by
 cases r <;> rfl
def tR{xs:List V}{its:eo}(r:Vals xs its):(!its.toArray.isEmpty)=!xs.isEmpty:=by
 cases r <;> simp
def wJ:(sizeLine:Nat)<2 ^ 63:=by rw[Ym];decide
def Ru:Yb X (λx H Q=>∃k,W9 X.K x H k/\Q k H):=by
 intro o s σ H x v Q I j h;let⟨k,e,q⟩:=h;have hl:=wJ;have hs:sizeLine=16777216:=Ym;cases x with
 |non =>
  cases j;have d:k=false:=e;subst d;exact truthy_none ⟨H,I,q⟩
 |bl b =>
  cases j;have d:k=b:=e;subst d;exact ZN ⟨H,I,q⟩
 |int i =>
  let⟨t,rfl⟩:=j;have d:k=(i != 0):=e;subst d;exact PySem.P.truthy_int ⟨H,I,q⟩
 |str y =>
  let⟨t,rfl⟩:=j;obtain⟨z,d⟩:⇑y<=sizeLine/\k=((⇑y:Int) != 0):=e;subst d;exact PySem.P.truthy_str () ⟨H,I.tok _,q⟩
 |byt y =>
  let⟨t,rfl⟩:=j;obtain⟨z,d⟩:y.size<=sizeLine/\k=((y.size:Int) != 0):=e;subst d;exact W.truthy_bytes () ⟨H,I.tok _,q⟩
 |ref p =>
  cases j;have d:(∃xs,SqL X.K H p xs/\k=!xs.isEmpty)\/(∃xs,SqT X.K H p xs/\k=!xs.isEmpty)\/∃f,H p=some (.dK f)/\k=!f.isEmpty:=e;rcases d with⟨xs,l,d⟩|⟨xs,l,d⟩|⟨f,l,d⟩
  ·subst d;let⟨its,r,pl,n⟩:=I.list l;have g:=⇑r;exact wpAny_truthy_list pl.isList (by simp only[List.size_toArray];lia) ⟨H,I.tok _,by rw[tR r];exact q⟩
  ·subst d;let⟨its,r,pl,n⟩:=I.tuple l;have g:=⇑r;exact truthy_tuple pl (by simp only[List.size_toArray];lia) ⟨H,I.tok _,by rw[tR r];exact q⟩
  ·subst d;obtain⟨n,u,vs,r,m⟩:⇑f<=sizeLine/\(p==Zn)=false/\∃vs,KV f vs/\s.heap.DictOf (cj X.prog X.w) p vs:=I.hok p _ l;have g:⇑f=⇑vs:=Paired.length r;exact wpAny_truthy_dict u m () ⟨H,I.tok _,by rw[Bx r];exact q⟩
 |_=>exact(show False from e).elim
def Jv(ha:PE X a ta)(he:∀whole,ZE a X.env whole=(do let v ←whole;standAt a.pos;holding [v] (ZO v))) :
  PT X a (λσ H Q=>ta σ H λx H'=>∃k,W9 X.K x H' k/\Q k H'):=by
 intro d s σ H Q I h;exact isTrue_plain (thn (ha d s σ H _ I h) λv s1 ⟨x,H1,I1,r1,q1⟩=>Ru d s1 σ H1 x v Q I1 r1 q1) (he _)
def vals1{x:V}{us:eo}(r:Vals [x] us):∃u,us=[u]/\RelV x u:=by
 cases r with
 |cons d e=>cases e;exact⟨_,rfl,d⟩
def vals2{x y:V}{us:eo}(r:Vals [x,y] us):∃u w',us=[u,w']/\RelV x u/\RelV y w':=by
 cases r with
 |cons r1 r2 =>
  cases r2 with
  |cons d e=>cases e;exact⟨_,_,rfl,r1,d⟩
def uH:fj X (.builtin "abs") (λxs H Q=>∃i,xs=[.int i]/\Q (.int (if i<0 then -i else i)) H):=by
 intro d s σ H xs us Q I r h;let⟨i,rfl,q⟩:=h;let⟨u,rfl,t,rfl⟩:=vals1 r;exact call_abs_int λu tk=>⟨.int (if i<0 then -i else i),H,I.tok _,⟨_,rfl⟩,q⟩
def Hy(hc:X.calm=true):fj X (.builtin "max") (λxs H Q=>∃i j,xs=[.int i,.int j]/\Q (.int (if j > i then j else i)) H):=by
 intro e s σ H xs us Q I r h;let⟨i,j,rfl,q⟩:=h;let⟨u,f,rfl,⟨t,rfl⟩,⟨t',rfl⟩⟩:=vals2 r;refine max_two_ints (I.ok.hd hc) λh' tk k=>⟨_,H,I.kept k,?_,q⟩
 by_cases d:j > i
 ·rw[dP d,dP d];exact⟨_,rfl⟩
 ·rw[dQ d,dQ d];exact⟨_,rfl⟩
def Hx(hc:X.calm=true):fj X (.builtin "min") (λxs H Q=>∃i j,xs=[.int i,.int j]/\Q (.int (if j<i then j else i)) H):=by
 intro e s σ H xs us Q I r h;let⟨i,j,rfl,q⟩:=h;let⟨u,f,rfl,⟨t,rfl⟩,⟨t',rfl⟩⟩:=vals2 r;refine min_two_ints (I.ok.hd hc) λh' tk k=>⟨_,H,I.kept k,?_,q⟩
 by_cases d:j<i
 ·rw[dP d,dP d];exact⟨_,rfl⟩
 ·rw[dQ d,dQ d];exact⟨_,rfl⟩
def Hz:fj X (.type "int") (λxs H Q=>(∃i,xs=[.int i]/\Q (.int i) H)\/∃k,xs=[.bl k]/\Q (.int (if k then 1 else 0)) H):=by
 intro d s σ H xs us Q I r h;rcases h with⟨i,rfl,q⟩|⟨k,rfl,q⟩
 ·let⟨u,rfl,t,rfl⟩:=vals1 r;exact call_int_int ⟨.int i,H,I,⟨_,rfl⟩,q⟩
 ·let⟨u,rfl,e⟩:=vals1 r;cases e;exact call_int_bool ⟨.int (if k then 1 else 0),H,I.tok _,⟨_,rfl⟩,q⟩
end
structure ObjM(h:Heap)(x dx C:Addr)(mA:Str->ew):Prop where
 obj:h.get? x=some (W.instObj C dx)
 ns:h.Ns1 dx mA
 ne:dx≠x
def G3{h:Heap}{c:Addr}{d:Str->ew}(n:h.Ns1 c d):∃od,h.get? c=some od/\∀name,W.lookIn name od=some (d name):=by
 let⟨o,es,ep,g,hd,hk,_,hm⟩:=n;refine⟨o,g,λname=>?_⟩;have e:=hm name;unfold nsFind findBy at e;rw[←Array.find?_toList]at e;unfold W.lookIn;rw[hd];dsimp only;split
 ·rename_i y q;rw[q]at e;exact dV some e
 ·rename_i q;rw[q]at e;have a:es.toList.any (·.refKey)=false:=by
   rw[List.any_eq_false];intro y i;let⟨z,t,b⟩:=hk y (Array.mem_toList_iff.mp i);simp[DictEntry.refKey,b]
  have f:¬es.toList.any (·.refKey)=true:=by rw[a];exact Bool.false_ne_true
  rw[dQ f];exact dV some e
def ObjM.look{h:Heap}{x a C:Addr}{b:Str->ew}(I:ObjM h x a C b):∃od,W.InstAt h x (W.instObj C a) C (some od)/\∀name,W.lookIn name od=some (b name) :=
 let⟨od,ho,hl⟩:=G3 I.ns
 ⟨od,⟨I.obj,rfl,rfl,ho⟩,hl⟩
section
variable{prog:Za}{w:Zb}{A:Zr}{E:d6}{s:Shared}{K:W.Frag}{x dx C f:Addr}{mA:Str->ew}{name:Str}{v:Value}
def get_map{a:Bool}{Q:d6}(X:K.In s.heap)(I:ObjM s.heap x dx C mA)(hg:W.plainGet K C name=true)(hh:W.hasDictIn K C=true)(ha:W.findIn K (.ref C) name=some none)(hv:mA name=some v)(b:W.handedIn v=true)(h:Q v { s with toks:=s.toks+1 }) :
  wpAny (model prog w) A (getAttr (.ref x) name a) Q E s:=by
 let⟨c,J,hl⟩:=I.look;exact W.get_value X J (W.plainGet_of hg).1 (W.findObj_own hh ha rfl (by rw[hl,hv])) b h
def Lh{pl:Sem Bool}{Q:Value×eo->Shared->Prop}(X:K.In s.heap)(I:ObjM s.heap x dx C mA)(hg:W.plainGet K C name=true)(a:W.findIn K (.ref C) name=some (some (.ref f)))(ht:W.isFn K (.ref f)=true)(hv:mA name=none)(h:Q (.ref f,[.ref x]) s) :
  wpAny (model prog w) A (Yn (.ref x) name pl) Q E s:=by
 let⟨b,J,hl⟩:=I.look;exact W.method_fn X J (W.plainGet_of hg).1 (W.plainGet_of hg).2 a (beq_iff_eq.mp ht) (by show(W.lookIn name b).map (·.isSome)=some false;rw[hl,hv];rfl) h
def NK{ns:List Str}{Q:Unit->Shared->Prop}(X:K.In s.heap)(I:ObjM s.heap x dx C mA)(hs:W.findIn K (.ref C) "__setattr__"=some (some (.builtin "object.__setattr__")))(hp:W.plainOver K C=true)(ht:W.takerIn K C name=some none)(hh:W.hasDictIn K C=true)(k:PySem.Within mA ns)(hsz:⇑ns<=sizeLine)(h:∀h',ObjM h' x dx C (λy=>if y=name then some v else mA y)->Heap.SameBut dx s.heap h'->Q .unit { s with heap:=h',toks:=s.toks+2 }) :
  wpAny (model prog w) A (setAttr (.ref x) name v) Q E s:=by
 let⟨o,J,hl⟩:=I.look;refine W.set_plain X J hs (W.osa_open (s:={ s with toks:=s.toks+1 }) (r:=none) X J hp ht λb=>?_);let⟨m,hc,d⟩:=W.any_some hh;have l:s.heap.get? x=some ⟨.ref C,some dx,.plain,#[]⟩:=I.obj;refine wpAny_bind (Z2 (wpAny_bind (wpAny_bind (wpAny_loadPart l (wpAny_bind (W.Looks.here (s:={ s with toks:=s.toks+1 }) (W.looks_clsIn X hc) ?_))))));rw[d];refine Z2 (a:=some dx) (wpAny_bind (Z2 (wpAny_bind ?_)));refine wpAny_nsSet1 (s:={ s with toks:=s.toks+1 }) I.ns λh' hn2 hs2=>?_;let⟨n,j,i,g,e,c⟩:=hn2.count (PySem.Within.cons name v k);refine wpAny_bind (wpAny_lookBehind g (by rw[e];exact pastItsLine_dict (Nat.le_trans c (by rw[List.length_cons];lia))) ?_);exact Z2 (h _ ⟨(hs2.2 _ (Ne.symm I.ne)).trans I.obj,hn2,I.ne⟩ hs2)
def Kv{R:Result->Shared->Prop}{vs:eo}{a:List (Str×Value)}(X:K.In s.heap)(hm:W.makesIn K C=true)(hi:W.findIn K (.ref C) "__init__"=some (some (.ref f)))(b:W.typeIn K (.ref f)=some (.type "function"))(h:Yo (model prog w) (A.under (.builtin "type.__call__" ⟨.ref C::vs,a⟩)) (.call (.ref f) ⟨.ref (↥s+1)::vs,a⟩) (W.InitBack (↥s+1) R)
   { s with heap:=(s.heap.push W.emptyDict).push (W.instObj C ↥s)}) :
  Yo (model prog w) A (.call (.ref C) ⟨vs,a⟩) R s:=by
 let⟨hh,g,d,t,c⟩:=s;exact W.make_core (W.makes_of X hm) (W.looks_findIn X hi) (λself=>W.bind_fn X self b) (.inl rfl) h
end
def eG(f:Str)(v:V):List (Str×V)->List (Str×V)
 |[]=>[(f,v)]
 |(g,x)::r=>if g=f then(g,v)::r else(g,x)::eG f v r
theorem qw(f g:Str)(v:V):∀fs:List (Str×V),(eG f v fs).lookup g=if g=f then some v else fs.lookup g
 |[]=>by
  show List.lookup g [(f,v)]=_;by_cases h:g=f
  ·have hb:(g==f)=true:=beq_iff_eq.mpr h;simp only[List.lookup,hb,dP h]
  ·have hb:(g==f)=false:=beq_eq_false_iff_ne.mpr h;simp only[List.lookup,hb,dQ h]
 |(k,x)::r=>by
  have a:=qw f g v r;rw[show eG f v ((k,x)::r)=(if k=f then(k,v)::r else(k,x)::eG f v r)from rfl];by_cases hk:k=f
  ·rw[dP hk];by_cases h:g=k
   ·have hb:(g==k)=true:=beq_iff_eq.mpr h;simp only[List.lookup,hb,dP (h.trans hk)]
   ·have hb:(g==k)=false:=beq_eq_false_iff_ne.mpr h;simp only[List.lookup,hb,dQ (λe:g=f=>h (e.trans hk.symm))]
  ·rw[dQ hk];by_cases h:g=k
   ·have hb:(g==k)=true:=beq_iff_eq.mpr h;simp only[List.lookup,hb,dQ (λe:g=f=>hk (h.symm.trans e))]
   ·have hb:(g==k)=false:=beq_eq_false_iff_ne.mpr h;simp only[List.lookup,hb];exact a
theorem p8(f:Str)(v:V):∀fs:List (Str×V),f∈(eG f v fs).map (·.1)/\∀g,g∈fs.map (·.1)->g∈(eG f v fs).map (·.1)
 |[]=>⟨by simp[eG],λg h=>by simp at h⟩
 |(k,x)::r=>by
  let⟨a,b⟩:=p8 f v r;rw[show eG f v ((k,x)::r)=(if k=f then(k,v)::r else(k,x)::eG f v r)from rfl];by_cases hk:k=f
  ·rw[dP hk];subst hk;exact⟨by simp,λg h=>↑h⟩
  ·rw[dQ hk];refine⟨?_,λg h=>?_⟩
   ·rw[List.map_cons];exact List.mem_cons_of_mem _ a
   ·rw[List.map_cons]at h ⊢;rcases List.mem_cons.mp h with e|e
    ·exact List.mem_cons.mpr (.inl e)
    ·exact List.mem_cons_of_mem _ (b g e)
theorem qx(f:Str)(v:V):∀fs:List (Str×V),⇑(eG f v fs)<=⇑fs+1
 |[]=>by simp[eG]
 |(k,x)::r=>by
  have a:=qx f v r;rw[show eG f v ((k,x)::r)=(if k=f then(k,v)::r else(k,x)::eG f v r)from rfl];by_cases hk:k=f
  ·rw[dP hk,List.length_cons,List.length_cons];lia
  ·rw[dQ hk,List.length_cons,List.length_cons];lia
def mH.some_of{v:V}{o:ew}(r:mH (some v) o):∃u,o=some u/\RelV v u:=by
 cases o with
 |none=>exact(show False from r).elim
 |some u=>exact⟨u,rfl,r⟩
def mH.none_of{o:ew}(r:mH none o):o=none:=by
 cases o with
 |none=>rfl
 |some u=>exact(show False from r).elim
def Hl{v:V}{u:Value}(r:RelV v u):W.handedIn u=true:=by
 cases v with
 |non=>cases (show u=Value.none from r);rfl
 |bl b=>cases (show u=Value.bool b from r);rfl
 |int i=>let⟨t,e⟩:=(show ∃t,u=Value.int i t from r);cases e;rfl
 |str x=>let⟨t,e⟩:=(show ∃t,u=Value.str x t from r);cases e;rfl
 |byt b=>let⟨t,e⟩:=(show ∃t,u=Value.bytes b t from r);cases e;rfl
 |flt b=>let⟨t,e⟩:=(show ∃t,u=Value.float b t from r);cases e;rfl
 |ref a=>cases (show u=Value.ref a from r);rfl
 |ty n=>cases (show u=Value.type n from r);rfl
section
variable{P:Za}{w:Zb}{H H':Hp}{h h':Heap}{a C dx:Addr}{fs fs':List (Str×V)}
def oV(b:HOk P w H h)(e:H a=some (.ins C dx fs)):∃mA,ObjM h a dx C mA/\(∀f,mH (fs.lookup f) (mA f))/\PySem.Within mA (fs.map (·.1))/\⇑fs<=1000/\H dx=some (.own a):=by
 let⟨d,z,c,g,mA,n,r,q⟩:=(show bQ P w H h a (.ins C dx fs)from b a _ e)
 exact⟨mA,⟨g,n,c⟩,r,q,z,d⟩
end
structure Cls(K:W.Frag)(C:Addr):Prop where
 pg:W.plainGet K C Str.empty=true
 hd:W.hasDictIn K C=true
 po:W.plainOver K C=true
 sa:W.findIn K (.ref C) "__setattr__"=some (some (.builtin "object.__setattr__"))
def Cls.get{K:W.Frag}{C:Addr}(c:Cls K C)(f:Str):W.plainGet K C f=true:=c.pg
def fH(K:W.Frag)(C:Addr)(f:Str):Prop:=W.findIn K (.ref C) f=some none
def fH.taker{K:W.Frag}{C:Addr}{f:Str}(n:fH K C f):W.takerIn K C f=some none:=by
 unfold W.takerIn;rw[show W.findIn K (.ref C) f=some none from n];rfl
structure Con(K:W.Frag)(C:Addr)(f:Str)(v:V)(u:Value):Prop where
 at_:W.findIn K (.ref C) f=some (some u)
 rel:RelV v u
 get:W.specialIn K u "__get__"=some none
 cp:W.copiedNames.contains f=false
structure Meth(K:W.Frag)(C:Addr)(m:Str)(f:Addr):Prop where
 at_:W.findIn K (.ref C) m=some (some (.ref f))
 fn:W.isFn K (.ref f)=true
 kp:W.keepIn K (.ref f)=true
section
variable{pins:ee}{σ:St}{H:Hp}{s:Shared}{a C dx:Addr}{fs:List (Str×V)}{f:Str}{v:V}{A:Zr}{E:d6}
def BL{b:Bool}{Q:d6}(I:Inv X pins σ H s)(e:H a=some (.ins C dx fs))(c:Cls X.K C)(n:fH X.K C f)(l:fs.lookup f=some v)(h:∀u s',Inv X pins σ H s'->RelV v u->Q u s'):wpAny (model X.prog X.w) A (getAttr (.ref a) f b) Q E s:=by
 let⟨g,O,r,_,_,_⟩:=oV I.hok e;let⟨u,hu,d⟩:=mH.some_of (v:=v) (o:=g f) (by rw[←l];exact r f);exact get_map I.kIn O (c.get f) c.hd n hu (Hl d) (h u _ (I.tok _) d)
def mZ{m:Str}{g:Addr}{pl:Sem Bool}{Q:Value×eo->Shared->Prop}(I:Inv X pins σ H s)(e:H a=some (.ins C dx fs))(c:Cls X.K C)(k:Meth X.K C m g)(l:fs.lookup m=none)(h:Q (.ref g,[.ref a]) s):wpAny (model X.prog X.w) A (Yn (.ref a) m pl) Q E s:=by
 let⟨b,O,r,_,_,_⟩:=oV I.hok e;have hn:b m=none:=mH.none_of (by rw[←l];exact r m);exact Lh I.kIn O (c.get m) k.at_ k.fn hn h
def Ay{y:V}{u:Value}{Q:Unit->Shared->Prop}(I:Inv X pins σ H s)(e:H a=some (.ins C dx fs))(c:Cls X.K C)(n:fH X.K C f)(hl:⇑fs<1000)(l:RelV y u)(h:∀s',Inv X pins σ (upd H a (.ins C dx (eG f y fs))) s'->Q .unit s'):wpAny (model X.prog X.w) A (setAttr (.ref a) f u) Q E s:=by
 let⟨i,O,r,j,_,d⟩:=oV I.hok e;have k:⇑(fs.map (·.1))<=sizeLine:=by rw[List.length_map,Ym];lia
 refine NK I.kIn O c.sa c.po n.taker c.hd j k λh' O' m=>h _ ?_;have hd:∃o,h'.get? dx=some o:=let⟨o,_,_,e',_⟩:=O'.ns;⟨o,e'⟩
 refine I.write (x:=a) (e:=dx) (by rw[e];exact True.intro) (.inr d) (λb q hb z=>(m.2 b hb).trans z) hd ?_;refine⟨by rw[ao O.ne];exact d,?_,O.ne,O'.obj,_,O'.ns,λg=>?_,λg hg=>?_⟩
 ·have:=qx f y fs;lia
 ·show mH ((eG f y fs).lookup g) (if g=f then some u else i g);rw[qw];by_cases q:g=f
  ·rw[dP q,dP q];exact l
  ·rw[dQ q,dQ q];exact r g
 ·by_cases q:g=f
  ·rw[q];exact(p8 f y fs).1
  ·refine(p8 f y fs).2 g (j g λz=>hg ?_);show(if g=f then some u else i g)=none;rw[dQ q];exact z
def Inv.made(I:Inv X pins σ H s):Inv X pins σ (upd (upd H ↥s (.own (↥s+1))) (↥s+1) (.ins C ↥s []))
  { s with heap:=(s.heap.push W.emptyDict).push (W.instObj C ↥s)}:=by
 have c:(s.heap.push W.emptyDict).get? ↥s=some W.emptyDict:=Heap.get?_push_size s.heap rfl;have h:((s.heap.push W.emptyDict).push (W.instObj C ↥s)).get? (↥s+1)=some (W.instObj C ↥s):=by
  have:=Heap.get?_push_size (s.heap.push W.emptyDict) (o:=W.instObj C ↥s) rfl
  rwa [Heap.size_push]at this
 have i:(s.heap.push W.emptyDict).Ns ↥s (λ_=>none):=⟨W.emptyDict,#[],_,c,rfl,(λe he=>dS he (by simp)),λ_=>rfl⟩
 have g:=I.laid (a:=↥s) (o:=.own (↥s+1)) (h':=s.heap.push W.emptyDict) (t':=s.toks) (λb u q=>Heap.get?_push_of_some _ q) (Nat.le_refl _) ⟨_,c⟩;refine g.laid (a:=↥s+1) (o:=.ins C ↥s []) (t':=s.toks) (λb u q=>Heap.get?_push_of_some _ q) (Nat.le_of_eq (Heap.size_push _ _)) ?_;have d:↥s≠↥s+1:=Nat.ne_of_lt (Nat.lt_succ_self _);refine⟨by rw[ao d,aB],Nat.zero_le _,d,h,λ_=>none,(Heap.Ns1.of_empty i).at λo q=>Heap.get?_push_of_some _ q,λ_=>True.intro,λy j=>dS rfl j⟩
def Ql{prog:Za}{w:Zb}{env:Env}{e:Zt}{f:Str}{pos:Pos}{s:Shared}{Q:d6}(hb:Yp e f env (Zv e env)=Zv e env)(h:wpAny (model prog w) A (Zv e env) (λo s₁=>wpAny (model prog w) A (getAttr o f true) Q E s₁) E s):wpAny (model prog w) A (Zv (.Attribute e f pos) env) Q E s :=
 Attribute_any_ h (by rw[arm_eval_Attribute,hb])
end
def Xp(K:W.Frag)(b:TE)(f:Str):TE:=λσ H Q=>b σ H λx H1=>∃a C dx fs v,x=.ref a/\H1 a=some (.ins C dx fs)/\Cls K C/\fH K C f/\fs.lookup f=some v/\Q v H1
def Xq(K:W.Frag)(b c:TE)(f:Str):TS:=λD σ H=>c σ H λy H1=>b σ H1 λx H2=>∃a C dx fs,x=.ref a/\H2 a=some (.ins C dx fs)/\Cls K C/\fH K C f/\⇑fs<1000 /\
 D.nx σ (upd H2 a (.ins C dx (eG f y fs)))
section
variable{o e value:Zt}{f:Str}{pos pos' tpos:Pos}{ta tv:TE}
def SN(he:PE X e ta)(hb:Yp e f X.env (Zv e X.env)=Zv e X.env):PE X (.Attribute e f pos) (Xp X.K ta f):=by
 intro b s σ H Q I h;refine Ql hb (thn (he b s σ H _ I h) λu s1 ⟨x,H1,I1,rx,a,C,dx,fs,v,ex,ea,c,n,l,q⟩=>?_);subst ex;obtain rfl:u=Value.ref a:=rx;exact BL I1 ea c n l λu' s2 I2 ru=>⟨v,H1,I2,ru,q⟩
def JD(ha:PE X o ta)(hv:PE X value tv)(hs:ZQ value (some (.Attribute o f pos')) pos.line X.env=pure false):PS X (.Assign [.Attribute o f pos'] value pos) (Xq X.K ta tv f):=by
 intro b s σ H D I h;refine plainObj_wpAny_Assign_Attribute (thn (hv b s σ H _ I h) λu s1 ⟨y,H1,I1,ry,q⟩=>thn (ha b s1 σ H1 _ I1 q) λov s2 ⟨x,H2,I2,rx,a,C,dx,fs,ex,ea,c,n,l,q2⟩=>?_) hs;subst ex;obtain rfl:ov=Value.ref a:=rx;exact Ay I2 ea c n l ry λs3 I3=>⟨σ,_,I3,q2⟩
def QW{pl:Sem Bool}{m:Str}{d:Pos}{b:List Zt}{i:ee}{s:Shared}{σ:St}{H:Hp}{Q:d6}{j:TE}(he:PE X e j)(I:Inv X i σ H s)(h:j σ H λx H1=>∃a C dx fs g,x=.ref a/\H1 a=some (.ins C dx fs)/\Cls X.K C/\Meth X.K C m g/\fs.lookup m=none /\
   ∀s1,Inv X i σ H1 s1->wpAny (model X.prog X.w) X.A (Yq pos (.ref g) [.ref a] (Zw pos (Zu b X.env)) (Zy pos (Zz [] X.env))) Q X.xe s1)(ht:Zv (.Call (.Attribute e m d) b [] pos) X.env=(do
   let ov ←Zv e X.env
   standAt d.atName
   let(f,first) ←holding [ov] (Yn ov m pl)
   Yq pos f first (Zw pos (Zu b X.env)) (Zy pos (Zz [] X.env)))) :
  wpAny (model X.prog X.w) X.A (Zv (.Call (.Attribute e m d) b [] pos) X.env) Q X.xe s:=by
 refine W.methodCall_KW (pl:=pl) (thn (he i s σ H _ I h) λu s1 ⟨x,H1,I1,rx,a,C,dx,fs,g,ex,ea,c,k,l,q⟩=>?_) ht;subst ex;obtain rfl:u=Value.ref a:=rx;exact mZ I1 ea c k l (q s1 I1)
end
section
variable{pins:ee}{σ:St}{H:Hp}{s:Shared}{A:Zr}{E:d6}{Q:d6}{c:Value}{b:Bool}
inductive TyOf(K:W.Frag)(H:Hp):V->Value->Prop where
 |non:TyOf K H .non (.type "NoneType")
 |bl (x:Bool):TyOf K H (.bl x) (.type "bool")
 |int (i:Int):TyOf K H (.int i) (.type "int")
 |str (x:Str):TyOf K H (.str x) (.type "str")
 |flt (x:UInt64):TyOf K H (.flt x) (.type "float")
 |lst {a:Addr}{xs:List V} (e:H a=some (.lst xs)):TyOf K H (.ref a) (.type "list")
 |frz {a:Addr}{o:Obj}{xs:List V} (e:H a=some (.frz o (.lst xs))):TyOf K H (.ref a) (.type "list")
 |tup {a:Addr}{xs:List V} (e:H a=some (.tup xs)):TyOf K H (.ref a) (.type "tuple")
 |dK {a:Addr}{kvs:List (Key×V)} (e:H a=some (.dK kvs)):TyOf K H (.ref a) (.type "dict")
 |dT {a:Addr}{kvs:List (List Key×V)} (e:H a=some (.dT kvs)):TyOf K H (.ref a) (.type "dict")
 |ins {a C dx:Addr}{fs:List (Str×V)} (e:H a=some (.ins C dx fs)) (cl:Cls K C) (ha:W.findIn K (.ref C) "__class__"=some (some (.builtin "object.__class__")))
   (hn:W.specialIn K (.builtin "object.__class__") "__get__"=some (some (.builtin "getset_descriptor.__get__"))) (htk:W.takesIn K (.builtin "object.__class__")=some true)
   (hm:W.mroIn K C (.type "object")=some true):TyOf K H (.ref a) (.ref C)
def Hg{x:V}{u t:Value}(I:Inv X pins σ H s)(d:RelV x u)(ty:TyOf X.K H x t)(e:W.kitOne X.K t c=some b)(h:∀tk,Q (.bool b) { s with toks:=tk }) :
  wpAny (model X.prog X.w) A (Z6 (.builtin "isinstance") [u,c]) Q E s:=by
 cases ty with
 |non=>cases (show u=Value.none from d);exact W.kia_one W.kitx_none I.kIn True.intro e (λz=>nomatch z) h
 |bl y=>cases (show u=Value.bool y from d);exact W.kia_one W.kitx_bool I.kIn True.intro e (λz=>nomatch z) h
 |int i=>let⟨t,q⟩:=(show ∃t,u=Value.int i t from d);cases q;exact W.kia_one W.kitx_int I.kIn True.intro e (λz=>nomatch z) h
 |str y=>let⟨t,q⟩:=(show ∃t,u=Value.str y t from d);cases q;exact W.kia_one W.kitx_str I.kIn True.intro e (λz=>nomatch z) h
 |flt y=>let⟨t,q⟩:=(show ∃t,u=Value.float y t from d);cases q;exact W.kia_one W.kitx_float I.kIn True.intro e (λz=>nomatch z) h
 |@lst a xs ea =>
  cases (show u=Value.ref a from d);let⟨_,_,n,_,h1⟩:=(show bQ X.prog X.w H s.heap a (.lst xs)from I.hok a _ ea)
  exact W.kia_one W.kitx_list I.kIn ⟨_,h1,rfl⟩ e (λz=>nomatch z) h
 |@frz a ob xs ea =>
  cases (show u=Value.ref a from d);let⟨_,_,_,n,_,h1⟩:=(show bQ X.prog X.w H s.heap a (.frz ob (.lst xs))from I.hok a _ ea)
  exact W.kia_one W.kitx_list I.kIn ⟨_,h1,rfl⟩ e (λz=>nomatch z) h
 |@tup a xs ea =>
  cases (show u=Value.ref a from d);let⟨_,_,_,p⟩:=(show bQ X.prog X.w H s.heap a (.tup xs)from I.hok a _ ea)
  let⟨o,h1,h2,_⟩:=p;exact W.kia_one W.kitx_tuple I.kIn ⟨o,h1,h2⟩ e (λz=>nomatch z) h
 |@dK a kvs ea =>
  cases (show u=Value.ref a from d);let⟨_,_,vs,_,p⟩:=(show bQ X.prog X.w H s.heap a (.dK kvs)from I.hok a _ ea)
  let⟨o,es,ep,h1,h2,_⟩:=p;exact W.kia_one W.kitx_dict I.kIn ⟨o,h1,h2.1⟩ e (λz=>nomatch z) h
 |@dT a kvs ea =>
  cases (show u=Value.ref a from d);let⟨_,_,xs,_,o,es,ep,h1,h2,_⟩:=(show bQ X.prog X.w H s.heap a (.dT kvs)from I.hok a _ ea)
  exact W.kia_one W.kitx_dict I.kIn ⟨o,h1,h2.1⟩ e (λz=>nomatch z) h
 |@ins a C dx fs ea cl ha hn htk hm =>
  cases (show u=Value.ref a from d);let⟨f,O,_⟩:=oV I.hok ea;let⟨g,J,_⟩:=O.look;exact W.kia_one (W.kitx_own (cl.get _) cl.hd ha hn htk hm) I.kIn J e (λz=>nomatch z) h
end
structure Room(k:Nat)(A:Zr):Prop where
 hd:A.handled=none
 dp:A.depth+3 * k+5<Yr
 un:A.units+16 * k+200<Ys
 gd:A.guards=some []
def Room.mono{j k:Nat}{A:Zr}(r:Room k A)(h:j<=k):Room j A:=⟨r.hd,by have:=r.dp;lia,by have:=r.un;lia,r.gd⟩
def Room.deeper{k:Nat}{A:Zr}(r:Room (k+1) A)(env:Env):Room k (A.deeper env) :=
 ⟨r.hd,by have:=r.dp;show A.depth+1+3 * k+5<_;lia,by have:=r.un;show A.units+3+16 * k+200<_;lia,r.gd⟩
def Room.in1{k:Nat}{A:Zr}(r:Room (k+1) A):Room k A.in1 :=
 ⟨r.hd,by have:=r.dp;show A.depth+3 * k+5<_;lia,by have:=r.un;show A.units+1+16 * k+200<_;lia,r.gd⟩
def Bs{A:Zr}{C:Addr}{us:eo}{a:List (Str×Value)}:(A.under (.builtin "type.__call__" ⟨.ref C::us,a⟩)).depth=A.depth+1:=by
 first|rfl|simp[Around.under,Code.weight,Code.isCreation,Code.isGuard,Code.isCaller,Code.frames,Code.isFrame,guardIds]
def Br{A:Zr}{C:Addr}{us:eo}{a:List (Str×Value)}:(A.under (.builtin "type.__call__" ⟨.ref C::us,a⟩)).units=A.units+1:=by
 first|rfl|simp[Around.under,Code.cUnits,Code.frames,Code.isFrame]
def Room.make{k:Nat}{A:Zr}(r:Room (k+1) A)(C:Addr)(us:eo)(a:List (Str×Value)):Room k (A.under (.builtin "type.__call__" ⟨.ref C::us,a⟩)) :=
 ⟨r.hd,by have:=r.dp;rw[Bs];lia,by have:=r.un;rw[Br];lia,r.gd⟩
def Room.depth{k:Nat}{A:Zr}(r:Room k A):A.depth<Yr:=by have:=r.dp;lia
def Room.units{k:Nat}{A:Zr}(r:Room k A):A.units+64<Ys:=by have:=r.un;lia
def Nt:TA:=λ_ H Q=>Q [] H
def Ip(a:TE)(b:TA):TA:=λσ H Q=>a σ H λx H1=>b σ H1 λxs H2=>Q (x::xs) H2
section
variable{e:Zt}{es:List Zt}{te:TE}{t:TA}{pos:Pos}
def dG:PA X [] Nt:=λ_ _ _ _ H Q I h=>Calls.spliced_nil ⟨[],H,I,.nil,h⟩
def bV(ha:PE X e te)(hr:PA X es t)(hs:Zu (e::es) X.env=(false,Zv e X.env)::Zu es X.env:=by rfl):PA X (e::es) (Ip te t):=by
 intro pos a s σ H Q I h;rw[hs];show wpAny _ _ (spliced ((false,Zv e X.env)::Zw pos (Zu es X.env))) _ _ s;refine Calls.spliced_cons (thn (ha a s σ H _ I h) λu s1 ⟨x,H1,I1,r1,q1⟩=>?_);exact thn (hr pos a s1 σ H1 _ I1 q1) λus s2 ⟨xs,H2,I2,r2,q2⟩=>⟨x::xs,H2,I2,.cons r1 r2,q2⟩
def Xk(t:TA):TE:=λσ H Q=>t σ H λxs H1=>⇑xs<=sizeLine/\∀p,H1 p=none->Q (.ref p) (upd H1 p (.tup xs))
def Vs(t:TA):TE:=λσ H Q=>t σ H λxs H1=>⇑xs<=sizeLine/\∀p,H1 p=none->Q (.ref p) (upd H1 p (.lst xs))
def JQ{x1}(h:PA X es t):PE X (.Tuple es x1 pos) (Xk t):=by
 intro a s σ H Q I d;refine wpAny_Tuple_spliced (thn (h pos a s σ H _ I d) λus s1 ⟨xs,H1,I1,r,z,q⟩=>⟨by rw[←⇑r];exact z,?_⟩);have c:H1 ↥s1=none:=I1.hok.fresh (Nat.le_refl _);refine⟨.ref ↥s1,upd H1 ↥s1 (.tup xs),I1.laid (t':=s1.toks) (λb u e=>Heap.get?_push_of_some _ e) (Nat.le_refl _) ?_,rfl,q _ c⟩;exact⟨z,us,r,⟨_,Heap.get?_push_size _ rfl,rfl,_,rfl⟩⟩
def rQ(h:PA X es t):PE X (.List es pos) (Vs t):=by
 intro a s σ H Q I d;refine wpAny_List_spliced (thn (h pos a s σ H _ I d) λus s1 ⟨xs,H1,I1,r,z,q⟩=>⟨by rw[←⇑r];exact z,?_⟩);have c:H1 ↥s1=none:=I1.hok.fresh (Nat.le_refl _);refine⟨.ref ↥s1,upd H1 ↥s1 (.lst xs),I1.laid (t':=s1.toks) (λb u e=>Heap.get?_push_of_some _ e) (Nat.le_refl _) ?_,rfl,q _ c⟩;exact⟨z,us,0,r,Heap.get?_push_size _ rfl⟩
end
abbrev Sp:=List V->Hp->VK->XK->Prop
abbrev CXT:=List Env->Hp->Shared->XK->d6
structure Env0(P:Za)(w:Zb)(K:W.Frag)(mg:Str->ew)(fw:Heap)(A:Zr)(outer:List Env)(s:Shared)(H:Hp):Prop where
 frames:A.frames=some outer
 mod:Mod K mg fw
 bs:∀b o,fw.get? b=some o->s.heap.get? b=some o/\H b=none
 bsz:fw.objs.size<=↥s
 mF:s.heap.FunFrames fw outer
 frf:∀b∈frs outer,H b=none
 hok:HOk P w H s.heap
 bare:ZB s.gens
def CE(a:List Env)(P:Za)(w:Zb)(H:Hp)(s:Shared)(Q:VK)(u:Value)(b:Shared):Prop :=
 ∃v H',b.os=s.os/\ZB b.gens/\Un (frs a) [] H H' s.heap b.heap/\HOk P w H' b.heap/\RelV v u/\Q v H'
def CR(c:CXT)(a:List Env)(P:Za)(w:Zb)(H:Hp)(s:Shared)(Q:VK)(E:XK)(r:Result)(b:Shared):Prop :=
 match r with
 |.ok (.ret u)=>CE a P w H s Q u b
 |.ok _=>False
 |.error e=>c a H s E e b
structure FnOk(P:Za)(w:Zb)(K:W.Frag)(mg:Str->ew)(fw:Heap)(CX:CXT)(k:Nat)(f:Addr)(fd:Yt)(ps:List Str)(sp:Sp):Prop where
 len:∀vs H Q E,sp vs H Q E->⇑vs=⇑ps
 run:∀(A:Zr)(outer:List Env)(s:Shared)(H:Hp)(args:Args)(us:eo)(vs:List V)(Q:VK)(E:XK),Room k A->Env0 P w K mg fw A outer s H->Yu s fd args (ps.zip us)->Vals vs us->sp vs H Q E ->
  Yo (model P w) A (.call (.ref f) args) (CR CX outer P w H s Q E) s
def FnOk.imp{P:Za}{w:Zb}{K:W.Frag}{mg:Str->ew}{fw:Heap}{b:CXT}{k:Nat}{f:Addr}{c:Yt}{ps:List Str}{sp a:Sp}(F:FnOk P w K mg fw b k f c ps sp)(h:∀vs H Q E,a vs H Q E->sp vs H Q E):FnOk P w K mg fw b k f c ps a :=
 ⟨λvs H Q E q=>F.len vs H Q E (h _ _ _ _ q),λA outer s H args us vs Q E hr he hb hv hs=>F.run A outer s H args us vs Q E hr he hb hv (h _ _ _ _ hs)⟩
def Env0.make{P:Za}{w:Zb}{K:W.Frag}{mg:Str->ew}{fw:Heap}{A:Zr}{a:List Env}{s:Shared}{H:Hp}(e:Env0 P w K mg fw A a s H)(C:Addr)(us:eo)(b:List (Str×Value)) :
  Env0 P w K mg fw (A.under (.builtin "type.__call__" ⟨.ref C::us,b⟩)) a s H:=⟨by first|exact e.frames|(simpa[Around.under,Code.envs,Code.isFrame,pushEnvs]using e.frames),e.mod,e.bs,e.bsz,e.mF,e.frf,e.hok,e.bare⟩
def Env0.in1{P:Za}{w:Zb}{K:W.Frag}{mg:Str->ew}{fw:Heap}{A:Zr}{a:List Env}{s:Shared}{H:Hp}(e:Env0 P w K mg fw A a s H) :
  Env0 P w K mg fw A.in1 a s H:=⟨e.frames,e.mod,e.bs,e.bsz,e.mF,e.frf,e.hok,e.bare⟩
section
variable{pins:ee}{σ:St}{H:Hp}{s s':Shared}
def Inv.env0(I:Inv X pins σ H s):Env0 X.prog X.w X.K X.mg X.fw X.A X.stack s H :=
 ⟨I.ok.frames,I.ok.mod,I.bs,Nat.le_trans I.ok.bsz I.sz,I.stack,I.Dh,I.hok,I.bare⟩
def Inv.after{Q:VK}{u:Value}(I:Inv X pins σ H s)(h:CE X.stack X.prog X.w H s Q u s'):EP X pins σ Q u s':=by
 let⟨v,H',f,a,i,c,r,q⟩:=h;let⟨hh,g,d,t,e⟩:=s';obtain rfl:e=s.os:=f;exact⟨v,H',I.call (h':=hh) (g':=g) (d':=d) (t':=t) (ch:=[]) i c a (λb z=>dS z (by simp)),r,q⟩
end
def xQ(sp:Sp)(a:List V)(E:XK)(t:TA):TE:=λσ H Q=>t σ H λvs H1=>sp (vs++a) H1 Q E
def Df(C:Addr)(m:Str)(sp:Sp)(b:List V)(E:XK)(c:TE)(t:TA):TE:=λσ H Q=>c σ H λx H1=>∃a dx fs,x=.ref a/\H1 a=some (.ins C dx fs)/\fs.lookup m=none /\
 t σ H1 λvs H2=>sp (x::(vs++b)) H2 Q E
def Vr(C:Addr)(sp:Sp)(a:List V)(E:XK)(t:TA):TE:=λσ H Q=>t σ H λvs H1=>∀x dx,H1 x=none->H1 dx=none->dx≠x ->
 sp (.ref x::(vs++a)) (upd (upd H1 dx (.own x)) x (.ins C dx [])) (λv H2=>v=.non/\Q (.ref x) H2) E
def Binds(K:W.Frag)(a:Yt)(ps:List Str)(ds:eo):Prop :=
 ∀(s:Shared)(us:eo),K.In s.heap->⇑(us++ds)=⇑ps->Yu s a ⟨us,[]⟩ (ps.zip (us++ds))
def Binds.all{K:W.Frag}{a:Yt}{ps:List Str}(h:∀us:eo,⇑us=⇑ps->bindArgs a ⟨us,[]⟩=pure (ps.zip us)):Binds K a ps []:=λs us _ hl=>by
 rw[List.append_nil]at hl ⊢;exact .of_eq (h us hl)
def Passes(a:CXT)(X:Cx)(E:XK):Prop:=∀(pins:ee)(σ:St)(H:Hp)(s:Shared)(e:Value)(s':Shared),Inv X pins σ H s->a X.stack H s E e s'->X.xe e s'
section
variable{CX:CXT}{k:Nat}{f C:Addr}{fd:Yt}{ps:List Str}{sp:Sp}{dvs:List V}{ds:eo}{E:XK}{x m:Str}{p pos apos:Pos}{e o:Zt}{es:List Zt}{ta:TE}{t:TA}
def Az{a:ee}{σ:St}{H:Hp}{s:Shared}{Q:VK}{us:eo}{vs:List V}(F:FnOk X.prog X.w X.K X.mg X.fw CX k f fd ps sp)(hr:Room k X.A)(hb:Binds X.K fd ps ds)(hd:Vals dvs ds)(c:Passes CX X E)(I:Inv X a σ H s)(r:Vals vs us)(h:sp (vs++dvs) H Q E):wpAny (model X.prog X.w) X.A (Z6 (.ref f) us) (EP X a σ Q) X.xe s:=by
 have b:Vals (vs++dvs) (us++ds):=r.append hd;have hl:⇑(us++ds)=⇑ps:=by rw[←⇑b];exact F.len _ _ _ _ h
 refine Yv (Yw (F.run X.A X.stack s H ⟨us,[]⟩ (us++ds) (vs++dvs) Q E hr I.env0 (hb s us I.kIn hl) b h) λr s' hq=>?_);cases r with
 |error e=>exact c a σ H s e s' I hq
 |ok fl =>
  cases fl with
  |ret u=>exact I.after hq
  |next=>exact False.elim hq
  |brk=>exact False.elim hq
  |cont=>exact False.elim hq
def Oq(F:FnOk X.prog X.w X.K X.mg X.fw CX k f fd ps sp)(hr:Room k X.A)(hg:Gl X x)(hm:X.mg x=some (.ref f))(hk:W.keepIn X.K (.ref f)=true)(hb:Binds X.K fd ps ds)(hd:Vals dvs ds)(b:Passes CX X E)(ha:PA X (e::es) t)(hdb:(x==("__debug__":Str))=false:=by decide)(he:Zu (e::es) X.env=(false,Zv e X.env)::Zu es X.env:=by rfl)(hpl:(Zw pos (Zu es X.env)).any (·.1)=false:=by rfl) :
  PE X (.Call (.Name x p) (e::es) [] pos) (xQ sp dvs E t):=by
 intro a s σ H Q I h;refine wpAny_Call_Name_kw (wL I hg hm ?_ hdb);refine W.callWith_K (h₀:=X.fw) I.ok.mod.kin hk (thn (ha pos a s σ H _ I h) λus s1 ⟨vs,H1,I1,r,q⟩=>⟨I1.kIn,?_⟩) he hpl;exact Az F hr hb hd b I1 r q
def Dy{pl:Sem Bool}(he:PE X o ta)(c:Cls X.K C)(hm:Meth X.K C m f)(F:FnOk X.prog X.w X.K X.mg X.fw CX k f fd ps sp)(hr:Room k X.A)(hb:Binds X.K fd ps ds)(hd:Vals dvs ds)(d:Passes CX X E)(ha:PA X (e::es) t)(hst:Zu (e::es) X.env=(false,Zv e X.env)::Zu es X.env:=by rfl)(hpl:(Zw pos (Zu es X.env)).any (·.1)=false:=by rfl)(ht:Zv (.Call (.Attribute o m apos) (e::es) [] pos) X.env=(do
   let ov ←Zv o X.env
   standAt apos.atName
   let(f,first) ←holding [ov] (Yn ov m pl)
   Yq pos f first (Zw pos (Zu (e::es) X.env)) (Zy pos (Zz [] X.env))):=by rfl) :
  PE X (.Call (.Attribute o m apos) (e::es) [] pos) (Df C m sp dvs E ta t):=by
 intro b s σ H Q I h;refine W.methodCall_KW (pl:=pl) (thn (he b s σ H _ I h) λu s1 ⟨x,H1,I1,rx,a,dx,fs,ex,ea,l,q⟩=>?_) ht;subst ex;obtain rfl:u=Value.ref a:=rx;refine mZ I1 ea c hm l ?_;refine W.callWith_K (first:=[.ref a]) (h₀:=X.fw) I.ok.mod.kin hm.kp (thn (ha pos b s1 σ H1 _ I1 q) λus s2 ⟨vs,H2,I2,r,q2⟩=>⟨I2.kIn,?_⟩) hst hpl;exact Az (us:=.ref a::us) (vs:=.ref a::vs) F hr hb hd d I2 (.cons rfl r) q2
def yw{pl:Sem Bool}(he:PE X o ta)(c:Cls X.K C)(hm:Meth X.K C m f)(F:FnOk X.prog X.w X.K X.mg X.fw CX k f fd ps sp)(hr:Room k X.A)(hb:Binds X.K fd ps ds)(hd:Vals dvs ds)(d:Passes CX X E)(ht:Zv (.Call (.Attribute o m apos) [] [] pos) X.env=(do
   let ov ←Zv o X.env
   standAt apos.atName
   let(f,first) ←holding [ov] (Yn ov m pl)
   Yq pos f first (Zw pos (Zu [] X.env)) (Zy pos (Zz [] X.env))):=by rfl) :
  PE X (.Call (.Attribute o m apos) [] [] pos) (Df C m sp dvs E ta Nt):=by
 intro b s σ H Q I h;refine W.methodCall_KW (pl:=pl) (thn (he b s σ H _ I h) λu s1 ⟨x,H1,I1,rx,a,dx,fs,ex,ea,l,q⟩=>?_) ht;subst ex;obtain rfl:u=Value.ref a:=rx;refine mZ I1 ea c hm l ?_;exact W.callWith_K0 (first:=[.ref a]) I1.kIn hm.kp (Az (us:=[.ref a]) (vs:=[.ref a]) F hr hb hd d I1 (.cons rfl .nil) q)
structure Mk(K:W.Frag)(C f:Addr):Prop where
 makes:W.makesIn K C=true
 init:W.findIn K (.ref C) "__init__"=some (some (.ref f))
 fn:W.isFn K (.ref f)=true
 kp:W.keepIn K (.ref C)=true
def Jd{a:ee}{σ:St}{H:Hp}{s:Shared}{Q:VK}{us:eo}{vs:List V}(M:Mk X.K C f)(F:FnOk X.prog X.w X.K X.mg X.fw CX k f fd ps sp)(hr:Room (k+1) X.A)(hb:Binds X.K fd ps ds)(hd:Vals dvs ds)(j:Passes CX X E)(I:Inv X a σ H s)(r:Vals vs us)(h:∀x dx,H x=none->H dx=none->dx≠x->sp (.ref x::(vs++dvs)) (upd (upd H dx (.own x)) x (.ins C dx [])) (λv H2=>v=.non/\Q (.ref x) H2) E) :
  wpAny (model X.prog X.w) X.A (Z6 (.ref C) us) (EP X a σ Q) X.xe s:=by
 have c:=h (↥s+1) ↥s (I.hok.fresh (Nat.le_succ _)) (I.hok.fresh (Nat.le_refl _)) (Nat.ne_of_lt (Nat.lt_succ_self _));have b:=Inv.made (C:=C) I;have d:Vals (V.ref (↥s+1)::(vs++dvs)) (Value.ref (↥s+1)::(us++ds)):=.cons rfl (r.append hd);have hl:⇑(Value.ref (↥s+1)::us++ds)=⇑ps:=by
  have e:=⇑d;rw[F.len _ _ _ _ c]at e;exact e.symm
 refine Yv (Kv (f:=f) I.kIn M.makes M.init (beq_iff_eq.mp M.fn) (Yw (F.run _ X.stack _ _ ⟨Value.ref (↥s+1)::us,[]⟩ (Value.ref (↥s+1)::(us++ds)) _ _ E (hr.make C us [])
  (b.env0.make C us []) (hb _ (Value.ref (↥s+1)::us) b.kIn hl) d c) λr s' hq'=>?_))
 cases r with
 |error e=>exact j a σ _ _ e s' b hq'
 |ok fl =>
  cases fl with
  |ret u =>
   let⟨v,H',g,n,i,l⟩:=b.after hq';subst i;exact⟨n,⟨V.ref (↥s+1),H',g,rfl,l⟩⟩
  |next=>exact False.elim hq'
  |brk=>exact False.elim hq'
  |cont=>exact False.elim hq'
def Om(M:Mk X.K C f)(F:FnOk X.prog X.w X.K X.mg X.fw CX k f fd ps sp)(hr:Room (k+1) X.A)(hg:Gl X x)(hm:X.mg x=some (.ref C))(hb:Binds X.K fd ps ds)(hd:Vals dvs ds)(b:Passes CX X E)(ha:PA X (e::es) t)(hdb:(x==("__debug__":Str))=false:=by decide)(he:Zu (e::es) X.env=(false,Zv e X.env)::Zu es X.env:=by rfl)(hpl:(Zw pos (Zu es X.env)).any (·.1)=false:=by rfl) :
  PE X (.Call (.Name x p) (e::es) [] pos) (Vr C sp dvs E t):=by
 intro a s σ H Q I h;refine wpAny_Call_Name_kw (wL I hg hm ?_ hdb);refine W.callWith_K (h₀:=X.fw) I.ok.mod.kin M.kp (thn (ha pos a s σ H _ I h) λus s1 ⟨vs,H1,I1,r,q⟩=>⟨I1.kIn,?_⟩) he hpl;exact Jd M F hr hb hd b I1 r q
end
section
variable{CX:CXT}{k:Nat}{f C:Addr}{fd:Yt}{ps ks:List Str}{sp:Sp}{E:XK}{x m:Str}{p pos apos kpos:Pos}{e o:Zt}{es:List Zt}{kws:List ZA}{te ta:TE}{t tk:TA}{nm:Option Str}
structure KBinds(K:W.Frag)(fd:Yt)(ps ks:List Str)(g:eo->eo->eo)(gV:List V->List V->List V):Prop where
 to:∀(s:Shared)(us ws:eo),K.In s.heap->⇑(g us ws)=⇑ps->Yu s fd ⟨us,ks.zip ws⟩ (ps.zip (g us ws))
 rel:∀{vs:List V}{us:eo}{zs:List V}{ws:eo},Vals vs us->Vals zs ws->Vals (gV vs zs) (g us ws)
variable{g:eo->eo->eo}{gV:List V->List V->List V}
end
structure FnScope(N P:List Str)(sc:Zs):Prop where
 kind:sc.kind=.function
 co:sc.isCoroutine=false
 gen:sc.isGenerator=false
 nd:N.Nodup
 pre:N.take ⇑P=P
 par:∀x∈P,sc.names.lookup x=some .local\/sc.names.lookup x=some .cell
 nofree:∀y∈sc.names,y.2≠.free
def zC{N P:List Str}{h:Zs}(a:h.kind=.function:=by rfl)(b:h.isCoroutine=false:=by rfl)(c:h.isGenerator=false:=by rfl)(d:N.Nodup:=by decide +kernel)(e:N.take ⇑P=P:=by rfl)(f:∀x∈P,h.names.lookup x=some .local\/h.names.lookup x=some .cell:=by decide +kernel)(g:∀y∈h.names,y.2≠.free:=by decide +kernel):FnScope N P h:=⟨a,b,c,d,e,f,g⟩
theorem vP{b:Str->Option NameKind}{x:Str}:∀{a:List (Str×Value)}{m:Str->ew},(∀v,(x,v)∉a)->Yx b a m x=m x
 |[],_,_=>rfl
 |(n,v)::r,m,h=>by
  unfold Yx;rw[vP λw hw=>h w (List.mem_cons_of_mem _ hw)];split
  ·have:x≠n:=by rintro rfl;exact h v List.mem_cons_self
   simp[this]
  ·rfl
theorem vR{b:Str->Option NameKind}{x:Str}:∀{a:List (Str×Value)}{m:Str->ew},(∀v,(x,v)∉a)->Yy b a m x=m x
 |[],_,_=>rfl
 |(n,v)::r,m,h=>by
  unfold Yy;rw[vR λw hw=>h w (List.mem_cons_of_mem _ hw)];split
  ·rfl
  ·have:x≠n:=by rintro rfl;exact h v List.mem_cons_self
   simp[this]
theorem vQ{a:Str->Option NameKind}{x:Str}{v:Value}:∀{P:List Str}{vs:eo}{i:Nat}{m:Str->ew},P.Nodup->P[i]?=some x->vs[i]?=some v->a x=some .local ->
  Yx a (P.zip vs) m x=some v
 |[],_,_,_,_,h,_,_=>by simp at h
 |_::_,[],_,_,_,_,h,_=>by simp at h
 |p::P,w::vs,0,m,nd,h1,h2,hk=>by
  simp at h1 h2;subst h1;subst h2;show Yx a ((p,w)::P.zip vs) m p=_;unfold Yx;rw[vP λv hv=>(List.nodup_cons.mp nd).1 (List.of_mem_zip hv).1,dP hk];simp
 |p::P,w::vs,i+1,m,nd,h1,h2,hk=>by
  show Yx a ((p,w)::P.zip vs) m x=_;unfold Yx;exact vQ (i:=i) (List.nodup_cons.mp nd).2 ↑h1 ↑h2 hk
theorem vU{a:Str->Option NameKind}{x:Str}{v:Value}:∀{P:List Str}{vs:eo}{i:Nat}{m:Str->ew},P.Nodup->P[i]?=some x->vs[i]?=some v->a x≠some .local ->
  Yy a (P.zip vs) m x=some v
 |[],_,_,_,_,h,_,_=>by simp at h
 |_::_,[],_,_,_,_,h,_=>by simp at h
 |p::P,w::vs,0,m,nd,h1,h2,hk=>by
  simp at h1 h2;subst h1;subst h2;show Yy a ((p,w)::P.zip vs) m p=_;unfold Yy;rw[vR λv hv=>(List.nodup_cons.mp nd).1 (List.of_mem_zip hv).1,dQ hk];simp
 |p::P,w::vs,i+1,m,nd,h1,h2,hk=>by
  show Yy a ((p,w)::P.zip vs) m x=_;unfold Yy;exact vU (i:=i) (List.nodup_cons.mp nd).2 ↑h1 ↑h2 hk
def start(N:List Str)(vs:List V):St:=vs.map some++List.replicate (⇑N - ⇑vs) none
def zU(CX:CXT)(P:Za)(w:Zb)(K:W.Frag)(mg:Str->ew)(fw:Heap)(N:List Str)(qual:Str)(scope:Zs)(f:Addr)(cd:Value)(A:Zr)(outer:List Env)(s:Shared)(H:Hp)(E:XK):Cx where
 prog:=P
 w:=w
 K:=K
 mg:=mg
 fw:=fw
 A:=A.deeper (Yz qual scope ↥s f cd)
 N:=N
 s₀:=s
 H₀:=H
 env:=Yz qual scope ↥s f cd
 outer:=outer
 stack:=Yz qual scope ↥s f cd::outer
 ex:=[]
 calm:=true
 fn:=λ_=>true
 pn:=[]
 xe:=λe s'=>wpAny (model P w) (A.deeper (Yz qual scope ↥s f cd)) (leaving (Yz qual scope ↥s f cd) e) (λ_ s''=>CX outer H s E e s'') (λe' s''=>CX outer H s E e' s'') s'
def zY{a:Zs}{n:Nat}{x:Str}(h:a.names.lookup x=some .cell):∃c,(cellsFrom n a.names []).lookup x=some c:=by
 have q:=W.cellsFrom_some a.names n [] (.inl h);exact Option.isSome_iff_exists.mp q
def Hh{B:CXT}{P:Za}{w:Zb}{K:W.Frag}{mg:Str->ew}{fw:Heap}{N ps:List Str}{qual:Str}{d:Zs}{f:Addr}{t:Value}{A:Zr}{g:List Env}{s C:Shared}{H:Hp}{E:XK}{us:eo}{vs:List V}(S:FnScope N ps d)(hd:A.handled=none)(j:Env0 P w K mg fw A g s H)(hl:⇑vs=⇑ps)(r:Vals vs us)(x:InCallC s ↥s (Yx (Yz qual d ↥s f t).kindOf (ps.zip us) λ_=>none) (cellsFrom (↥s+1) d.names []) (Yy (Yz qual d ↥s f t).kindOf (ps.zip us) λ_=>none) C) :
  Inv (zU B P w K mg fw N qual d f t A g s H E) [] (start N vs) H C:=by
 have hpl:⇑ps<=⇑N:=by have:=dV List.length S.pre;rw[List.length_take]at this;lia
 let⟨h1,tk,rfl,hk⟩:=x.done;have m:∀b:Addr,b∉(zU B P w K mg fw N qual d f t A g s H E).ex:=λb z=>dS (show b∈([]:List Addr)from z) (by simp);refine⟨⟨j.mod,S.kind,rfl,rfl,Nat.le_refl _,λy z c h1 h2=>?_,λy l=>?_,λy c _ h=>?_,λ_=>hd,Around.frames_deeper j.frames,.inr ⟨rfl,rfl⟩,λb z=>dS z (m b),j.bs,j.bsz,λb _ _=>m b,λb z=>dS z (m b),j.mF,j.frf,λq z=>nomatch (show q∈([]:List (Addr×Obj×HO))from z)⟩,
  rfl,j.bare,Un.kept hk,⟨_,x.toInCall.ns,λi y v h1 h2 h3=>?_⟩,λy c h=>⟨_,x.cell y c h⟩,j.hok.fresh (Nat.le_refl _),λy c h=>?_,λp hp=>dS (show p∈([]:ee)from hp) (by simp),j.hok.kept hk,?_⟩
 ·exact name_of_addr x.apart (PySem.mem_of_lookup h1) (PySem.mem_of_lookup h2)
 ·have l:d.names.lookup y=some .cell\/d.names.lookup y=some .free:=l;rcases l with l|l
  ·exact zY l
  ·exact dS rfl (S.nofree _ (PySem.mem_of_lookup l))
 ·exact Nat.le_of_lt (x.above y c (PySem.mem_of_lookup h))
 ·have hi:i<⇑vs:=by
   unfold start at h2;by_cases hi:i<⇑vs
   ·exact hi
   ·rw[List.getElem?_append_right ↑hi]at h2;rw[List.getElem?_replicate]at h2;split at h2 <;> cases h2
  have ha:vs[i]?=some v:=by
   unfold start at h2;rw[List.getElem?_append_left ↑hi,List.getElem?_map]at h2;cases e:vs[i]? with
   |none=>rw[e]at h2;cases h2
   |some a=>rw[e]at h2;cases h2;rfl
  let⟨u,hu,D⟩:=r.get ha;have hp:ps[i]?=some y:=by
   rw[←S.pre,List.getElem?_take_of_lt ()];exact h1
  have o:ps.Nodup:=by rw[←S.pre];exact S.nd.sublist (List.take_sublist _ _)
  refine⟨u,D,?_⟩;rcases S.par y (List.mem_of_getElem? hp)with k|k
  ·exact .inl ⟨k,vQ o hp hu k⟩
  ·let⟨c,e⟩:=zY (n:=↥s+1) k;refine .inr ⟨.inl k,c,e,?_⟩;have q:=x.cell y c e;rw[vU o hp hu (by show d.names.lookup y≠_;rw[k];decide)]at q;exact q
 ·exact j.hok.fresh (Nat.le_of_lt (x.above y c (PySem.mem_of_lookup h)))
 ·unfold start;show _=⇑N;rw[List.length_append,List.length_map,List.length_replicate];lia
def Q8{B:CXT}{P:Za}{w:Zb}{K:W.Frag}{mg:Str->ew}{fw:Heap}{k:Nat}{f:Addr}{name qual:Str}{g:YA}{h:List ZF}{a:Zs}{O kV m R d M X:Value}{L Y:et}{D:Array ew}{N ps:List Str}{sp:Sp}(U:K.lookup f=some ⟨X,Y,.func (W.fnOf name qual g h a O kV m R L d M),D⟩)(hcd:W.codeIn K d qual=true)(S:FnScope N ps a)(z:∀vs H Q E,sp vs H Q E->⇑vs=⇑ps)(j:∀(A:Zr)(c:List Env)(s:Shared)(H:Hp)(vs:List V)(Q:VK)(E:XK),Room k (A.deeper (Yz qual a ↥s f d))->sp vs H Q E ->
   ∃t,PSs (zU B P w K mg fw N qual a f d A c s H E) h t/\t { nx:=λ_ H'=>Q .non H',rt:=Q } (start N vs) H) :
  FnOk P w K mg fw B (k+1) f (W.fnOf name qual g h a O kV m R L d M) ps sp:=by
 refine⟨z,λA c s H args us vs Q E hr e0 hb r hsp=>?_⟩;have hl:=z _ _ _ _ hsp;have G:K.In s.heap:=e0.mod.kin.keeps λb o e=>(e0.bs b o e).1;have C:s.heap.NoLimit:=e0.mod.nolimit.keeps λb o e=>(e0.bs b o e).1;have l:∀y∈ps.zip us,a.names.lookup y.1=some .local\/(a.names.lookup y.1=some .cell/\((cellsFrom (↥s+1) a.names []).lookup y.1).isSome=true):=λ⟨n,v⟩ hy=>by
  rcases S.par n (List.of_mem_zip hy).1 with q|q
  ·exact .inl q
  ·exact .inr ⟨q,W.cellsFrom_some _ _ _ (.inl q)⟩
 refine codeAny_call_function hr.depth (G _ _ U) rfl S.co S.gen rfl (W.codeRec_of G hcd) (hb _ _ _ _ ?_);refine wpAny_newFunctionEnv_cells S.kind l λenv he s1 x=>?_;subst he;refine⟨C.keeps x.toInCall.keep,codeAny_func ?_⟩;let⟨t,ht,T⟩:=j A c s H vs Q E (hr.deeper _) hsp;have I:Inv (zU B P w K mg fw N qual a f d A c s H E) [] (start N vs) H s1:=Hh S hr.hd e0 hl r x;refine ZG (ht [] s1 (start N vs) H _ I T) (λfl s' hs=>?_) λe s' hs=>hs;have p:∀{i:St}{H':Hp}{v:V}{u:Value},Inv (zU B P w K mg fw N qual a f d A c s H E) [] i H' s'->RelV v u->Q v H'->CE c P w H s Q u s' :=
  λ{i H' v u} J F q=>⟨v,H',J.os,J.bare,J.fw,J.hok,F,q⟩
 cases fl with
 |ret u =>
  let⟨v,i,H',J,F,q⟩:=hs;exact p J F q
 |next =>
  let⟨i,H',J,q⟩:=hs;exact p (v:=V.non) (u:=Value.none) J rfl q
 |brk =>
  let⟨_,_,_,q⟩:=hs;exact False.elim q
 |cont =>
  let⟨_,_,_,q⟩:=hs;exact False.elim q
section
variable{x:Str}{p pos:Pos}{e:Zt}{es:List Zt}{t:TA}{id T:String}{r:List V->Hp->VK->Prop}
def tCB(r:List V->Hp->VK->Prop)(t:TA):TE:=λσ H Q=>t σ H λvs H1=>r vs H1 Q
def eO(hc:fj X (.builtin id) r)(hg:Gl X x)(hm:X.mg x=none)(hv:Zq x=some (.builtin id))(ha:PA X (e::es) t)(hn:x≠"__name__":=by decide)(hdb:(x==("__debug__":Str))=false:=by decide)(he:Zu (e::es) X.env=(false,Zv e X.env)::Zu es X.env:=by rfl)(hpl:(Zw pos (Zu es X.env)).any (·.1)=false:=by rfl):PE X (.Call (.Name x p) (e::es) [] pos) (tCB r t):=by
 intro a s σ H Q I h;refine wpAny_Call_Name_kw (kI I hg hm hv ?_ hn hdb);exact PyProof.Rows.callWith_builtin1 (thn (ha pos a s σ H _ I h) λus s1 ⟨vs,H1,I1,r1,q1⟩=>hc a s1 σ H1 vs us Q I1 r1 q1) he hpl
def pN(hc:fj X (.type T) r)(hg:Gl X x)(hm:X.mg x=none)(hv:Zq x=some (.type T))(ha:PA X (e::es) t)(hn:x≠"__name__":=by decide)(hdb:(x==("__debug__":Str))=false:=by decide)(he:Zu (e::es) X.env=(false,Zv e X.env)::Zu es X.env:=by rfl)(hpl:(Zw pos (Zu es X.env)).any (·.1)=false:=by rfl):PE X (.Call (.Name x p) (e::es) [] pos) (tCB r t):=by
 intro a s σ H Q I h;refine wpAny_Call_Name_kw (kI I hg hm hv ?_ hn hdb);exact PyProof.Rows.callWith_type1 (thn (ha pos a s σ H _ I h) λus s1 ⟨vs,H1,I1,r1,q1⟩=>hc a s1 σ H1 vs us Q I1 r1 q1) he hpl
end
end L2
namespace HT
section
open PySem.SeqAt
open PySem.AutoSeq1 (wpAny_loadPart')
open PySem.MeetsSeq PySem.MeetsSeq2 PySem.MeetsSeq3
end
section
variable{prog:Za}{w:Zb}{A:Zr}{E:d6}{s:Shared}
def Qk{t b:Addr}{vs a:eo}{Q:d6}(ht:IsTup s.heap t vs.toArray)(hb:IsTup s.heap b a.toArray)(hv:vs≠[])(h1:a=[]->Q (.ref t) s)(h2:a≠[]->Q (.ref ↥s) { s with heap:=s.heap.push { cls:=.type "tuple",data:=.seq (vs++a).toArray }})(hsz:⇑vs+⇑a<=sizeLine):wpAny (model prog w) A (Z7 .Add (.ref t) (.ref b)) Q E s:=by
 let⟨⟨cls,m,data,p⟩,i,hc,n,hd⟩:=id ht;let⟨⟨l,d,k,h⟩,c,f,o,g⟩:=id hb;simp only at hc hd f g;subst hc hd f g;have e:vs.toArray++a.toArray=(vs++a).toArray:=by simp
 by_cases j:a=[]
 ·exact concat_meets ⟨_,i,rfl⟩ ⟨_,c,rfl⟩ YB YC PySem.F.slot_tuple_add PySem.F.entry_tuple_add (PySem.F.args_tuple_add_2 _ _)
   (tuple_addW1 t b vs.toArray a.toArray n o m d p h ↑hv (by simp[j])) ⟨i,c,h1 j⟩
 ·refine concat_meets ⟨_,i,rfl⟩ ⟨_,c,rfl⟩ YB YC PySem.F.slot_tuple_add PySem.F.entry_tuple_add (PySem.F.args_tuple_add_2 _ _)
   (tuple_addW2 t b vs.toArray a.toArray n o m d p h ↑hv ↑j (by rw[List.size_toArray,List.size_toArray];exact hsz)) ⟨i,c,?_⟩
  rw[e];exact h2 j
def sIx(n d:Nat):Option Int->Nat
 |none=>d
 |some v=>if v<0 then(v+(n:Int)).toNat else min v.toNat n
def qJ(n d k:Nat):sIx n d (some (k:Int))=min k n:=by
 show(if(k:Int)<0 then((k:Int)+(n:Int)).toNat else min (k:Int).toNat n)=min k n;rw[dQ (),Int.toNat_natCast]
def RQ(n d:Nat)(hd:d<=n)(o:Option Int):sIx n d o<=n:=by
 cases o with
 |none=>exact hd
 |some v =>
  show(if v<0 then(v+(n:Int)).toNat else min v.toNat n)<=n;by_cases hv:v<0
  ·rw[dP hv];lia
  ·rw[dQ hv];exact Nat.min_le_right _ _
def Fz(v:Int)(n d:Nat):(if v<0 then max (v+(n:Int)) 0 else min v (n:Int))=(~~~(sIx n d (some v))):=by
 show(if v<0 then max (v+(n:Int)) 0 else min v (n:Int))=(((if v<0 then(v+(n:Int)).toNat else min v.toNat n):Nat):Int)
 by_cases hv:v<0
 ·simp only[dP hv];lia
 ·simp only[dQ hv];lia
def CJ(lo hi:Option Int)(n:Nat):Builtin.Slice.sliceAdjust lo hi 1 (n:Int)=((~~~(sIx n 0 lo)),(~~~(sIx n n hi))):=by
 have h1:¬((1:Int)<0):=()
 unfold Builtin.Slice.sliceAdjust;simp only[h1,if_false];refine Prod.ext ?_ ?_
 ·cases lo with
  |none=>rfl
  |some v=>exact Fz v n 0
 ·cases hi with
  |none=>rfl
  |some v=>exact Fz v n n
def Bb(i j:Nat):Builtin.Slice.slicePlaces (i:Int) (j:Int) 1=j - i:=by
 unfold Builtin.Slice.slicePlaces;have h1:(1:Int) > 0:=()
 simp only[h1,if_true,Int.ediv_one];split <;> lia
def rH{v:Value}{o:Option Int}{Q:Option Int->Shared->Prop}(p:YD v o)(h:Q o s):wpAny (model prog w) A (Builtin.Slice.slicePartIndex v) Q E s:=by
 cases p with
 |none=>exact YE h
 |int i t=>exact slicePart_int h
def pJ{e:Addr}{c d:Value}{lo hi:Option Int}{n:Nat}{Q:Int×Int×Nat->Shared->Prop}(hs:s.heap.IsSliceOf e c d .none)(pl:YD c lo)(g:YD d hi)(h:Q ((~~~(sIx n 0 lo)),1,sIx n n hi - sIx n 0 lo) s):wpAny (model prog w) A (Builtin.Slice.sliceApplied (.ref e) (pure (n:Int))) Q E s:=by
 let⟨i,b,f,a⟩:=id hs;unfold Builtin.Slice.sliceApplied Builtin.Slice.sliceFields;refine wpAny_bind (wpAny_bind (YF b a (x:=c) rfl (wpAny_bind (YF b a (x:=d) rfl (wpAny_bind (YF b a (x:=.none) rfl (Z2 ?_)))))));refine wpAny_bind (YE ?_);show wpAny _ _ (if((1:Int)==0)=true then _ else _) _ _ s;rw[dQ ∅];refine wpAny_bind (rH pl (wpAny_bind (rH g (wpAny_bind (Z2 ?_)))));show wpAny _ _ (match Builtin.Slice.sliceAdjust lo hi 1 (n:Int)with|(lo,hi)=>pure (lo,(1:Int),Builtin.Slice.slicePlaces lo hi 1)) _ _ s;rw[CJ lo hi n];show wpAny _ _ (pure ((~~~(sIx n 0 lo)),(1:Int),Builtin.Slice.slicePlaces (~~~(sIx n 0 lo)) (~~~(sIx n n hi)) 1)) _ _ s;rw[Bb];exact Z2 h
def JH(xs:el)(i k:Nat):((List.range k).filterMap λ(m:Nat)=>xs[((i:Int)+(m:Int) * 1).toNat]?).toArray=((xs.toList.drop i).take k).toArray:=by
 have e:(λ(m:Nat)=>xs[((i:Int)+(m:Int) * 1).toNat]?)=λm=>xs[i+m]?:=by
  funext m;have:((i:Int)+(m:Int) * 1).toNat=i+m:=()
  rw[this]
 rw[e];have:=pick_run xs i k;rw[List.filterMap_map]at this;have a:((λx=>xs[x]?) ∘ λx=>i+x)=λm=>xs[i+m]?:=rfl;rw[a]at this;rw[this]
def oY{t g:Addr}{a:el}{i j:Value}{lo hi:Option Int}{Q:d6}(ht:IsTup s.heap t a)(hs:s.heap.IsSliceOf g i j .none)(pl:YD i lo)(o:YD j hi)(l:¬(sIx a.size 0 lo=0/\sIx a.size a.size hi=a.size))(h:Q (.ref ↥s) { s with heap:=s.heap.push { cls:=.type "tuple",data:=.seq ((a.toList.drop (sIx a.size 0 lo)).take (sIx a.size a.size hi - sIx a.size 0 lo)).toArray }})(hsz:a.size<=sizeLine):wpAny (model prog w) A (YG (.ref t) (.ref g)) Q E s:=by
 have b:sizeOk (.seq ((a.toList.drop (sIx a.size 0 lo)).take (sIx a.size a.size hi - sIx a.size 0 lo)).toArray):=by
  show((a.toList.drop (sIx a.size 0 lo)).take (sIx a.size a.size hi - sIx a.size 0 lo)).toArray.size<=sizeLine;rw[List.size_toArray,List.length_take,List.length_drop,Array.length_toList];lia
 have p:sIx a.size a.size hi<=a.size:=RQ _ _ (Nat.le_refl _) hi;let⟨n,f,d,k⟩:=id hs;have c:s.TypeIs (.ref g) "slice":=⟨n,f,d⟩
 unfold YG
 try with_reducible refine ZW ?_
 first|refine wpAny_bind (Z2 ?_)|skip
 refine wpAny_bind (wpAny_sequenceKey ht.typeIs ∅ ?_);refine wpAny_bind (YH (name:=Str.ofString "__getitem__") ht.typeIs PyProof.Rows.slot_tuple_getitem
  (YI PyProof.Rows.slot_tuple_getitem ht.typeIs entry_tuple_getitem ?_ (args_tuple_getitem _ _)))
 show wpAny _ _ (Builtin.Tuple.tupleItemsOf (.ref t) >>=_) _ _ s;refine wpAny_bind (tupleItemsOf_ ht ?_);refine wpAny_bind (wpAny_typeOf c ?_);rw[dP ∅];refine wpAny_bind (pJ hs pl o ?_);have e:¬(((~~~(sIx a.size 0 lo))==0&&(1:Int)==1&&(sIx a.size a.size hi - sIx a.size 0 lo)==a.size)=true):=by
  intro q;rw[Bool.and_eq_true,Bool.and_eq_true]at q;have r:(~~~(sIx a.size 0 lo))=0:=d5 q.1.1;have u:sIx a.size a.size hi - sIx a.size 0 lo=a.size:=d5 q.2;exact l ⟨(),()⟩
 show wpAny _ _ (if((~~~(sIx a.size 0 lo))==0&&(1:Int)==1&&(sIx a.size a.size hi - sIx a.size 0 lo)==a.size)=true then _ else _) _ _ s;rw[dQ e,JH]
 first
  |exact wpAny_bind (m:=Builtin.Tuple.tupleExact _) (YJ (Z2 ⟨_,rfl,Z2 h⟩) b)
  |exact wpAny_bind (m:=Builtin.Tuple.tupleExact _) (YJ (wpAny_bind (Z2 (Z2 ⟨_,rfl,Z2 h⟩))) b)
  |exact wpAny_bind (wpAny_bind (m:=Builtin.Tuple.tupleExact _) (YJ (Z2 (Z2 ⟨_,rfl,Z2 h⟩)) b))
  |exact wpAny_bind (wpAny_bind (m:=Builtin.Tuple.tupleExact _) (YJ (Z2 ⟨_,rfl,Z2 h⟩) b))
end
end HT
namespace L2
open PySem.Spec
variable{X:Cx}
abbrev TO:=St->Hp->(Option Int->Hp->Prop)->Prop
def PO(X:Cx)(e:Option Zt)(t:TO):Prop :=
 ∀(pins:ee)(s:Shared)(σ:St)(H:Hp)(Q:Option Int->Hp->Prop),Inv X pins σ H s->t σ H Q ->
  wpAny (model X.prog X.w) X.A (evalPart e X.env) (λu s'=>∃o H',Inv X pins σ H' s'/\YD u o/\Q o H') X.xe s
def Nr:TO:=λ_ H Q=>Q none H
def Vo(t:TE):TO:=λσ H Q=>t σ H λx H1=>∃i,x=.int i/\Q (some i) H1
def intsAre_of{ns:eg}:∀{us:eo},Vals (ns.map V.int) us->IntsAre us ns:=by
 induction ns with
 |nil=>intro us r;rw[List.map_nil]at r;cases r;exact .nil
 |cons n ns ih =>
  intro us r;rw[List.map_cons]at r;cases r with
  |cons r1 r2 =>
   let⟨t,e⟩:=r1;subst e;exact .cons n t (ih r2)
section
variable{e:Zt}{te:TE}{lo hi:Option Zt}{tl th:TO}{pos p2:Pos}
def Oh:PO X none Nr:=by
 intro a s σ H Q I h;rw[YK];exact Z2 ⟨none,H,I,.none,h⟩
def Og(h:PE X e te):PO X (some e) (Vo te):=by
 intro a s σ H Q I b;rw[YL];refine thn (h a s σ H _ I b) λu s1 ⟨x,H1,I1,r1,q1⟩=>?_;let⟨i,rfl,q⟩:=q1;let⟨t,rfl⟩:=r1;exact⟨some i,H1,I1,.int i t,q⟩
def SlR(X:Cx)(r:V->Option Int->Option Int->Hp->VK->Prop):Prop :=
 ∀(pins:ee)(s:Shared)(σ:St)(H:Hp)(x:V)(v vl vu:Value)(lo hi:Option Int)(sl:Addr)(Q:VK),Inv X pins σ H s->RelV x v->s.heap.IsSliceOf sl vl vu .none->YD vl lo->YD vu hi->r x lo hi H Q ->
  ∃T id,typeLookup (.type T) "__getitem__"=pure (some (.builtin id))/\s.TypeIs v T/\wpAny (model X.prog X.w) X.A (YG v (.ref sl)) (EP X pins σ Q) X.xe s
def SlR.or{r c:V->Option Int->Option Int->Hp->VK->Prop}(h:SlR X r)(h':SlR X c):SlR X (λx lo hi H Q=>r x lo hi H Q\/c x lo hi H Q):=by
 intro a s σ H x v g i lo hi f Q I d hs pl b q;rcases q with q|q
 ·exact h a s σ H x v g i lo hi f Q I d hs pl b q
 ·exact h' a s σ H x v g i lo hi f Q I d hs pl b q
def tSl(r:V->Option Int->Option Int->Hp->VK->Prop)(te:TE)(tl th:TO):TE:=λσ H Q=>te σ H λx H1=>tl σ H1 λl H2=>th σ H2 λu H3=>r x l u H3 Q
def JR{r:V->Option Int->Option Int->Hp->VK->Prop}(hr:SlR X r)(he:PE X e te)(hl:PO X lo tl)(hu:PO X hi th):PE X (.Subscript e (.Slice lo hi none p2) pos) (tSl r te tl th):=by
 intro a s σ H Q I h;refine YM (thn (he a s σ H _ I h) λv s1 ⟨x,H1,I1,r1,q1⟩=>?_);refine wpAny_Slice (thn (hl a s1 σ H1 _ I1 q1) λvl s2 ⟨l,H2,I2,pl,q2⟩=>thn (hu a s2 σ H2 _ I2 q2) λvu s3 ⟨u,H3,I3,pu,q3⟩=>?_);rw[YK];refine Z2 ?_;have c:Inv X a σ H3 { s3 with heap:=s3.heap.push { cls:=.type "slice",data:=.fields #[vl,vu,.none]}}:=I3.kept (t':=s3.toks) λb ob q=>Heap.get?_push_of_some _ q;let⟨T,id,d,ht,hg⟩:=hr a { s3 with heap:=s3.heap.push { cls:=.type "slice",data:=.fields #[vl,vu,.none]}} σ H3 x v vl vu l u ↥s3 Q c r1 (Heap.IsSliceOf.new ..) pl pu q3;show wpAny (model X.prog X.w) X.A (YN e (.Slice lo hi none p2) v (.ref ↥s3)) (EP X a σ Q) X.xe { s3 with heap:=s3.heap.push { cls:=.type "slice",data:=.fields #[vl,vu,.none]}};exact tail_any (ops:=[.ref ↥s3,v]) ht d hg (by with_unfolding_all rfl)
def uY(xs:List V)(lo hi:Option Int):List V:=(xs.drop (HT.sIx ⇑xs 0 lo)).take (HT.sIx ⇑xs ⇑xs hi - HT.sIx ⇑xs 0 lo)
def qz(xs:List V)(lo hi:Option Int):⇑(uY xs lo hi)<=⇑xs:=by
 unfold uY;rw[List.length_take,List.length_drop];lia
def Xr(K:W.Frag):V->Option Int->Option Int->Hp->VK->Prop:=λx lo hi H Q=>∃a xs,x=.ref a/\SqT K H a xs /\
 ¬(HT.sIx ⇑xs 0 lo=0/\HT.sIx ⇑xs ⇑xs hi=⇑xs)/\∀p,H p=none->Q (.ref p) (upd H p (.tup (uY xs lo hi)))
def RM:SlR X (Xr X.K):=by
 intro f s σ H x v m n lo hi l Q I k hs pl j h;let⟨a,xs,rfl,i,g,q⟩:=h;cases k;let⟨its,r,ht,d⟩:=I.tuple i;have c:its.toArray.size=⇑xs:=by rw[List.size_toArray];exact r.length.symm
 refine⟨"tuple",_,PyProof.Rows.slot_tuple_getitem.lookup,ht.typeIs,?_⟩;refine HT.oY ht hs pl j (by rw[c];exact g) ?_ (by rw[c];exact d);rw[c];refine⟨.ref ↥s,_,I.laid (t':=s.toks) (o:=.tup (uY xs lo hi)) (λb ob q=>Heap.get?_push_of_some _ q) (Nat.le_refl _) ?_,rfl,q _ (I.hok.fresh (Nat.le_refl _))⟩;exact⟨Nat.le_trans (qz xs lo hi) d,_,(r.drop (HT.sIx ⇑xs 0 lo)).take (HT.sIx ⇑xs ⇑xs hi - HT.sIx ⇑xs 0 lo),IsTup.new _ _⟩
def VR(K:W.Frag):R2:=λx y H Q=>∃a b xs ys,x=.ref a/\y=.ref b/\SqT K H a xs/\SqT K H b ys/\xs≠[]/\⇑xs+⇑ys<=sizeLine /\
 (ys=[]->Q (.ref a) H)/\(ys≠[]->∀p,H p=none->Q (.ref p) (upd H p (.tup (xs++ys))))
def Vals.wI{xs:List V}{us:eo}(r:Vals xs us):us=[]↔xs=[]:=by
 cases r with
 |nil=>simp
 |cons _ _=>simp
def Ov:OpR X (Z7 .Add) (VR X.K):=by
 intro i s σ H x y v u Q I n p h;let⟨a,b,xs,ys,rfl,rfl,ha,hb,j,f,l,m⟩:=h;cases n;cases p;let⟨its,d,k,_⟩:=I.tuple ha;let⟨g,c,p2,_⟩:=I.tuple hb;refine HT.Qk k p2 (λz=>j (d.wI.mp z)) (λz=>⟨.ref a,H,I,rfl,l (c.wI.mp z)⟩) (λz=>?_) (by rw[←⇑d,←⇑c];exact f);refine⟨.ref ↥s,_,I.laid (t':=s.toks) (o:=.tup (xs++ys)) (λb ob q=>Heap.get?_push_of_some _ q) (Nat.le_refl _) ?_,rfl,m (λw=>z (c.wI.mpr w)) _ (I.hok.fresh (Nat.le_refl _))⟩;exact⟨by rw[List.length_append];exact f,_,d.append c,IsTup.new _ _⟩
end
def ixN(n:Nat)(i:Int):Option Nat:=if 0<=i then(if i<n then some i.toNat else none)else if -(n:Int)<=i then some (i+n).toNat else none
def atI{α:Type}(xs:List α)(i:Int):Option α:=(ixN ⇑xs i).bind λj=>xs[j]?
def Py{n:Nat}{i:Int}{j:Nat}(h:ixN n i=some j):seqIndex? i n=some j/\j<n/\-(n:Int)<=i/\i<n:=by
 unfold ixN at h;by_cases a:0<=i
 ·rw[dP a]at h;by_cases h1:i<n
  ·rw[dP h1]at h;have e:i.toNat=j:=Option.some.inj h;exact⟨by rw[seqIndex_of a h1,e],(),(),h1⟩
  ·rw[dQ h1]at h;cases h
 ·rw[dQ a]at h;by_cases h1:-(n:Int)<=i
  ·rw[dP h1]at h;have e:(i+n).toNat=j:=Option.some.inj h;exact⟨by rw[seqIndex_neg () h1,e],(),h1,()⟩
  ·rw[dQ h1]at h;cases h
def FJ{α:Type}{xs:List α}{i:Int}{v:α}(h:atI xs i=some v):∃j,seqIndex? i ⇑xs=some j/\xs[j]?=some v/\j<⇑xs/\-(⇑xs:Int)<=i/\i<⇑xs:=by
 unfold atI at h;cases e:ixN ⇑xs i with
 |none=>rw[e]at h;cases h
 |some j =>
  rw[e]at h;let⟨h1,h2,a,b⟩:=Py e;exact⟨j,h1,h,h2,a,b⟩
def fW{α:Type}{xs:List α}{j:Nat}{v:α}(h:xs[j]?=some v):atI xs (j:Int)=some v:=by
 have a:j<⇑xs:=(List.getElem?_eq_some_iff.mp h).1;have e:ixN ⇑xs (j:Int)=some j:=by
  unfold ixN;rw[dP (),dP ()];simp
 unfold atI;rw[e];exact h
def pI(b:Zt):Prop:=∀o i,YO b false o i=operate [o,i] (YG o i)
def IxR(X:Cx)(r:R2):Prop :=
 ∀(value slice:Zt)(pins:ee)(s:Shared)(σ:St)(H:Hp)(x y:V)(v u:Value)(Q:VK),Inv X pins σ H s->RelV x v->RelV y u->r x y H Q ->
  YO slice false v u=operate [v,u] (YG v u)->wpAny (model X.prog X.w) X.A (YN value slice v u) (EP X pins σ Q) X.xe s
def MtR(X:Cx)(id:String)(r:V->List V->Hp->VK->Prop):Prop :=
 ∀(pins:ee)(s:Shared)(σ:St)(H:Hp)(x:V)(xs:List V)(v:Value)(us:eo)(Q:VK),Inv X pins σ H s->RelV x v->Vals xs us->r x xs H Q ->
  wpAny (model X.prog X.w) X.A (Z6 (.builtin id) (v::us)) (EP X pins σ Q) X.xe s
section
variable{a b:Zt}{ta tb:TE}{pos:Pos}
def IxR.or{r f:R2}(h:IxR X r)(h':IxR X f):IxR X (λx y H Q=>r x y H Q\/f x y H Q):=by
 intro d c e s σ H x y v u Q I g i q hs;rcases q with q|q
 ·exact h d c e s σ H x y v u Q I g i q hs
 ·exact h' d c e s σ H x y v u Q I g i q hs
def Dz{r:R2}(hr:IxR X r)(ha:PE X a ta)(hb:PE X b tb)(hs:pI b):PE X (.Subscript a b pos) (tOp r ta tb):=by
 intro c s σ H Q I h;exact YM (U5 ha hb I h λv u s2 x y H2 I2 rx ry q=>hr a b c s2 σ H2 x y v u Q I2 rx ry q (hs _ _))
def VN(K:W.Frag):R2:=λx y H Q=>∃p xs i v,x=.ref p/\y=.int i/\SqL K H p xs/\atI xs i=some v/\Q v H
def Xw(K:W.Frag):R2:=λx y H Q=>∃p xs i v,x=.ref p/\y=.int i/\SqT K H p xs/\atI xs i=some v/\Q v H
def qZ:IxR X (VN X.K):=by
 intro k g c s σ H x y v u Q I B C h hs;let⟨p,xs,i,z,rfl,rfl,A,he,q⟩:=h;cases B;let⟨t,rfl⟩:=C;let⟨its,r,pl,E⟩:=I.list A;let⟨j,h1,h2,D,n,o⟩:=FJ he;let⟨w,l,f⟩:=r.get h2;have hl:=⇑r;have hn:=wJ;have d:EP X c σ Q w s:=⟨z,H,I,f,q⟩
 by_cases m:0<=i
 ·have e:i.toNat=j:=by
   rw[seqIndex_of m o]at h1;exact Option.some.inj h1
  exact item_listR pl.isList m () (by rw[e];simpa using l) d hs
 ·have e:(i+(its.toArray.size:Int)).toNat=j:=by
   rw[seqIndex_neg () n]at h1;rw[List.size_toArray,←hl];exact Option.some.inj h1
  exact YQ (x:=w) pl.isList.typeIs slot_list_getitem.lookup
   (wpAny_getItem_list_neg (Q:=λr s'=>r=w/\EP X c σ Q r s') pl.isList () (by rw[List.size_toArray] <;> lia) () (by rw[e];simpa using l) ⟨rfl,d⟩) hs
def Lb:IxR X (Xw X.K):=by
 intro g f c s σ H x y v u Q I m n h hs;let⟨p,xs,i,z,rfl,rfl,l,he,q⟩:=h;cases m;let⟨t,rfl⟩:=n;let⟨its,r,pl,C⟩:=I.tuple l;let⟨j,h1,h2,o,A,B⟩:=FJ he;let⟨w,k,e⟩:=r.get h2;have hl:=⇑r;have hn:=wJ;have d:EP X c σ Q w s:=⟨z,H,I,e,q⟩
 exact YQ (x:=w) pl.typeIs slot_tuple_getitem.lookup
  (getItem_tuple (j:=j) (Q:=λr s'=>r=w/\EP X c σ Q r s') pl () () (by rw[List.size_toArray,←hl];exact h1) ↑k ⟨rfl,d⟩) hs
def v7(lo hi:Option Int)(n:Nat):(YR lo hi none n).1=(~~~(HT.sIx n 0 lo))/\(YR lo hi none n).2.1=(~~~(HT.sIx n n hi))/\(YR lo hi none n).2.2=1:=by
 refine⟨?_,?_,rfl⟩
 ·cases lo with
  |none=>simp[YR,HT.sIx]
  |some i =>
   simp only[YR,HT.sIx,Option.getD_none,show(1:Int) > 0 by decide,if_true];by_cases h:i<0
   ·simp only[h,if_true] <;> lia
   ·simp only[h,if_false] <;> lia
 ·cases hi with
  |none=>simp[YR,HT.sIx]
  |some i =>
   simp only[YR,HT.sIx,Option.getD_none,show(1:Int) > 0 by decide,if_true];by_cases h:i<0
   ·simp only[h,if_true] <;> lia
   ·simp only[h,if_false] <;> lia
def uN(its:eo)(lo hi:Option Int):YS its.toArray lo hi none=((its.drop (HT.sIx ⇑its 0 lo)).take (HT.sIx ⇑its ⇑its hi - HT.sIx ⇑its 0 lo)).toArray:=by
 let⟨h1,h2,c⟩:=v7 lo hi its.toArray.size;unfold YS;rw[h1,h2,c];simp only[sliceRange_one,pick_run,List.size_toArray] <;> rfl
def Xu(K:W.Frag):V->Option Int->Option Int->Hp->VK->Prop:=λx lo hi H Q=>∃a xs,x=.ref a/\SqL K H a xs/\∀p,H p=none->Q (.ref p) (upd H p (.lst (uY xs lo hi)))
def Ny:SlR X (Xu X.K):=by
 intro d s σ H x v k l lo hi j Q I i hs pl g h;let⟨a,xs,rfl,e,q⟩:=h;cases i;let⟨its,r,ht,f⟩:=I.list e;have c:=⇑r;refine⟨"list",_,slot_list_getitem.lookup,ht.isList.typeIs,?_⟩;refine YT ht.isList hs pl g .none (by simp) ?_ (by rw[List.size_toArray] <;> lia);rw[uN,←c];refine⟨.ref ↥s,_,I.laid (t':=s.toks) (o:=.lst (uY xs lo hi)) (λb ob q=>Heap.get?_push_of_some _ q) (Nat.le_refl _) ?_,rfl,q _ (I.hok.fresh (Nat.le_refl _))⟩;exact⟨Nat.le_trans (qz xs lo hi) f,_,0,(r.drop (HT.sIx ⇑xs 0 lo)).take (HT.sIx ⇑xs ⇑xs hi - HT.sIx ⇑xs 0 lo),Heap.get?_push_size _ rfl⟩
def gF:fj X (.builtin "len") (λxs H Q=>∃p ys,xs=[.ref p]/\(SqL X.K H p ys\/SqT X.K H p ys)/\Q (.int ⇑ys) H):=by
 intro f s σ H xs us Q I r h;let⟨p,ys,rfl,d,q⟩:=h;let⟨u,rfl,i⟩:=vals1 r;cases i;have hn:=wJ;rcases d with d|d
 ·let⟨its,e,pl,g⟩:=I.list d;have c:=⇑e;exact Calls.call_len_list pl.isList (by simp only[List.size_toArray] <;> lia) ⟨.int ⇑ys,H,I.tok _,⟨s.toks+1,by rw[List.size_toArray,c]⟩,q⟩
 ·let⟨its,e,pl,g⟩:=I.tuple d;have c:=⇑e;exact len_tuple pl (by simp only[List.size_toArray] <;> lia) ⟨.int ⇑ys,H,I.tok _,⟨s.toks+1,by rw[List.size_toArray,c]⟩,q⟩
def xH:fj X (.type "list") (λxs H Q=>∃p ys,xs=[.ref p]/\(SqL X.K H p ys\/SqT X.K H p ys)/\∀l,H l=none->Q (.ref l) (upd H l (.lst ys))):=by
 intro j s σ H xs us Q I r h;let⟨p,ys,rfl,g,q⟩:=h;let⟨u,rfl,m⟩:=vals1 r;cases m;have d:∀(its:eo),Vals ys its->⇑ys<=sizeLine->∀(h':Heap)(c':Nat),(∀b o',s.heap.get? b=some o'->h'.get? b=some o') ->
   h'.get? ↥s=some { cls:=.type "list",dict:=none,data:=.seq its.toArray c',slots:=#[]}->EP X j σ Q (.ref ↥s) { s with heap:=h' }:=λits c i h' c' kp e =>
  ⟨.ref ↥s,_,I.laid (t':=s.toks) kp (Nat.le_refl _) (show bQ X.prog X.w _ h' _ (.lst ys)from⟨i,its,c',c,e⟩),rfl,q _ (I.hok.fresh (Nat.le_refl _))⟩
 rcases g with g|g
 ·let⟨its,c,pl,i⟩:=I.list g;have f:=⇑c;let⟨o,k,hc,n,hd⟩:=pl.isList;exact YU p (.inl rfl) k hc hd (λh' c' kp e=>d its c i h' c' kp e) (by simp only[List.size_toArray] <;> lia)
 ·let⟨its,c,pl,i⟩:=I.tuple g;have f:=⇑c;let⟨o,k,hc,n,hd⟩:=pl;exact YU p (.inr rfl) k hc hd (λh' c' kp e=>d its c i h' c' kp e) (by simp only[List.size_toArray] <;> lia)
def uZ:fj X (.type "tuple") (λxs H Q=>∃p ys,xs=[.ref p]/\((SqL X.K H p ys/\∀l,H l=none->Q (.ref l) (upd H l (.tup ys)))\/(SqT X.K H p ys/\Q (.ref p) H))):=by
 intro c s σ H xs us Q I r h;let⟨p,ys,rfl,h⟩:=h;let⟨u,rfl,m⟩:=vals1 r;cases m;rcases h with⟨d,q⟩|⟨d,q⟩
 ·let⟨its,f,pl,j⟩:=I.list d;have i:=⇑f;refine call_tuple_list pl.isList (λh' kp=>?_) (by simp only[List.size_toArray] <;> lia);have g:Inv X c σ H { s with heap:=h' }:=I.kept (t':=s.toks) kp;have k:Inv X c σ (upd H h'.objs.size (.tup ys)) { s with heap:=h'.push { cls:=.type "tuple",data:=.seq its.toArray }} :=
   g.laid (t':=s.toks) (λb o e=>Heap.get?_push_of_some _ e) (Nat.le_refl _) (show bQ X.prog X.w _ _ _ (.tup ys)from⟨j,its,f,IsTup.new _ _⟩)
  exact⟨.ref h'.objs.size,_,k,rfl,q _ (g.hok.fresh (Nat.le_refl _))⟩
 ·let⟨its,f,pl,j⟩:=I.tuple d;exact call_tuple_same pl ⟨.ref p,H,I,rfl,q⟩
def tyV(K:W.Frag)(T:String)(x:V)(H:Hp):Prop:=match x with
 |.str _=>T="str"
 |.int _=>T="int"
 |.ref p=>(T="list"/\∃xs,SqL K H p xs)\/(T="tuple"/\∃o,K.lookup p=some o/\o.cls=.type "tuple"/\o.dict=none)∨
   (T="dict"/\((∃kvs,H p=some (.dK kvs))\/∃kvs,H p=some (.dT kvs)))\/(T="set"/\∃S n,H p=some (.set S n))
 |_=>False
def Il{f:ee}{σ:St}{H:Hp}{s:Shared}{T:String}{x:V}{v:Value}(I:Inv X f σ H s)(r:RelV x v)(ty:tyV X.K T x H) :
  s.TypeIs v T/\∀a,v=.ref a->∃ob,s.heap.get? a=some ob/\ob.dict=none:=by
 cases x with
 |str z =>
  let⟨t,rfl⟩:=r;cases (show T="str" from ty);exact⟨typeIs_str s z t,λ_ e=>nomatch e⟩
 |int i =>
  let⟨t,rfl⟩:=r;cases (show T="int" from ty);exact⟨YV s i t,λ_ e=>nomatch e⟩
 |ref p =>
  cases r;rcases ty with⟨rfl,xs,h⟩|⟨rfl,o,hk,hc,hd⟩|⟨rfl,hk⟩|⟨rfl,S,n,hk⟩
  ·let⟨its,_,pl,_⟩:=I.list h;refine⟨pl.isList.typeIs,λa e=>?_⟩;cases e;let⟨o,n,e,c,hd,_⟩:=pl;exact⟨o,e,hd⟩
  ·refine⟨⟨o,I.kIn p o hk,hc⟩,λa e=>?_⟩;cases e;exact⟨o,I.kIn _ o hk,hd⟩
  ·have z:∃o,s.heap.get? p=some o/\o.ExactDict:=by
    rcases hk with⟨g,hk⟩|⟨g,hk⟩
    ·let⟨_,_,_,_,o,_,_,e,d,_⟩:=I.hok p _ hk;exact⟨o,e,d⟩
    ·let⟨_,_,_,_,o,_,_,e,d,_⟩:=I.hok p _ hk;exact⟨o,e,d⟩
   let⟨o,e,d⟩:=z;refine⟨⟨o,e,d.1⟩,λa e2=>?_⟩;cases e2;exact⟨o,e,d.2.1⟩
  ·let⟨o,_,_,_,e,d,_⟩:=I.hok p _ hk;refine⟨⟨o,e,d.1⟩,λa e2=>?_⟩;cases e2;exact⟨o,e,d.2.1⟩
 |_=>exact False.elim ty
def RG(K:W.Frag)(T:String)(r:V->List V->Hp->VK->Prop)(c:TE):TE:=λσ H Q=>c σ H λx H1=>tyV K T x H1/\r x [] H1 Q
def tBM(K:W.Frag)(T:String)(r:V->List V->Hp->VK->Prop)(c:TE)(t:TA):TE:=λσ H Q=>c σ H λx H1=>tyV K T x H1/\t σ H1 λxs H2=>r x xs H2 Q
variable{o e:Zt}{es:List Zt}{to:TE}{t:TA}{name:Str}{apos cpos:Pos}{T id:String}{r:V->List V->Hp->VK->Prop}
def JZ(k:PlainAttrs T)(g:Slot T name id)(i:typeOf (.builtin id)=pure (.type "method_descriptor"))(hm:MtR X id r)(j:PE X o to)(d:Yp o name X.env (Zv o X.env)=Zv o X.env:=by rfl)(f:(apos.endLine==cpos.line)=true:=by rfl):PE X (.Call (.Attribute o name apos) [] [] cpos) (RG X.K T r to):=by
 intro c s σ H Q I h;refine wpAny_Call_method0_late d f (thn (j c s σ H _ I h) λv s1 ⟨x,H1,I1,r1,ty,q1⟩=>?_);let⟨h1,h2⟩:=Il I1 r1 ty;exact⟨T,id,k,g,i,h1,h2,Calls.callWith_builtin rfl (PySem.evalArgs_none (hm c s1 σ H1 x [] v [] Q I1 r1 .nil q1))⟩
def rR(n:PlainAttrs T)(j:Slot T name id)(k:typeOf (.builtin id)=pure (.type "method_descriptor"))(hm:MtR X id r)(m:PE X o to)(ha:PA X (e::es) t)(f:Yp o name X.env (Zv o X.env)=Zv o X.env:=by rfl)(i:((Zw cpos (Zu (e::es) X.env)).all (λx=>!x.1)&&(Zy cpos (Zz [] X.env)).all (λx=>x.1.isSome)
  &&decide (⇑(e::es)+⇑([]:List ZA)+(if([]:List ZA).isEmpty then 0 else 1)<30))=true:=by rfl)(g:(apos.endLine==cpos.line)=true:=by rfl)(hs:Zu (e::es) X.env=(false,Zv e X.env)::Zu es X.env:=by rfl)(d:(Zw cpos (Zu es X.env)).any (·.1)=false:=by rfl) :
  PE X (.Call (.Attribute o name apos) (e::es) [] cpos) (tBM X.K T r to t):=by
 intro c s σ H Q I h;refine wpAny_Call_method_late f i g rfl (thn (m c s σ H _ I h) λv s1 ⟨x,H1,I1,r1,ty,q1⟩=>?_);let⟨h1,h2⟩:=Il I1 r1 ty;refine⟨T,id,n,j,k,h1,h2,?_⟩;have l:=ha cpos c s1 σ H1 _ I1 q1;rw[hs]at l ⊢;refine Calls.callWith_builtin (by show(false || (Zw cpos (Zu es X.env)).any (·.1))=false;rw[d] <;> rfl) (Calls.evalArgs_plain ?_);exact thn l λus s2 ⟨vs,H2,I2,r2,q2⟩=>hm c s2 σ H2 x vs v us Q I2 r1 r2 q2
/- xs.append(e),list.index on a module's tuple .. are MtR facts of 06m -/
end
def MtM(X:Cx)(id:String)(r:V->List V->Hp->VK->Prop):Prop :=
 ∀(pins:ee)(s:Shared)(σ:St)(H:Hp)(x:V)(xs:List V)(v:Value)(us:eo)(Q:VK),Inv X pins σ H s->RelV x v->Vals xs us->r x xs H Q ->
  wpAny (model X.prog X.w) X.A (Z6 (.builtin id) (v::us)) (EP X pins σ Q) X.xe s
theorem Vals.one:∀{x:V}{us:eo},Vals [x] us->∃u,us=[u]/\RelV x u
 |_,_,.cons r .nil=>⟨_,rfl,r⟩
theorem Vals.two:∀{x y:V}{us:eo},Vals [x,y] us->∃u v,us=[u,v]/\RelV x u/\RelV y v
 |_,_,_,.cons r (.cons q .nil)=>⟨_,_,rfl,r,q⟩
theorem Vals.zero:∀{us:eo},Vals [] us->us=[]
 |_,.nil=>rfl
def Vals.dropLast{xs:List V}{us:eo}(h:Vals xs us):Vals xs.dropLast us.dropLast:=by
 induction h with
 |nil=>exact .nil
 |cons r t ih =>
  cases t with
  |nil=>exact .nil
  |cons q t'=>exact .cons r ih
theorem Vals.rep{xs:List V}{us:eo}(h:Vals xs us):∀k:Nat,Vals (List.replicate k xs).flatten (List.replicate k us).flatten
 |0=>.nil
 |k+1=>by
  rw[List.replicate_succ,List.replicate_succ,List.flatten_cons,List.flatten_cons];exact Vals.append h (Vals.rep h k)
def Ci{α:Type}(l:List α):l.eraseIdx (⇑l - 1)=l.dropLast:=by
 induction l with
 |nil=>rfl
 |cons a r ih =>
  cases r with
  |nil=>rfl
  |cons b r =>
   have e:⇑(a::b::r) - 1=(⇑(b::r) - 1)+1:=by
    have h1:⇑(a::b::r)=⇑r+2:=rfl;have h2:⇑(b::r)=⇑r+1:=rfl;lia
   rw[e,List.eraseIdx_cons_succ,ih]
   all_goals rfl
theorem foldl_rep(its:eo):∀(k:Nat)(acc:eo),
  List.foldl (λx1 x2=>x1++x2) acc.toArray (List.replicate k its.toArray)=(acc++(List.replicate k its).flatten).toArray
 |0,acc=>by simp
 |k+1,acc=>by
  have e:acc.toArray++its.toArray=(acc++its).toArray:=by simp
  have a:(acc++its)++(List.replicate k its).flatten=acc++(List.replicate (k+1) its).flatten:=by
   rw[List.replicate_succ,List.flatten_cons,List.append_assoc]
  rw[←a,←foldl_rep its k (acc++its),←e,List.replicate_succ,List.foldl_cons]
section
variable{pins:ee}{σ:St}{H:Hp}{s:Shared}{l b:Addr}{xs ys zs:List V}
def Inv.O6{its its':eo}{n:Nat}{f:el->el}{t':Nat}(I:Inv X pins σ H s)(a:H l=some (.lst xs))(e:s.heap.get? l=some { cls:=.type "list",data:=.seq its.toArray n })(c:f its.toArray=its'.toArray)(hv:Vals ys its')(d:⇑ys<=sizeLine) :
  Inv X pins σ (upd H l (.lst ys)) { s with heap:=s.heap.update l (Obj.mapSeq f),toks:=t' }:=by
 have q:=PySem.IsL.update e f;rw[c]at q;refine I.write (x:=l) (e:=l) (by rw[a];exact trivial) (.inl rfl) (λb' u hb hu=>(Heap.get?_update_other s.heap (Obj.mapSeq f) (Ne.symm hb)).trans hu) ⟨_,q⟩ ?_;exact⟨d,its',_,hv,q⟩
def Inv.Wf{its:eo}{t':Nat}(I:Inv X pins σ H s)(hv:Vals ys its)(a:⇑ys<=sizeLine) :
  Inv X pins σ (upd H ↥s (.lst ys)) { s with heap:=s.heap.push { cls:=.type "list",data:=.seq its.toArray },toks:=t' } :=
 I.laid (λ_ _ q=>Heap.get?_push_of_some _ q) (Nat.le_refl _) ⟨a,its,0,hv,Heap.get?_push_size _ rfl⟩
def Inv.fresh(I:Inv X pins σ H s):H ↥s=none:=I.hok.fresh (Nat.le_refl _)
def Inv.yS(I:Inv X pins σ H s)(a:H l=some (.lst xs)):⇑xs<=sizeLine/\∃(its:eo)(n:Nat),Vals xs its/\⇑xs=⇑its/\s.heap.get? l=some { cls:=.type "list",data:=.seq its.toArray n }:=by
 let⟨z,its,n,r,e⟩:=I.hok l _ a;exact⟨z,its,n,r,⇑r,e⟩
def yK{n:Nat}(h:n<=sizeLine):Builtin.List.listTooLong n=false:=by
 unfold Builtin.List.listTooLong;exact dC ()
end
section
def nG:V->List V->Hp->VK->Prop:=λx vs H Q=>∃l xs y,x=.ref l/\vs=[y]/\H l=some (.lst xs)/\⇑xs<sizeLine/\Q .non (upd H l (.lst (xs++[y])))
def gJ:MtM X "list.append" nG:=by
 intro b s σ H x vs v us Q I f d h;let⟨l,xs,y,rfl,rfl,a,g,q⟩:=h;cases f;let⟨u,rfl,c⟩:=d.one;let⟨z,its,n,r,hl,e⟩:=I.yS a;refine YW F.slot_list_append ⟨_,e,rfl⟩ F.entry_list_append (F.args_list_append_2 _ _) (PySem.list_append l its.toArray n u (by rw[List.size_toArray];lia)) ⟨e,?_⟩;refine⟨.non,_,I.O6 (its':=its++[u]) a e (by simp) (r.append (.cons c .nil)) ?_,rfl,q⟩;rw[List.length_append,List.length_singleton];lia
def Oa:V->List V->Hp->VK->Prop:=λx vs H Q=>∃l b xs zs,x=.ref l/\vs=[.ref b]/\H l=some (.lst xs)/\H b=some (.lst zs)/\⇑xs+⇑zs<=sizeLine/\Q .non (upd H l (.lst (xs++zs)))
def Va:MtM X "list.extend" Oa:=by
 intro f s σ H x vs v us Q I t p h;let⟨l,b,xs,A,rfl,rfl,d,i,w,q⟩:=h;cases t;let⟨u,rfl,o⟩:=p.one;cases o;let⟨z,its,n,r,hl,e⟩:=I.yS d;let⟨y,a,k,m,j,g⟩:=I.yS i;have hsz:its.toArray.size+a.toArray.size<=sizeLine:=by rw[List.size_toArray,List.size_toArray];lia
 have c:¬(!its.toArray.isEmpty&&Builtin.List.listTooLong (its.toArray.size+a.toArray.size))=true:=by
  rw[yK hsz,Bool.and_false];exact Bool.false_ne_true
 refine YW F.slot_list_extend ⟨_,e,rfl⟩ F.entry_list_extend (F.args_list_extend_2 _ _)
  (AutoSeq1.list_extend_list_list_0 l its.toArray n b a.toArray k c (by rw[List.size_toArray];lia) ()) ⟨e,g,?_⟩
 refine⟨.non,_,I.O6 (its':=its++a) d e (by simp) (r.append m) ?_,rfl,q⟩;rw[List.length_append];lia
def R6:V->List V->Hp->VK->Prop:=λx vs H Q=>∃l xs y,x=.ref l/\vs=[]/\H l=some (.lst xs)/\xs[⇑xs - 1]?=some y/\Q y (upd H l (.lst xs.dropLast))
def Ks:MtM X "list.pop" R6:=by
 intro d s σ H x vs v us Q I j i h;let⟨l,xs,y,rfl,rfl,c,f,q⟩:=h;cases j;have a:=i.zero;subst a;let⟨z,its,n,r,hl,e⟩:=I.yS c;let⟨u,hu,g⟩:=r.get f;have b:its.toArray[its.toArray.size - 1]?=some u:=by
  show its.toArray[⇑its - 1]?=some u;rw[←Array.getElem?_toList,←hl];exact hu
 refine YW F.slot_list_pop ⟨_,e,rfl⟩ F.entry_list_pop (F.args_list_pop_1 _) (MeetsSeq.list_pop_last l its.toArray n u b (by rw[List.size_toArray];lia)) ⟨e,?_⟩;refine⟨y,_,I.O6 (its':=its.dropLast) c e ?_ r.dropLast ?_,g,q⟩
 ·show its.toArray.eraseIdxIfInBounds (its.toArray.size - 1)=its.dropLast.toArray;rw[List.size_toArray,List.eraseIdxIfInBounds_toArray,Ci]
 ·rw[List.length_dropLast];lia
def V0:R2:=λx y H Q=>∃l b xs zs,x=.ref l/\y=.ref b/\H l=some (.lst xs)/\H b=some (.lst zs)/\⇑xs+⇑zs<=sizeLine/\∀p,H p=none->Q (.ref p) (upd H p (.lst (xs++zs)))
def Tf:OpR X (Z7 .Add) V0:=by
 intro c s σ H x y v u Q I m o h;let⟨l,b,xs,A,rfl,rfl,i,g,p,q⟩:=h;cases m;cases o;let⟨z,its,n,r,hl,e⟩:=I.yS i;let⟨w,a,t,k,j,d⟩:=I.yS g;refine PySem.P.add_list e d ?_ (by rw[List.size_toArray,List.size_toArray];lia);have f:its.toArray++a.toArray=(its++a).toArray:=by simp
 rw[f];exact⟨.ref _,_,I.Wf (t':=s.toks) (r.append k) (by rw[List.length_append];lia),rfl,q _ I.fresh⟩
def VL:R2:=λx y H Q=>∃l k xs,x=.ref l/\y=.int k/\H l=some (.lst xs)/\-(2 ^ 63)<=k/\k<2 ^ 63/\⇑xs * k.toNat<=sizeLine /\
 ∀p,H p=none->Q (.ref p) (upd H p (.lst (List.replicate k.toNat xs).flatten))
def len_rep{α:Type}(xs:List α)(k:Nat):(List.replicate k xs).flatten.length=k * ⇑xs:=by
 induction k with
 |zero=>simp
 |succ k a=>rw[List.replicate_succ,List.flatten_cons,List.length_append,a,Nat.succ_mul,Nat.add_comm]
def S9:OpR X (Z7 .Mult) VL:=by
 intro j s σ H x y v u Q I w A h;let⟨l,k,xs,rfl,rfl,p,h1,h2,i,q⟩:=h;cases w;let⟨t,rfl⟩:=A;let⟨z,its,n,r,hl,e⟩:=I.yS p;have f:its.toArray.size * k.toNat<=sizeLine:=by rw[List.size_toArray,←hl];exact i
 have c:¬its.toArray.size * k.toNat > (2 ^ 63 - 1) / 8:=by
  have:(sizeLine:Nat)<=(2 ^ 63 - 1) / 8:=∅
  lia
 have d:¬(!Builtin.List.listFitsIndex k)=true:=by
  rw[fitsIndex_both h1 h2];exact Bool.false_ne_true
 have b:¬Builtin.List.listTooLong (its.toArray.size * k.toNat)=true:=by
  rw[yK f];exact Bool.false_ne_true
 have g:List.foldl (λx1 x2=>x1++x2) #[] (List.replicate (if its.toArray.isEmpty=true then 0 else k.toNat) its.toArray)=(List.replicate k.toNat its).flatten.toArray:=by
  have o:∀m:Nat,List.foldl (λx1 x2=>x1++x2) #[] (List.replicate m its.toArray)=(List.replicate m its).flatten.toArray:=λm=>by
   have:=foldl_rep its m [];rw[List.nil_append]at this;exact this
  rw[o];cases its with
  |nil=>simp
  |cons a B=>rw[dQ (by simp)]
 refine wpAny_binaryOp_repeat_ref (T:="list") (U:="int") ∅ ⟨_,e,rfl⟩ (λs'=>YV s' k t) noFill_list_mul F.fills_int_mul F.slot_int_rmul repeat_list F.slot_int_index.lookup
  (YW F.slot_int_rmul (YV s k t) F.entry_int_rmul (F.args_int_rmul_2 _ _) (int___rmul___int_list k t l its.toArray n)
   ⟨e,rfl,⟨_,e,rfl⟩,YW F.slot_list_mul ⟨_,e,rfl⟩ F.entry_list_mul (F.args_list_mul_2 _ _) (AutoListH.list___mul___list_int_3 l its.toArray n k t d c b) ⟨e,?_⟩⟩)
 rw[g];exact⟨.ref _,_,I.Wf (t':=s.toks) (r.rep k.toNat) (by rw[len_rep,Nat.mul_comm];exact i),rfl,q _ I.fresh⟩
section
variable{prog:Za}{w:Zb}{A:Zr}{E:d6}{s:Shared}
end
end
end L2
namespace Att
open PySem.W PySem.Calls
def qH{P:Zd}{h:Heap}:∀(ns:eg)(vs:eo),WellAll P h vs (ns.map WData.int)->IntsAre vs ns:=by
 intro ns;induction ns with
 |nil =>
  intro vs w;rw[List.map_nil]at w;cases w;exact .nil
 |cons n ns ih =>
  intro vs w;rw[List.map_cons]at w;cases w with
  |cons a b =>
   cases a;exact .cons _ _ (ih _ b)
def Gm{l:OpenLaw}{n:Nat}(hn:l.most=some n){P:Zd}{h:Heap}{b:List WData}{e:eo}(c:l.row.toRowW.claim.pre b=true)(m:WellAll P h e b) :
  ∃a vs ns,e=[Value.ref a]/\b=[WData.list (ns.map WData.int)]/\h.get? a=some { cls:=.type "list",data:=.seq vs.toArray }/\IntsAre vs ns/\⇑ns<=n:=by
 have k:WShape.hasAll [] b [.list .int]=true:=(pre_splitW c).1;have hc:l.pre.holds [] { args:=b }=true:=(pre_splitW c).2;let⟨d,r,rfl,h1,h2⟩:=hasAllW_cons k;obtain rfl:=hasAllW_nil h2;let⟨xs,rfl,o⟩:=hasW_list h1;let⟨ns,rfl⟩:=items_int o;have g:⇑ns<=n:=by
  unfold OpenLaw.pre at hc;have i:(WTm.not (.lt (.lit (.int (n:Int))) (.len (.arg 0)))).holds [] { args:=[.list (ns.map .int)]}=true:=by
   have i:=(holds_andW hc).1;rw[hn]at i;exact i
  have j:=condW_of i (w_not (w_lt w_lit (w_len_list (w_arg rfl))));rw[List.length_map]at j;refine Nat.le_of_not_lt λq=>?_;have s:(n:Int)<(⇑ns:Int):=()
  first
   |(rw[fy s]at j;exact dS j ∅)
   |(simp at j;lia)
 cases m with
 |cons w1 w2 =>
  cases w2;cases w1 with
  |list p f=>exact⟨_,_,ns,rfl,rfl,p,qH ns _ f,g⟩
def Gp(l:OpenLaw)(a:List WData):l.row.toRowW.claim.post a (.bool true) a=true :=
 postW_of (r:=l.row.toRowW) (X:=(true==true))
  (show WShape.has [] (.bool true) .bool=true by first|rfl|decide|simp[WShape.has,WShape.arms,WShape.armsAll])
  (show(WTm.eq .res (.lit (.bool true))).value [] { args:=a,res:=some (.bool true),after:=a }=some (.bool (true==true))from w_eq_bool (w_res rfl) w_lit) rfl
def Ae{l:OpenLaw}{n:Nat}{q:Za}{loose:List Str}{XP:(Str->ew)->Heap->Prop}{YP:Zb->Heap->Prop}{d:DefRec}(hn:l.most=some n)(s:d.params.defaults=[])(h:∀(w:Zb)(c b:Shared)(mg v:Str->ew)(i:Addr)(o:Obj)(x p e:Value)(a:Addr)(vs:eo)(ns:eg),
   Ground q loose [] XP w c mg v b.heap->YP w b.heap ->
   b.heap.get? i=some o->o.data=.func (docDef d.name d.params d.body d.scope x p e)->b.heap.CodeRec p d.name->mg d.name=some (.ref i) ->
   b.heap.get? a=some { cls:=.type "list",data:=.seq vs.toArray }->IntsAre vs ns->⇑ns<=n->b.gens=#[] ->
   Yo (model l.prog w) callerA (.call (.ref i) ⟨[.ref a],[]⟩) (λr s'=>r=.ok (.ret (.bool true))/\OldK b.heap s'.heap/\s'.os=b.os/\ZB s'.gens) b) :
  WalkO q loose XP YP l.row.toRowW d [] (λf vs=>PySem.call f vs):=by
 intro w c b mg v G Y i o x p e C kV H hd hcd z t hg y B J m A I u F;obtain rfl:C=.none:=Dflts.none z s;obtain rfl:kV=.none:=Dflts.noKw z;let⟨a,vs,ns,rfl,rfl,k,g,j⟩:=Gm hn m u;refine enter_call (Yw (h w c b mg v i o x p e a vs ns G Y H (fd_plain hd) hcd t k g j hg) λr s' hq=>?_);let⟨rfl,h2,D,E⟩:=hq;exact⟨.inl ⟨.bool true,.bool true,[],rfl,λ_=>rfl,.bool true,Gp l _,λ_=>⟨List.Pairwise.nil,λ_ hm=>(nomatch hm)⟩⟩,h2,D,E⟩
section
variable{prog:Za}{w:Zb}{A:Zr}{E:d6}{s:Shared}{K:Frag}
def ledger(h:Heap)(L d:Addr):ee:=(List.range h.objs.size).filterMap λa=>if a=L\/a=d then none else(h.get? a).map λo=>(a,o)
end
end Att
namespace L2
open PySem.Spec
variable{X:Cx}
theorem lH:∀{vs:eo}{ns:eg},IntsAre vs ns->Vals (ns.map V.int) vs
 |_,_,.nil=>.nil
 |_,_,.cons n t h=>.cons ⟨t,rfl⟩ (lH h)
def inClass(s:ZF)(j:Nat):ZF:=match s with
 |.ClassDef _ _ _ a _ _ _ _ _ _ _=>a.getD j (.Pass ⟨0,0,0,0⟩)
 |_=>.Pass ⟨0,0,0,0⟩
def cF(s:ZF):YA:=match s with
 |.FunctionDef _ a _ _ _ _ _ _ _ _=>a
 |_=>{ posonlyargs:=[],args:=[],vararg:=none,kwonlyargs:=[],kw_defaults:=[],kwarg:=none,defaults:=[]}
def bG(s:ZF):List ZF:=match s with
 |.FunctionDef _ _ b _ _ _ _ _ _ _=>b
 |_=>[]
def aC(s:ZF):Zs:=match s with
 |.FunctionDef _ _ _ _ _ _ a _ _ _=>a
 |_=>{ kind:=.function,names:=[],isGenerator:=false,isCoroutine:=false }
abbrev CX0:CXT:=λ_ _ _ _ _ _=>False
abbrev E0:XK:=λ_ _ _=>False
def vB{X:Cx}:Passes CX0 X E0:=λ_ _ _ _ _ _ _ h=>h.elim
structure Fun(K:W.Frag)(x qual:Str)(st:ZF)(f:Addr)(fd:Yt):Prop where
 ex:∃(oc:Value)(od:et)(kV doc pm:Value)(an:et)(cdv ct:Value)(osl:Array ew),
  fd=W.fnOf x qual (cF st) (bG st) (aC st) .none kV doc pm an cdv ct/\K.lookup f=some ⟨oc,od,.func fd,osl⟩/\W.codeIn K cdv qual=true
 kp:W.keepIn K (.ref f)=true
section
variable{P:Za}{w:Zb}{K:W.Frag}{mg:Str->ew}{fw:Heap}
def Fun.ok{x qual:Str}{st:ZF}{f:Addr}{e:Yt}{N ps:List Str}{k:Nat}{sp:Sp}(F:Fun K x qual st f e)(S:FnScope N ps (aC st))(d:∀vs H Q E,sp vs H Q E->⇑vs=⇑ps)(c:∀(b:Value)(A:Zr)(a:List Env)(s:Shared)(H:Hp)(vs:List V)(Q:VK)(E:XK),Room k (A.deeper (Yz qual (aC st) ↥s f b))->sp vs H Q E ->
   ∃t,PSs (zU CX0 P w K mg fw N qual (aC st) f b A a s H E).nox (bG st) t/\t { nx:=λ_ H'=>Q .non H',rt:=Q } (start N vs) H):FnOk P w K mg fw CX0 (k+1) f e ps sp:=by
 let⟨n,o,kV,g,p,l,b,m,j,rfl,i,hcd⟩:=F.ex;refine Q8 i hcd S d λA a s H vs Q E hr hsp=>?_;let⟨t,h,q⟩:=c b A a s H vs Q E hr hsp;exact⟨t,h.nox,q⟩
def Fun.binds{x qual:Str}{st:ZF}{f:Addr}{g:Yt}{ps:List Str}(F:Fun K x qual st f g)(h:∀(kV b e:Value)(c:et)(a d:Value)(us:eo),⇑us=⇑ps->bindArgs (W.fnOf x qual (cF st) (bG st) (aC st) .none kV b e c a d) ⟨us,[]⟩=pure (ps.zip us):=by intro _ _ _ _ _ _ us hl;first|(let⟨_,rfl⟩:=Nf.len1 us hl;rfl)|(let⟨_,_,rfl⟩:=Nf.len2 us hl;rfl)|(let⟨_,_,_,rfl⟩:=Nf.XM us hl;rfl)):Binds K g ps []:=by
 let⟨k,l,kV,b,e,c,a,d,i,rfl,j,hcd⟩:=F.ex;exact .all (h kV b e c a d)
def aR{x qual:Str}{st:ZF}{f:Addr}{i:Value}{j e:et}{d:Array ew}{kV b h a g:Value}(l:K.lookup f=some ⟨i,j,.func (W.fnOf x qual (cF st) (bG st) (aC st) .none kV b h e a g),d⟩)(c:W.codeIn K a qual=true)(k:W.keepIn K (.ref f)=true):Fun K x qual st f (W.fnOf x qual (cF st) (bG st) (aC st) .none kV b h e a g):=⟨⟨i,j,kV,b,h,e,a,g,d,rfl,l,c⟩,k⟩
end
section
def pv(i:Nat){x:Str}{pos:Pos}(hN:X.N[i]?=some x:=by rfl)(hv:Vis X.env.scope x:=by first|exact Or.inl rfl|exact Or.inr (Or.inl rfl)|exact Or.inr (Or.inr rfl))(hd:(x==("__debug__":Str))=false:=by decide)(hcd:(x==("__classdict__":Str))=false:=by decide):PE X (.Name x pos) (jJ i):=Sx hN hv hd hcd
end
def bw{A B:Prop}(h:B):if false=true then A else B:=by
 rw[dQ Bool.false_ne_true];exact h
def bC{A B:Prop}(h:A):if true=true then A else B:=by
 rw[dP rfl];exact h
def zu{c A B:Prop}[Decidable c](h1:c->A)(h2:¬c->B):if c then A else B:=by
 by_cases h:c
 ·rw[dP h];exact h1 h
 ·rw[dQ h];exact h2 h
def Same(H H':Hp):Prop:=∀b o,H b=some o->H' b=some o
def Same.refl(H:Hp):Same H H:=λ_ _ h=>h
structure CB where
 cl:List (Str×Addr)
 C:Addr
 s:Shared
 H:Hp
 ex:List Addr
abbrev Cx.bO(X:Cx)(own M:List Str)(scope:Zs)(c:CB):Cx where
 prog:=X.prog
 w:=X.w
 K:=X.K
 mg:=X.mg
 fw:=X.fw
 A:=X.A
 N:=own++M
 s₀:=c.s
 H₀:=c.H
 env:=compEnvC scope c.cl c.C X.env
 outer:=X.stack
 stack:=X.stack
 ex:=c.ex
 fn:=λx=>scope.names.lookup x==some .cell
 calm:=X.calm
 pn:=[]
 sf:=X.sf
 xe:=λ_ _=>False
abbrev Cx.comp(X:Cx)(own:List Str)(scope:Zs)(c:CB):Cx:=X.bO own X.N scope c
def eF(cells:List (Str×Addr)):List (Str×NameKind)->List (Str×Addr)->List (Str×Addr)
 |[],acc=>acc
 |(n,k)::r,acc=>if k==.free then eF cells r ((n,(cells.lookup n).getD 0)::acc)else eF cells r acc
theorem jz{env:Env}:∀(names:List (Str×NameKind))(acc:List (Str×Addr)),(∀x∈names,x.2=.free->∃c,env.cells.lookup x.1=some c) ->
  (forIn names acc λ(p:Str×NameKind) (r:List (Str×Addr))=>match p with
   |(name,kind)=>if(kind==NameKind.free)=true then do let a ←YX env name;pure (ForInStep.yield ((name,a)::r))else pure (ForInStep.yield r):Sem (List (Str×Addr)))=pure (eF env.cells names acc)
 |[],acc,_=>by simp[eF]
 |(n,k)::r,acc,h=>by
  rw[List.forIn_cons];by_cases hk:(k==NameKind.free)=true
  ·let⟨c,hc⟩:=h (n,k) List.mem_cons_self ↑hk;have e:YX env n=pure c:=by unfold YX;rw[hc]
   have b:=jz (env:=env) r ((n,c)::acc) λx hx=>h x (List.mem_cons_of_mem _ hx);show((if(k==NameKind.free)=true then do let a ←YX env n;pure (ForInStep.yield ((n,a)::acc))else pure (ForInStep.yield acc)) >>=_:Sem _)=_;rw[dP hk,e];unfold eF;rw[dP hk,hc];exact b
  ·have b:=jz (env:=env) r acc λx hx=>h x (List.mem_cons_of_mem _ hx);show((if(k==NameKind.free)=true then do let a ←YX env n;pure (ForInStep.yield ((n,a)::acc))else pure (ForInStep.yield acc)) >>=_:Sem _)=_;rw[dQ hk];unfold eF;rw[dQ hk];exact b
def Cy{b:Zs}{env:Env}(h:∀x∈b.names,x.2=.free->∃c,env.cells.lookup x.1=some c):YY b env=pure (eF env.cells b.names []):=by
 have e:=jz (env:=env) b.names [] h;unfold YY;show(forIn b.names [] _ >>=λcs=>pure cs:Sem _)=_;have d:(forIn b.names ([]:List (Str×Addr)) λ(p:Str×NameKind) (r:List (Str×Addr))=>match p with
   |(name,kind)=>if(kind==NameKind.free)=true then do let a ←YX env name;pure (ForInStep.yield ((name,a)::r))else pure (ForInStep.yield r):Sem (List (Str×Addr)))=pure (eF env.cells b.names []):=e
 rw[d];rfl
theorem pC{cells:List (Str×Addr)}{x:Str}{c:Addr}:∀{names:List (Str×NameKind)}{acc:List (Str×Addr)},(eF cells names acc).lookup x=some c->acc.lookup x=some c\/((x,NameKind.free)∈names/\c=(cells.lookup x).getD 0)
 |[],acc,h=>.inl h
 |(n,k)::r,acc,h=>by
  unfold eF at h;by_cases hk:(k==NameKind.free)=true
  ·rw[dP hk]at h;have a:k=.free:=↑hk
   rcases pC h with q|⟨d,f⟩
   ·rw[List.lookup_cons]at q;cases b:x==n with
    |true =>
     rw[b]at q;have e:x=n:=↑b
     subst e a;exact .inr ⟨List.mem_cons_self,(Option.some.inj q).symm⟩
    |false=>rw[b]at q;exact .inl q
   ·exact .inr ⟨List.mem_cons_of_mem _ d,f⟩
  ·rw[dQ hk]at h;rcases pC h with q|⟨d,f⟩
   ·exact .inl q
   ·exact .inr ⟨List.mem_cons_of_mem _ d,f⟩
theorem uF{cells:List (Str×Addr)}{x:Str}:∀{names:List (Str×NameKind)}{acc:List (Str×Addr)},(acc.lookup x).isSome=true->((eF cells names acc).lookup x).isSome=true
 |[],_,h=>h
 |(n,k)::r,acc,h=>by
  unfold eF;split
  ·refine uF ?_;rw[List.lookup_cons];cases a:x==n <;> simp[h]
  ·exact uF h
theorem lC{cells:List (Str×Addr)}{x:Str}:∀{names:List (Str×NameKind)}{acc:List (Str×Addr)},(x,NameKind.free)∈names->((eF cells names acc).lookup x).isSome=true
 |(n,k)::r,acc,h=>by
  unfold eF;rcases List.mem_cons.mp h with e|h
  ·cases e;rw[dP (by rfl)];exact uF (by simp[List.lookup_cons])
  ·split
   ·exact lC h
   ·exact lC h
def iy(env:Env)(a:Zs)(N:List Str):Bool :=
 (a.kind==.function)&&a.names.all λy=>match y.2 with
  |.local=>!(N.contains y.1)&&(a.names.lookup y.1==some .local)
  |.cell=>!(N.contains y.1)&&(a.names.lookup y.1==some .cell)
  |.free=>(a.names.lookup y.1==some .free)&&(env.kindOf y.1==some .cell || env.kindOf y.1==some .free)
  |_=>true
theorem d8{env:Env}:∀{names:List (Str×NameKind)}{x:Str}{q:NameKind},(names.map λ(n,k)=>if(k==NameKind.free&&env.scope.kind==.function&&env.kindOf n==some .cell)then(n,NameKind.cell)else(n,k)).lookup x=some q ->
  ∃k,(x,k)∈names/\names.lookup x=some k/\(q=k\/(q=.cell/\k=.free))
 |[],_,_,h=>by simp at h
 |(n,k)::r,x,q,h=>by
  have d:=@d8 env r x q;have h':List.lookup x ((if(k==NameKind.free&&env.scope.kind==.function&&env.kindOf n==some .cell)=true then(n,NameKind.cell)else(n,k))::(r.map λ(n,k)=>if(k==NameKind.free&&env.scope.kind==.function&&env.kindOf n==some .cell)then(n,NameKind.cell)else(n,k)))=some q:=h;by_cases hc:(k==NameKind.free&&env.scope.kind==.function&&env.kindOf n==some .cell)=true
  ·rw[dP hc,List.lookup_cons]at h';cases a:x==n with
   |true =>
    rw[a]at h';have e:x=n:=↑a
    subst e;have hk:k=.free:=by simp at hc;exact hc.1.1
    exact⟨k,List.mem_cons_self,by simp[List.lookup_cons],.inr ⟨(Option.some.inj h').symm,hk⟩⟩
   |false =>
    rw[a]at h';let⟨c,h1,h2,b⟩:=d h';exact⟨c,List.mem_cons_of_mem _ h1,by rw[List.lookup_cons,a];exact h2,b⟩
  ·rw[dQ hc,List.lookup_cons]at h';cases a:x==n with
   |true =>
    rw[a]at h';have e:x=n:=↑a
    subst e;exact⟨k,List.mem_cons_self,by simp[List.lookup_cons],.inl (Option.some.inj h').symm⟩
   |false =>
    rw[a]at h';let⟨c,h1,h2,b⟩:=d h';exact⟨c,List.mem_cons_of_mem _ h1,by rw[List.lookup_cons,a];exact h2,b⟩
def HOk.track{P:Za}{w:Zb}{H:Hp}{h:Heap}{a:Addr}{o:HO}(x:HOk P w H h)(hn:H a=none)(new:bQ P w (upd H a o) h a o):HOk P w (upd H a o) h:=λb u e=>by
 by_cases hb:b=a
 ·subst hb;rw[aB]at e;cases e;exact new
 ·rw[ao hb]at e;exact(x b u e).stay (λc v _ q=>q) (λc q=>by rw[ao (au q hn)];exact q) λc xs q=>by rw[ao (au q hn)];exact q
def Ht{prog:Za}{w:Zb}{A:Zr}{s:Shared}{e a d:Zt}{f:List Zt}{b:Zs}{pos:Pos}{it acc:Value}{env:Env}{R:Result->Shared->Prop}(I:Nat->Shared->Prop)(g:∀n s,I n s->wpAny (model prog w) A (Z0 it) (λr s₁=>match r with
   |none=>R (.ok .next) s₁
   |some v=>wpAny (model prog w) A (Z1 a it v) (λ_ s₀=>wpAny (model prog w) A (ZR a env v) (λ_ s₂ =>
     wpAny (model prog w) A (forIn f true λc r=>if r=true then do let ok ←ZE c env (Zv c env);pure (ForInStep.yield ok)else pure (ForInStep.yield r)) (λok s₃ =>
      if ok=true then wpAny (model prog w) A (Zv e env) (λx s₄ =>
       wpAny (model prog w) A (Z6 (.builtin "list.append") [acc,x]) (λ_ s₅=>∃m,m<n/\I m s₅) (λ_ _=>False) s₄) (λ_ _=>False) s₃
      else ∃m,m<n/\I m s₃) (λ_ _=>False) s₂) (λ_ _=>False) s₀) (λ_ _=>False) s₁) (λ_ _=>False) s)(n:Nat)(h:I n s):Yo (model prog w) A (.compLoop (.ListComp e [⟨a,d,f,0⟩] b pos) 0 it acc env) R s:=by
 refine codeAny_loop rfl I (λn s hI=>?_) n h;show wpAny _ A ((compTurn (.ListComp e [⟨a,d,f,0⟩] b pos) 0 it acc env).onRaise (λx=>do noteFrame x env;theTreesLotGoes x)) _ _ s;refine wpAny_noted ?_;rw[compTurn_list];refine wpAny_bind (ZX (wpAny_bind (ZG (g n s hI) (λr s₁ h₁=>?_) λ_ _ h'=>h'.elim)));cases r with
 |none=>exact Z2 h₁
 |some v =>
  refine wpAny_bind (ZG h₁ (λ_ s₀ h₀'=>?_) λ_ _ h'=>h'.elim);refine wpAny_bind (ZG h₀' (λ_ s₂ h₂=>wpAny_bind (ZG h₂ (λok s₃ h₃=>?_) λ_ _ h'=>h'.elim)) λ_ _ h'=>h'.elim);cases ok with
  |false=>exact Z2 ⟨rfl,h₃⟩
  |true =>
   exact wpAny_bind (wpAny_bind (ZG h₃ (λx s₄ h₄=>wpAny_bind (ZG h₄ (λ_ s₅ h₅=>Z2 (Z2 ⟨rfl,h₅⟩)) λ_ _ h'=>h'.elim)) λ_ _ h'=>h'.elim))
def PTs(X:Cx)(a:List Zt)(t:TT):Prop :=
 ∀(pins:ee)(s:Shared)(σ:St)(H:Hp)(Q:Bool->Hp->Prop),Inv X pins σ H s->t σ H Q ->
  wpAny (model X.prog X.w) X.A (forIn a true λc r=>if r=true then do let ok ←ZE c X.env (Zv c X.env);pure (ForInStep.yield ok)else pure (ForInStep.yield r)) (TP X pins σ Q) X.xe s
def Od{X:Cx}:PTs X [] (λ_ H Q=>Q true H):=λ_ _ _ H _ I h=>wpAny_tests_nil ⟨H,I,h⟩
def Oc{X:Cx}{c:Zt}{t:TT}(hc:PT X c t):PTs X [c] t:=λpins s σ H Q I h=>wpAny_tests_one (hc pins s σ H Q I h)
def Xc(J:It)(n:Nat)(g:CB->TG)(d:CB->TT)(a:CB->TE)(σ:St)(Q:VK)(H:Hp):Prop:=∃W:Nat->Nat->List V->Hp->Prop,(∃m,W 0 m [] H)/\∀(c:CB) i m ys H,W i m ys H ->
 (J.stop i H/\∀p,H p=none->Q (.ref p) (upd H p (.lst ys)))∨
 (J.go i H/\⇑ys<sizeLine/\∃N:List V->Hp->Prop,(∀ys' H',N ys' H'->∃m',m'<m/\W (i+1) m' ys' H')/\∀x H',J.yld i H x H'->g c x (List.replicate n none++σ) H' λσ2 H2=>d c σ2 H2 λb H3 =>
  if b=true then a c σ2 H3 λv H4=>N (ys++[v]) H4 else N ys H3)
def tLC(n:Nat)(c:TI)(g:CB->TG)(b:CB->TT)(a:CB->TE):TE:=λσ H Q=>c σ H λJ H1=>Xc J n g b a σ Q H1
section
variable{own:List Str}{scope:Zs}{tg iter elt:Zt}{ifs:List Zt}{pos:Pos}{wi:TI}{g:CB->TG}{tt:CB->TT}{te:CB->TE}
def bM(env:Env)(scope:Zs)(N M:List Str):Bool :=
 iy env scope M&&((⇑N==⇑M)&&(N.zip M).all λy=>y.1==y.2 || ((y.2==("":Str))&&scope.names.all λz=>!(z.1==("":Str))))
def zV{env:Env}{N:List Str}(h:iy env scope N=true):bM env scope N N=true:=by
 unfold bM;rw[h,Bool.true_and,d4,Bool.true_and,List.all_eq_true];rintro⟨a,b⟩ c;let⟨i,hi,e⟩:=List.mem_iff_getElem.mp c;rw[List.getElem_zip]at e;cases e;simp
variable{M:List Str}
def gD(h:bM X.env scope X.N M=true):scope.kind=.function:=by
 unfold bM iy at h;simp only[Bool.and_eq_true,beq_iff_eq]at h;exact h.1.1
def cT(h:bM X.env scope X.N M=true):∀y∈scope.names,(y.2=.local->y.1∉M/\scope.names.lookup y.1=some .local)/\(y.2=.cell->y.1∉M/\scope.names.lookup y.1=some .cell)/\(y.2=.free->scope.names.lookup y.1=some .free/\(X.env.kindOf y.1=some .cell\/X.env.kindOf y.1=some .free)):=by
 unfold bM at h;rw[Bool.and_eq_true]at h;have h:=h.1;unfold iy at h;rw[Bool.and_eq_true,List.all_eq_true]at h;intro y a;have q:=h.2 y a;let⟨n,k⟩:=y;cases k with
 |«local»=>simp at q ⊢;exact q
 |cell=>simp at q ⊢;exact q
 |free=>simp at q ⊢;exact q
 |globalExplicit=>simp
 |globalImplicit=>simp
theorem bZ:∀(names:List (Str×NameKind))(n:Nat)(acc:List (Str×Addr)),cellsFrom n names acc=cellsFrom n names []++acc
 |[],_,_=>rfl
 |(nm,k)::r,n,acc=>by
  show(if(k==NameKind.cell)=true then cellsFrom (n+1) r ((nm,n)::acc)else cellsFrom n r acc)=(if(k==NameKind.cell)=true then cellsFrom (n+1) r [(nm,n)]else cellsFrom n r [])++acc;split
  ·rw[bZ r (n+1) ((nm,n)::acc),bZ r (n+1) [(nm,n)],List.append_assoc];rfl
  ·exact bZ r n acc
theorem gP:∀(names:List (Str×NameKind))(n:Nat)(x:Str)(c:Addr),(x,c)∈cellsFrom n names []->(x,NameKind.cell)∈names/\n<=c
 |[],_,_,_,h=>nomatch h
 |(nm,k)::r,n,x,c,h=>by
  have h:(x,c)∈(if(k==NameKind.cell)=true then cellsFrom (n+1) r [(nm,n)]else cellsFrom n r []):=h;split at h
  ·rename_i hk;rw[bZ]at h;rcases List.mem_append.mp h with z|z
   ·let⟨h1,h2⟩:=gP r (n+1) x c z;exact⟨List.mem_cons_of_mem _ h1,()⟩
   ·have z:(x,c)=(nm,n):=↑z
    cases z;have hk:k=.cell:=↑hk
    subst hk;exact⟨List.mem_cons_self,Nat.le_refl _⟩
  ·let⟨h1,h2⟩:=gP r n x c h;exact⟨List.mem_cons_of_mem _ h1,h2⟩
theorem qg:∀(names:List (Str×NameKind))(n:Nat)(x y:Str)(c:Addr),(x,c)∈cellsFrom n names []->(y,c)∈cellsFrom n names []->x=y
 |[],_,_,_,_,h,_=>nomatch h
 |(nm,k)::r,n,x,y,c,h,h'=>by
  have h:(x,c)∈(if(k==NameKind.cell)=true then cellsFrom (n+1) r [(nm,n)]else cellsFrom n r []):=h;have h':(y,c)∈(if(k==NameKind.cell)=true then cellsFrom (n+1) r [(nm,n)]else cellsFrom n r []):=h';by_cases hk:(k==NameKind.cell)=true
  ·rw[dP hk,bZ]at h h';rcases List.mem_append.mp h with z|z <;> rcases List.mem_append.mp h' with a|a
   ·exact qg r (n+1) x y c z a
   ·have:=(gP r (n+1) x c z).2;have a:(y,c)=(nm,n):=↑a
    cases a;exact dS this (Nat.not_succ_le_self _)
   ·have:=(gP r (n+1) y c a).2;have z:(x,c)=(nm,n):=↑z
    cases z;exact dS this (Nat.not_succ_le_self _)
   ·have z:(x,c)=(nm,n):=↑z
    have a:(y,c)=(nm,n):=↑a
    cases z;cases a;rfl
  ·rw[dQ hk]at h h';exact qg r n x y c h h'
theorem lM:∀(names:List (Str×NameKind))(h:Heap)(b:Addr)(o:Obj),h.get? b=some o->(YZ h names).get? b=some o
 |[],_,_,_,e=>e
 |(nm,k)::r,h,b,o,e=>by
  show(if(k==NameKind.cell)=true then YZ (h.push { cls:=Value.type "cell",data:=Data.cell none }) r else YZ h r).get? b=some o;split
  ·exact lM r _ b o (Heap.get?_push_of_some _ e)
  ·exact lM r h b o e
theorem pL:∀(names:List (Str×NameKind))(h:Heap)(x:Str)(c:Addr),(x,c)∈cellsFrom h.objs.size names []->(YZ h names).IsCell c none
 |[],_,_,_,e=>nomatch e
 |(nm,k)::r,h,x,c,e=>by
  have e:(x,c)∈(if(k==NameKind.cell)=true then cellsFrom (h.objs.size+1) r [(nm,h.objs.size)]else cellsFrom h.objs.size r []):=e;show(if(k==NameKind.cell)=true then YZ (h.push { cls:=Value.type "cell",data:=Data.cell none }) r else YZ h r).IsCell c none;by_cases hk:(k==NameKind.cell)=true
  ·rw[dP hk,bZ]at e;rw[dP hk];rcases List.mem_append.mp e with z|z
   ·exact pL r _ x c (by rw[Heap.size_push];exact z)
   ·have z:(x,c)=(nm,h.objs.size):=↑z
    cases z;exact⟨_,lM r _ _ _ (Heap.get?_push_size _ rfl),rfl⟩
  ·rw[dQ hk]at e ⊢;exact pL r h x c e
def Bo{M:ZD}{A:Zr}{E:d6}{s:Shared}{scope:Zs}{d:Addr}{c:List (Str×Addr)}{qual:Str}{f:et}{e:Value}{b:Option Env}{a:Addr}{Q:Env->Shared->Prop}(h:Q (newEnv scope ↥s d (cellsFrom (↥s+1) scope.names c) qual f e b a) { s with heap:=YZ (s.heap.push { cls:=Value.type (if b.isSome=true then "dict" else "frame"),data:=Data.dict #[]}) scope.names }) :
  wpAny M A (Y0 scope d c [] qual f e b a) Q E s:=by
 unfold Y0;refine wpAny_bind (wpAny_alloc ?_);refine wpAny_bind (wpAny_layCells _ (λ_ _ _=>rfl) _ _ _ _ ?_);rw[Heap.size_push];exact wpAny_bind (Z2 (Z2 h))
def U0{n:Nat}{names:List (Str×NameKind)}{cl:List (Str×Addr)}{x:Str}{c:Addr}(h:(cellsFrom n names cl).lookup x=some c):(x,c)∈cellsFrom n names []\/cl.lookup x=some c:=by
 rw[bZ,List.lookup_append]at h;cases e:(cellsFrom n names []).lookup x with
 |none=>rw[e]at h;exact .inr h
 |some d =>
  rw[e]at h;cases h;exact .inl (PySem.mem_of_lookup e)
def M5{n:Nat}{names:List (Str×NameKind)}{cl:List (Str×Addr)}{x:Str}(h:∀c,(x,c)∈cellsFrom n names []->False):(cellsFrom n names cl).lookup x=cl.lookup x:=by
 rw[bZ,List.lookup_append];cases e:(cellsFrom n names []).lookup x with
 |none=>rfl
 |some d=>exact(h d (PySem.mem_of_lookup e)).elim
def zG(h:bM X.env scope X.N M=true){n:Nat}{x:Str}(a:(x,NameKind.free)∈scope.names):∀c,(x,c)∈cellsFrom n scope.names []->False:=λc z=>by
 have h1:=((cT h _ a).2.2 rfl).1;have h2:=((cT h _ (gP _ _ _ _ z).1).2.1 rfl).2;rw[h1]at h2;cases h2
def lB(h:bM X.env scope X.N M=true):⇑X.N=⇑M:=by
 unfold bM at h;rw[Bool.and_eq_true,Bool.and_eq_true]at h;exact d5 h.2.1
def vO{i:Nat}{x:Str}{k:NameKind}(h:bM X.env scope X.N M=true)(c:M[i]?=some x)(_:x∈M)(hn:(x,k)∈scope.names):X.N[i]?=some x:=by
 have hl:=lB h;unfold bM at h;rw[Bool.and_eq_true,Bool.and_eq_true,List.all_eq_true]at h;have hi:i<⇑M:=(List.getElem?_eq_some_iff.mp c).1;have a:M[i]=x:=(List.getElem?_eq_some_iff.mp c).2;have b:i<⇑X.N:=()
 have q:=h.2.2 (X.N[i],M[i]) (by
  refine List.mem_iff_getElem.mpr ⟨i,by rw[List.length_zip];lia,?_⟩;rw[List.getElem_zip])
 rw[Bool.or_eq_true]at q;rcases q with q|q
 ·have q:X.N[i]=M[i]:=d5 q;rw[List.getElem?_eq_getElem b,q,a]
 ·rw[Bool.and_eq_true,List.all_eq_true]at q;have e:M[i]=("":Str):=d5 q.1;have z:=q.2 (x,k) hn;rw[←a,e]at z;simp at z
def Cw{w:ee}{σ:St}{H:Hp}{s:Shared}{G:List Addr}{h₁:Heap}{tk:Nat}(hk:bM X.env scope X.N M=true)(I:Inv X w σ H s)(R:∀b∈G,mJ X w H b)(L:∀b∈G,∃o,s.heap.get? b=some o)(Y:h₁.Ns (↥s+1) λ_=>none)(r:∀b o,s.heap.get? b=some o->h₁.get? b=some o)(hD:h₁.get? ↥s=some { cls:=.type "list",data:=.seq #[] 0 })(V:∀x c,(x,c)∈cellsFrom (↥s+2) scope.names []->h₁.IsCell c none) :
  Inv (X.bO own M scope ⟨cellsFrom (↥s+2) scope.names (eF X.env.cells scope.names []),↥s+1,s,H,G⟩) [(↥s,{ cls:=.type "list",data:=.seq #[] 0 })] (List.replicate ⇑own none++σ) H { s with heap:=h₁,toks:=tk }:=by
 have U:=gD hk;have a:=cT hk;have O:∀x,(x,NameKind.free)∈scope.names->∃c,X.env.cells.lookup x=some c:=λx n=>I.ok.has x ((a _ n).2.2 rfl).2;have K:∀x c,(eF X.env.cells scope.names []).lookup x=some c->X.env.cells.lookup x=some c/\(x,NameKind.free)∈scope.names:=λx c e=>by
  rcases pC e with q|⟨E,S⟩
  ·simp at q
  ·let⟨c',F⟩:=O x E;rw[F]at S;exact⟨by rw[F,S];rfl,E⟩
 have d:∀x c,(cellsFrom (↥s+2) scope.names (eF X.env.cells scope.names [])).lookup x=some c->(X.env.cells.lookup x=some c/\(x,NameKind.free)∈scope.names/\c<↥s)\/((x,c)∈cellsFrom (↥s+2) scope.names []/\(x,NameKind.cell)∈scope.names/\↥s+2<=c):=λx c e=>by
  rcases U0 e with z|z
  ·exact .inr ⟨z,gP _ _ _ _ z⟩
  ·let⟨h1,h2⟩:=K x c z;let⟨v,o,D,_⟩:=I.cell x c h1;exact .inl ⟨h1,h2,Heap.lt_size D⟩
 have t:∀x,(Y1 scope X.env).names.lookup x=some .cell\/(Y1 scope X.env).names.lookup x=some .free->(x,NameKind.free)∈scope.names\/(x,NameKind.cell)∈scope.names:=λx n=>by
  have key:∀q,(Y1 scope X.env).names.lookup x=some q->q=.cell\/q=.free->(x,NameKind.free)∈scope.names\/(x,NameKind.cell)∈scope.names:=λq hq hq'=>by
   let⟨k,h1,h2,C⟩:=d8 (env:=X.env) (names:=scope.names) hq;rcases C with C|⟨_,C⟩
   ·subst C;rcases hq' with z|z
    ·rw[z]at h1;exact .inr h1
    ·rw[z]at h1;exact .inl h1
   ·rw[C]at h1;exact .inl h1
  rcases n with n|n
  ·exact key _ n (.inl rfl)
  ·exact key _ n (.inr rfl)
 have Q:∀b o,s.heap.get? b=some o->b<↥s:=λb o e=>Heap.lt_size e;refine⟨⟨I.ok.mod,U,I.ok.glob,I.ok.blt,Nat.le_succ _,λx y c h1 h2=>?inj,λx n=>?_,λx c z e=>?cab,I.ok.hd,I.ok.frames,.inl rfl,λb hb=>⟨?_,λx c e=>?exf⟩,I.bs,
   Nat.le_trans I.ok.bsz I.sz,λb o e hb=>?_,λb hb hs=>?_,I.stack,I.Dh,λq hq=>⟨(I.ok.sof q hq).1,I.fw.frzs _ _ _ (I.ok.sof q hq).2.1,(I.ok.sof q hq).2.2⟩⟩,rfl,I.bare,Un.kept r,⟨_,Y,λi x v h1 h2 C=>?_⟩,λx c e=>?_,?_,λx c e=>?frc,λp hp=>?_,I.hok.kept r,?_⟩
 case inj =>
  rcases d x c h1 with⟨A,_,B⟩|⟨A,_,B⟩ <;> rcases d y c h2 with⟨b1,_,b3⟩|⟨b1,_,b3⟩
  ·exact I.ok.inj x y c A b1
  ·exact dS (Nat.lt_of_lt_of_le B (Nat.le_trans (Nat.le_add_right _ 2) b3)) (Nat.lt_irrefl _)
  ·exact dS (Nat.lt_of_lt_of_le b3 (Nat.le_trans (Nat.le_add_right _ 2) B)) (Nat.lt_irrefl _)
  ·exact qg _ _ _ _ _ A b1
 case cab =>
  show ↥s<=c;rcases d x c e with⟨_,a2,_⟩|⟨_,_,B⟩
  ·have h1:=((a _ a2).2.2 rfl).1;have z:(scope.names.lookup x==some NameKind.cell)=true:=z;rw[h1]at z;exact dS z ∅
  ·lia
 case exf =>
  rcases d x c e with⟨A,_,_⟩|⟨_,_,B⟩
  ·exact(R b hb).2.2.2.2.1 x c A
  ·let⟨o,e⟩:=L b hb;have:=Q b o e;intro z;subst z;exact dS (Nat.lt_of_lt_of_le this (Nat.le_trans (Nat.le_add_right _ 2) B)) (Nat.lt_irrefl _)
 case frc =>
  rcases d x c e with⟨A,_,_⟩|⟨_,_,B⟩
  ·exact I.freeC x c A
  ·exact I.hok.fresh ()
 ·have hx':(Y1 scope X.env).names.lookup x=some .cell\/(Y1 scope X.env).names.lookup x=some .free:=n;refine Option.isSome_iff_exists.mp (W.cellsFrom_some _ _ _ ?_);rcases t x hx' with z|z
  ·exact .inr (lC z)
  ·exact .inl ((a _ z).2.1 rfl).2
 ·let⟨o,e⟩:=L b hb;exact Nat.ne_of_lt (Nat.lt_succ_of_lt (Q b o e))
 ·have j:b∈G:=hb;rcases(R b j).2.2.2.1 with z|z
  ·exact I.ok.noex b o e z
  ·exact dS (Nat.lt_of_lt_of_le (Heap.lt_size (I.ok.bs b o e).1) z) (Nat.lt_irrefl _)
 ·have j:b∈G:=hb;rcases List.mem_cons.mp (I.vY b hs)with z|z
  ·exact(R b j).2.1 z
  ·exact(R b j).2.2.1 z
 ·have hi:⇑own<=i:=by
   by_cases hi:i<⇑own
   ·rw[List.getElem?_append_left ↑hi,List.getElem?_replicate]at h2;split at h2 <;> cases h2
   ·lia
  have f:M[i - ⇑own]?=some x:=by
   have q:(own++M)[i]?=some x:=h1
   rwa [List.getElem?_append_right hi]at q
  have T:σ[i - ⇑own]?=some (some v):=by
   rw[List.getElem?_append_right ↑hi]at h2;simpa using h2
  have J:Vis (Y1 scope X.env) x:=C;have l:(x,NameKind.free)∈scope.names:=by
   rcases J with z|z
   ·let⟨k,E,S,h⟩:=d8 (env:=X.env) (names:=scope.names) z;rcases h with h|⟨h,_⟩
    ·subst h;exact dS (List.mem_of_getElem? f) ((a _ E).1 rfl).1
    ·cases h
   ·rcases t x z with y|y
    ·exact y
    ·exact dS (List.mem_of_getElem? f) ((a _ y).2.1 rfl).1
  have P:=((a _ l).2.2 rfl).2;let⟨m,hm,hl⟩:=I.loc;let⟨u,ru,lu⟩:=hl _ x v (vO hk f (List.mem_of_getElem? f) l) T (by rcases P with z|z;exact .inr (.inl z);exact .inr (.inr z));refine⟨u,ru,.inr ⟨?_,?_⟩⟩
  ·rcases J with z|z|z
   ·let⟨k,E,S,h⟩:=d8 (env:=X.env) (names:=scope.names) z;rcases h with h|⟨h,_⟩
    ·subst h;exact dS (List.mem_of_getElem? f) ((a _ E).1 rfl).1
    ·cases h
   ·exact .inl z
   ·exact .inr z
  ·rcases lu with⟨z,_⟩|⟨_,c,e,ic⟩
   ·rcases P with q|q
    ·rw[q]at z;cases z
    ·rw[q]at z;cases z
   ·let⟨c',F⟩:=Option.isSome_iff_exists.mp (lC (cells:=X.env.cells) (acc:=[]) l);have e2:=(K x c' F).1;rw[e]at e2;cases e2;let⟨o,D,hd⟩:=ic;exact⟨c,(M5 (zG hk l)).trans F,o,r _ _ D,hd⟩
 ·rcases d x c e with⟨z,_,_⟩|⟨z,_,_⟩
  ·let⟨v,o,D,hd⟩:=I.cell x c z;exact⟨v,o,r _ _ D,hd⟩
  ·exact⟨none,V x c z⟩
 ·exact I.hok.fresh (Nat.le_succ _)
 ·have Z:p=(↥s,{ cls:=.type "list",data:=.seq #[] 0 }):=↑hp
  subst Z;refine⟨hD,I.hok.fresh (Nat.le_refl _),Nat.ne_of_lt (Nat.lt_succ_self _),λz=>?_,λv z=>nomatch z⟩;let⟨_,o,D,_⟩:=I.stack.mem z;exact dS (Heap.lt_size D) (Nat.lt_irrefl _)
 ·show(List.replicate ⇑own none++σ).length=⇑(own++M);rw[List.length_append,List.length_append,List.length_replicate,I.len,lB hk]
def Cv{c j:ee}{σ h:St}{H H':Hp}{s k:Shared}{i:List Addr}{cl:List (Str×Addr)}{ys:List V}{us:eo}{n:Nat}(I:Inv X c σ H s)(f:∀b∈i,mJ X c H b)(J:Inv (X.bO own M scope ⟨cl,↥s+1,s,H,i⟩) j h H' k)(hp:(↥s,({ cls:=.type "list",data:=.seq us.toArray n }:Obj))∈j)(hv:Vals ys us)(m:⇑ys<=sizeLine) :
  Inv X c σ (upd H' ↥s (.lst ys)) k/\H' ↥s=none:=by
 let⟨l,a,_⟩:=J.pin _ (List.mem_append_right _ hp);refine⟨I.call' J.os ⟨λb o e n hb hx=>J.fw.keep b o e n hb hx,λb o e n hb hx=>J.fw.slot b o e n hb hx,λb o e n hx=>?_,λb o e hx=>J.fw.there b o e hx,λb xs e=>?_,λb o u e=>?_,λb ps e=>?_⟩ ?_ J.bare ?_,a⟩
 ·rw[ao (Nat.ne_of_lt (Heap.lt_size e))];exact J.fw.free b o e n hx
 ·have q:=J.fw.tups b xs e;rw[ao (au q a)];exact q
 ·have q:=J.fw.frzs b o u e;rw[ao (au q a)];exact q
 ·let⟨d,q⟩:=J.fw.tbls b ps e;exact⟨d,by rw[ao (au q a)];exact q⟩
 ·exact J.hok.track a ⟨m,us,n,hv,l⟩
 ·intro b hb;exact⟨(f b hb).2.2.2.1,(f b hb).2.1,(f b hb).2.2.2.2.1,(f b hb).2.2.2.2.2⟩
def uD{d F:ee}{σ D:St}{H H':Hp}{s G:Shared}{t:List Addr}{cl:List (Str×Addr)}(hk:bM X.env scope X.N M=true)(I:Inv X d σ H s)(L:∀b∈t,mJ X d H b)(A:∀x,(x,NameKind.free)∈scope.names->∃c,cl.lookup x=some c/\X.env.cells.lookup x=some c)(J:Inv (X.bO own M scope ⟨cl,↥s+1,s,H,t⟩) F D H' G):Inv (X.bO own M scope ⟨cl,↥s+1,s,H,t⟩) F (List.replicate ⇑own none++σ) H' G:=by
 have j:=cT hk;refine⟨J.ok,J.os,J.bare,J.fw,?_,J.cell,J.free,J.freeC,J.pin,J.hok,?_⟩
 ·let⟨R,B,_⟩:=J.loc;refine⟨R,B,λi x v h1 h2 f=>?_⟩;have hi:⇑own<=i:=by
   by_cases hi:i<⇑own
   ·rw[List.getElem?_append_left ↑hi,List.getElem?_replicate]at h2;split at h2 <;> cases h2
   ·lia
  have a:M[i - ⇑own]?=some x:=by
   have q:(own++M)[i]?=some x:=h1
   rwa [List.getElem?_append_right hi]at q
  have w:σ[i - ⇑own]?=some (some v):=by
   rw[List.getElem?_append_right ↑hi]at h2;simpa using h2
  have y:Vis (Y1 scope X.env) x:=f;have p:¬(Y1 scope X.env).names.lookup x=some .local:=λz=>by
   let⟨k,S,V,r⟩:=d8 (env:=X.env) (names:=scope.names) z;rcases r with r|⟨r,_⟩
   ·subst r;exact dS (List.mem_of_getElem? a) ((j _ S).1 rfl).1
   ·cases r
  have l:(Y1 scope X.env).names.lookup x=some .cell\/(Y1 scope X.env).names.lookup x=some .free:=by
   rcases y with z|z
   ·exact dS z p
   ·exact z
  have h:(x,NameKind.free)∈scope.names:=by
   have key:∀q,(Y1 scope X.env).names.lookup x=some q->q=.cell\/q=.free->(x,NameKind.free)∈scope.names:=λq hq hq'=>by
    let⟨k,h1,h2,f⟩:=d8 (env:=X.env) (names:=scope.names) hq;rcases f with f|⟨_,f⟩
    ·subst f;rcases hq' with z|z
     ·rw[z]at h1;exact dS (List.mem_of_getElem? a) ((j _ h1).2.1 rfl).1
     ·rw[z]at h1;exact h1
    ·rw[f]at h1;exact h1
   rcases l with C|C
   ·exact key _ C (.inl rfl)
   ·exact key _ C (.inr rfl)
  have n:=((j _ h).2.2 rfl).2;let⟨m,hm,hl⟩:=I.loc;let⟨u,T,Q⟩:=hl _ x v (vO hk a (List.mem_of_getElem? a) h) w (by rcases n with z|z;exact .inr (.inl z);exact .inr (.inr z));refine⟨u,T,.inr ⟨l,?_⟩⟩;rcases Q with⟨z,_⟩|⟨_,c,e,P⟩
  ·rcases n with q|q
   ·rw[q]at z;cases z
   ·rw[q]at z;cases z
  ·let⟨U,K,E⟩:=A x h;rw[e]at E;cases E;let⟨o,O,hd⟩:=P;let⟨W,q⟩:=J.fw.any O (I.freeC x c e) λz=>(L c z).2.2.2.2.1 x c e rfl;exact⟨c,K,_,q,hd⟩
 ·show(List.replicate ⇑own none++σ).length=⇑(own++M);rw[List.length_append,List.length_append,List.length_replicate,I.len,lB hk]
def vL{t:ee}{σ:St}{H:Hp}{s:Shared}{it:Addr}{a:List Addr}{tn:Nat->Heap->Prop}{J:It}{W:Nat->Nat->List V->Hp->Prop}{E:d6}{RR:Value->Addr->Result->Shared->Prop}{Cm:Cx->Prop}(hc:∀c,Cm (X.bO own M scope c))(hk:bM X.env scope X.N M=true)(hg:∀c,PG (X.bO own M scope c) tg (g c))(ht:∀c,PTs (X.bO own M scope c) ifs (tt c))(he:∀c,PE (X.bO own M scope c) elt (te c))(I:Inv X t σ H s)(T:TurnG Cm X.prog X.w X.K tg J a it tn)(st:tn 0 s.heap)(U:∀b∈a,mJ X t H b){m0:Nat}(w0:W 0 m0 [] H){D:List V->Hp->Prop}(turn:∀(c:CB) i m ys H,W i m ys H->(J.stop i H/\D ys H)∨
   (J.go i H/\⇑ys<sizeLine/\∃N:List V->Hp->Prop,(∀ys' H',N ys' H'->∃m',m'<m/\W (i+1) m' ys' H')/\∀x H',J.yld i H x H'->g c x (List.replicate ⇑own none++σ) H' λσ2 H2=>tt c σ2 H2 λb H3 =>
    if b=true then te c σ2 H3 λv H4=>N (ys++[v]) H4 else N ys H3))(fin:∀s' m' ys H',(s'.heap.Ns (↥s+1) m')->H' (↥s+1)=none->H' ↥s=none->Inv X t σ (upd H' ↥s (.lst ys)) s'->D ys H'->RR (.ref ↥s) (↥s+1) (.ok .next) s') :
  wpAny (model X.prog X.w) X.A (Y2 []) (λacc s₃=>wpAny (model X.prog X.w) X.A (Y0 scope X.env.globals (eF X.env.cells scope.names []) [] X.env.qual none .none (some X.env)) (λcenv s₄ =>
   Yo (model X.prog X.w) X.A (.compStart (.ListComp elt [⟨tg,iter,ifs,0⟩] scope pos) 0 (.ref it) acc { cenv with scope:=Y1 scope X.env }) (RR acc cenv.locals) s₄) E s₃) E s:=by
 have hkk:=gD hk;have hka:=cT hk;refine YJ (Bo ?_);dsimp only;have hC:(s.heap.push { cls:=.type "list",dict:=none,data:=.seq ([]:eo).toArray }).objs.size=↥s+1:=Heap.size_push ..;rw[hC];generalize R:s.heap.push { cls:=.type "list",dict:=none,data:=.seq ([]:eo).toArray }=H2 at hC ⊢;generalize L:H2.push { cls:=Value.type (if(some X.env:Option Env).isSome=true then "dict" else "frame"),data:=Data.dict #[]}=H3;generalize Z:YZ H3 scope.names=h₁;have hC3:H3.objs.size=↥s+2:=by rw[←L,Heap.size_push,hC]
 have G:∀b o,H3.get? b=some o->h₁.get? b=some o:=λb o e=>Z ▸ lM _ _ _ _ e;have F:∀b o,H2.get? b=some o->h₁.get? b=some o:=λb o e=>G b o (L ▸ Heap.get?_push_of_some _ e);have old:∀b o,s.heap.get? b=some o->h₁.get? b=some o:=λb o e=>F b o (R ▸ Heap.get?_push_of_some _ e);have S:h₁.get? ↥s=some { cls:=.type "list",data:=.seq #[] 0 }:=F _ _ (R ▸ Heap.get?_push_size _ rfl);have hns:h₁.Ns (↥s+1) λ_=>none:=by
  have z:=Heap.Ns.new H2 (Value.type (if(some X.env:Option Env).isSome=true then "dict" else "frame"));rw[hC,L]at z;exact z.keeps G
 have hnc:∀x c,(x,c)∈cellsFrom (↥s+2) scope.names []->h₁.IsCell c none:=λx c e=>by
  rw[←hC3]at e;exact Z ▸ pL _ _ _ _ e
 have Y:∀b∈a,∃o,s.heap.get? b=some o:=λb hb=>let⟨o,e,_⟩:=T.obj 0 _ st b hb;⟨o,e⟩
 have B:tn 0 h₁:=T.keep 0 _ _ st λb _ o e=>old b o e;have h:=Cw (own:=own) (tk:=s.toks) hk I U Y hns old S hnc;have C:∀s₃:Shared,s₃={ s with heap:=h₁,toks:=s.toks } ->
   Yo (model X.prog X.w) X.A (.compLoop (.ListComp elt [⟨tg,iter,ifs,0⟩] scope pos) 0 (.ref it) (.ref ↥s) (compEnvC scope (cellsFrom (↥s+2) scope.names (eF X.env.cells scope.names [])) (↥s+1) X.env))
    (RR (.ref ↥s) (↥s+1)) s₃:=by
  rintro s₃ rfl;have neD:∀b∈a,b≠↥s:=λb hb=>by
   let⟨o,e⟩:=Y b hb;exact Nat.ne_of_lt (Heap.lt_size e)
  have y:∀{H':Hp}{o:Obj},(∀b∈a,H' b=none)->∀b∈a,mJ (X.bO own M scope ⟨cellsFrom (↥s+2) scope.names (eF X.env.cells scope.names []),↥s+1,s,H,a⟩) [(↥s,o)] H' b:=λ{H' o} hn b hb =>
   ⟨hn b hb,(h.ok.exf b hb).1,h.ok.exfs b hb,.inl hb,(h.ok.exf b hb).2,λp hp=>by
    have l:p=(↥s,o):=↑hp
    subst l;exact Ne.symm (neD b hb)⟩
  refine Ht (λk s'=>∃i ys us n H',Inv (X.bO own M scope ⟨cellsFrom (↥s+2) scope.names (eF X.env.cells scope.names []),↥s+1,s,H,a⟩) [(↥s,{ cls:=.type "list",data:=.seq (us:eo).toArray n })] (List.replicate ⇑own none++σ) H' s' /\
    Vals ys us/\⇑ys<=sizeLine/\tn i s'.heap/\(∀b∈a,H' b=none)/\W i k ys H') ?_ m0 ⟨0,[],[],0,H,h,.nil,Nat.zero_le _,B,λb hb=>(U b hb).1,w0⟩
  rintro k s3 ⟨i,ys,us,n,H3,I3,hv,hz,st3,P,w3⟩;rcases turn ⟨cellsFrom (↥s+2) scope.names (eF X.env.cells scope.names []),↥s+1,s,H,a⟩ i k ys H3 w3 with⟨stop,d⟩|⟨go,hlt,N,hN,step⟩
  ·refine thn (T.done (X.bO own M scope ⟨cellsFrom (↥s+2) scope.names (eF X.env.cells scope.names []),↥s+1,s,H,a⟩) rfl rfl rfl (hc _) i _ s3 _ H3 _ I3 (y P) st3 stop) λr s4 ⟨hr,I4⟩=>?_;subst hr;let⟨m',j,_⟩:=I4.loc;let⟨J4,hDn⟩:=Cv I U I4 (List.mem_singleton.mpr rfl) hv hz;exact fin s4 m' ys H3 j I4.free hDn J4 d
  ·refine thn (T.item (X.bO own M scope ⟨cellsFrom (↥s+2) scope.names (eF X.env.cells scope.names []),↥s+1,s,H,a⟩) rfl rfl rfl (hc _) i _ s3 _ H3 _ I3 (y P) st3 go) λr s4 ⟨u,hr,h4⟩=>?_;subst hr;refine thn h4 λ_ s5 ⟨x,H5,I5,r5,y5,st5,fr5⟩=>?_;have I5':=I5.pinned (y fr5) (T.obj _ _ st5);refine thn (hg _ _ s5 _ H5 x u _ I5' r5 (step x H5 y5)) λ_ s6 ⟨σ6,H6,I6,q6⟩=>?_;refine thn (ht _ _ s6 σ6 H6 _ I6 q6) λb s7 ⟨H7,I7,q7⟩=>?_
   -- the turn's end: the iterator's records stand,the names are forgotten
   have O:∀x,(x,NameKind.free)∈scope.names->∃c,(cellsFrom (↥s+2) scope.names (eF X.env.cells scope.names [])).lookup x=some c/\X.env.cells.lookup x=some c:=λx hx=>by
    let⟨c,e⟩:=I.ok.has x ((hka _ hx).2.2 rfl).2;let⟨c',e'⟩:=Option.isSome_iff_exists.mp (lC (cells:=X.env.cells) (acc:=[]) hx);rcases pC e' with q|⟨_,q⟩
    ·simp at q
    ·rw[e]at q;exact⟨c',(M5 (zG hk hx)).trans e',by rw[e,q];rfl⟩
   have f:∀{H':Hp}{σ':St}{s':Shared}{pn:ee},(∀p∈jR a s5.heap,p∈pn)->Inv (X.bO own M scope ⟨cellsFrom (↥s+2) scope.names (eF X.env.cells scope.names []),↥s+1,s,H,a⟩) pn σ' H' s'->tn (i+1) s'.heap/\∀b∈a,H' b=none:=λ{H' σ' s' pn} hs I' =>
    ⟨T.keep _ _ _ st5 λb hb o e=>(I'.pin (b,o) (List.mem_append_right _ (hs _ (jw hb e)))).1,λb hb=>by
     let⟨o,e,_⟩:=T.obj _ _ st5 b hb;exact(I'.pin (b,o) (List.mem_append_right _ (hs _ (jw hb e)))).2.1⟩
   cases b with
   |false =>
    rw[dQ Bool.false_ne_true];rw[dQ Bool.false_ne_true]at q7;let⟨m',j,w7⟩:=hN _ _ q7;let⟨t7,f7⟩:=f (λp hp=>List.mem_append_right _ hp) I7;exact⟨m',j,i+1,ys,us,n,H7,uD hk I U O I7.nA,hv,hz,t7,f7,w7⟩
   |true =>
    rw[dP rfl];rw[dP rfl]at q7;refine thn (he _ _ s7 σ6 H7 _ I7 q7) λu8 s8 ⟨v8,H8,I8,r8,q8⟩=>?_;let⟨m',j,w8⟩:=hN _ _ q8;let⟨t8,f8⟩:=f (λp hp=>List.mem_append_right _ hp) I8;let⟨Q,nD8,lD8,fD8,_⟩:=I8.pin (↥s,{ cls:=.type "list",data:=.seq us.toArray n }) (List.mem_append_right _ (List.mem_append_left _ (List.mem_singleton.mpr rfl)));refine append_at (hsz:=by rw[List.size_toArray,←⇑hv];exact Nat.le_of_lt hlt) Q λh9 hs9 hD9=>?_;have J8:Inv (X.bO own M scope ⟨cellsFrom (↥s+2) scope.names (eF X.env.cells scope.names []),↥s+1,s,H,a⟩) (jR a s5.heap) σ6 H8 s8:=I8.qL λp hp=>I8.pin p (List.mem_append_right _ (List.mem_append_right _ hp));have J9:Inv (X.bO own M scope ⟨cellsFrom (↥s+2) scope.names (eF X.env.cells scope.names []),↥s+1,s,H,a⟩) (jR a s5.heap) σ6 H8 { s8 with heap:=h9 }:=J8.turned (t':=s8.toks) (it:=↥s) (λb o hb e=>(hs9.2 b hb).trans e) nD8 lD8 (.inr (Nat.le_refl _))
     (λx c e z=>by
      let⟨v,o,ho,hd⟩:=J8.cell x c e;rw[z,Q]at ho;cases ho;cases hd)
     (λp hp=>by
      have l:p∈jR a s5.heap:=↑hp
      exact neD _ (vC l).1)
    let⟨t9,f9⟩:=f (λp hp=>hp) J9;have e9:h9.get? ↥s=some { cls:=.type "list",data:=.seq (us++[u8]).toArray (n+1)}:=by
     rw[hD9,List.push_toArray]
    have J9':Inv (X.bO own M scope ⟨cellsFrom (↥s+2) scope.names (eF X.env.cells scope.names []),↥s+1,s,H,a⟩) [(↥s,{ cls:=.type "list",data:=.seq (us++[u8]).toArray (n+1)})] σ6 H8 { s8 with heap:=h9 }:=J9.qL λp hp=>by
     have l:p=(↥s,{ cls:=.type "list",data:=.seq (us++[u8]).toArray (n+1)}):=↑hp
     subst l;exact⟨e9,nD8,lD8,fD8,λv z=>nomatch z⟩
    exact⟨m',j,i+1,ys++[v8],us++[u8],n+1,H8,uD hk I U O J9',hv.append (.cons r8 .nil),by rw[List.length_append,List.length_singleton];exact hlt,t9,f9,w8⟩
 exact codeAny_compStart_list (C _ rfl) (T.self _ 0 _ _ _ B (C _ rfl))
def vN{a:ee}{σ:St}{H:Hp}{s:Shared}(hk:bM X.env scope X.N M=true)(I:Inv X a σ H s):YY scope X.env=pure (eF X.env.cells scope.names []) :=
 Cy λx hx hf=>I.ok.has x.1 ((cT hk x hx).2.2 hf).2
def vM{a:ee}{σ:St}{H:Hp}{s d:Shared}{C:Addr}{h':Heap}{m:Str->ew}(I:Inv X a σ H d)(hs:X.s₀.heap.objs.size<=C)(h:C≠X.env.locals)(f:∀x c,X.env.cells.lookup x=some c->c≠C)(hp:∀p∈X.pn++a,p.1≠C)(hn:H C=none)(hb:Heap.SameBut C d.heap h'):Inv X a σ H { d with heap:=h' }:=I.turned (t':=d.toks) (λb o hb' e=>(hb.2 b hb').trans e) hn h (.inr hs) f hp
def JT(own M:List Str)(hc:X.calm=true)(hi:PI X tg iter wi)(hg:∀c,PG (X.bO own M scope c) tg (g c))(ht:∀c,PTs (X.bO own M scope c) ifs (tt c))(he:∀c,PE (X.bO own M scope c) elt (te c))(hk:bM X.env scope X.N M=true:=by rfl)(hs:∀x,Zx iter X.env x=pure x:=by intro _;rfl) :
  PE X (.ListComp elt [⟨tg,iter,ifs,0⟩] scope pos) (tLC ⇑own wi g tt te):=by
 intro a s σ H Q I h;rw[eval_ListComp];have n:=cT hk;refine Y3 (use:=none) rfl hs (vN hk I) (gD hk) (λx hx hl=>((n x hx).1 hl).2) (thn (hi a s σ H _ I h) λv s1 h1=>thn h1 λitv s2 h2=>?_);let⟨it,F,L,J,E,e,f,T,r,y,W,⟨G,B⟩,j⟩:=h2;subst e;refine vL (RR:=λacc C=>compPost (model X.prog X.w) X.A X.xe none (EP X a σ Q) acc C) (D:=λys H=>∀p,H p=none->Q (.ref p) (upd H p (.lst ys))) (λ_=>hc) hk hg ht he f T r y B j ?_;intro K t ys H' q k l u d;have i:∀{b:Addr}{o:Obj},s2.heap.get? b=some o->b≠↥s2+1:=λe=>Nat.ne_of_lt (Nat.lt_succ_of_lt (Heap.lt_size e));refine⟨t,q,λh' hb=>⟨.ref ↥s2,_,vM (m:=t) (s:=s2) u (Nat.le_trans f.sz (Nat.le_succ _)) (Ne.symm (Nat.ne_of_lt (Nat.lt_succ_of_lt f.lt))) (λx c e=>?_) (λp hp=>?_) ?_ hb,rfl,d _ l⟩⟩
 ·let⟨v,o,z,_⟩:=f.cell x c e;exact i z
 ·exact i (f.pin p hp).1
 ·rw[ao (Nat.ne_of_gt (Nat.lt_succ_self _))];exact k
def Oe{S:Cx->Prop}(own M:List Str){i:Nat}{y:Str}{r l:Pos}(hc:∀c,S (X.bO own M scope c))(hN:X.N.Nodup)(t:X.N[i]?=some y)(P:Loc X.env.scope y)(hi:PIG S X tg iter wi)(hg:∀c,PG (X.bO own M scope c) tg (g c))(ht:∀c,PTs (X.bO own M scope c) ifs (tt c))(he:∀c,PE (X.bO own M scope c) elt (te c))(O:ZQ (.ListComp elt [⟨tg,iter,ifs,0⟩] scope pos) (some (.Name y r)) l.line X.env=pure true:=by rfl)(hk:bM X.env scope X.N M=true:=by rfl)(hs:∀x,Zx iter X.env x=pure x:=by intro _;rfl)(Z:X.fn y=true\/X.env.scope.names.lookup y=some .local:=by first|exact .inl rfl|exact .inr rfl|assumption) :
  PS X (.Assign [.Name y r] (.ListComp elt [⟨tg,iter,ifs,0⟩] scope pos) l) (rF (tLC ⇑own wi g tt te) (jC i)):=by
 intro f s σ H D I h;rw[exec_Assign_Name_used _ _ _ _ O];have G:=cT hk;refine wpAny_bind (ZX (wpAny_bind ?_));show wpAny _ X.A (do let _ ←comprehension (.ListComp elt [⟨tg,iter,ifs,0⟩] scope pos) scope X.env _ (Y2 []) false (Zv iter X.env) (some (ZR (.Name y r) X.env))) _ _ s;refine wpAny_bind (ZG (Y3 (use:=some (ZR (.Name y r) X.env)) (Q:=λ_ u=>SP X f D .next u) rfl hs (vN hk I) (gD hk) (λx P hl=>((G x P).1 hl).2)
  (thn (hi f s σ H _ I h) λv s1 h1=>thn h1 λitv s2 h2=>?_)) (λ_ u hq=>Z2 (Z2 hq)) λ_ _ e=>e)
 let⟨it,fp,tn,J,H2,e,q,T,R,Y,W,⟨m0,w0⟩,z⟩:=h2;subst e;refine vL (RR:=λacc C=>compPost (model X.prog X.w) X.A X.xe (some (ZR (.Name y r) X.env)) (λ_ u=>SP X f D .next u) acc C) (D:=λys H=>∀p,H p=none->jC i (.ref p) σ (upd H p (.lst ys)) D.nx) hc hk hg ht he q T R Y w0 z ?_;intro u U ys H' K E F V d;have n:∀{b:Addr}{o:Obj},s2.heap.get? b=some o->b≠↥s2+1:=λe=>Nat.ne_of_lt (Nat.lt_succ_of_lt (Heap.lt_size e));show wpAny _ X.A (ZR (.Name y r) X.env (.ref ↥s2)) _ _ _;refine ZV (vh (v:=.ref ↥s2) V (λj h=>yM hN h t) t P rfl (λs'' J'' ⟨a,hsb,ha⟩=>?_) Z);have k:X.env.locals≠↥s2+1:=Nat.ne_of_lt (Nat.lt_succ_of_lt q.lt);have B:↥s2+1≠a:=by
  rcases ha with ha|ha
  ·rw[ha];exact Ne.symm k
  ·let⟨v,o,L,_⟩:=q.cell _ _ ha;exact Ne.symm (n L)
 refine⟨U,K.sameBut hsb B,λh' hb=>⟨_,_,vM (m:=U) (s:=s2) J'' (Nat.le_trans q.sz (Nat.le_succ _)) (Ne.symm k) (λx c e=>?_) (λp hp=>?_) ?_ hb,d _ F⟩⟩
 ·let⟨v,o,L,_⟩:=q.cell x c e;exact n L
 ·exact n (q.pin p hp).1
 ·rw[ao (Nat.ne_of_gt (Nat.lt_succ_self _))];exact E
def Sd(own M:List Str){i:Nat}{y:Str}{e a:Pos}(hc:X.calm=true)(hN:X.N.Nodup)(b:X.N[i]?=some y)(h:Loc X.env.scope y)(hi:PI X tg iter wi)(hg:∀c,PG (X.bO own M scope c) tg (g c))(ht:∀c,PTs (X.bO own M scope c) ifs (tt c))(he:∀c,PE (X.bO own M scope c) elt (te c))(d:ZQ (.ListComp elt [⟨tg,iter,ifs,0⟩] scope pos) (some (.Name y e)) a.line X.env=pure true:=by rfl)(hk:bM X.env scope X.N M=true:=by rfl)(hs:∀x,Zx iter X.env x=pure x:=by intro _;rfl)(f:X.fn y=true\/X.env.scope.names.lookup y=some .local:=by first|exact .inl rfl|exact .inr rfl|assumption) :
  PS X (.Assign [.Name y e] (.ListComp elt [⟨tg,iter,ifs,0⟩] scope pos) a) (rF (tLC ⇑own wi g tt te) (jC i)):=Oe own M (λ_=>hc) hN b h hi hg ht he d hk hs f
def V2(own:List Str)(hc:X.calm=true)(hi:PI X tg iter wi)(hg:∀c,PG (X.comp own scope c) tg (g c))(ht:∀c,PTs (X.comp own scope c) ifs (tt c))(he:∀c,PE (X.comp own scope c) elt (te c))(hk:iy X.env scope X.N=true:=by rfl)(hs:∀x,Zx iter X.env x=pure x:=by intro _;rfl) :
  PE X (.ListComp elt [⟨tg,iter,ifs,0⟩] scope pos) (tLC ⇑own wi g tt te):=JT own X.N hc hi hg ht he (zV hk) hs
def QD(own:List Str){i:Nat}{y:Str}{e a:Pos}(hc:X.calm=true)(hN:X.N.Nodup)(b:X.N[i]?=some y)(h:Loc X.env.scope y)(hi:PI X tg iter wi)(hg:∀c,PG (X.comp own scope c) tg (g c))(ht:∀c,PTs (X.comp own scope c) ifs (tt c))(he:∀c,PE (X.comp own scope c) elt (te c))(d:ZQ (.ListComp elt [⟨tg,iter,ifs,0⟩] scope pos) (some (.Name y e)) a.line X.env=pure true:=by rfl)(hk:iy X.env scope X.N=true:=by rfl)(hs:∀x,Zx iter X.env x=pure x:=by intro _;rfl)(f:X.fn y=true\/X.env.scope.names.lookup y=some .local:=by first|exact .inl rfl|exact .inr rfl|assumption) :
  PS X (.Assign [.Name y e] (.ListComp elt [⟨tg,iter,ifs,0⟩] scope pos) a) (rF (tLC ⇑own wi g tt te) (jC i)):=Sd own X.N hc hN b h hi hg ht he d (zV hk) hs f
end
section
variable{tg:Zt}{K:W.Frag}{g:CB->TG}{tt:CB->TT}{te:CB->TE}{σ:St}{H:Hp}{Q:VK}{n:Nat}
def XS(K:W.Frag)(b:TE):TI:=λσ H R=>b σ H λx H1=>∃a,x=.ref a/\(((∃xs,SqL K H1 a xs)/\R (Itl K a) H1)\/((∃xs,SqT K H1 a xs)/\R (Itt K a) H1))
def Ss{l:Zt}{i:TE}(hl:PE X l i):PI X tg l (XS X.K i):=by
 intro c s σ H R I h;refine thn (hl c s σ H _ I h) λv s1 ⟨x,H1,I1,r1,f⟩=>?_;let⟨a,e,f⟩:=f;subst e;cases r1;rcases f with⟨⟨xs,d⟩,q⟩|⟨⟨xs,d⟩,q⟩
 ·let⟨its,k,p,j⟩:=I1.list d;refine Y4 p.isList ?_;refine⟨↥s1,[↥s1],_,_,H1,rfl,I1.kept (t':=s1.toks) λb o e=>Heap.get?_push_of_some _ e,Gf a _,⟨_,Heap.get?_push_size _ rfl,rfl,rfl⟩,λb hb=>?_,q⟩;have e:b=↥s1:=↑hb
  subst e;exact I1.zH (Nat.le_refl _) (I1.hok.fresh (Nat.le_refl _))
 ·let⟨its,k,p,j⟩:=I1.tuple d;refine Y5 (show s1.heap.IsTuple a its.toArray from p) ?_;refine⟨↥s1,[↥s1],_,_,H1,rfl,I1.kept (t':=s1.toks) λb o e=>Heap.get?_push_of_some _ e,Aj a _,⟨_,Heap.get?_push_size _ rfl,rfl,rfl⟩,λb hb=>?_,q⟩;have e:b=↥s1:=↑hb
  subst e;exact I1.zH (Nat.le_refl _) (I1.hok.fresh (Nat.le_refl _))
end
end L2
namespace NfSort
open PySem.W
def kwp{α:Type}(n:Nat)(key:Nat->Int):KasT α->(α->Prop)->Prop
 |.ret a,Q=>Q a
 |.ask i j k,Q=>i<n/\j<n/\kwp n key (k (decide (key i<key j))) Q
theorem cO{α:Type}{n:Nat}{key:Nat->Int}{Q b:α->Prop}(h:∀a,Q a->b a):∀{t:KasT α},kwp n key t Q->kwp n key t b
 |.ret a,q=>h a q
 |.ask _ _ k,q=>⟨q.1,q.2.1,cO h q.2.2⟩
theorem iu{α β:Type}{n:Nat}{key:Nat->Int}{f:α->KasT β}{Q:β->Prop}:∀{t:KasT α},kwp n key t (λa=>kwp n key (f a) Q)->kwp n key (t.bind f) Q
 |.ret a,q=>q
 |.ask _ _ k,q=>⟨q.1,q.2.1,iu q.2.2⟩
theorem wM{α:Type}{n:Nat}{key:Nat->Int}{b:Nat->Nat->(Bool->Shared->Prop)->Shared->Prop}{s:Shared}{G:α->Shared->Prop}(hc:∀i j C,i<n->j<n->C (decide (key i<key j)) s->b i j C s) :
  ∀{t:KasT α},kwp n key t (λa=>G a s)->t.kasWp b G s
 |.ret _,q=>q
 |.ask i j k,q=>hc i j _ q.1 q.2.1 (wM hc q.2.2)
section
variable{n:Nat}{key:Nat->Int}{p:Array Nat}
def Pm(n:Nat)(p:Array Nat):Prop:=p.Perm (List.range n).toArray
def kk(key:Nat->Int)(p:Array Nat)(i:Nat):Int:=key (p.getD i 0)
def Pm.size(h:Pm n p):p.size=n:=by
 have:=Array.Perm.size_eq h;simpa using this
def getD_eq(p:Array Nat)(i:Nat):p.getD i 0=(p[i]?).getD 0:=by
 by_cases h:i<p.size <;> simp[Array.getD,h]
def Pm.lt(h:Pm n p){i:Nat}(hi:i<n):p.getD i 0<n:=by
 have hs:=h.size;have a:i<p.size:=()
 have hm:p[i]∈p.toList:=by
  have:=Array.getElem_mem a;simpa using this
 have hp:p.toList.Perm (List.range n):=by
  have:=Array.perm_iff_toList_perm.mp h;simpa using this
 have e:p.getD i 0=p[i]:=by simp[Array.getD,a]
 rw[e];exact List.mem_range.mp (hp.mem_iff.mp hm)
def Pm.rev(h:Pm n p)(i j:Nat):Pm n (Y6 p i j):=Array.Perm.trans (mirror_perm _ _ _ _) h
def Pm.bub(h:Pm n p)(i j:Nat):Pm n (Y7 p i j):=Array.Perm.trans (bubble_perm _ _ _) h
def wO(h:Pm n p){i j:Nat}(a:j<=n)(t:Nat):kk key (Y6 p i j) t=if i<=t/\t<j then kk key p (i+j - 1 - t)else kk key p t:=by
 unfold kk Y6;rw[getD_eq,Y8 (by rw[h.size];exact a)];split
 ·rw[getD_eq]
 ·rw[getD_eq]
def TV(h:Pm n p){k l:Nat}(hk:k<n)(hl:l<=k)(t:Nat):kk key (Y7 p k (k - l)) t=if t=l then kk key p k else if l<t/\t<=k then kk key p (t - 1)else kk key p t:=by
 unfold kk;rw[getD_eq,Y9 (by rw[h.size];exact hk) _ ()];have e:k - (k - l)=l:=()
 rw[e];split
 ·rw[getD_eq]
 ·split
  ·rw[getD_eq]
  ·rw[getD_eq]
def Up(key:Nat->Int)(p:Array Nat)(m:Nat):Prop:=∀i j,i<=j->j<m->kk key p i<=kk key p j
def Dn(key:Nat->Int)(p:Array Nat)(m:Nat):Prop:=∀i j,i<=j->j<m->kk key p j<=kk key p i
def Rn(key:Nat->Int)(p:Array Nat)(m q:Nat):Prop:=q+1<=m/\∀t,m<=t+q+1->t<m->kk key p t=kk key p (m - 1)
def Up.more{a:Nat}(h:Up key p a)(h1:1<=a)(c:kk key p (a - 1)<=kk key p a):Up key p (a+1):=λi j hij hj=>by
 by_cases b:j<a
 ·exact h i j hij b
 ·obtain rfl:j=a:=()
  by_cases hi:i=j
  ·subst hi;exact Int.le_refl _
  ·exact Int.le_trans (h i (j - 1) () ()) c
def Dn.more{a:Nat}(h:Dn key p a)(h1:1<=a)(c:kk key p a<=kk key p (a - 1)):Dn key p (a+1):=λi j hij hj=>by
 by_cases b:j<a
 ·exact h i j hij b
 ·obtain rfl:j=a:=()
  by_cases hi:i=j
  ·subst hi;exact Int.le_refl _
  ·exact Int.le_trans c (h i (j - 1) () ())
theorem CG(hp:Pm n p):∀(f a:Nat),1<=a->a+f<=n->Up key p a->kwp n key (kas_asc p f a) (λm=>a<=m/\m<=a+f/\Up key p m/\(m<a+f->kk key p m<kk key p (m - 1)))
 |0,a,h1,hf,hu=>⟨Nat.le_refl _,Nat.le_refl _,hu,λh=>dS h ()⟩
 |f+1,a,h1,hf,hu=>by
  refine⟨hp.lt (),hp.lt (),?_⟩;by_cases hc:key (p.getD a 0)<key (p.getD (a - 1) 0)
  ·(rw[fy hc];dsimp only;rw[dP rfl])
   exact⟨Nat.le_refl _,(),hu,λ_=>hc⟩
  ·(rw[dC hc];dsimp only;rw[dQ Bool.false_ne_true])
   refine cO (λm ⟨a1,a2,a3,a4⟩=>⟨(),(),a3,λh=>a4 ()⟩) (CG hp f (a+1) () () (hu.more h1 (Int.not_lt.mp hc)))
def Dr(hp:Pm n p){a q:Nat}(ha:a<=n)(hr:Rn key p a q)(t:Nat):kk key (Y6 p (a - (q+1)) a) t=kk key p t:=by
 rw[wO hp ha];split
 ·rename_i h;rw[hr.2 t () h.2];exact hr.2 _ (by have:=hr.1;lia) ()
 ·rfl
def Dn.eq{c:Array Nat}{m:Nat}(h:Dn key p m)(e:∀t,kk key c t=kk key p t):Dn key c m:=λi j a b=>by rw[e,e];exact h i j a b
theorem Fp:∀(f:Nat)(p:Array Nat)(a q:Nat),Pm n p->1<=a->a+f<=n->Dn key p a->Rn key p a q ->
  kwp n key (kas_desc f p a q) (λr=>Pm n r.1/\a<=r.2.1/\r.2.1<=a+f/\Dn key r.1 r.2.1/\Rn key r.1 r.2.1 r.2.2)
 |0,p,a,q,hp,h1,hf,hd,hr=>⟨hp,Nat.le_refl _,Nat.le_refl _,hd,hr⟩
 |f+1,p,a,q,hp,h1,hf,hd,hr=>by
  refine⟨hp.lt (),hp.lt (),?_⟩;have b:∀{p':Array Nat}{q':Nat},Pm n p'->Dn key p' (a+1)->Rn key p' (a+1) q'->kwp n key (kas_desc f p' (a+1) q') (λr=>Pm n r.1/\a<=r.2.1/\r.2.1<=a+(f+1)/\Dn key r.1 r.2.1/\Rn key r.1 r.2.1 r.2.2):=λx y z =>
   cO (λr ⟨a1,a2,a3,a4,a5⟩=>⟨a1,(),(),a4,a5⟩) (Fp f _ (a+1) _ x () () y z)
  have g:∀p':Array Nat,Rn key p' (a+1) 0:=λp'=>⟨(),λt h1 h2=>by
   have e:t=a+1 - 1:=()
   rw[e]⟩
  by_cases hc:key (p.getD a 0)<key (p.getD (a - 1) 0)
  ·(rw[fy hc];dsimp only;rw[dP rfl])
   have d:kk key p a<kk key p (a - 1):=hc;by_cases h:q > 0
   ·rw[dP h];have e:=Dr (key:=key) hp () hr;exact b (hp.rev _ _) ((hd.more h1 (Int.le_of_lt d)).eq e) (g _)
   ·rw[dQ h];exact b hp (hd.more h1 (Int.le_of_lt d)) (g _)
  ·(rw[dC hc];dsimp only;rw[dQ Bool.false_ne_true])
   refine⟨hp.lt (),hp.lt (),?_⟩;by_cases c:key (p.getD (a - 1) 0)<key (p.getD a 0)
   ·(rw[fy c];dsimp only;rw[dP rfl])
    exact⟨hp,Nat.le_refl _,(by show a<=a+(f+1);lia),hd,hr⟩
   ·(rw[dC c];dsimp only;rw[dQ Bool.false_ne_true])
    have e:kk key p a=kk key p (a - 1):=Int.le_antisymm (Int.not_lt.mp c) (Int.not_lt.mp hc);refine b hp (hd.more h1 (Int.le_of_eq e)) ⟨by have:=hr.1;lia,λt t1 t2=>?_⟩;show _=kk key p a;by_cases ht:t=a
    ·rw[ht]
    ·rw[e];exact hr.2 t () ()
def xP{a:Nat}(hp:Pm n p)(h1:1<=a)(ha:a<=n)(hd:Dn key p a):kwp n key (kas_tail3 a n p) (λr=>Pm n r.2/\1<=r.1/\r.1<=n/\Up key r.2 r.1):=by
 unfold kas_tail3;have hu:Up key (Y6 p 0 a) a:=λi j hij hj=>by
  rw[wO hp ha,wO hp ha,dP ⟨(),()⟩,dP ⟨(),hj⟩];exact hd _ _ () ()
 refine iu (cO (λm ⟨a1,a2,a3,_⟩=>?_) (CG (hp.rev 0 a) (n - a) a h1 () hu));exact⟨hp.rev 0 a,(),(),a3⟩
def qy{a:Nat}(hp:Pm n p)(ha:a+1<=n)(hd:Dn key p (a+1)):kwp n key (kas_descPart a n p) (λr=>Pm n r.2/\1<=r.1/\r.1<=n/\Up key r.2 r.1):=by
 unfold kas_descPart;refine iu (cO (λr ⟨a1,a2,a3,a4,a5⟩=>?_) (Fp (n - (a+1)) p (a+1) 0 hp () () hd ⟨(),λt h1 h2=>by
  have e:t=a+1 - 1:=()
  rw[e]⟩))
 split
 ·exact xP (a1.rev _ _) () () (a4.eq (Dr a1 () a5))
 ·exact xP a1 () () a4
def MF(hp:Pm n p)(h1:1<=n):kwp n key (Xs n p) (λr=>Pm n r.2/\1<=r.1/\r.1<=n/\Up key r.2 r.1):=by
 unfold Xs;have d:Up key p 1:=λi j hij hj=>by
  have e:i=j:=()
  rw[e];exact Int.le_refl _
 refine iu (cO (λm ⟨a1,a2,a3,a4⟩=>?_) (CG hp (n - 1) 1 (Nat.le_refl _) () d));by_cases hm:m=n
 ·rw[dP ↑hm];exact⟨hp,(),(),a3⟩
 ·rw[dQ ↑hm];have b:=a4 ();by_cases c:m > 1
  ·rw[dP c];refine⟨hp.lt (),hp.lt (),?_⟩;by_cases hc:key (p.getD 0 0)<key (p.getD (m - 1) 0)
   ·(rw[fy hc];dsimp only;rw[dP rfl])
    exact⟨hp,(),(),a3⟩
   ·(rw[dC hc];dsimp only;rw[dQ Bool.false_ne_true])
    have a:∀t,t<m->kk key p t=kk key p 0:=λt ht=>by
     have f:=a3 0 t () ht;have g:=a3 t (m - 1) () ();have k:kk key p (m - 1)<=kk key p 0:=Int.not_lt.mp hc;lia
    have e:∀t,kk key (Y6 p 0 m) t=kk key p t:=λt=>by
     rw[wO hp ()];split
     ·rename_i h;rw[a t h.2,a _ ()]
     ·rfl
    refine qy (hp.rev 0 m) () (Dn.eq (p:=p) (Dn.more (λi j hij hj=>?_) () (Int.le_of_lt b)) e);rw[a i (),a j hj];exact Int.le_refl _
  ·rw[dQ c];obtain rfl:m=1:=()
   refine qy hp () (Dn.more (λi j hij hj=>?_) () (Int.le_of_lt b));have e:i=j:=()
   rw[e];exact Int.le_refl _
theorem rN{k:Nat}(hp:Pm n p)(hk:k<n)(hu:Up key p k):∀(f l r:Nat),l<=r->r<=k->r<=l+f->(∀t,t<l->kk key p t<=kk key p k)->(∀t,r<=t->t<k->kk key p k<kk key p t) ->
  kwp n key (kas_place p k f l r) (λl'=>l'<=k/\(∀t,t<l'->kk key p t<=kk key p k)/\(∀t,l'<=t->t<k->kk key p k<kk key p t))
 |0,l,r,h1,h2,h3,h4,h5=>⟨(),h4,λt a b=>h5 t () b⟩
 |f+1,l,r,h1,h2,h3,h4,h5=>by
  unfold kas_place;by_cases d:l≥r
  ·rw[dP d];exact⟨(),h4,λt a b=>h5 t () b⟩
  ·rw[dQ d];have hm:(l+r) / 2<r:=()
   refine⟨hp.lt hk,hp.lt (),?_⟩;by_cases hc:key (p.getD k 0)<key (p.getD ((l+r) / 2) 0)
   ·(rw[fy hc];dsimp only;rw[dP rfl])
    have c:kk key p k<kk key p ((l+r) / 2):=hc;exact rN hp hk hu f l _ () () () h4 λt a b=>Int.lt_of_lt_of_le c (hu _ t a b)
   ·(rw[dC hc];dsimp only;rw[dQ Bool.false_ne_true])
    have c:kk key p ((l+r) / 2)<=kk key p k:=Int.not_lt.mp hc;exact rN hp hk hu f _ r () () () (λt a=>Int.le_trans (hu t _ () ()) c) h5
theorem M8:∀(f:Nat)(p:Array Nat)(k:Nat),Pm n p->k+f<=n->Up key p k->kwp n key (kas_bin f p k) (λp'=>Pm n p'/\Up key p' (k+f))
 |0,p,k,hp,hk,hu=>⟨hp,hu⟩
 |f+1,p,k,hp,hk,hu=>by
  unfold kas_bin;refine iu (cO (λl ⟨a1,a2,a3⟩=>?_) (rN hp () hu k 0 k (Nat.zero_le _) (Nat.le_refl _) () (λt h=>dS h ()) (λt h1 h2=>dS h1 ())));have e:=TV (key:=key) hp (k:=k) () a1;have d:Up key (Y7 p k (k - l)) (k+1):=λi j hij hj=>by
   rw[e,e];by_cases hi:i=l
   ·rw[dP hi];by_cases a:j=l
    ·rw[dP a];exact Int.le_refl _
    ·rw[dQ a,dP ⟨(),()⟩];exact Int.le_of_lt (a3 _ () ())
   ·rw[dQ hi];by_cases b:l<i/\i<=k
    ·rw[dP b,dQ (),dP ⟨(),()⟩];exact hu _ _ () ()
    ·rw[dQ b];by_cases a:j=l
     ·rw[dP a];exact a2 i ()
     ·rw[dQ a];by_cases c:l<j/\j<=k
      ·rw[dP c];exact hu _ _ () ()
      ·rw[dQ c];exact hu _ _ hij ()
  refine cO (λp' ⟨b1,b2⟩=>⟨b1,?_⟩) (M8 f _ (k+1) (hp.bub _ _) () d);have g:k+(f+1)=k+1+f:=()
  rw[g];exact b2
def Nx(h1:1<=n):kwp n key (kas_sort n) (λp=>Pm n p/\Up key p n):=by
 unfold kas_sort;refine iu (cO (λr ⟨a1,a2,a3,a4⟩=>?_) (MF (p:=(List.range n).toArray) (Array.Perm.refl _) h1));have e:max r.1 1=r.1:=()
 rw[e];split
 ·refine cO (λp' ⟨b1,b2⟩=>⟨b1,?_⟩) (M8 (n - r.1) r.2 r.1 a1 () a4);have a:r.1+(n - r.1)=n:=()
  rw[a]at b2;exact b2
 ·have a:r.1=n:=()
  rw[a]at a4;exact⟨a1,a4⟩
end
end NfSort
namespace L2
open PySem.Spec
variable{X:Cx}
section
variable{prog:Za}{w:Zb}{A:Zr}{E:d6}{s:Shared}
section
variable{pos:Pos}
def Pz(K:W.Frag)(n:Nat)(t:TGs):TG:=λv σ H Q=>∃a xs,v=.ref a/\SqL K H a xs/\⇑xs=n/\t xs σ H Q
end
section
def xK:fj X (.builtin "isinstance") (λxs H Q=>∃x c t b,xs=[x,.ty c]/\TyOf X.K H x t/\W.kitOne X.K t (.type c)=some b/\Q (.bl b) H):=by
 intro a s σ H xs us Q I r h;let⟨x,c,t,b,rfl,ty,e,q⟩:=h;let⟨u,g,rfl,f,d⟩:=vals2 r;cases d;exact Hg I f ty e λtk=>⟨.bl b,H,I.tok _,rfl,q⟩
def xJ:fj X (.builtin "isinstance") (λxs H Q=>∃x p c1 c2 t b,xs=[x,.ref p]/\TyOf X.K H x t/\SqT X.K H p [.ty c1,.ty c2]/\W.kitAny X.K t [.type c1,.type c2]=some b/\Q (.bl b) H):=by
 intro g s σ H xs us Q I r h;let⟨x,p,c1,c2,t,b,rfl,ty,hp,e,q⟩:=h;let⟨u,L,rfl,f,B⟩:=vals2 r;cases B;let⟨its,D,⟨o,d,j,n,hd⟩,E⟩:=I.tuple hp;let⟨M,N,rfl,v,A⟩:=vals2 D;cases v;cases A;let⟨G,k,l,m⟩:=o;cases j;cases hd;have c:∀tk,EP X g σ Q (.bool b) { s with toks:=tk }:=λtk=>⟨.bl b,H,I.tok _,rfl,q⟩
 cases ty with
 |non=>cases (show u=Value.none from f);exact W.kia_tup W.kitx_none I.kIn True.intro d e (λz=>nomatch z) c
 |bl y=>cases (show u=Value.bool y from f);exact W.kia_tup W.kitx_bool I.kIn True.intro d e (λz=>nomatch z) c
 |int i=>let⟨t,q⟩:=(show ∃t,u=Value.int i t from f);cases q;exact W.kia_tup W.kitx_int I.kIn True.intro d e (λz=>nomatch z) c
 |str y=>let⟨t,q⟩:=(show ∃t,u=Value.str y t from f);cases q;exact W.kia_tup W.kitx_str I.kIn True.intro d e (λz=>nomatch z) c
 |flt y=>let⟨t,q⟩:=(show ∃t,u=Value.float y t from f);cases q;exact W.kia_tup W.kitx_float I.kIn True.intro d e (λz=>nomatch z) c
 |@lst a xs ea =>
  cases (show u=Value.ref a from f);let⟨_,_,n,_,h1⟩:=(show bQ X.prog X.w H s.heap a (.lst xs)from I.hok a _ ea)
  exact W.kia_tup W.kitx_list I.kIn ⟨_,h1,rfl⟩ d e (λz=>nomatch z) c
 |@frz a ob xs ea =>
  cases (show u=Value.ref a from f);let⟨_,_,_,n,_,h1⟩:=(show bQ X.prog X.w H s.heap a (.frz ob (.lst xs))from I.hok a _ ea)
  exact W.kia_tup W.kitx_list I.kIn ⟨_,h1,rfl⟩ d e (λz=>nomatch z) c
 |@tup a xs ea =>
  cases (show u=Value.ref a from f);let⟨_,_,_,p⟩:=(show bQ X.prog X.w H s.heap a (.tup xs)from I.hok a _ ea)
  let⟨o,h1,h2,_⟩:=p;exact W.kia_tup W.kitx_tuple I.kIn ⟨o,h1,h2⟩ d e (λz=>nomatch z) c
 |@dK a kvs ea =>
  cases (show u=Value.ref a from f);let⟨_,_,vs,_,p⟩:=(show bQ X.prog X.w H s.heap a (.dK kvs)from I.hok a _ ea)
  let⟨o,es,ep,h1,h2,_⟩:=p;exact W.kia_tup W.kitx_dict I.kIn ⟨o,h1,h2.1⟩ d e (λz=>nomatch z) c
 |@dT a kvs ea =>
  cases (show u=Value.ref a from f);let⟨_,_,xs,_,o,es,ep,h1,h2,_⟩:=(show bQ X.prog X.w H s.heap a (.dT kvs)from I.hok a _ ea)
  exact W.kia_tup W.kitx_dict I.kIn ⟨o,h1,h2.1⟩ d e (λz=>nomatch z) c
 |@ins a C dx fs ea cl ha hn htk hm =>
  cases (show u=Value.ref a from f);let⟨F,O,_⟩:=oV I.hok ea;let⟨k,J,_⟩:=O.look;exact W.kia_tup (W.kitx_own (cl.get _) cl.hd ha hn htk hm) I.kIn J d e (λz=>nomatch z) c
def J5:OpR X (ZK .Is) (λx y H Q=>∃a b,x=.bl a/\y=.bl b/\Q (.bl (decide (a=b))) H):=by
 intro c s σ H x y v u Q I d e h;let⟨a,b,rfl,rfl,q⟩:=h;cases d;cases e;refine Z2 ?_;refine⟨.bl (decide (a=b)),H,I,?_,q⟩;cases a <;> cases b <;> rfl
theorem Dd:∀{a:List Bool}{us:eo},Vals (a.map V.bl) us->us=a.map Value.bool
 |[],_,h=>by cases h;rfl
 |b::a,_,h=>by
  cases h with
  |cons r t =>
   cases r;rw[Dd t];rfl
def all_range(a:List Bool):(List.range ⇑a).all (λi=>a.getD i true)=a.all id:=by
 rw[Bool.eq_iff_iff];simp only[List.all_eq_true,List.mem_range];constructor
 ·intro h x b;let⟨i,hi,e⟩:=List.mem_iff_getElem.mp b;have q:=h i hi;simp[hi]at q;rw[←e];exact q
 ·intro h i hi;have q:=h a[i] (List.getElem_mem hi);simpa[hi]using q
def HB(hc:X.calm=true):fj X (.builtin "all") (λxs H Q=>∃(p:Addr)(a:List Bool),xs=[.ref p]/\SqL X.K H p (a.map V.bl)/\Q (.bl (a.all id)) H):=by
 intro g s σ H xs us Q I r h;let⟨p,a,rfl,hp,q⟩:=h;let⟨u,rfl,n⟩:=vals1 r;cases n;let⟨its,m,pl,t⟩:=I.list hp;have e:=Dd m;subst e;have f:p≠↥s:=by let⟨o,l,_⟩:=pl.isList;exact Nat.ne_of_lt (Heap.lt_size l)
 refine call_all_walk (Y4 pl.isList ?_);refine⟨_,_,_,_,_,_,λi=>a.getD i true,rfl,Walks.list (A:=X.A.in1) (I.ok.hd hc) _ p f _,⟨⟨_,Heap.get?_push_size _ rfl,rfl,rfl⟩,pl.isList.push _⟩,?_,λh' tk hk=>?_⟩
 ·intro i v s Q E j k;have c:(a.map Value.bool)[i]?=some v:=↑j
  rw[List.getElem?_map]at c;cases hb:a[i]? with
  |none=>rw[hb]at c;cases c
  |some b =>
   rw[hb]at c;cases c;refine ZN ?_;have e:a.getD i true=b:=by rw[List.getD_eq_getElem?_getD,hb];rfl
   have d:Q (a.getD i true) s:=k;rw[e]at d;exact d
 ·have e:(List.range (a.map Value.bool).toArray.size).all (λi=>a.getD i true)=a.all id:=by
   rw[List.size_toArray,List.length_map];exact all_range a
  rw[e];refine⟨.bl (a.all id),H,I.kept λb o eb=>hk b o ?_ (Heap.get?_push_of_some _ eb),rfl,q⟩;intro hm;have:b=↥s:=↑hm
  exact dS (Heap.lt_size eb) (by rw[this];exact Nat.lt_irrefl _)
def T9{prog:Za}{w:Zb}{A:Zr}{E:d6}{s:Shared}{l:Addr}{n:Nat}{x:Int}{t:Tok}{u:Value}{Q:d6}{its:eo}(b:s.heap.get? l=some { cls:=.type "list",data:=.seq its.toArray n })(a:¬(!Builtin.List.listFitsIndex x)=true)(hsz:its.toArray.size<=sizeLine)(h:Q .none { s with heap:=s.heap.update l (Obj.mapSeq λxs=>(xs.extract 0 (if x<0 then(x+(xs.size:Int)).toNat else min x.toNat xs.size)).push u++xs.extract (if x<0 then(x+(xs.size:Int)).toNat else min x.toNat xs.size)),toks:=s.toks }) :
  wpAny (model prog w) A (Z6 (.builtin "list.insert") [.ref l,.int x t,u]) Q E s:=by
 generalize its.toArray=c at b hsz;exact YW PySem.F.slot_list_insert ⟨_,b,rfl⟩ PySem.F.entry_list_insert (PySem.F.args_list_insert_3 _ _ _) (PySem.AutoSeq1.list_insert_list_int_val_1 l c n x t u a hsz) ⟨b,h⟩
def Ds:V->List V->Hp->VK->Prop:=λx vs H Q=>∃l xs k y,x=.ref l/\vs=[.int (k:Nat),y]/\H l=some (.lst xs)/\k<=⇑xs/\⇑xs<sizeLine/\Q .non (upd H l (.lst (xs.take k++y::xs.drop k)))
def GQ:MtM X "list.insert" Ds:=by
 intro f s σ H x vs v us Q I A w h;let⟨l,xs,k,y,rfl,rfl,d,hk,C,q⟩:=h;cases A;let⟨D,u,rfl,⟨t,rfl⟩,p⟩:=w.two;let⟨z,its,n,r,hl,e⟩:=I.yS d;have j:(sizeLine:Nat)=16777216:=Ym;have a:¬(!Builtin.List.listFitsIndex (k:Int))=true:=by
  have m:decide (-(2 ^ 63:Int)<=(k:Int))=true:=fy ();have o:decide ((k:Int)<2 ^ 63)=true:=fy ();unfold Builtin.List.listFitsIndex;rw[m,o];exact Bool.false_ne_true
 have hsz:its.toArray.size<=sizeLine:=by
  have g:its.toArray.size=⇑xs:=(List.size_toArray ..).trans hl.symm;rw[g];exact z
 have b:¬((k:Int)<0):=()
 have c:(k:Int).toNat=k:=Int.toNat_natCast k;generalize B:(k:Int)=x at a b c;refine T9 (its:=its) e a hsz ?_;refine⟨.non,_,I.O6 (its':=its.take k++u::its.drop k) d e ?_ ?_ ?_,rfl,q⟩
 ·have hm:min k ⇑its=k:=()
  have i:=W.kl_ins_eq its k u;simp only[b,if_false,c,List.size_toArray,hm];exact i
 ·exact(r.take k).append (.cons p (r.drop k))
 ·rw[List.length_append,List.length_cons,List.length_take,List.length_drop];lia
def Hw:fj X (.type "range") (λxs H Q=>∃j,xs=[.int j]/\∀p,H p=none->Q (.ref p) (upd H p (.rng 0 j))):=by
 intro a s σ H xs us Q I r h;let⟨j,rfl,q⟩:=h;let⟨u,rfl,t,rfl⟩:=vals1 r;refine call_range_1 ?_;exact⟨.ref ↥s,_,I.laid (o:=.rng 0 j) (λb o e=>Heap.get?_push_of_some _ e) (Nat.le_refl _) ⟨_,_,_,Heap.get?_push_size _ rfl⟩,rfl,q _ I.fresh⟩
def xZ(lo hi:Int):List V:=(List.range (hi - lo).toNat).map λi=>V.int (lo+(i:Nat))
def Ai{lo:Int}:∀{n:Nat}{us:eo},⇑us=n->(∀j v,us[j]?=some v->∃t,v=Value.int (lo+(j:Nat) * 1) t)->Vals ((List.range n).map λi=>V.int (lo+(i:Nat))) us:=by
 intro n us hl h;have key:∀(us:eo)(k:Nat),(∀j v,us[j]?=some v->∃t,v=Value.int (lo+(~~~(k+j))) t)->Vals ((List.range' k ⇑us).map λi=>V.int (lo+(i:Nat))) us:=by
  intro us;induction us with
  |nil=>intro k _;exact .nil
  |cons u us ih =>
   intro k hk;let⟨t,e⟩:=hk 0 u (by simp);rw[List.length_cons,List.range'_succ,List.map_cons];refine .cons ⟨t,↑e⟩ (ih (k+1) λj v hv=>?_);let⟨t,e⟩:=hk (j+1) v ↑hv;exact⟨t,by rw[e];congr 2;lia⟩
 have q:=key us 0 λj v hv=>by
  let⟨t,e⟩:=h j v hv;exact⟨t,by rw[e];simp⟩
 rw[hl,←List.range_eq_range']at q;exact q
def u5(hc:X.calm=true):fj X (.type "list") (λxs H Q=>∃p lo hi,xs=[.ref p]/\H p=some (.rng lo hi)/\(-1000<=lo/\lo<=1000/\-1000<=hi/\hi<=1000)/\∀l,H l=none->Q (.ref l) (upd H l (.lst (xZ lo hi)))):=by
 intro a s σ H xs us Q I r h;let⟨p,lo,hi,rfl,hp,⟨b1,b2,b3,b4⟩,q⟩:=h;let⟨u,rfl,b⟩:=vals1 r;cases b;let⟨t,u,v,e⟩:=I.hok p _ hp;have hsz:Builtin.Range.rangeSize lo hi 1=(~~~((hi - lo).toNat)):=by rw[Z5];split <;> lia
 refine call_list_range (I.ok.hd hc) (show IsRange s.heap p lo hi 1 t u v from e) (small_one () () () ()) hsz () λh' tk acc' c' hk ho ⟨hn,hit⟩=>?_;have hv:Vals (xZ lo hi) acc'.toList:=Ai ↑hn λj w hw=>hit j w ↑hw;refine⟨.ref ↥s,_,I.laid (o:=.lst (xZ lo hi)) hk (Nat.le_refl _) ⟨?_,acc'.toList,c',hv,↑ho⟩,rfl,q _ I.fresh⟩;unfold xZ;rw[List.length_map,List.length_range,Ym];lia
end
abbrev Tie:=Int×Int
def Pr(H:Hp)(v:V)(t:Tie):Prop:=∃p,v=.ref p/\H p=some (.tup [.int t.1,.int t.2])
abbrev Prs(H:Hp):List V->eh->Prop:=Paired (Pr H)
def bF(t:Tie):Int:=64 * t.1+t.2
def ql(t:Tie):Prop:=0<=t.2/\t.2<64
def code_inj{a b:Tie}(ha:ql a)(hb:ql b)(h:bF a=bF b):a=b:=by
 let⟨c,d⟩:=a;let⟨b1,b2⟩:=b;unfold ql bF at *;simp only at *;have e:c=b1:=()
 have f:d=b2:=()
 rw[e,f]
def lE(h:Heap)(u:Value)(t:Tie):Prop:=∃a o t1 t2 n,u=.ref a/\h.get? a=some o/\o.cls=.type "tuple"/\o.data=.seq #[.int t.1 t1,.int t.2 t2] n
def lE.keep{h h':Heap}{u:Value}{t:Tie}(x:lE h u t)(k:∀a o,h.get? a=some o->o.cls=.type "tuple"->h'.get? a=some o):lE h' u t:=by
 let⟨a,o,c,t2,n,e,b,hc,hd⟩:=x;exact⟨a,o,c,t2,n,e,k a o b hc,hc,hd⟩
def V1{α β:Type}{F:α->β->Prop}{d:List α}{g:List β}(h:Paired F d g):∀{i:Nat}{b:β},g[i]?=some b->∃a,d[i]?=some a/\F a b:=by
 induction h with
 |nil=>intro i x e;simp at e
 |cons r t ih =>
  intro i x e;cases i with
  |zero=>simp at e;subst e;exact⟨_,rfl,r⟩
  |succ i =>
   let⟨c,j,f⟩:=ih ↑e;exact⟨c,↑j,f⟩
theorem JF{α β:Type}{F:α->β->Prop}{d:List α}{c:List β}(h:Paired F d c)(g:α)(k:β):∀(p:ei),(∀i∈p,i<⇑c)->Paired F (p.map λi=>d.getD i g) (p.map λi=>c.getD i k)
 |[],_=>.nil
 |i::p,hp=>by
  have hi:i<⇑c:=hp i List.mem_cons_self;let⟨a,e,f⟩:=V1 h (i:=i) (b:=c[i]) (by simp[hi]);refine .cons ?_ (JF h g k p λj hj=>hp j (List.mem_cons_of_mem _ hj));have l:d.getD i g=a:=by rw[List.getD_eq_getElem?_getD,e];rfl
  have m:c.getD i k=c[i]:=by simp[hi]
  show F (d.getD i g) (c.getD i k);rw[l,m];exact f
theorem VF{α:Type}:∀us:List α,List.map (λx=>x.snd) (us.zip us)=us
 |[]=>rfl
 |u::us=>by rw[List.zip_cons_cons,List.map_cons,VF us]
def j8{α:Type}(l:List α)(d:α):(List.range ⇑l).map (λi=>l.getD i d)=l:=by
 apply List.ext_getElem
 ·simp
 ·intro i h1 h2;simp at h1 ⊢;simp[h1]
section
variable{pins:ee}{σ:St}{H:Hp}{s:Shared}
theorem Inv.pairs(I:Inv X pins σ H s):∀{vs:List V}{b:eh}{us:eo},Prs H vs b->Vals vs us->Paired (lE s.heap) us b
 |_,_,_,.nil,r=>by cases r;exact .nil
 |_,_,_,.cons p q,r=>by
  cases r with
  |cons r rr =>
   refine .cons ?_ (I.pairs q rr);let⟨a,rfl,e⟩:=p;cases r;let⟨_,its,d,⟨o,c,hc,n,hd⟩⟩:=I.hok a _ e;let⟨g,h,rfl,⟨f,rfl⟩,⟨t2,rfl⟩⟩:=vals2 d;exact⟨a,o,f,t2,n,rfl,c,hc,hd⟩
end
def Kz{x y:Value}{a b:Tie}{Q:Bool->Shared->Prop}(q:lE s.heap x a)(r:lE s.heap y b)(k:ql a)(nb:ql b)(h:Q (decide (bF a<bF b)) s):wpAny (model prog w) A (keyLt' (XA true) x y) Q E s:=by
 let⟨p,o,B,t2,n,rfl,m,hc,hd⟩:=q;let⟨z,o',t,u,v,rfl,g,l,f⟩:=r;let⟨c,d⟩:=a;let⟨b1,b2⟩:=b;unfold ql at k nb;simp only at k nb;refine W.kat_lt m hd g f ?_;refine W.kat_cons (Zm ?_);by_cases i:c=b1
 ·subst i;rw[d4];refine W.kat_yes (W.kat_cons (Zm ?_));by_cases j:d=b2
  ·subst j;rw[d4];refine W.kat_yes (W.kat_nil ?_);have e:decide (bF (c,d)<bF (c,d))=false:=dC (Int.lt_irrefl _);rw[e]at h;exact h
  ·rw[beq_eq_false_iff_ne.mpr j];refine W.kat_no (W.kat_one _ _ (Z9 ?_));have e:decide (bF (c,d)<bF (c,b2))=decide (d<b2):=by
    apply decide_eq_decide.mpr;unfold bF;lia
   rw[e]at h;exact h
 ·rw[beq_eq_false_iff_ne.mpr i];refine W.kat_no (oneLt_int ?_);have e:decide (bF (c,d)<bF (b1,b2))=decide (c<b1):=by
   apply decide_eq_decide.mpr;unfold bF;simp only;constructor
   ·intro h;lia
   ·intro h;lia
  rw[e]at h;exact h
theorem K8:∀{us:eo}{d:eh},Paired (lE s.heap) us d->∃fs,W.KatTups s.heap us fs/\⇑fs=⇑us/\∀v∈fs,∃i t,v=Value.int i t
 |_,_,.nil=>⟨[],.nil,rfl,λ_ h=>nomatch h⟩
 |_,_,.cons p q=>by
  let⟨a,o,c,t2,n,rfl,b,hc,hd⟩:=p;let⟨fs,k,hl,hv⟩:=K8 q;refine⟨_::fs,.cons b hc hd (f:=Value.int _ c) rfl k,by simp[hl],λv hv'=>?_⟩;rcases List.mem_cons.mp hv' with rfl|h
  ·exact⟨_,_,rfl⟩
  ·exact hv v h
def Vi{n:Nat}{key:Nat->Int}{p:Array Nat}(hp:NfSort.Pm n p)(h1:1<=n)(hs:NfSort.Up key p n):NfSort.kwp n key (W.kas_count n p) (λr=>r.1=n/\r.2=p):=by
 unfold W.kas_count;have b:∀(f a:Nat),1<=a->a+f=n->NfSort.kwp n key (W.kas_asc p f a) (λm=>m=n):=by
  intro f;induction f with
  |zero=>intro a _ h;exact h
  |succ f ih =>
   intro a ha h;refine⟨hp.lt (),hp.lt (),?_⟩;have hc:¬key (p.getD a 0)<key (p.getD (a - 1) 0):=Int.not_lt.mpr (hs (a - 1) a () ());rw[dC hc];exact ih (a+1) () ()
 refine NfSort.iu (NfSort.cO (λm e=>?_) (b (n - 1) 1 (Nat.le_refl _) ()));rw[dP ↑e];exact⟨e,rfl⟩
open PySem.W in
def NQ{prog:Za}{w:Zb}{A:Zr}{E:d6}{κ:XB}{it:Array Keyed}{n:Nat}{Q:Unit->XE->Shared->Prop}{G:Array Nat->Shared->Prop}{s:Shared}(h2:2<=n)(hmr:minRun' n n 0<=n)(d:∀p' st' s',p'.size=n->XG st'=p'.map (kas_item it)->XI st'=none->G p' s'->Q .unit st' s')(h:(Xs n (List.toArray (List.range n))).kasWp (kas_cmp prog w A κ it) (λr s'=>r.1=n/\G r.2 s') s) :
  kasC (model prog w) A E XN Q (XO κ it (List.toArray (List.range n))) s:=by
 obtain⟨r,rfl⟩:∃r,n=r+2:=⟨n - 2,()⟩
 have a:(List.toArray (List.range (r+2))).size=r+2:=by simp
 rw[sortRuns'_eq];refine XT (XU ?_);dsimp only;have hsz:(XG (XO κ it (List.toArray (List.range (r+2))))).size=r+2:=by
  show((List.toArray (List.range (r+2))).map (kas_item it)).size=_;rw[Array.size_map,a]
 simp only[hsz];refine XT (kasC_range ?_);show kasC _ _ _ (forIn (0::1::List.range' 2 r) _ _) _ _ _;refine XV ?_;dsimp only;rw[dQ ()];simp only[Nat.sub_zero,Nat.zero_add];refine XT (kas_count_ () (by rw[a];exact Nat.le_refl _) (λm p' s' hm1 hm2 hp hg=>?_) h);have b:p'.size=r+2:=hp.trans a;let⟨e,hg⟩:=hg;have c:m=r+2:=e;subst c;dsimp only;rw[dQ ()];refine XT (XU ?_);rw[show(XW (XO κ it p')).back?=none from rfl];dsimp only;refine XT (kasC_modify (XX ?_));show kasC _ _ _ (forIn (1::List.range' 2 r) _ _) _ _ _;refine XV ?_;dsimp only;rw[dP (Nat.le_refl _)];refine XX ?_;dsimp only;refine XT (kasC_range ?_);show kasC _ _ _ (forIn (0::1::List.range' 2 r) _ _) _ _ _;refine XV ?_;refine XT (XU ?_);rw[dP (show(XW (XY (XO κ it p') ((XW (XO κ it p')).push (0,r+2,0)))).size<=1 from Nat.le_refl 1)];refine XX ?_;dsimp only;exact XX (d p' _ _ b rfl rfl hg)
def Srt(a:eh):Prop:=⇑a<64\/⇑a=300/\∀i j,i<=j->j<⇑a->bF (a.getD i (0,0))<=bF (a.getD j (0,0))
theorem Srt.lt{a:eh}:Srt a->⇑a<512
 |.inl h=>()
 |.inr h=>()
def Gj{a:Addr}{us:eo}{c:eh}{n:Nat}{P:PySem.Fin->Shared->Prop}(K:s.heap.get? a=some (XZ "list" us.toArray n))(hp:Paired (lE s.heap) us c)(hn:∀t∈c,ql t)(d:Srt c)(h:∀p:ei,p.Perm (List.range ⇑us)->(∀i j,i<=j->j<⇑us->bF (c.getD (p.getD i 0) (0,0))<=bF (c.getD (p.getD j 0) (0,0))) ->
   P (.done (.ret .none)) { s with heap:=sortedHeap s.heap a us (p.map λi=>us.getD i Value.none).toArray }) :
  wpAny (model prog w) A (Builtin.«list.sort» ⟨[.ref a],[]⟩) P E s:=by
 have I:=⇑hp;have hbig:=d.lt;have h24:=Ym;rw[list_sort_plain];have ha:a<↥s:=Heap.lt_size K;refine wpAny_bind (X0 K rfl ?_);refine wpAny_bind (X1 K rfl ?_ (by rw[List.size_toArray,Ym];lia) (Nat.zero_le _));obtain⟨B,L⟩:∃B,(s.heap.update a (Obj.mapSeq λ_=>(#[]:el))).get? a=some (XZ "list" #[] B):=⟨_,X9 K (λ_=>#[])⟩
 refine wpAny_bind (We L rfl ?_);refine wpAny_bind (Wl ?_ (by show ⇑us<=_;rw[Ym];lia));refine wpAny_bind (Wp ?_ (Nat.zero_le _));refine ZW ?_;have l:(((s.heap.update a (Obj.mapSeq λ_=>(#[]:el))).push (XZ "tuple" us.toArray 0)).push (XZ "list" #[] 0)).get? a=some (XZ "list" #[] B):=by
  rw[Heap.get?_push_ne _ _ _ (by rw[WA,Heap.size_update];exact Nat.ne_of_lt (Nat.lt_succ_of_lt ha)),Heap.get?_push_ne _ _ _ (by rw[Heap.size_update];exact Nat.ne_of_lt ha)];exact L
 have R:∀b o,s.heap.get? b=some o->o.cls=.type "tuple"->(((s.heap.update a (Obj.mapSeq λ_=>(#[]:el))).push (XZ "tuple" us.toArray 0)).push (XZ "list" #[] 0)).get? b=some o:=λb o q hc=>by
  have J:b<↥s:=Heap.lt_size q;have Y:b≠a:=λz=>by
   rw[z,K]at q;cases q;have z2:(Value.type "list")=Value.type "tuple":=hc;injection z2 with z3
   exact dS z3 ∅
  rw[Heap.get?_push_ne _ _ _ (by rw[WA,Heap.size_update];exact Nat.ne_of_lt (Nat.lt_succ_of_lt J)),Heap.get?_push_ne _ _ _ (by rw[Heap.size_update];exact Nat.ne_of_lt J),Heap.get?_update_ne _ _ _ _ Y];exact q
 show wpAny (model prog w) A _ P E { s with heap:=((s.heap.update a (Obj.mapSeq λ_=>(#[]:el))).push (XZ "tuple" us.toArray 0)).push (XZ "list" #[] 0)};dsimp only;have hsz:us.toArray.size=⇑us:=by simp
 have N:Paired (lE (((s.heap.update a (Obj.mapSeq λ_=>(#[]:el))).push (XZ "tuple" us.toArray 0)).push (XZ "list" #[] 0))) us c:=Paired.Bq hp λu t x=>x.keep R;by_cases h2:us.toArray.size<2
 ·rw[dP h2,dP h2];refine wpAny_bind (Z2 ?_);rw[StateT.run_pure];refine wpAny_bind (Z2 ?_);dsimp only;have F:(XG (SortSt.mk' general' (us.toArray.zip us.toArray) #[] 7 none)).map (·.2)=((List.range ⇑us).map λi=>us.getD i Value.none).toArray:=by
   rw[j8];show(us.toArray.zip us.toArray).map (·.2)=us.toArray;apply Array.toList_inj.mp;simp;exact VF us
  rw[F];refine wpAny_bind (We l rfl ?_);refine wpAny_bind (X1 l rfl ?_ (Nat.zero_le _) (by rw[List.size_toArray,List.length_map,List.length_range,Ym];lia));simp only[bne_self_eq_false,Bool.false_eq_true,if_false];refine Z2 (h _ (List.Perm.refl _) λi j hij hj=>?_);have:i=j:=()
  subst this;exact Int.le_refl _
 ·rw[dQ h2,dQ h2];have H:2<=⇑us:=()
  let⟨fs,hk,hfl,X⟩:=K8 (s:={ s with heap:=((s.heap.update a (Obj.mapSeq λ_=>(#[]:el))).push (XZ "tuple" us.toArray 0)).push (XZ "list" #[] 0)}) N;refine wpAny_bind (W.kat_kind (T:=.type "int") hk () (λv hv=>by let⟨i,t,rfl⟩:=X v hv;exact W.Looks.of_pure rfl) rfl ?_);have m:∀i j C,i<⇑us->j<⇑us->C (decide (bF (c.getD i (0,0))<bF (c.getD j (0,0)))) { s with heap:=((s.heap.update a (Obj.mapSeq λ_=>(#[]:el))).push (XZ "tuple" us.toArray 0)).push (XZ "list" #[] 0)} ->
    W.kas_cmp prog w A (XA true) (us.toArray.zip us.toArray) i j C { s with heap:=((s.heap.update a (Obj.mapSeq λ_=>(#[]:el))).push (XZ "tuple" us.toArray 0)).push (XZ "list" #[] 0)}:=λi j C hi hj hC=>by
   unfold W.kas_cmp;rw[W.kat_item rfl,W.kat_item rfl];have key:∀k,k<⇑us->lE (((s.heap.update a (Obj.mapSeq λ_=>(#[]:el))).push (XZ "tuple" us.toArray 0)).push (XZ "list" #[] 0)) (us.getD k Value.none) (c.getD k (0,0))/\ql (c.getD k (0,0)):=λk hk=>by
    have y:k<⇑c:=()
    have ek:c.getD k (0,0)=c[k]:=by simp[y]
    let⟨u,eu,pu⟩:=V1 N (i:=k) (b:=c[k]) (by simp[y]);have U:us.getD k Value.none=u:=by rw[List.getD_eq_getElem?_getD,eu];rfl
    rw[ek,U];exact⟨pu,hn _ (List.getElem_mem y)⟩
   exact Kz (key i hi).1 (key j hj).1 (key i hi).2 (key j hj).2 hC
  have G:W.kasC (model prog w) A E XN (λ_ f g=>∃p:Array Nat,g={ s with heap:=((s.heap.update a (Obj.mapSeq λ_=>(#[]:el))).push (XZ "tuple" us.toArray 0)).push (XZ "list" #[] 0)}/\XG f=p.map (W.kas_item (us.toArray.zip us.toArray))/\XI f=none/\NfSort.Pm ⇑us p/\NfSort.Up (λi=>bF (c.getD i (0,0))) p ⇑us) (W.kas_st (XA true) (us.toArray.zip us.toArray) (List.toArray (List.range ⇑us))) { s with heap:=((s.heap.update a (Obj.mapSeq λ_=>(#[]:el))).push (XZ "tuple" us.toArray 0)).push (XZ "list" #[] 0)}:=by
   rcases d with d|⟨d,hs⟩
   ·exact W.kas_runs (G:=λp g=>g={ s with heap:=((s.heap.update a (Obj.mapSeq λ_=>(#[]:el))).push (XZ "tuple" us.toArray 0)).push (XZ "list" #[] 0)}/\NfSort.Pm ⇑us p/\NfSort.Up (λi=>bF (c.getD i (0,0))) p ⇑us) H () (λp' f g a1 a2 a3 a4=>⟨p',a4.1,a2,a3,a4.2⟩)
     (NfSort.wM m (NfSort.cO (λp hp=>⟨rfl,hp⟩) (NfSort.Nx ())))
   ·have hu:NfSort.Up (λi=>bF (c.getD i (0,0))) (List.toArray (List.range ⇑us)) ⇑us:=λi j hij hj=>by
     unfold NfSort.kk;have D:∀k,k<⇑us->(List.toArray (List.range ⇑us)).getD k 0=k:=λk hk=>by simp[Array.getD,hk]
     rw[D i (),D j hj];exact hs i j hij ()
    exact NQ (G:=λp g=>g={ s with heap:=((s.heap.update a (Obj.mapSeq λ_=>(#[]:el))).push (XZ "tuple" us.toArray 0)).push (XZ "list" #[] 0)}/\NfSort.Pm ⇑us p/\NfSort.Up (λi=>bF (c.getD i (0,0))) p ⇑us) H (by rw[I,d];decide +kernel) (λp' f g a1 a2 a3 a4=>⟨p',a4.1,a2,a3,a4.2⟩)
     (NfSort.wM (G:=λr g=>r.1=⇑us/\g={ s with heap:=((s.heap.update a (Obj.mapSeq λ_=>(#[]:el))).push (XZ "tuple" us.toArray 0)).push (XZ "list" #[] 0)}/\NfSort.Pm ⇑us r.2/\NfSort.Up (λi=>bF (c.getD i (0,0))) r.2 ⇑us) m (NfSort.cO (λr ⟨B,e2⟩=>⟨B,rfl,by rw[e2];exact⟨Array.Perm.refl _,hu⟩⟩) (Vi (Array.Perm.refl _) () hu)))
  have S:SortSt.mk' (XA true) (us.toArray.zip us.toArray) #[] 7 none=W.kas_st (XA true) (us.toArray.zip us.toArray) (List.toArray (List.range ⇑us)):=by
   have e:=W.kas_range (us.toArray.zip us.toArray);rw[show(us.toArray.zip us.toArray).size=⇑us by simp]at e;show SortSt.mk' (XA true) (us.toArray.zip us.toArray) #[] 7 none=SortSt.mk' (XA true) ((List.toArray (List.range ⇑us)).map (W.kas_item (us.toArray.zip us.toArray))) #[] 7 none;rw[e]
  have eT:XA (Value.type "int" != Value.type "tuple")=XA true:=rfl;rw[eT,S];refine wpAny_bind (ZG G ?_ λ_ _ e=>e);rintro⟨⟨⟩,f⟩ g ⟨p,rfl,V,hf,O,Z⟩;dsimp only;have M:=W.kat_snds (ks:=us) (vs:=us) rfl V;rw[M];have Q:p.size=⇑us:=O.size;refine wpAny_bind (We l rfl ?_);refine wpAny_bind (X1 l rfl ?_ (Nat.zero_le _) (by rw[List.size_toArray,List.length_map,Array.length_toList,Q,Ym];lia));rw[hf];simp only[bne_self_eq_false,Bool.false_eq_true,if_false];refine Z2 (h p.toList ?_ λi j hij hj=>?_)
  ·have:=Array.perm_iff_toList_perm.mp O;simpa using this
  ·have q:=Z i j hij hj;unfold NfSort.kk at q;have D:∀k,p.toList.getD k 0=p.getD k 0:=λk=>by
    rw[NfSort.getD_eq,List.getD_eq_getElem?_getD];simp
   rw[D,D];exact q
def uE{l:Addr}{vs:eo}{Q:eo->Shared->Prop}(hl:IsTup s.heap l vs.toArray)(h:Q vs { s with heap:=(s.heap.push (XZ "list" #[] 0)).update ↥s (Obj.mapSeq (·++vs.toArray))})(hsz:⇑vs<=sizeLine) :
  wpAny (model prog w) A (WB (.ref l)) Q E s:=by
 let⟨o,b,hc,n,hd⟩:=id hl;unfold WB;refine wpAny_bind (WE (WF WG ?_));show wpAny _ _ (do again (.builtin "list.__iadd__" ⟨[←Y2 [],.ref l],[]⟩)) _ _ s;refine wpAny_bind (Wp (Z2 ⟨Code.quiet_builtin _ ⋯,WF WH ?_⟩));show wpAny _ _ (Builtin.List.listExtendWith (.ref ↥s) (.ref l) (.ref ↥s)) _ _ { s with heap:=s.heap.push (XZ "list" #[] 0)};unfold Builtin.List.listExtendWith;have a:(s.heap.push (XZ "list" #[] 0)).get? l=some o:=Heap.get?_push_of_some _ b;refine wpAny_bind (wpAny_typeOf (T:="tuple") ⟨o,a,hc⟩ ?_);have ht:(Value.type "tuple"==Value.type "tuple")=true:=by rfl
 rw[dP (by rw[ht];simp)];refine wpAny_bind (X0 a hd ?_);refine wpAny_bind (X0 (xs:=#[]) (n:=0) (Heap.get?_push_size _ rfl) rfl ?_);rw[dQ (by simp)];refine wpAny_bind (X1 (xs:=#[]) (n:=0) (Heap.get?_push_size _ rfl) rfl ?_ (Nat.zero_le _) (by show(#[]++vs.toArray).size<=sizeLine+1;simp only[Array.size_append,List.size_toArray,List.length_nil];lia));refine Z2 ?_;show wpAny (model prog w) A (do
   let o ←load ↥s
   match o.data with
   |.seq xs _=>pure xs.toList
   |_=>unsupported "internal:collect") Q E { s with heap:=(s.heap.push (XZ "list" #[] 0)).update ↥s (Obj.mapSeq (·++vs.toArray))}
 refine wpAny_bind (Z3 (X9 (Heap.get?_push_size _ rfl) _) ?_);show wpAny _ _ (pure ((#[]:el)++vs.toArray).toList) Q E _;rw[show((#[]:el)++vs.toArray).toList=vs by simp];exact Z2 h
def vZ{l:Addr}{us:eo}{k:eh}{Q:d6}(hl:s.heap.IsList l us.toArray\/IsTup s.heap l us.toArray)(hp:Paired (lE s.heap) us k)(hn:∀t∈k,ql t)(d:Srt k)(h:∀p:ei,p.Perm (List.range ⇑us)->(∀i j,i<=j->j<⇑us->bF (k.getD (p.getD i 0) (0,0))<=bF (k.getD (p.getD j 0) (0,0))) ->
   Q (.ref (↥s+1)) { s with heap:=sortedAll s.heap us (p.map λi=>us.getD i Value.none).toArray }) :
  wpAny (model prog w) A (Z6 (.builtin "sorted") [.ref l]) Q E s:=by
 have y:=Ym;have r:=⇑hp;have n:=d.lt;refine Calls.call_function_entry WI WN WO (args_sorted1 _) ?_;unfold Builtin.«sorted»;refine wpAny_bind (m:=WP "sorted" 1 1 _) (Z2 ?_);have hsz:((s.heap.push (XZ "list" #[] 0)).update ↥s (Obj.mapSeq (·++us.toArray))).objs.size=↥s+1:=by
  rw[Heap.size_update,WA]
 have f:(((s.heap.push (XZ "list" #[] 0)).update ↥s (Obj.mapSeq (·++us.toArray))).push (XZ "list" us.toArray 0)).get? (↥s+1)=some (XZ "list" us.toArray 0):=by
  rw[←hsz];exact Heap.get?_push_size _ rfl
 have g:∀b o,s.heap.get? b=some o->(((s.heap.push (XZ "list" #[] 0)).update ↥s (Obj.mapSeq (·++us.toArray))).push (XZ "list" us.toArray 0)).get? b=some o:=λb o q=>by
  have c:b<↥s:=Heap.lt_size q;rw[Heap.get?_push_ne _ _ _ (by rw[hsz];exact Nat.ne_of_lt (Nat.lt_succ_of_lt c)),Heap.get?_update_ne _ _ _ _ (Nat.ne_of_lt c),Heap.get?_push_ne _ _ _ (Nat.ne_of_lt c)];exact q
 have v:∀{Q':eo->Shared->Prop},Q' us { s with heap:=(s.heap.push (XZ "list" #[] 0)).update ↥s (Obj.mapSeq (·++us.toArray))}->wpAny (model prog w) A.in1 (WB (.ref l)) Q' (λe s'=>E e s') s:=λ{Q'} hq=>by
  rcases hl with hl|hl
  ·exact collect_list hl hq ()
  ·exact uE hl hq ()
 refine wpAny_bind (v ?_);refine wpAny_bind (Wp ?_ ());show wpAny _ _ _ _ _ { s with heap:=((s.heap.push (XZ "list" #[] 0)).update ↥s (Obj.mapSeq (·++us.toArray))).push (XZ "list" us.toArray 0)};rw[hsz];refine wpAny_bind (ZW (YI WS ⟨_,f,rfl⟩ WU (Gj f (Paired.Bq hp λu t x=>x.keep λa o e _=>g a o e) hn d λp a1 a2=>⟨_,rfl,?_⟩) (WZ _)));exact Z2 ⟨_,rfl,h p a1 a2⟩
end
section
def xU{c:eh}{p:ei}(hp:p.Perm (List.range ⇑c))(h:∀i j,i<=j->j<⇑c->bF (c.getD (p.getD i 0) (0,0))<=bF (c.getD (p.getD j 0) (0,0))) :
  (p.map λi=>c.getD i (0,0)).Perm c/\(p.map λi=>c.getD i (0,0)).Pairwise (λa b=>bF a<=bF b):=by
 refine⟨?_,?_⟩
 ·have q:=hp.map λi=>c.getD i (0,0);rw[j8]at q;exact q
 ·have hl:⇑p=⇑c:=↑hp.length_eq
  rw[List.pairwise_iff_getElem];intro i j hi d g;rw[List.length_map]at hi d;have q:=h i j () ();have e:p.getD i 0=p[i]:=by simp[hi]
  have f:p.getD j 0=p[j]:=by simp[d]
  rw[e,f]at q;simpa using q
def xq:fj X (.builtin "sorted") (λxs H Q=>∃(p:Addr)(vs:List V)(c:eh),xs=[.ref p]/\(SqL X.K H p vs\/SqT X.K H p vs)/\Prs H vs c/\(∀t∈c,ql t)/\Srt c /\
  ∀l ws us,H l=none->Prs H ws us->us.Perm c->us.Pairwise (λa b=>bF a<=bF b)->Q (.ref l) (upd H l (.lst ws))):=by
 intro v s σ H xs us Q I r h;let⟨p,vs,c,rfl,hp,f,hn,m,q⟩:=h;let⟨u,rfl,L⟩:=vals1 r;cases L;have E:=Ym;have k:∀its:eo,Vals vs its->(s.heap.IsList p its.toArray\/IsTup s.heap p its.toArray)->wpAny (model X.prog X.w) X.A (Z6 (.builtin "sorted") [.ref p]) (EP X v σ Q) X.xe s:=λits g hl=>by
  have y:=I.pairs f g;have D:=⇑f;have x:=⇑g;have C:=m.lt;refine vZ hl y hn m λpp hpp hord=>?_;have j:⇑its=⇑c:=()
  rw[j]at hpp hord;let⟨d,z⟩:=xU hpp hord;have n:∀i∈pp,i<⇑c:=λi hi=>List.mem_range.mp (hpp.mem_iff.mp hi);have G:=JF f V.non (0,0) pp n;have B:Vals (pp.map λi=>vs.getD i V.non) (pp.map λi=>its.getD i Value.none):=JF g V.non Value.none pp λi hi=>by have:=n i hi;lia
  let⟨e,he⟩:=sortedAll_at s.heap its (pp.map λi=>its.getD i Value.none).toArray;refine⟨.ref (↥s+1),upd H (↥s+1) (.lst (pp.map λi=>vs.getD i V.non)),I.laid (t':=s.toks) (λb o eb=>W1 eb) (Nat.le_succ _) ?_,rfl,q _ _ _ (I.hok.fresh (Nat.le_succ _)) G d z⟩;refine⟨?_,_,e,B,he⟩;have F:⇑pp=⇑c:=↑hpp.length_eq
  rw[List.length_map];lia
 rcases hp with hp|hp
 ·let⟨its,g,pl,J⟩:=I.list hp;exact k its g (.inl pl.isList)
 ·let⟨its,g,pl,J⟩:=I.tuple hp;exact k its g (.inr pl)
def pD(t:Tie):VA:=.tuple [.int t.1,.int t.2]
theorem Cj:∀ts us:eh,PyData.eqvAll (ts.map pD) (us.map pD)=decide (ts=us)
 |[],[]=>rfl
 |[],_::_=>rfl
 |_::_,[]=>rfl
 |t::ts,u::us=>by
  show(PyData.eqv (pD t) (pD u)&&PyData.eqvAll (ts.map pD) (us.map pD))=_;rw[Cj ts us];have e:PyData.eqv (pD t) (pD u)=decide (t=u):=by
   show((t.1==u.1)&&((t.2==u.2)&&true))=_;rw[Bool.and_true,Bool.eq_iff_iff];simp[Prod.ext_iff]
  rw[e,Bool.eq_iff_iff];simp
inductive DatV(K:W.Frag)(H:Hp):V->VA->Prop
 |lst {a:Addr}{vs:List V}{ts:eh}:SqL K H a vs->Prs H vs ts->DatV K H (.ref a) (.list (ts.map pD))
 |tup {a:Addr}{vs:List V}{ts:eh}:SqT K H a vs->Prs H vs ts->DatV K H (.ref a) (.tuple (ts.map pD))
 |web {a b:Addr}{n:Int}{vs:List V}{ts:eh}:SqT K H a [.int n,.ref b]->SqT K H b vs->Prs H vs ts->DatV K H (.ref a) (.tuple [.int n,.tuple (ts.map pD)])
def PX(a us:eh):PyData.eqv (.list (a.map pD)) (.list (us.map pD))=decide (a=us):=Cj a us
def PN(n m:Int)(a us:eh):PyData.eqv (.tuple [.int n,.tuple (a.map pD)]) (.tuple [.int m,.tuple (us.map pD)])=decide (n=m/\a=us):=by
 show((n==m)&&(PyData.eqvAll (a.map pD) (us.map pD)&&true))=_;rw[Cj,Bool.and_true,Bool.eq_iff_iff];simp
end
end L2
namespace L2
open PySem.Spec HT
section
variable{prog:Za}{w:Zb}{A:Zr}{E:d6}{s:Shared}
end
section
variable{X:Cx}{e:Zt}{te:TE}{p1 p2 p3 pos:Pos}
end
end L2
namespace PySem
open _root_.PySem.Sem (wp)
open _root_.PySem.AutoSeq1 (wpAny_loadPart')
def j7(l:Addr)(a:el)(n:Nat)(dct:et)(i:Array ew) :
  Meets (Builtin.«enumerate.__new__» ⟨[.type "enumerate",.ref l],[]⟩) (λ_ R s=>s.heap.get? l=some { cls:=.type "tuple",dict:=dct,data:=.seq a n,slots:=i } /\
   R (.ok (.ret (.ref (s.heap.push { cls:=.type "tuple_iterator",data:=.fields #[.ref l,.int 0 0]}).objs.size)))
    { s with heap:=(s.heap.push { cls:=.type "tuple_iterator",data:=.fields #[.ref l,.int 0 0]}).push { cls:=.type "enumerate",data:=.fields #[.none,.bool false,.ref ↥s,Z4 0,.none,.none]}}) :=
 .of_wp λprog w A R s h=>by
  let⟨hp,g,d,tk,f⟩:=s;let⟨hl,h⟩:=h;have e:=sub_enumerate;have b:Heap.IsTuple (Shared.heap ⟨hp,g,d,tk,f⟩) l a:=⟨_,hl,rfl,n,rfl⟩
  wp_walk using VC hl
  refine wpAny_stack_any λst=>Z2 ?_;split
  ·rename_i c _ _ _ _ _;cases (c==Value.type "enumerate")
   ·wp_walk using VC hl,Y5 b
    exact⟨_,rfl,h⟩
   ·wp_walk using VC hl,Y5 b
    exact⟨_,rfl,h⟩
  ·wp_walk using VC hl,Y5 b
   exact⟨_,rfl,h⟩
section
variable{prog:Za}{w:Zb}{A:Zr}{E:d6}{s:Shared}
def lD{l:Addr}{a:el}{Q:d6}(f:s.heap.IsTuple l a)(h:∀h',IsEnum h' (↥s+1) ↥s 0 .none->h'.IsTupleIter ↥s l 0->h'.objs.size=↥s+2 ->
   (∀b o,s.heap.get? b=some o->h'.get? b=some o)->Q (.ref (↥s+1)) { s with heap:=h' }) :
  wpAny (model prog w) A (Z6 (.type "enumerate") [.ref l]) Q E s:=by
 let⟨⟨c,dct,e,g⟩,hl,hc,n,hd⟩:=f;replace hc:c=.type "tuple":=hc;replace hd:e=.seq a n:=hd;subst hc hd;refine callType_new F.called_enumerate ∅ (F.typeCall_enumerate_1 _) (F.newCall_enumerate_1 _) (λobj=>F.args_object_init_2 obj _) F.entry_enumerate_new
  (j7 l a n dct g) ⟨hl,?_⟩
 have d:(s.heap.push { cls:=.type "tuple_iterator",data:=.fields #[.ref l,.int 0 0]}).objs.size=↥s+1:=Heap.size_push ..;show _/\_;rw[d];have he:IsEnum ((s.heap.push { cls:=.type "tuple_iterator",data:=.fields #[.ref l,.int 0 0]}).push
   { cls:=.type "enumerate",data:=.fields #[.none,.bool false,.ref ↥s,Z4 0,.none,.none]}) (↥s+1) ↥s 0 .none:=by
  have:=Heap.get?_push_size (s.heap.push { cls:=.type "tuple_iterator",data:=.fields #[.ref l,.int 0 0]})
   (o:={ cls:=.type "enumerate",data:=.fields #[.none,.bool false,.ref ↥s,Z4 0,.none,.none]}) rfl
  rw[d]at this;exact this
 refine⟨⟨_,he,rfl⟩,h _ he ⟨_,Heap.get?_push_of_some _ (Heap.get?_push_size _ rfl),rfl,rfl⟩ (by rw[Heap.size_push,d]) λb o x=>Heap.get?_push_of_some _ (Heap.get?_push_of_some _ x)⟩
def dB{it l:Addr}{i:Nat}{items}{x:Value}{Q:d6}(a:s.heap.IsTupleIter it l i)(hl:s.heap.IsTuple l items)(f:items[i]?=some x)(e:∀h',h'.IsTupleIter it l (i+1)->Heap.SameBut it s.heap h'->Q x { s with heap:=h' }) :
  wpAny (model prog w) A (Builtin.SmallTypes.nextOf (.ref it)) Q E s:=by
 let⟨o,b,hc,hd⟩:=id a;let⟨h,d,_,g,c⟩:=hl;unfold Builtin.SmallTypes.nextOf;refine wpAny_bind (YH (name:=Str.ofString "__next__") a.typeIs PyProof.Rows.slot_tupleiter_next
  (YI PyProof.Rows.slot_tupleiter_next a.typeIs PyProof.Rows.entry_tupleiter_next ?_ (PyProof.Rows.args_tupleiter_next _)))
 show wpAny _ _ (VE (.ref it) 0 >>=_) _ _ s;refine wpAny_bind (YF b hd (x:=.ref l) rfl ?_);show wpAny _ _ (if(Value.ref l==Value.none)=true then _ else _) _ _ s;rw[dQ (show ¬((Value.ref l==Value.none)=true)from Bool.false_ne_true)];show wpAny _ _ (VE (.ref it) 1 >>=_) _ _ s;refine wpAny_bind (YF b hd (x:=.int i 0) rfl ?_);show wpAny _ _ (seqItems? (.ref l) >>=_) _ _ s;refine wpAny_bind (VI d c ?_);simp only[Int.toNat_natCast,f];refine wpAny_bind (VM b hd (by simp) (Z2 ⟨x,rfl,Z2 (e _ ?_ (Heap.SameBut.update ..))⟩));exact⟨_,Heap.get?_update_self _ b (Obj.isFreed_of_fields (Obj.data_mapFields hd _)),(Obj.cls_mapFields ..).trans hc,by
  rw[Obj.data_mapFields hd];simp[Z4]⟩
def dJ{it l:Addr}{i:Nat}{items}{Q:d6}(hh:A.handled=none)(b:s.heap.IsTupleIter it l i)(hl:s.heap.IsTuple l items)(h:items[i]?=none)(g:∀h' e,Heap.ExtBut it s.heap h'->(∃o,h'.get? e=some o/\o.cls=.type "StopIteration")->E (.ref e) { s with heap:=h' }) :
  wpAny (model prog w) A (Builtin.SmallTypes.nextOf (.ref it)) Q E s:=by
 let⟨o,d,hc,hd⟩:=id b;let⟨k,f,_,j,c⟩:=hl;unfold Builtin.SmallTypes.nextOf;refine wpAny_bind (YH (name:=Str.ofString "__next__") b.typeIs PyProof.Rows.slot_tupleiter_next
  (YI PyProof.Rows.slot_tupleiter_next b.typeIs PyProof.Rows.entry_tupleiter_next ?_ (PyProof.Rows.args_tupleiter_next _)))
 show wpAny _ _ (VE (.ref it) 0 >>=_) _ _ s;refine wpAny_bind (YF d hd (x:=.ref l) rfl ?_);show wpAny _ _ (if(Value.ref l==Value.none)=true then _ else _) _ _ s;rw[dQ (show ¬((Value.ref l==Value.none)=true)from Bool.false_ne_true)];show wpAny _ _ (VE (.ref it) 1 >>=_) _ _ s;refine wpAny_bind (YF d hd (x:=.int i 0) rfl ?_);show wpAny _ _ (seqItems? (.ref l) >>=_) _ _ s;refine wpAny_bind (VI f c ?_);simp only[Int.toNat_natCast,h];refine wpAny_bind (VO (wpAny_bind (VM d hd (by simp) ?_)));show wpAny _ _ (newExc (.type "StopIteration") [] >>=_) _ _ _;refine wpAny_bind ?_;simp only[newExc,newTuple];refine wpAny_bind (YJ ?_ (by size_fits));refine wpAny_bind (m:=VQ _ _) (wpAny_of_eq (a:=Value.none) (by first|rfl|(simp only[VQ];rfl)) ?_);refine YJ ?_ (by size_fits);simp only[raiseNew];refine wpAny_bind (wpAny_handled ?_)
 first|rw[show A.in1.handled=none from hh]|rw[hh]
 refine wpAny_bind (Z2 (wpAny_throw ?_));exact g _ _ (((Heap.SameBut.update ..).extBut.push _).push _) ⟨_,Heap.get?_push_size _ rfl,rfl⟩
end
def Draws.tuple{prog:Za}{w:Zb}{A:Zr}(hh:A.handled=none)(it l:Addr)(hne:l≠it)(items:el) :
  Draws prog w A it [it,l] items.size (λi v=>items[i]?=some v) (λi h=>h.IsTupleIter it l i/\h.IsTuple l items) where
 live:=λ_ _ st=>let⟨o,ho,_⟩:=st.1;⟨o,ho⟩
 frame:=λ_ _ _ st hk=>⟨let⟨o,ho,r⟩:=st.1;⟨o,hk it (by simp) o ho,r⟩,let⟨o,ho,r⟩:=st.2;⟨o,hk l (by simp) o ho,r⟩⟩
 item:=λi s Q E hi st hQ=>by
  refine dB st.1 st.2 (x:=items[i]) (by simp[hi]) λh' hit' hs'=>?_;exact hQ _ h' s.toks (by simp[hi]) ⟨hit',st.2.extBut hs'.extBut hne⟩ hs'
 done:=λs Q E st hE=>dJ hh st.1 st.2 (by simp) hE
end PySem
namespace L2
open PySem.Spec
variable{X:Cx}
def Ite(K:W.Frag)(a:Addr):It :=
 ⟨λi H=>∃xs x,SqT K H a xs/\xs[i]?=some x,λi H x H'=>∃t v,x=.ref t/\H t=none/\H'=upd H t (.tup [.int i,v])/\∀xs,SqT K H a xs->xs[i]?=some v,λi H=>∃xs,SqT K H a xs/\⇑xs<=i⟩
def Gg{P:Za}{w:Zb}{K:W.Frag}{elts:List Zt}{kk:Nat}{pos:Pos}(a e it:Addr)(hei:e≠it) :
  Turn P w K (.Tuple elts kk pos) (Ite K a) [e,it] e (λi h=>(∃old,IsEnum h e it i old)/\h.IsTupleIter it a i) where
 mem:=by simp
 obj:=λi h st b hb=>by
  let⟨⟨old,he⟩,o,ho,hc,hd⟩:=st;rcases List.mem_cons.mp hb with rfl|hb
  ·exact⟨_,he,λv z=>nomatch z⟩
  ·have e1:b=it:=↑hb
   subst e1;exact⟨o,ho,λv z=>by rw[hd]at z;cases z⟩
 keep:=λi h h' st k=>by
  let⟨⟨old,he⟩,o,ho,r⟩:=st;exact⟨⟨old,k e (by simp) _ he⟩,o,k it (by simp) _ ho,r⟩
 item:=by
  intro X hP hw hK hc i pins s σ H E I hf st hg;subst hP hw hK;let⟨xs,x,hq,hx⟩:=hg;let⟨its,rv,p,hz⟩:=I.tuple hq;let⟨u,hu,ru⟩:=rv.get hx;let⟨⟨old,he⟩,hit⟩:=st;have hai:a≠it:=λz=>by
   let⟨o,ho,hc1,_⟩:=p;let⟨o',ho',hc2,_⟩:=hit;rw[z,ho']at ho;cases ho;rw[hc2]at hc1;injection hc1 with z2;exact dS z2 ∅
  have hae:e≠a:=λz=>by
   let⟨o,ho,hc1,_⟩:=p;have he':s.heap.get? e=some _:=he;rw[z,ho]at he';cases he';have z1:Value.type "enumerate"=Value.type "tuple":=hc1;injection z1 with z2;exact dS z2 ∅
  have hlt:i<its.toArray.size:=by have:=(List.getElem?_eq_some_iff.mp hu).1;simpa using this
  let⟨e0,e1,e2,e3,e4,e5⟩:=hf e (by simp);let⟨f0,f1,f2,f3,f4,f5⟩:=hf it (by simp);have D:=Draws.tuple (prog:=X.prog) (w:=X.w) (A:=X.A.in1) (I.ok.hd hc) it a hai its.toArray;refine VS D he ⟨hit,show s.heap.IsTuple a its.toArray from p⟩ hlt hei (by simp[hei,hae]) λx' h' tk hP ho hs' hT hsz hk=>⟨_,rfl,?_⟩
  have ex:x'=u:=by
   have hP':its[i]?=some x':=↑hP
   rw[hu]at hP';exact(Option.some.inj hP').symm
  subst ex;refine VT ho λh2 he2 hs2=>?_;have hTn:H ↥s=none:=I.hok.fresh (Nat.le_refl _);have keep2:∀b o,b≠e->b≠it->s.heap.get? b=some o->h2.get? b=some o:=λb o hb1 hb2 q=>(hs2.2 b hb1).trans (hk b o hb1 hb2 q);have hTe:↥s≠e:=Nat.ne_of_gt (Heap.lt_size he);have hTup:h2.get? ↥s=some { cls:=.type "tuple",data:=.seq #[.int i tk,x']}:=(hs2.2 _ hTe).trans hT;have J:Inv X pins σ (upd H ↥s (.tup [.int i,x])) { s with heap:=h2,toks:=tk+1 }:=by
   refine I.step (g':=s.gens) (d':=s.drawn) (t':=tk+1) (ch:=[e,it]) (λb hb=>?_) (λb o _ _ hcb q _=>keep2 b o (λz=>hcb (by simp[z])) (λz=>hcb (by simp[z])) q)
    (λb o _ _ hcb q _=>⟨o.slots,keep2 b o (λz=>hcb (by simp[z])) (λz=>hcb (by simp[z])) q⟩) (λb o _ q n=>by rw[ao (Nat.ne_of_lt (Heap.lt_size q))];exact n)
    (λb o hcb q=>⟨o,keep2 b o (λz=>hcb (by simp[z])) (λz=>hcb (by simp[z])) q⟩) (λb ys q=>by rw[ao (au q hTn)];exact q) (λb o y q=>by rw[ao (au q hTn)];exact q)
    (λb ps q=>⟨#[],by rw[ao (au q hTn),q];simp⟩) (λm hm=>?_) ?_ I.bare
   ·rcases List.mem_cons.mp hb with rfl|hb
    ·exact⟨e3,e1,e4,e5⟩
    ·have z:b=it:=↑hb
     subst z;exact⟨f3,f1,f4,f5⟩
   ·let⟨o,es,ep,ho',r⟩:=hm;exact⟨o,es,ep,keep2 _ o (Ne.symm e1) (Ne.symm f1) ho',r⟩
   ·intro b u' q;have nT:∀{c y},H c=some y->c≠e/\c≠it:=λ{c y} z=>⟨λv=>(by rw[v,e0]at z;exact nomatch z),λv=>(by rw[v,f0]at z;exact nomatch z)⟩
    by_cases hb:b=↥s
    ·subst hb;rw[aB]at q;cases q;exact⟨(by show 2<=sizeLine;decide),[.int i tk,x'],.cons ⟨_,rfl⟩ (.cons ru .nil),_,hTup,rfl,_,rfl⟩
    ·rw[ao hb]at q;refine(I.hok b u' q).stay (λc v hcv y=>keep2 c v ?_ ?_ y) (λc y=>by rw[ao (au y hTn)];exact y) λc ys y=>by rw[ao (au y hTn)];exact y
     ·rcases hcv with rfl|z
      ·exact(nT q).1
      ·exact(nT z).1
     ·rcases hcv with rfl|z
      ·exact(nT q).2
      ·exact(nT z).2
  refine⟨.ref ↥s,_,J,rfl,⟨_,x,rfl,hTn,rfl,λys hy=>by rw[I.lJ hy hq];exact hx⟩,⟨⟨x',?_⟩,?_⟩,λb hb=>?_⟩
  ·have he3:IsEnum h2 e it ((i:Int)+1) x':=↑he2
   have ec:(~~~(i+1))=(i:Int)+1:=()
   rw[ec];exact he3
  ·let⟨o,ho2,r⟩:=hs'.1;exact⟨o,(hs2.2 it (Ne.symm hei)).trans ho2,r⟩
  ·rw[ao]
   ·exact(hf b hb).1
   ·rcases List.mem_cons.mp hb with rfl|hb
    ·exact Ne.symm hTe
    ·have z:b=it:=↑hb
     subst z;let⟨o,ho2,_⟩:=hit;exact Nat.ne_of_lt (Heap.lt_size ho2)
 done:=by
  intro X hP hw hK hc i pins s σ H E I hf st hg;subst hP hw hK;let⟨xs,hq,hx⟩:=hg;let⟨its,rv,p,hz⟩:=I.tuple hq;let⟨⟨old,he⟩,hit⟩:=st;let⟨f0,f1,f2,f3,f4,f5⟩:=hf it (by simp);have hl:=⇑rv;have hT:s.TypeIs (.ref e) "enumerate":=⟨_,he,rfl⟩
  unfold Z0;refine wpAny_bind (VU (YH (name:=Str.ofString "__next__") hT PySem.F.slot_enumerate_next
   (YI PySem.F.slot_enumerate_next hT PySem.F.entry_enumerate_next ?_ (PySem.F.args_enumerate_next_1 _))))
  show wpAny _ _ (VE (.ref e) 2 >>=_) _ _ _;refine wpAny_bind (YF he rfl (x:=.ref it) rfl ?_);refine wpAny_bind (dJ (I.ok.hd hc) hit (show s.heap.IsTuple a its.toArray from p) (by simp;lia) λh' x he' hx'=>?_);let⟨o,ho,hc'⟩:=hx';refine wpAny_bind (VW (T:="StopIteration") (b:=true) ⟨o,ho,hc'⟩ VX ?_);exact Z2 ⟨rfl,I.turned (t':=s.toks) (λb o hb e=>he' b o hb e) f0 f1 f3 f4 f5⟩
 self:=λA i s Q E st h=>by
  let⟨⟨old,he⟩,_⟩:=st;have hT:s.TypeIs (.ref e) "enumerate":=⟨_,he,rfl⟩
  refine VY hT PySem.F.slot_enumerate_iter (YI PySem.F.slot_enumerate_iter hT PySem.F.entry_enumerate_iter ?_ (PySem.F.args_enumerate_iter_1 _));show wpAny _ _ (ret (.ref e)) _ _ s;exact Z2 ⟨_,rfl,"enumerate",_,hT,PySem.F.slot_enumerate_next.lookup,h⟩
def boot_enumerate:Zq "enumerate"=some (.type "enumerate"):=⋯
def Wm(K:W.Frag)(b:TA):TI:=λσ H R=>b σ H λvs H1=>∃a,vs=[.ref a]/\(∃xs,SqT K H1 a xs)/\R (Ite K a) H1
def Oj{X:Cx}{elts:List Zt}{kk:Nat}{f:Pos}{a:Zt}{g:TA}{p pos:Pos}(hg:Gl X "enumerate")(hm:X.mg "enumerate"=none)(ha:PA X [a] g)(hs:Zu [a] X.env=[(false,Zv a X.env)]:=by rfl):PI X (.Tuple elts kk f) (.Call (.Name "enumerate" p) [a] [] pos) (Wm X.K g):=by
 intro d s σ H R I h;refine Call_ (kI I hg hm boot_enumerate (PyProof.Rows.callWith_type1 (thn (ha pos d s σ H _ I h) λus s1 ⟨vs,H1,I1,r1,q1⟩=>?_) hs rfl));let⟨b,e,⟨xs,k⟩,q⟩:=q1;subst e;let⟨u,rfl,m⟩:=vals1 r1;cases m;let⟨its,o,l,n⟩:=I1.tuple k;refine lD (show s1.heap.IsTuple b its.toArray from l) λh' he hit hsz hk=>?_;have j:Inv X d σ H1 { s1 with heap:=h' }:=I1.kept (t':=s1.toks) hk;have T:Turn X.prog X.w X.K (.Tuple elts kk f) (Ite X.K b) [↥s1+1,↥s1] (↥s1+1) (λi h=>(∃old,IsEnum h (↥s1+1) ↥s1 i old)/\h.IsTupleIter ↥s1 b i):=Gg b _ _ (Nat.ne_of_gt (Nat.lt_succ_self _));refine T.self _ 0 _ _ _ ⟨⟨_,he⟩,hit⟩ ⟨_,_,_,_,H1,rfl,j,T,⟨⟨_,he⟩,hit⟩,λc hc=>?_,q⟩;rcases List.mem_cons.mp hc with rfl|hc
 ·exact I1.zH (Nat.le_succ _) (I1.hok.fresh (Nat.le_succ _))
 ·have z:c=↥s1:=↑hc
  subst z;exact I1.zH (Nat.le_refl _) (I1.hok.fresh (Nat.le_refl _))
section
variable{κ:Type} [DecidableEq κ]
def gw(a:List (κ×V))(k:κ):Option V:=(a.find? λkv=>decide (kv.1=k)).map (·.2)
def putK(a:List (κ×V))(k:κ)(v:V):List (κ×V) :=
 if(a.any λkv=>decide (kv.1=k))=true then a.map (λkv=>if kv.1=k then(kv.1,v)else kv)else a++[(k,v)]
def jF{p:κ×V}{r:List (κ×V)}{k:κ}(e:p.1=k):gw (p::r) k=some p.2:=by simp[gw,List.find?_cons,e]
def nu{p:κ×V}{r:List (κ×V)}{k:κ}(e:¬p.1=k):gw (p::r) k=gw r k:=by simp[gw,List.find?_cons,e]
theorem jG(k:κ):∀kvs:List (κ×V),(kvs.any λkv=>decide (kv.1=k))=(gw kvs k).isSome
 |[]=>rfl
 |p::r=>by
  rw[List.any_cons];by_cases e:p.1=k
  ·simp only[jF e,fy e,Bool.true_or,Option.isSome_some]
  ·rw[nu e,dC e,Bool.false_or];exact jG k r
def kE(a:List (κ×V))(k:κ)(v:V):⇑(putK a k v)<=⇑a+1:=by
 unfold putK;split
 ·rw[List.length_map];lia
 ·rw[List.length_append,List.length_cons,List.length_nil];lia
def mH.qd{o:Option V}{u:ew}(r:mH o u):o.isSome=u.isSome:=by
 cases o with
 |none=>cases u with
  |none=>rfl
  |some _=>exact(show False from r).elim
 |some _=>cases u with
  |none=>exact(show False from r).elim
  |some _=>rfl
def KV.val{a:List (κ×V)}{vs:List (κ×Value)}(r:KV a vs)(k:κ):mH (gw a k) (VZ vs k):=by
 unfold KV at r;induction r with
 |nil=>exact True.intro
 |@cons p q ps qs h t ih =>
  let⟨h1,h2⟩:=h;by_cases e:p.1=k
  ·have c:q.1=k:=h1.symm.trans e;have b:VZ (q::qs) k=some q.2:=by simp[VZ,List.find?_cons,c]
   rw[jF e,b];exact h2
  ·have c:¬q.1=k:=λz=>e (h1.trans z);have b:VZ (q::qs) k=VZ qs k:=by simp[VZ,List.find?_cons,c]
   rw[nu e,b];exact ih
def KV.any{a:List (κ×V)}{vs:List (κ×Value)}(r:KV a vs)(k:κ):(a.any λkv=>decide (kv.1=k))=vs.any λkv=>decide (kv.1=k):=by
 unfold KV at r;induction r with
 |nil=>rfl
 |cons h t b=>rw[List.any_cons,List.any_cons,b,h.1]
def KV.repl{a:List (κ×V)}{vs:List (κ×Value)}(r:KV a vs)(k:κ){y:V}{u:Value}(b:RelV y u) :
  KV (a.map λkv=>if kv.1=k then(kv.1,y)else kv) (vs.map λkv=>if kv.1=k then(kv.1,u)else kv):=by
 unfold KV at r ⊢;induction r with
 |nil=>exact .nil
 |@cons p q ps qs h t ih =>
  rw[List.map_cons,List.map_cons];refine .cons ?_ ih;let⟨h1,h2⟩:=h;by_cases e:p.1=k
  ·rw[dP e,dP (h1.symm.trans e)];exact⟨h1,b⟩
  ·rw[dQ e,dQ (λz=>e (h1.trans z))];exact⟨h1,h2⟩
def KV.put{a:List (κ×V)}{vs:List (κ×Value)}(r:KV a vs)(k:κ){y:V}{u:Value}(b:RelV y u):KV (putK a k y) (stored vs k u):=by
 unfold putK stored;rw[r.any k];by_cases e:(vs.any λkv=>decide (kv.1=k))=true
 ·rw[dP e,dP e];exact r.repl k b
 ·rw[dQ e,dQ e];exact Paired.snoc r ⟨rfl,b⟩
def KV.keys{a:List (κ×V)}{vs:List (κ×Value)}(r:KV a vs):a.map (·.1)=vs.map (·.1):=by
 unfold KV at r;induction r with
 |nil=>rfl
 |cons h t b=>rw[List.map_cons,List.map_cons,b,h.1]
def KV.length{a:List (κ×V)}{vs:List (κ×Value)}(r:KV a vs):⇑a=⇑vs:=Paired.length r
end
def zm{P:Za}{w:Zb}{k:Key}{u:Value}(r:RelV (kV k) u):(cj P w).is k u=true:=by
 cases k with
 |inl i=>let⟨t,e⟩:=(show ∃t,u=Value.int i t from r);subst e;exact yQ P w i t
 |inr x=>let⟨t,e⟩:=(show ∃t,u=Value.str x t from r);subst e;exact yP P w x t
theorem vH{P:Za}{w:Zb}:∀{ks:List Key}{us:eo},Vals (ks.map kV) us->ItemsAre (cj P w) ks us
 |[],_,r=>by rw[List.map_nil]at r;cases r;exact .nil
 |k::ks,_,r=>by
  rw[List.map_cons]at r;cases r with
  |cons h t=>exact .cons (zm h) (vH t)
abbrev KT(H:Hp):List (List Key×V)->List (List Key×Addr×Value)->Prop:=Paired λp q=>p.1=q.1/\H q.2.1=some (.tup (p.1.map kV))/\RelV p.2 q.2.2
def KT.val{H:Hp}{a:List (List Key×V)}{xs:List (List Key×Addr×Value)}(r:KT H a xs)(k:List Key):mH (gw a k) ((Uf xs k).map (·.2)):=by
 induction r with
 |nil=>exact True.intro
 |@cons p q ps qs h t ih =>
  let⟨h1,_,h2⟩:=h;by_cases e:p.1=k
  ·have c:q.1=k:=h1.symm.trans e;have b:Uf (q::qs) k=some q.2:=by simp[Uf,List.find?_cons,c]
   rw[jF e,b];exact h2
  ·have c:¬q.1=k:=λz=>e (h1.trans z);have b:Uf (q::qs) k=Uf qs k:=by simp[Uf,List.find?_cons,c]
   rw[nu e,b];exact ih
def KT.repl{H:Hp}{a:List (List Key×V)}{xs:List (List Key×Addr×Value)}(r:KT H a xs)(k:List Key){y:V}{u:Value}(c:RelV y u) :
  KT H (a.map λkv=>if kv.1=k then(kv.1,y)else kv) (xs.map (putAt k u)):=by
 induction r with
 |nil=>exact .nil
 |@cons p q ps qs h t ih =>
  rw[List.map_cons,List.map_cons];refine .cons ?_ ih;let⟨h1,h2,b⟩:=h;unfold putAt;by_cases e:p.1=k
  ·rw[dP e,dP (h1.symm.trans e)];exact⟨h1,h2,c⟩
  ·rw[dQ e,dQ (λz=>e (h1.trans z))];exact⟨h1,h2,b⟩
def KT.put{H:Hp}{a:List (List Key×V)}{xs:List (List Key×Addr×Value)}(r:KT H a xs)(k:List Key){b:Addr}{y:V}{u:Value}(hb:H b=some (.tup (k.map kV)))(c:RelV y u) :
  KT H (putK a k y) (storedH xs k b u):=by
 have e:(a.any λkv=>decide (kv.1=k))=(Uf xs k).isSome:=by
  rw[jG,(r.val k).qd,Option.isSome_map]
 unfold putK storedH;rw[e];by_cases q:(Uf xs k).isSome=true
 ·rw[dP q,dP q];exact r.repl k c
 ·rw[dQ q,dQ q];exact Paired.snoc r ⟨rfl,hb,c⟩
def KT.keeps{H H':Hp}{a:List (List Key×V)}{xs:List (List Key×Addr×Value)}(r:KT H a xs)(ht:∀b ys,H b=some (.tup ys)->H' b=some (.tup ys)):KT H' a xs :=
 Paired.Bq r λ_ _ z=>⟨z.1,ht _ _ z.2.1,z.2.2⟩
section
variable{P:Za}{w:Zb}{H:Hp}{h:Heap}{a:Addr}
def Qz{u:HO}(ok:HOk P w H h)(e:Rd H a u):bQ P w H h a u:=e.ok ok
def Fo{b:List (Key×V)}(ok:HOk P w H h)(e:Rd H a (.dK b)):⇑b<=sizeLine/\(a==Zn)=false/\∃vs,KV b vs/\h.DictOf (cj P w) a vs :=
 show bQ P w H h a (.dK b)from Qz ok e
def Mj{b:List (Key×V)}(ok:HOk P w H h)(e:H a=some (.dK b)):⇑b<=sizeLine/\(a==Zn)=false/\∃vs,KV b vs/\h.DictOf (cj P w) a vs:=Fo ok (.inl e)
def wQ{ks:List Key}(ok:HOk P w H h)(e:H a=some (.tup (ks.map kV))):(Zo (cj P w)).is h ks a:=by
 let⟨_,its,r,o,h1,h2,n,b⟩:=(show bQ P w H h a (.tup (ks.map kV))from ok a _ e)
 exact⟨o,its.toArray,n,h1,h2,b,↑(vH r)⟩
def Fi{b:List (List Key×V)}(ok:HOk P w H h)(e:Rd H a (.dT b)):⇑b<=sizeLine/\(a==Zn)=false /\
  ∃xs,KT H b xs/\h.DictOfH (Zo (cj P w)) a xs:=by
 let⟨z,y,xs,r,o,es,ep,h1,h2,f,g,i⟩:=(show bQ P w H h a (.dT b)from Qz ok e)
 refine⟨z,y,xs,r,o,es,ep,h1,h2,f,g,λx c=>?_,i⟩;have d:∀{l:List (List Key×V)}{m:List (List Key×Addr×Value)},KT H l m->∀x∈m,(Zo (cj P w)).is h x.1 x.2.1:=by
  intro l m q;induction q with
  |nil=>intro x c;exact nomatch c
  |@cons p q ps qs hq t ih =>
   intro x c;rcases List.mem_cons.mp c with e|c
   ·subst e;exact wQ ok (by rw[←hq.1];exact hq.2.1)
   ·exact ih x c
 exact d r x c
def WW{b:List (List Key×V)}(ok:HOk P w H h)(e:H a=some (.dT b)):⇑b<=sizeLine/\(a==Zn)=false /\
  ∃xs,KT H b xs/\h.DictOfH (Zo (cj P w)) a xs:=Fi ok (.inl e)
end
def mK(H:Hp)(a:Addr)(y:V)(r:Option V):Prop :=
 (∃kvs k,Rd H a (.dK kvs)/\y=kV k/\r=gw kvs k)\/∃kvs k b,Rd H a (.dT kvs)/\y=.ref b/\H b=some (.tup (k.map kV))/\r=gw kvs k
def qm(H:Hp)(a:Addr)(y v:V)(H':Hp):Prop :=
 (∃kvs k,H a=some (.dK kvs)/\y=kV k/\⇑kvs<sizeLine/\H'=upd H a (.dK (putK kvs k v)))∨
 ∃kvs k b,H a=some (.dT kvs)/\y=.ref b/\H b=some (.tup (k.map kV))/\⇑kvs<sizeLine/\H'=upd H a (.dT (putK kvs k v))
def mK.k{H:Hp}{a:Addr}{b:List (Key×V)}{k:Key}(e:H a=some (.dK b)):mK H a (kV k) (gw b k):=.inl ⟨b,k,.inl e,rfl,rfl⟩
def qm.k{H:Hp}{a:Addr}{b:List (Key×V)}{k:Key}{v:V}(e:H a=some (.dK b))(hl:⇑b<sizeLine):qm H a (kV k) v (upd H a (.dK (putK b k v))):=.inl ⟨b,k,e,rfl,hl,rfl⟩
section
variable{pins:ee}{σ:St}{H:Hp}{s:Shared}{a:Addr}{y v:V}{u r:Value}{o:Option V}{A:Zr}{E:d6}
def Inv.big(I:Inv X pins σ H s):Zn<↥s:=by
 have h:mainGlobals<↥s:=(I.mod.glob.keeps I.bk).lt;exact Nat.lt_trans ∅ h
def Hr{Q:d6}(hu:A.units+1<Ys)(I:Inv X pins σ H s)(g:mK H a y (some v))(q:RelV y u)(h:∀w' s',Inv X pins σ H s'->RelV v w'->Q w' s') :
  wpAny (model X.prog X.w) A (YG (.ref a) u) Q E s:=by
 rcases g with⟨n,k,e,i,l⟩|⟨n,k,b,e,i,t,l⟩
 ·subst i;let⟨z,hd,vs,c,f⟩:=Fo I.hok e;let⟨w',m,d⟩:=mH.some_of (v:=v) (o:=VZ vs k) (by rw[l];exact c.val k);exact wpAny_getItem_of (zm q) f.mapOf m (h w' _ (I.tok _) d)
 ·subst i;cases (show u=Value.ref b from q);let⟨z,hd,xs,c,f⟩:=Fi I.hok e;let⟨w',m,d⟩:=mH.some_of (v:=v) (o:=(Uf xs k).map (·.2)) (by rw[l];exact c.val k);let⟨p,hp,j⟩:=Option.map_eq_some_iff.mp m;refine wpAny_getItem_heap (UA hu) (wQ I.hok t) f hp ?_;rw[j];exact h w' _ (I.tok _) d
def Qh{Q:d6}(hu:A.units+1<Ys)(I:Inv X pins σ H s)(g:mK H a y o)(j:RelV y u)(h:∀s',Inv X pins σ H s'->Q (.bool (!o.isSome)) s') :
  wpAny (model X.prog X.w) A (ZK .NotIn u (.ref a)) Q E s:=by
 rcases g with⟨i,k,e,f,l⟩|⟨i,k,b,e,f,m,l⟩
 ·subst f;let⟨z,hd,vs,c,d⟩:=Fo I.hok e;refine wpAny_notIn_of (zm j) hd d.mapOf ?_;rw[←(c.val k).qd,←l];exact h _ (I.tok _)
 ·subst f;cases (show u=Value.ref b from j);let⟨z,hd,xs,c,d⟩:=Fi I.hok e;refine wpAny_notIn_heap (UA hu) (wQ I.hok m) hd d ?_;have q:=(c.val k).qd;rw[Option.isSome_map]at q;rw[←q,←l];exact h _ (I.tok _)
def w5{h':Heap}{t':Nat}{c:HO}(I:Inv X pins σ H s)(d:Mut (H a))(hs:Heap.SameBut a s.heap h')(he:∃q,h'.get? a=some q)(new:bQ X.prog X.w (upd H a c) h' a c) :
  Inv X pins σ (upd H a c) { s with heap:=h',toks:=t' } :=
 I.write (x:=a) (e:=a) d (.inl rfl) (λb q hb z=>(hs.2 b hb).trans z) he new
def Ml{P:Za}{w:Zb}{H':Hp}{h':Heap}{b:List (Key×V)}{vs:List (Key×Value)}(z:⇑b<=sizeLine)(hd:(a==Zn)=false)(c:KV b vs)(d:h'.DictOf (cj P w) a vs) :
  bQ P w H' h' a (.dK b):=⟨z,hd,vs,c,d⟩
def vJ{H':Hp}{Q:Unit->Shared->Prop}(hu:A.units+1<Ys)(I:Inv X pins σ H s)(g:qm H a y v H')(D:RelV y u)(C:RelV v r)(h:∀s',Inv X pins σ H' s'->Q .unit s') :
  wpAny (model X.prog X.w) A (setItem (.ref a) u r) Q E s:=by
 rcases g with⟨d,k,e,p,l,n⟩|⟨d,k,b,e,p,x,l,n⟩
 ·subst p n;let⟨z,hd,vs,f,m⟩:=Mj I.hok e;have t:⇑vs<=sizeLine:=by rw[←⇑f];exact z
  have hl:⇑(putK d k v)<=sizeLine:=by have:=kE d k v;lia
  refine wpAny_setItem_pairs (hsz:=t) (zm D) m λh' i hs=>h _ ?_;have he:∃q,h'.get? a=some q:=let⟨q,_,_,j,_⟩:=i;⟨q,j⟩
  exact w5 I (by rw[e];exact True.intro) hs he (Ml hl hd (f.put k C) i)
 ·subst p n;cases (show u=Value.ref b from D);let⟨z,hd,xs,f,m⟩:=WW I.hok e;have t:⇑xs<=sizeLine:=by rw[←Paired.length f];exact z
  have hl:⇑(putK d k v)<=sizeLine:=by have:=kE d k v;lia
  refine wpAny_setItem_heap (hsz:=t) (UA hu) (wQ I.hok x) m λh' i hs=>h _ ?_;let⟨q,es,ep,j,h2,F,G,_,J⟩:=i;refine w5 I (by rw[e];exact True.intro) hs ⟨q,j⟩ ⟨hl,hd,_,(f.put k x C).keeps λc ys B=>?_,q,es,ep,j,h2,F,G,J⟩;rw[ao (Wc B e (λz=>nomatch z))];exact B
end
section
variable{pins:ee}{σ:St}{H:Hp}{s:Shared}{a:Addr}{kvs:List (Key×V)}{k:Key}{u:Value}{A:Zr}{E:d6}
end
def Nh(i:Zt):Prop:=∀ov iv,YO i false ov iv=operate [ov,iv] (YG ov iv)
def Nv{prog:Za}{w:Zb}{A:Zr}{E:d6}{s:Shared}{env:Env}{b a:Zt}{pos:Pos}{T id:String}{Q:d6}(hl:typeLookup (.type T) "__getitem__"=pure (some (.builtin id)))(hs:Nh a)(h:wpAny (model prog w) A (Zv b env) (λo s₁=>wpAny (model prog w) A (Zv a env) (λi s₂=>s₂.TypeIs o T/\wpAny (model prog w) A (YG o i) Q E s₂) E s₁) E s) :
  wpAny (model prog w) A (Zv (.Subscript b a pos) env) Q E s:=by
 refine YM (ZG h (λo s₁ h₁=>ZG h₁ (λi s₂ c=>?_) λ_ _ x=>x) λ_ _ x=>x);let⟨e,c⟩:=c;unfold YN;refine wpAny_bind ?_;rw[getitemInPython_of_ne e.not_modules];refine wpAny_bind (wpAny_specialOf e hl ?_);have d:wpAny (model prog w) A (YO a false o i) (λr s₃=>wpAny (model prog w) A (letTemporaryGo b o r >>=λ_=>pure r) Q E s₃) E s₂:=by
  rw[hs o i];exact wpAny_operating (ZG c (λr s₃ h₃=>wpAny_bind (wpAny_letTemporaryGo (Z2 h₃))) λ_ _ x=>x)
 first
  |exact Z2 (wpAny_bind d)
  |exact wpAny_bind (Z2 (wpAny_bind d))
  |exact wpAny_bind d
def zR{X:Cx}{c:ee}{σ:St}{H:Hp}{s:Shared}{a:Addr}{y:V}{o:Option V}(I:Inv X c σ H s)(g:mK H a y o):s.TypeIs (.ref a) "dict":=by
 rcases g with⟨f,k,e,_,_⟩|⟨f,k,b,e,_,_,_⟩
 ·let⟨_,_,vs,_,d⟩:=Fo I.hok e;exact d.typeIs
 ·let⟨_,_,xs,_,d⟩:=Fi I.hok e;exact d.typeIs
def Vz(b ty:TE):TE:=λσ H Q=>b σ H λx H1=>ty σ H1 λy H2=>∃a v,x=.ref a/\mK H2 a y (some v)/\Q v H2
def Dg(ty b:TE):TE:=λσ H Q=>ty σ H λy H1=>b σ H1 λx H2=>∃a o,x=.ref a/\mK H2 a y o/\Q (.bl (!o.isSome)) H2
def Qx(b ty c:TE):TS:=λD σ H=>c σ H λv H1=>b σ H1 λx H2=>ty σ H2 λy H3=>∃a H4,x=.ref a/\qm H3 a y v H4/\D.nx σ H4
section
variable{o i e value:Zt}{pos pos' tpos:Pos}{td ty tv:TE}
def fK(hu:X.A.units+1<Ys)(c:PE X o td)(hi:PE X i ty)(hs:Nh i):PE X (.Subscript o i pos) (Vz td ty):=by
 intro b s σ H Q I h;refine Nv PySem.F.slot_dict_getitem.lookup hs (thn (c b s σ H _ I h) λu s1 ⟨x,H1,I1,rx,q1⟩=>thn (hi b s1 σ H1 _ I1 q1) λiv s2 ⟨y,H2,I2,ry,a,v,ex,g,q2⟩=>?_);subst ex;obtain rfl:u=Value.ref a:=rx;exact⟨zR I2 g,Hr hu I2 g ry λw' s3 I3 rw'=>⟨v,H2,I3,rw',q2⟩⟩
def Gv(hu:X.A.units+1<Ys)(hi:PE X i ty)(c:PE X o td):PC X .NotIn i o (Dg ty td):=by
 intro b s σ H Q I h;refine thn (hi b s σ H _ I h) λiv s1 ⟨y,H1,I1,ry,q1⟩=>thn (c b s1 σ H1 _ I1 q1) λu s2 ⟨x,H2,I2,rx,a,ov,ex,g,q2⟩=>?_;subst ex;obtain rfl:u=Value.ref a:=rx;exact Qh hu I2 g ry λs3 I3=>⟨.bl (!ov.isSome),H2,I3,rfl,q2⟩
def nM(hu:X.A.units+1<Ys)(c:PE X o td)(hi:PE X i ty)(hv:PE X value tv)(hs:ZQ value (some (.Subscript o i pos')) pos.line X.env=pure false) :
  PS X (.Assign [.Subscript o i pos'] value pos) (Qx td ty tv):=by
 intro b s σ H D I h;refine wpAny_Assign_Subscript (thn (hv b s σ H _ I h) λr s1 ⟨v,H1,I1,rv,q1⟩=>thn (c b s1 σ H1 _ I1 q1) λu s2 ⟨x,H2,I2,rx,q2⟩=>thn (hi b s2 σ H2 _ I2 q2) λiv s3 ⟨y,H3,I3,ry,a,H4,ex,g,q3⟩=>?_) hs;subst ex;obtain rfl:u=Value.ref a:=rx;exact vJ hu I3 g ry rv λs4 I4=>⟨σ,H4,I4,q3⟩
end
def zO{P:Za}{w:Zb}{H:Hp}(h:Heap)(hb:Zn<h.objs.size):bQ P w H (h.push { cls:=.type "dict",data:=.dict #[]}) h.objs.size (.dK []) :=
 ⟨Nat.zero_le _,beq_eq_false_iff_ne.mpr (Ne.symm (Nat.ne_of_lt hb)),[],.nil,Heap.DictOf.new h⟩
def Rz:TE:=λ_ H Q=>∀p,H p=none->Q (.ref p) (upd H p (.dK []))
section
variable{pos:Pos}
def JW:PE X (.Dict [] [] pos) Rz:=λpins s σ H Q I h =>
 wpAny_Dict_empty ⟨.ref ↥s,_,I.laid (a:=↥s) (o:=.dK []) (t':=s.toks) (λ_ _ q=>Heap.get?_push_of_some _ q) (Nat.le_refl _) (zO s.heap I.big),rfl,h _ (I.hok.fresh (Nat.le_refl _))⟩
end
def Ao:List (TE×TE)->St->Hp->(List (V×V)->Hp->Prop)->Prop
 |[],_,H,Q=>Q [] H
 |(tk,tv)::r,σ,H,Q=>tk σ H λx H1=>tv σ H1 λy H2=>Ao r σ H2 λps H3=>Q ((x,y)::ps) H3
abbrev VV:List (V×V)->List (Value×Value)->Prop:=Paired λp q=>RelV p.1 q.1/\RelV p.2 q.2
def PPs(X:Cx)(pos:Pos)(b:List (Option Zt))(a:List Zt)(c:List (TE×TE)):Prop :=
 ∀(pins:ee)(s:Shared)(σ:St)(H:Hp)(Q:List (V×V)->Hp->Prop),Inv X pins σ H s->Ao c σ H Q ->
  wpAny (model X.prog X.w) X.A (evalPairs (pairTrees b a X.env pos)) (λvs s'=>∃ps H',Inv X pins σ H' s'/\VV ps vs/\Q ps H') X.xe s
def wu{X:Cx}{pos:Pos}:PPs X pos [] [] []:=λpins s σ H Q I h=>pairTrees_nil_walk ⟨[],H,I,.nil,h⟩
def gU{X:Cx}{pos:Pos}{k v:Zt}{ks:List (Option Zt)}{vs:List Zt}{tk b:TE}{a:List (TE×TE)}(hk:PE X k tk)(hv:PE X v b)(hr:PPs X pos ks vs a) :
  PPs X pos (some k::ks) (v::vs) ((tk,b)::a):=λpins s σ H Q I h =>
 pairTrees_cons_walk (thn (hk pins s σ H _ I h) λu s1 ⟨x,H1,I1,rx,q1⟩=>thn (hv pins s1 σ H1 _ I1 q1) λw2 s2 ⟨y,H2,I2,ry,q2⟩ =>
  thn (hr pins s2 σ H2 _ I2 q2) λws s3 ⟨ps,H3,I3,rel,q3⟩=>⟨(x,y)::ps,H3,I3,.cons ⟨rx,ry⟩ rel,q3⟩)
def ju(b a:List (Key×V)):List (Key×V):=a.foldl (λacc kv=>putK acc kv.1 kv.2) b
def KV.merge:∀{b:List (Key×V)}{c:List (Key×Value)}{a:List (Key×V)}{vs:List (Key×Value)},KV b c->KV a vs->KV (ju a b) (merged vs c):=by
 intro b c a vs r;unfold KV at r;induction r generalizing a vs with
 |nil=>intro q;exact q
 |@cons p q ps qs h t ih =>
  intro d;have e:KV (putK a p.1 p.2) (stored vs q.1 q.2):=by
   have:=d.put p.1 h.2;rw[←h.1];exact this
  exact ih e
theorem mR:∀(b a:List (Key×V)),⇑(ju a b)<=⇑a+⇑b
 |[],a=>by show ⇑a<=⇑a+0;lia
 |p::r,a=>by
  have h1:=mR r (putK a p.1 p.2);have h2:=kE a p.1 p.2;show(ju (putK a p.1 p.2) r).length<=_;rw[List.length_cons];lia
theorem uG{P:Za}{w:Zb}:∀{d:List (Key×V)}{e:List (Value×Value)},VV (d.map λkv=>(kV kv.1,kv.2)) e->∃rs,Carries (cj P w) e rs/\KV d rs
 |[],_,r=>by rw[List.map_nil]at r;cases r;exact⟨[],True.intro,.nil⟩
 |p::d,_,r=>by
  rw[List.map_cons]at r;cases r with
  |@cons a b as bs h t =>
   let⟨rs,c,q⟩:=uG (P:=P) (w:=w) t;let⟨b1,b2⟩:=b;exact⟨(p.1,b2)::rs,⟨zm h.1,rfl,c⟩,.cons ⟨rfl,h.2⟩ q⟩
def Vy(a:List (TE×TE)):TE:=λσ H Q=>∀p,H p=none->Ao a σ (upd H p (.dK [])) λps H2=>H2 p=some (.dK [])/\∃kvs:List (Key×V),ps=kvs.map (λkv=>(kV kv.1,kv.2))/\⇑kvs<=15/\Q (.ref p) (upd H2 p (.dK (ju [] kvs)))
def wz{X:Cx}{pos:Pos}{b:List (Option Zt)}{d:List Zt}{j:List (TE×TE)}(h:PPs X pos b d j)(g:b.all (·.isSome)=true)(hl:⇑b=⇑d)(n:b≠[])(k:⇑b<=15):PE X (.Dict b d pos) (Vy j):=by
 intro i s σ H Q I q;have hn:=I.hok.fresh (Nat.le_refl ↥s);have l:=I.laid (a:=↥s) (o:=.dK []) (h':=s.heap.push { cls:=.type "dict",data:=.dict #[]}) (t':=s.toks) (λ_ _ q=>Heap.get?_push_of_some _ q) (Nat.le_refl _) (zO s.heap I.big);refine wpAny_Dict_walk (knd:=cj X.prog X.w) g hl n k (thn (h i _ σ _ _ l (q _ hn)) λws s2 ⟨ps,H2,I2,rel,e,kvs,ep,lk,q2⟩=>?_);subst ep;let⟨u,c,t⟩:=uG (P:=X.prog) (w:=X.w) rel;let⟨z,hd,v,r,m⟩:=Mj I2.hok e;cases r;refine⟨u,c,m,λh' f hs=>⟨.ref ↥s,_,?_,rfl,q2⟩⟩;have p:⇑(ju [] kvs)<=sizeLine:=by
  have h1:=mR kvs [];rw[List.length_nil]at h1;rw[Ym];lia
 have he:∃q,h'.get? ↥s=some q:=let⟨q,_,_,hq,_⟩:=f;⟨q,hq⟩
 exact w5 I2 (by rw[e];exact True.intro) hs he (Ml p hd (t.merge .nil) f)
structure M1(X:Cx)(o:Zt)(m:Str)(apos:Pos)(e:Zt)(cpos:Pos):Prop where
 fw:Yp o m X.env (Zv o X.env)=Zv o X.env
 few:((Zw cpos (Zu [e] X.env)).all (λx=>!x.1)&&(Zy cpos (Zz [] X.env)).all (λx=>x.1.isSome)
 &&decide (⇑([e]:List Zt)+⇑([]:List ZA)+(if([]:List ZA).isEmpty then 0 else 1)<30))=true
 line:(apos.endLine==cpos.line)=true
 trees:Zw cpos (Zu [e] X.env)=[(false,Zv e X.env)]
structure M2(X:Cx)(o:Zt)(m:Str)(apos:Pos)(e f:Zt)(cpos:Pos):Prop where
 fw:Yp o m X.env (Zv o X.env)=Zv o X.env
 few:((Zw cpos (Zu [e,f] X.env)).all (λx=>!x.1)&&(Zy cpos (Zz [] X.env)).all (λx=>x.1.isSome)
 &&decide (⇑([e,f]:List Zt)+⇑([]:List ZA)+(if([]:List ZA).isEmpty then 0 else 1)<30))=true
 line:(apos.endLine==cpos.line)=true
 trees:Zw cpos (Zu [e,f] X.env)=[(false,Zv e X.env),(false,Zv f X.env)]
section
variable{pins:ee}{σ:St}{H:Hp}{s:Shared}{a:Addr}{y d:V}{u r:Value}{o:Option V}{A:Zr}{E:d6}
end
section
variable{o e f:Zt}{apos cpos:Pos}{td ty tx:TE}
end
section
variable{pins:ee}{σ:St}{H:Hp}{s:Shared}{a:Addr}{kvs:List (Key×V)}{A:Zr}{E:d6}
end
section
variable{pins:ee}{σ:St}{H:Hp}{s:Shared}{a:Addr}{y:V}{u:Value}{A:Zr}{E:d6}
end
section
variable{prog:Za}{w:Zb}{A:Zr}{E:d6}{s:Shared}
def zX{T:String}{r d:Addr}{n:Nat}{P:Nat->Value->Prop}{p:Heap->Prop}{R:eo->Shared->Prop}(K:W.KdlSrc prog w T r d n P p)(hh:A.handled=none)(m:p s.heap)(hn:n<=sizeLine)(h:∀(h':Heap)(tk:Nat)(acc:el),↥s<h'.objs.size->(∀b o,s.heap.get? b=some o->h'.get? b=some o)->ItemsOf P acc n->R acc.toList { s with heap:=h',toks:=tk }) :
  wpAny (model prog w) A (WB (.ref r)) R E s:=by
 have k:=K.there _ m;unfold WB;refine wpAny_bind (WE (WF WG ?_));rw[Around.under_plainId PySem.F.plain_proto_collect _];show wpAny _ A.in1 (Y2 [] >>=λl=>again (.builtin "list.__iadd__" ⟨[l,.ref r],[]⟩)) _ _ s;refine wpAny_bind (YJ ?_);refine Z2 ⟨plainId_quiet PySem.F.plain_list_iadd _,WF WH ?_⟩;rw[Around.under_plainId PySem.F.plain_list_iadd _];have i:(s.heap.push { cls:=.type "list",data:=.seq ([]:eo).toArray }).get? ↥s=some { cls:=.type "list",data:=.seq #[]}:=Heap.get?_push_size _ rfl;show wpAny _ A.in1 (Builtin.List.listExtendWith (.ref ↥s) (.ref r) (.ref ↥s)) _ _ _;have key:=W.kdl_extend (A:=A) (s:={ s with heap:=s.heap.push { cls:=.type "list",data:=.seq ([]:eo).toArray }}) K
  (R:=λ(q:Result) (s':Shared)=>∃(h':Heap)(tk:Nat)(a:el)(j:Nat),q=.ok (.ret (.ref ↥s))/\s'={ s with heap:=h',toks:=tk } /\
   (∀b o,s.heap.get? b=some o->h'.get? b=some o)/\h'.get? ↥s=some { cls:=.type "list",dict:=none,data:=.seq a j,slots:=#[]}/\ItemsOf P a n)
  hh (K.keep _ _ m λb _ o e=>Heap.get?_push_of_some _ e) ↥s (Nat.ne_of_gt k.1) (Nat.ne_of_gt k.2) (.ref ↥s) 0 i
  (λh' tk a j hk g c=>⟨h',tk,a,j,rfl,rfl,λb o e=>hk b o (Nat.ne_of_lt (Heap.lt_size e)) (Heap.get?_push_of_some _ e),g,c⟩) hn
 refine ZG key (λfin s' x=>?_) λe s' x=>?_
 ·cases fin with
  |done f =>
   let⟨h',tk,a,j,e,rfl,hk,g,c⟩:=x;cases e;show wpAny _ A (load ↥s >>=_) _ _ _;refine wpAny_bind (Z3 g ?_);exact Z2 (h h' tk a (Heap.lt_size g) hk c)
  |again c₁ =>
   refine⟨x.1,Yw x.2 λq s₂ y=>?_⟩;let⟨h',tk,a,j,rfl,rfl,hk,g,c⟩:=y;show wpAny _ A (load ↥s >>=_) _ _ _;refine wpAny_bind (Z3 g ?_);exact Z2 (h h' tk a (Heap.lt_size g) hk c)
 ·let⟨_,_,_,_,t,_⟩:=x;cases t
def Av{T:String}{r d:Addr}{n:Nat}{P:Nat->Value->Prop}{k:Heap->Prop}{Q:d6}{ns:eg}(K:W.KdlSrc prog w T r d n P k)(hh:A.handled=none)(i:k s.heap)(hn:n<64)(u:∀us:eo,⇑us=n->(∀j v,us[j]?=some v->P j v)->IntsAre us ns)(h:∀(h':Heap)(tk:Nat)(D:Addr)(e:Nat)(out:el)(a:eg),↥s<=D->(∀b o,s.heap.get? b=some o->h'.get? b=some o)->h'.get? D=some { cls:=.type "list",data:=.seq out e }->IntsAre out.toList a->a.Perm ns->a.Pairwise (·<=·)->Q (.ref D) { s with heap:=h',toks:=tk }) :
  wpAny (model prog w) A (Z6 (.builtin "sorted") [.ref r]) Q E s:=by
 have p:=Ym;refine Calls.call_function_entry WI WN WO (args_sorted1 _) ?_;unfold Builtin.«sorted»;refine wpAny_bind (m:=WP "sorted" 1 1 _) (Z2 ?_);refine wpAny_bind (zX (A:=A.in1) K hh i () λh1 tk acc hsz hk hacc=>?_);have f:⇑acc.toList=n:=by rw[Array.length_toList];exact hacc.1
 have t:IntsAre acc.toList ns:=u acc.toList f λj v e=>hacc.2 j v (by rw[←Array.getElem?_toList];exact e);have x:↥s<=h1.objs.size:=Nat.le_of_lt hsz;refine wpAny_bind (Wp ?_ ());have c:(h1.push (XZ "list" acc.toList.toArray 0)).get? h1.objs.size=some (XZ "list" acc.toList.toArray 0):=Heap.get?_push_size _ rfl;refine wpAny_bind (ZW (YI WS ⟨_,c,rfl⟩ WU (list_sort_tree c t () λout a a1 a2 a3=>⟨_,rfl,?_⟩) (WZ _)));let⟨e,he⟩:=sortedHeap_at (out:=out) c;refine Z2 ⟨_,rfl,h _ tk h1.objs.size e out a x (λb o q=>?_) he a1 a2 a3⟩;have l:=hk b o q;have g:b<h1.objs.size:=Heap.lt_size l;rw[sortedHeap_old (Nat.ne_of_lt g) (by rw[WA];exact Nat.lt_succ_of_lt g)];exact Heap.get?_push_of_some _ l
end
section
def xu:fj X (.builtin "sorted") (λxs H Q=>∃(p:Addr)(ns:eg),xs=[.ref p]/\SqL X.K H p (ns.map V.int)/\⇑ns<64 /\
  ∀(l:Addr)(out:eg),H l=none->out.Perm ns->out.Pairwise (·<=·)->Q (.ref l) (upd H l (.lst (out.map V.int)))):=by
 intro c s σ H xs us Q I r h;let⟨p,ns,rfl,hp,g,q⟩:=h;let⟨u,rfl,j⟩:=vals1 r;cases j;let⟨its,d,pl,k⟩:=I.list hp;have i:IntsAre its ns:=intsAre_of d;have hl:=⇑d;rw[List.length_map]at hl;refine sorted_ints (vs:=its) (ns:=ns) pl.isList i () λout ns' a1 a2 a3=>?_;let⟨e,he⟩:=sortedAll_at s.heap its out;have hv:=lH a1;have a:=⇑hv;rw[List.length_map]at a;have hpl:=a2.length_eq;have f:=Ym;refine⟨.ref (↥s+1),upd H (↥s+1) (.lst (ns'.map V.int)),I.laid (t':=s.toks) (λb o eb=>W1 eb) (Nat.le_succ _) ⟨?_,out.toList,e,hv,↑he⟩,rfl,q _ _ (I.hok.fresh (Nat.le_succ _)) a2 a3⟩;rw[List.length_map];lia
def G8{P:Za}{w:Zb}{vs:List (Key×Value)}{ks:eg}(hk:vs.map (·.1)=ks.map Sum.inl):∀us:eo,⇑us=⇑vs->(∀(j:Nat)(v:Value),us[j]?=some v->∃k x,vs[j]?=some (k,x)/\(cj P w).is k v=true)->IntsAre us ks:=by
 intro us;induction us generalizing vs ks with
 |nil =>
  intro hl _;have e:vs=[]:=List.eq_nil_of_length_eq_zero ↑hl.symm;subst e;cases ks with
  |nil=>exact .nil
  |cons k ks=>simp at hk
 |cons u us ih =>
  intro hl h;cases vs with
  |nil=>simp at hl
  |cons v vs =>
   cases ks with
   |nil=>simp at hk
   |cons k ks =>
    rw[List.map_cons,List.map_cons]at hk;injection hk with hk1 hk2
    let⟨f,x,e,d⟩:=h 0 u (by simp);simp at e;subst e;simp only at hk1;subst hk1;have b:tQ (Sum.inl k) u=true:=d;rcases bY b with⟨i,t,a,c⟩|⟨y,t,a,c⟩
    ·injection a with a;subst a c;exact .cons _ t (ih hk2 ↑hl λj v hj=>↑(h (j+1) v ↑hj))
    ·cases a
def xG(hc:X.calm=true):fj X (.builtin "sorted") (λxs H Q=>∃(d:Addr)(c:List (Key×V))(ks:eg),xs=[.ref d]/\H d=some (.dK c)/\c.map (·.1)=ks.map Sum.inl/\⇑ks<64 /\
  ∀(l:Addr)(out:eg),H l=none->out.Perm ks->out.Pairwise (·<=·)->Q (.ref l) (upd H l (.lst (out.map V.int)))):=by
 intro m s σ H xs us Q I r h;let⟨d,c,ks,rfl,hd,k,p,q⟩:=h;let⟨u,rfl,z⟩:=vals1 r;cases z;let⟨A,lo,vs,y,o,es,ep,v,x,f,g,i,j⟩:=Mj I.hok hd;have hm:s.heap.DictAt (cj X.prog X.w) d vs ep:=⟨o,es,v,x,f,g,i,j⟩
 have a:vs.map (·.1)=ks.map Sum.inl:=by rw[←KV.keys y];exact k
 have t:⇑vs=⇑ks:=by have:=dV List.length a;simpa using this
 refine Av (ns:=ks) (W.kdl_dict (ep:=ep) lo) (I.ok.hd hc) hm () (λus hl h=>G8 a us hl h) λh' tk D e out ns' hD hk he a1 a2 a3=>?_;have hv:=lH a1;have hpl:=a2.length_eq;have n:=Ym;refine⟨.ref D,upd H D (.lst (ns'.map V.int)),I.laid (λb o eb=>hk b o eb) hD ⟨?_,out.toList,e,hv,↑he⟩,rfl,q _ _ (I.hok.fresh hD) a2 a3⟩;rw[List.length_map];lia
def iD(l:eg):VA:=.list (l.map PyData.int)
theorem Bv:∀l:eg,PyData.canLayAll0 (l.map PyData.int)=true
 |[]=>rfl
 |t::ts=>by
  show(PyData.canLay0 (PyData.int t)&&PyData.canLayAll0 (ts.map PyData.int))=true;rw[Bv ts];rfl
theorem uy:∀l:eg,PyData.depthAll (l.map PyData.int)=0
 |[]=>rfl
 |t::ts=>by
  show max (PyData.depth (PyData.int t)) (PyData.depthAll (ts.map PyData.int))=0;rw[uy ts];rfl
theorem LQ:∀ts us:eg,PyData.eqvAll (ts.map PyData.int) (us.map PyData.int)=decide (ts=us)
 |[],[]=>rfl
 |[],_::_=>rfl
 |_::_,[]=>rfl
 |t::ts,u::us=>by
  show((t==u)&&PyData.eqvAll (ts.map PyData.int) (us.map PyData.int))=_;rw[LQ ts us,Bool.eq_iff_iff];simp
theorem K6:∀ls:ef,PyData.canLayAll0 (ls.map iD)=true
 |[]=>rfl
 |t::ts=>by
  show(PyData.canLayAll0 (t.map PyData.int)&&PyData.canLayAll0 (ts.map iD))=true;rw[K6 ts,Bv];rfl
theorem zT:∀ls:ef,PyData.depthAll (ls.map iD)<=1
 |[]=>Nat.zero_le _
 |t::ts=>by
  show max (PyData.depthAll (t.map PyData.int)+1) (PyData.depthAll (ts.map iD))<=1;have h1:=zT ts;rw[uy];lia
theorem mU{h:Heap}:∀{l:eg}{us:eo},Vals (l.map V.int) us->∃as,UB h us (l.map PyData.int) as
 |[],_,r=>by cases r;exact⟨[],.nil⟩
 |x::l,_,r=>by
  cases r with
  |cons a b =>
   let⟨t,rfl⟩:=a;let⟨as,q⟩:=mU b;exact⟨_,.cons (.int _ _) q⟩
inductive DatL(K:W.Frag)(H:Hp):V->VA->Prop
 |flt {a:Addr}{l:eg}:SqL K H a (l.map V.int)->DatL K H (.ref a) (iD l)
 |lists {a:Addr}{as:List Addr}{ls:ef}:SqL K H a (as.map V.ref)->Paired (λ(a:Addr) (l:eg)=>SqL K H a (l.map V.int)) as ls->DatL K H (.ref a) (.list (ls.map iD))
theorem Inv.Jk{c:ee}{σ:St}{H:Hp}{s:Shared}(I:Inv X c σ H s):∀{d:List Addr}{ls:ef}{us:eo},Paired (λ(a:Addr) (l:eg)=>SqL X.K H a (l.map V.int)) d ls->Vals (d.map V.ref) us->∃bs,UB s.heap us (ls.map iD) bs
 |_,_,_,.nil,r=>by cases r;exact⟨[],.nil⟩
 |_,_,_,.cons p q,r=>by
  cases r with
  |cons a b =>
   cases a;let⟨its,k,pl,m⟩:=I.list p;let⟨e,i⟩:=mU (h:=s.heap) k;let⟨o,g,hc,n,hd⟩:=pl.isList;let⟨f,j⟩:=I.Jk q b;exact⟨_,.cons (.list g hc hd ↑i) j⟩
def DatL.reads{b:ee}{σ:St}{H:Hp}{s:Shared}{x:V}{u:Value}{d:VA}(I:Inv X b σ H s)(h:DatL X.K H x d)(r:RelV x u):(∃as,UC s.heap u d as)/\d.canLay0=true/\d.depth<=3:=by
 cases h with
 |@flt a l hs =>
  cases r;let⟨its,f,pl,g⟩:=I.list hs;let⟨as,e⟩:=mU (h:=s.heap) f;let⟨o,c,hc,n,hd⟩:=pl.isList;refine⟨⟨_,.list c hc hd ↑e⟩,Bv _,?_⟩;show PyData.depthAll _+1<=3;rw[uy];lia
 |@lists a as ls hs hp =>
  cases r;let⟨its,f,pl,g⟩:=I.list hs;let⟨i,e⟩:=I.Jk hp f;let⟨o,c,hc,n,hd⟩:=pl.isList;refine⟨⟨_,.list c hc hd ↑e⟩,K6 _,?_⟩;show PyData.depthAll _+1<=3;have:=zT ls;lia
def VP(K:W.Frag)(neg:Bool):R2:=λx y H Q=>∃d e b,DatL K H x d/\DatL K H y e/\PyData.eqv d e=b/\Q (.bl (if neg then !b else b)) H
def Xz(hu:X.A.units+64<Ys):OpR X (ZK .Eq) (VP X.K false):=by
 intro a s σ H x y v u Q I j k h;let⟨d,e,b,hd,he,hb,q⟩:=h;let⟨⟨l,g⟩,c,n⟩:=hd.reads I j;let⟨⟨m,i⟩,f,o⟩:=he.reads I k;exact SeqAt.compareEq_reads g i c f () (hb ▸ ⟨.bl b,H,I,rfl,q⟩)
def Td(hu:X.A.units+64<Ys):OpR X (ZK .NotEq) (VP X.K true):=by
 intro a s σ H x y v u Q I j k h;let⟨d,e,b,hd,he,hb,q⟩:=h;let⟨⟨l,g⟩,c,n⟩:=hd.reads I j;let⟨⟨m,i⟩,f,o⟩:=he.reads I k;exact SeqAt.compareNe_reads g i c f () (hb ▸ ⟨.bl (!b),H,I,rfl,q⟩)
def LK(a us:eg):PyData.eqv (iD a) (iD us)=decide (a=us):=LQ a us
end
end L2
namespace PySem
def Yc(h:Heap)(e:Addr):Prop:=∃oe vs,h.get? e=some oe/\oe.data=.fields vs/\vs[2]?=some .none
section
variable{M:ZD}{A:Zr}{E:d6}{s:Shared}{fw:Heap}{env:Env}{outer:List Env}{L e:Addr}{Q:Unit->Shared->Prop}
end
end PySem
namespace L2
open PySem.Spec
variable{X:Cx}
def Yd(fw:Heap)(l:List Env)(e:Addr)(a b:Value)(h:Heap):Prop:=fw.StaysIn h/\fw.get? e=none/\h.FunFrames fw l/\h.TracedW fw e a b/\Yc h e
def CX1(P:Za)(w:Zb):CXT:=λouter H s E e s'=>∃(a:Addr)(cls a0:Value)(H1:Hp)(hb:Heap),e=.ref a/\s'.os=s.os/\ZB s'.gens/\Un (frs outer) [] H H1 s.heap s'.heap/\HOk P w H1 hb/\Yd hb outer a cls a0 s'.heap /\
 (∀b o,s.heap.get? b=some o->H b=none->b∉frs outer->hb.get? b=some o)/\(∀b o,s.heap.get? b=some o->b∉frs outer->∃o',hb.get? b=some o')/\E cls none H1
structure Lets(X:Cx)(E:XK):Prop where
 xe:∀e s',wpAny (model X.prog X.w) X.A (leaving X.env e) (λ_ s''=>CX1 X.prog X.w X.outer X.H₀ X.s₀ E e s'') (λe' s''=>CX1 X.prog X.w X.outer X.H₀ X.s₀ E e' s'') s'->X.xe e s'
 stk:X.stack=X.env::X.outer
 fr:X.env.frame=some X.env.locals
 ex:X.ex=[]
section
variable{pins:ee}{σ:St}{H H1:Hp}{s:Shared}{E:XK}
end
structure ExcCls(K:W.Frag)(C:Addr)(newId:String)(bmB:eo):Prop where
 ex:∃(nm q:Str)(N:Addr)(bs bm:eo)(hdct:Bool)(sn:List Str)(sub:eo)(ab:Bool)(col:Option Bool)(dd:et)(k0 k1 k2 k3 k5:ew),
  K.lookup C=some (excClassObj nm q C N bs bm hdct sn sub ab col dd k0 k1 k2 k3 k5 newId)/\W.tailIn K bmB bm=true/\W.nsOkIn K N=true/\W.nsIn K N "__init__"=some none/\bm.contains (.type "BaseException")=true
section
variable{E:XK}{x:Str}{C:Addr}{newId Bn initId:String}{bmB:eo}{e:Zt}{es:List Zt}{t:TA}{np cpos pos:Pos}
end
section
variable{pins:ee}{σ:St}{H:Hp}{s:Shared}{ev:Value}
end
section
variable{k:Nat}{f CF:Addr}{fd:Yt}{ps:List Str}{sp:Sp}{E:XK}{x hx n:Str}{p np cpos epos hpos pos:Pos}{e:Zt}{es:List Zt}{t:TA}{b₀:ZF}{suite:List ZF}{ts:TS}{j:Nat}
end
end L2
namespace L2
open PySem.W PySem.Spec
structure ExcK(K:W.Frag)(C:Addr):Prop where
 ex:∃(nm q:Str)(N AF:Addr)(bs bmB:eo)(hdct:Bool)(sn:List Str)(sub:eo)(ab:Bool)(col:Option Bool)(dd ddF:et)(k0 k1 k2 k3 k5:ew)(newId B:String)(c0:Value)(cd:ClassData)(slF:Array ew),
  K.lookup C=some (excClassObj nm q C N bs (.ref AF::bmB) hdct sn sub ab col dd k0 k1 k2 k3 k5 newId)/\K.lookup AF=some ⟨c0,ddF,.cls cd,slF⟩/\nsOkIn K cd.ns=true/\(∀n∈quietNames,nsIn K cd.ns n=some none)/\ExcAttrBase B bmB
 ga:findIn K (.ref C) "__getattribute__"=some (some (.builtin "BaseException.__getattribute__"))
 hook:findIn K (.ref C) "__getattr__"=some none
 cls:findIn K (.ref C) "__class__"=some (some (.builtin "object.__class__"))
 mro:mroIn K C (.type "object")=some true
section
variable{prog:Za}{w:Zb}{K:W.Frag}{a C:Addr}{A:Zr}{E:d6}{s:Shared}
end
section
variable{X:Cx}
def QB:R2:=λx y H Q=>∃a b xs ys,x=.ref a/\y=.ref b/\H a=some (.tup xs)/\H b=some (.tup ys)/\⇑xs+⇑ys<=sizeLine/\∀c H',(∀d u,H d=some u->H' d=some u)->H' c=some (.tup (xs++ys))->Q (.ref c) H'
def Ow:OpR X (Z7 .Add) QB:=by
 intro c s σ H x y v u Q I o r h;let⟨a,b,xs,ys,rfl,rfl,ha,hb,g,q⟩:=h;cases o;cases r;let⟨its,l,j,_⟩:=I.tuple (SqT.of ha);let⟨i,n,k,_⟩:=I.tuple (SqT.of hb);by_cases f:xs=[]
 ·subst f;cases l;let⟨m,F⟩:=I.fr;refine add_tuples (vs:=[]) F Kq j k (λ_=>⟨.ref b,H,I,rfl,q b H (λ_ _ z=>z) ↑hb⟩) (λz=>dS rfl z) (λz=>dS rfl z) (by rw[←⇑n];simpa using g)
 ·refine Ov c s σ H (.ref a) (.ref b) (.ref a) (.ref b) Q I rfl rfl ⟨a,b,xs,ys,rfl,rfl,SqT.of ha,SqT.of hb,f,g,λe=>?_,λ_ p hp=>?_⟩
  ·subst e;exact q a H (λ_ _ z=>z) (by rw[List.append_nil];exact ha)
  ·exact q p _ (λd u z=>by rw[ao (au z hp)];exact z) aB
end
section
variable{K:W.Frag}{C c:Addr}{dd:et}{cd:ClassData}{sl:Array ew}
end
end L2
namespace Dl
open L2
variable{X:Cx}
abbrev D:=VA
def kD:Key->D
 |.inl i=>.int i
 |.inr x=>.str x
mutual
inductive Rp(ok:Addr->Prop)(H:Hp):V->D->Prop
 |non:Rp ok H .non .none
 |bl (b:Bool):Rp ok H (.bl b) (.bool b)
 |int (i:Int):Rp ok H (.int i) (.int i)
 |str (x:Str):Rp ok H (.str x) (.str x)
 |lst {a:Addr}{vs:List V}{ds:ez} (o:ok a) (h:H a=some (.lst vs)) (r:Rps ok H vs ds):Rp ok H (.ref a) (.list ds)
 |tup {a:Addr}{vs:List V}{ds:ez} (h:H a=some (.tup vs)) (r:Rps ok H vs ds):Rp ok H (.ref a) (.tuple ds)
 |dct {a:Addr}{kvs:List (Key×V)}{ds:List (D×D)} (o:ok a) (h:H a=some (.dK kvs)) (r:Rkv ok H kvs ds):Rp ok H (.ref a) (.dict ds)
inductive Rps(ok:Addr->Prop)(H:Hp):List V->ez->Prop
 |nil:Rps ok H [] []
 |cons {v:V}{d:D}{vs:List V}{ds:ez} (h:Rp ok H v d) (t:Rps ok H vs ds):Rps ok H (v::vs) (d::ds)
inductive Rkv(ok:Addr->Prop)(H:Hp):List (Key×V)->List (D×D)->Prop
 |nil:Rkv ok H [] []
 |cons {k:Key}{v:V}{d:D}{vs:List (Key×V)}{ds:List (D×D)} (h:Rp ok H v d) (t:Rkv ok H vs ds):Rkv ok H ((k,v)::vs) ((kD k,d)::ds)
end
section
variable{ok ok':Addr->Prop}{H H':Hp}
mutual
theorem Rp.mono(f:∀a,ok a->ok' a)(g:∀a o,ok a->H a=some o->H' a=some o)(t:∀a xs,H a=some (.tup xs)->H' a=some (.tup xs)):∀{v:V}{d:D},Rp ok H v d->Rp ok' H' v d
 |_,_,.non=>.non
 |_,_,.bl b=>.bl b
 |_,_,.int i=>.int i
 |_,_,.str x=>.str x
 |_,_,.lst o h r=>.lst (f _ o) (g _ _ o h) (Rps.mono f g t r)
 |_,_,.tup h r=>.tup (t _ _ h) (Rps.mono f g t r)
 |_,_,.dct o h r=>.dct (f _ o) (g _ _ o h) (Rkv.mono f g t r)
theorem Rps.mono(f:∀a,ok a->ok' a)(g:∀a o,ok a->H a=some o->H' a=some o)(t:∀a xs,H a=some (.tup xs)->H' a=some (.tup xs)):∀{v:List V}{d:ez},Rps ok H v d->Rps ok' H' v d
 |_,_,.nil=>.nil
 |_,_,.cons h r=>.cons (Rp.mono f g t h) (Rps.mono f g t r)
theorem Rkv.mono(f:∀a,ok a->ok' a)(g:∀a o,ok a->H a=some o->H' a=some o)(t:∀a xs,H a=some (.tup xs)->H' a=some (.tup xs)):∀{v:List (Key×V)}{d:List (D×D)},Rkv ok H v d->Rkv ok' H' v d
 |_,_,.nil=>.nil
 |_,_,.cons h r=>.cons (Rp.mono f g t h) (Rkv.mono f g t r)
end
theorem Rps.length:∀{vs:List V}{ds:ez},Rps ok H vs ds->⇑vs=⇑ds
 |_,_,.nil=>rfl
 |_,_,.cons _ t=>by rw[List.length_cons,List.length_cons,Rps.length t]
theorem Rps.get:∀{vs:List V}{ds:ez}{i:Nat}{v:V},Rps ok H vs ds->vs[i]?=some v->∃d,ds[i]?=some d/\Rp ok H v d
 |_,_,i,v,.nil,e=>by simp at e
 |_,_,0,v,.cons h t,e=>by simp at e;subst e;exact⟨_,rfl,h⟩
 |_,_,i+1,v,.cons h t,e=>by
  let⟨d,a,b⟩:=Rps.get (i:=i) (v:=v) t ↑e;exact⟨d,↑a,b⟩
theorem Rps.getD:∀{vs:List V}{ds:ez}{i:Nat}{d:D},Rps ok H vs ds->ds[i]?=some d->∃v,vs[i]?=some v/\Rp ok H v d
 |_,_,i,v,.nil,e=>by simp at e
 |_,_,0,v,.cons h t,e=>by simp at e;subst e;exact⟨_,rfl,h⟩
 |_,_,i+1,v,.cons h t,e=>by
  let⟨d,a,b⟩:=Rps.getD (i:=i) (d:=v) t ↑e;exact⟨d,↑a,b⟩
theorem Rps.app:∀{vs a:List V}{ds es:ez},Rps ok H vs ds->Rps ok H a es->Rps ok H (vs++a) (ds++es)
 |_,_,_,_,.nil,s=>s
 |_,_,_,_,.cons h t,s=>.cons h (Rps.app t s)
def Rps.snoc{vs:List V}{ds:ez}{v:V}{d:D}(h:Rps ok H vs ds)(r:Rp ok H v d):Rps ok H (vs++[v]) (ds++[d]):=h.app (.cons r .nil)
theorem Rps.take:∀{vs:List V}{ds:ez} (n:Nat),Rps ok H vs ds->Rps ok H (vs.take n) (ds.take n)
 |_,_,0,_=>by simp;exact .nil
 |_,_,_+1,.nil=>by simp;exact .nil
 |_,_,n+1,.cons r t=>.cons r (Rps.take n t)
theorem Rps.drop:∀{vs:List V}{ds:ez} (n:Nat),Rps ok H vs ds->Rps ok H (vs.drop n) (ds.drop n)
 |_,_,0,r=>r
 |_,_,_+1,.nil=>by simp;exact .nil
 |_,_,n+1,.cons _ t=>Rps.drop n t
theorem Rps.ofMap{α:Type}{f:α->V}{g:α->D}(h:∀x,Rp ok H (f x) (g x)):∀l:List α,Rps ok H (l.map f) (l.map g)
 |[]=>.nil
 |x::l=>.cons (h x) (Rps.ofMap h l)
def Rp.int'{v:V}{i:Int}(r:Rp ok H v (.int i)):v=.int i:=by cases r;rfl
def Rp.bl'{v:V}{i:Bool}(r:Rp ok H v (.bool i)):v=.bl i:=by cases r;rfl
def Rp.XD{v:V}(r:Rp ok H v .none):v=.non:=by cases r;rfl
def Rp.str'{v:V}{i:Str}(r:Rp ok H v (.str i)):v=.str i:=by cases r;rfl
def Rp.dh{v:V}{ds:ez}(r:Rp ok H v (.list ds)):∃a vs,v=.ref a/\ok a/\H a=some (.lst vs)/\Rps ok H vs ds:=by
 cases r with
 |lst o h r=>exact⟨_,_,rfl,o,h,r⟩
def Rp.dU{v:V}{ds:ez}(r:Rp ok H v (.tuple ds)):∃a vs,v=.ref a/\H a=some (.tup vs)/\Rps ok H vs ds:=by
 cases r with
 |tup h r=>exact⟨_,_,rfl,h,r⟩
theorem Rps.ints:∀{vs:List V}{ns:eg},Rps ok H vs (ns.map PyData.int)->vs=ns.map V.int
 |[],[],_=>rfl
 |_,n::ns,.cons h t=>by
  have e:=h.int';subst e;rw[Rps.ints t];rfl
def Rps.two{vs:List V}{d e:D}(r:Rps ok H vs [d,e]):∃v w,vs=[v,w]/\Rp ok H v d/\Rp ok H w e:=by
 cases r with
 |cons h t =>
  cases t with
  |cons h2 t2 =>
   cases t2;exact⟨_,_,rfl,h,h2⟩
end
mutual
def eV:D->Bool
 |.none=>true
 |.bool _=>true
 |.int _=>true
 |.str _=>true
 |.list _=>false
 |.tuple ds=>cH ds
 |.dict _=>false
def cH:ez->Bool
 |[]=>true
 |d::ds=>eV d&&cH ds
end
section
variable{ok:Addr->Prop}{H:Hp}
mutual
theorem Rp.imm:∀{v:V}{d:D},Rp ok H v d->eV d=true->Rp (λ_=>False) H v d
 |_,_,.non,_=>.non
 |_,_,.bl b,_=>.bl b
 |_,_,.int i,_=>.int i
 |_,_,.str x,_=>.str x
 |_,_,.tup h r,e=>.tup h (Rps.imm r e)
theorem Rps.imm:∀{v:List V}{d:ez},Rps ok H v d->cH d=true->Rps (λ_=>False) H v d
 |_,_,.nil,_=>.nil
 |_,_,.cons h r,e=>.cons (Rp.imm h (by simp only[cH,Bool.and_eq_true]at e;exact e.1)) (Rps.imm r (by simp only[cH,Bool.and_eq_true]at e;exact e.2))
end
end
def Fxd(o:HO):Prop:=∃x φ,o=.frz x (.ext φ)
structure Pn where
 fp:Addr->Prop
 PI:Hp->Prop
 pv:V
 mono:∀H H',PI H->(∀b o,(fp b\/Fxd o)->H b=some o->H' b=some o)->PI H'
 is:∀H b,PI H->fp b->∃o,H b=some o/\(∀xs,o≠.tup xs)/\¬Fxd o
class Gr where
 G:Pn->Hp->Prop
instance (priority:=low) grT:Gr:=⟨λ_ _=>True⟩
def n8:Pn:=⟨λ_=>False,λ_=>True,.non,λ_ _ _ _=>trivial,λ_ _ _ h=>h.elim⟩
def Kp(p:Pn)(H H':Hp):Prop:=∀b o,H b=some o->¬p.fp b->H' b=some o
def Kp.refl{p:Pn}{H:Hp}:Kp p H H:=λ_ _ h _=>h
def Kp.trans{p:Pn}{H d e:Hp}(a:Kp p H d)(b:Kp p d e):Kp p H e:=λc o h n=>b c o (a c o h n) n
def Kp.of{p:Pn}{H H':Hp}(s:Same H H'):Kp p H H':=λb o h _=>s b o h
structure GS where
 Φ:(Addr->Prop)->(Addr->Prop)->Hp->V->Prop
 mono:∀{ok ok' nb nb':Addr->Prop}{H H':Hp}{v:V},(∀a o,ok a->H a=some o->ok' a/\H' a=some o)->(∀a o,nb a->H a=some o->(∀xs,o≠.tup xs)->¬Fxd o->nb' a/\H' a=some o)->(∀a xs,H a=some (.tup xs)->H' a=some (.tup xs))->Φ ok nb H v->Φ ok' nb' H' v
inductive Sl where
 |any
 |im (d:D)
 |sh (d:D)
 |sn (d:D)
 |dw (r:Nat) (d:D)
 |pen (C:Pn->Prop)
 |rw (r:Nat) (L:List ez)
 |tw (r:Nat) (L:List ez)
 |scr (v:V) (b:Bool)
 |sp (r:Nat) (b:Bool) (ds:ez)
 |gn (r:Nat) (g:GS)
inductive Kd where
 |imm|new|reg (r:Nat)|n0|snw|shr|wk
 deriving DecidableEq
def Kd.le:Kd->Kd->Bool
 |.imm,_=>true
 |.new,.new=>true
 |.new,.n0=>true
 |.new,.snw=>true
 |.new,.shr=>true
 |.new,.wk=>true
 |.reg r,.reg q=>r==q
 |.reg _,.n0=>true
 |.reg _,.wk=>true
 |.snw,.snw=>true
 |.snw,.n0=>true
 |.snw,.shr=>true
 |.snw,.wk=>true
 |.n0,.n0=>true
 |.n0,.wk=>true
 |.shr,.shr=>true
 |.shr,.wk=>true
 |.wk,.wk=>true
 |_,_=>false
def Kd.join(a b:Kd):Kd:=if a.le b then b else if b.le a then a else if a.le .n0&&b.le .n0 then .n0 else if a.le .shr&&b.le .shr then .shr else .wk
def norm(k:Kd)(d:D):Kd:=match k with
 |.imm=>.imm
 |k=>if eV d then .imm else k
def eU{k:Kd}{d:D}(h:eV d=true):norm k d=.imm:=by
 cases k <;> first
  |rfl
  |exact dP h
def nZ{k:Kd}{d:D}(h:¬eV d=true):norm k d=k:=by
 cases k <;> first
  |rfl
  |exact dQ h
def okK(p:Pn)(H0:Hp)(own:Addr->Option Nat)(b:Hp):Kd->Addr->Prop
 |.imm=>λ_=>False
 |.new=>λa=>b a=none
 |.reg r=>λa=>own a=some r
 |.n0=>λa=>H0 a=none/\¬p.fp a
 |.snw=>λa=>H0 a=none/\¬p.fp a/\own a=none
 |.shr=>λa=>¬p.fp a/\own a=none
 |.wk=>λa=>¬p.fp a
structure At(p:Pn)(H0:Hp)(own:Addr->Option Nat)(Hb H:Hp):Prop where
 k0:∀b o,H0 b=some o->¬p.fp b->Hb b=some o
 kp:Kp p Hb H
 penb:p.PI Hb
 pen:p.PI H
 ow:∀a r,own a=some r->H0 a=none/\¬p.fp a/\Hb a≠none
section
variable{p:Pn}{H0 Hb H H':Hp}{own:Addr->Option Nat}
def At.nfp(A:At p H0 own Hb H){a:Addr}(h:H a=none):¬p.fp a:=λz=>by
 let⟨o,e,_⟩:=p.is H a A.pen z;rw[h]at e;cases e
def At.free(A:At p H0 own Hb H){a:Addr}(h:H a=none):Hb a=none:=by
 have hn:=A.nfp h;cases e:Hb a with
 |none=>rfl
 |some o=>rw[A.kp a o e hn]at h;cases h
def At.nfb(A:At p H0 own Hb H){a:Addr}(h:Hb a=none):¬p.fp a:=λz=>by
 let⟨o,e,_⟩:=p.is Hb a A.penb z;rw[h]at e;cases e
def At.yx(A:At p H0 own Hb H){a:Addr}(h:Hb a=none):own a=none:=by
 cases e:own a with
 |none=>rfl
 |some r=>exact dS h (A.ow a r e).2.2
def At.h0(A:At p H0 own Hb H){a:Addr}(h:Hb a=none):H0 a=none:=by
 cases e:H0 a with
 |none=>rfl
 |some o=>rw[A.k0 a o e (A.nfb h)]at h;cases h
def dH(A:At p H0 own Hb H){j k:Kd}(h:j.le k=true){a:Addr}(o:okK p H0 own Hb j a):okK p H0 own Hb k a:=by
 cases j with
 |imm=>exact False.elim o
 |new =>
  cases k with
  |imm=>cases h
  |new=>exact o
  |reg r=>cases h
  |n0=>exact⟨A.h0 o,A.nfb o⟩
  |snw=>exact⟨A.h0 o,A.nfb o,A.yx o⟩
  |shr=>exact⟨A.nfb o,A.yx o⟩
  |wk=>exact A.nfb o
 |reg r =>
  cases k with
  |reg q =>
   have e:r=q:=by simpa[Kd.le]using h
   subst e;exact o
  |n0=>exact⟨(A.ow a r o).1,(A.ow a r o).2.1⟩
  |wk=>exact(A.ow a r o).2.1
  |_=>cases h
 |n0 =>
  cases k with
  |n0=>exact o
  |wk=>exact o.2
  |_=>cases h
 |snw =>
  cases k with
  |snw=>exact o
  |n0=>exact⟨o.1,o.2.1⟩
  |shr=>exact o.2
  |wk=>exact o.2.1
  |_=>cases h
 |shr =>
  cases k with
  |shr=>exact o
  |wk=>exact o.1
  |_=>cases h
 |wk =>
  cases k with
  |wk=>exact o
  |_=>cases h
def jt(A:At p H0 own Hb H){k:Kd}{a:Addr}(o:okK p H0 own Hb k a):¬p.fp a:=by
 have:k.le .wk=true:=by cases k <;> rfl
 exact dH A this o
def dR(A:At p H0 own Hb H){j k:Kd}(h:j.le k=true){v:V}{d:D}{b:Hp}(r:Rp (okK p H0 own Hb j) b v d):Rp (okK p H0 own Hb k) b v d :=
 r.mono (λa o=>dH A h o) (λ_ _ _ e=>e) λ_ _ e=>e
def dM(a b:Kd):a.le (a.join b)=true/\b.le (a.join b)=true:=by
 unfold Kd.join;by_cases h:a.le b=true
 ·rw[dP h];exact⟨h,by cases b <;> simp[Kd.le]⟩
 ·rw[dQ h];by_cases h2:b.le a=true
  ·rw[dP h2];exact⟨by cases a <;> simp[Kd.le],h2⟩
  ·rw[dQ h2];by_cases c:(a.le .n0&&b.le .n0)=true
   ·rw[dP c];exact Bool.and_eq_true _ _ ▸ c
   ·rw[dQ c];by_cases d:(a.le .shr&&b.le .shr)=true
    ·rw[dP d];exact Bool.and_eq_true _ _ ▸ d
    ·rw[dQ d];exact⟨by cases a <;> rfl,by cases b <;> rfl⟩
def aO{k:Kd}{v:V}{d:D}{a:Hp}(r:Rp (okK p H0 own Hb k) a v d):Rp (okK p H0 own Hb (norm k d)) a v d:=by
 by_cases h:eV d=true
 ·rw[eU h];exact r.imm h
 ·rw[nZ h];exact r
def jx(A:At p H0 own Hb H)(k:Kp p H H'):∀a xs,H a=some (.tup xs)->H' a=some (.tup xs):=λa xs h=>k a _ h λz=>by
 let⟨o,e,n⟩:=p.is H a A.pen z;rw[h]at e;exact n.1 xs (Option.some.inj e).symm
def jB(A:At p H0 own Hb H)(k:Kp p H H'){j:Kd}{v:V}{d:D}(r:Rp (okK p H0 own Hb j) H v d):Rp (okK p H0 own Hb j) H' v d :=
 r.mono (λ_ o=>o) (λa o h e=>k a o e (jt A h)) (jx A k)
def cU(A:At p H0 own Hb H)(k:Kp p H H'){j:Kd}{v:List V}{d:ez}(r:Rps (okK p H0 own Hb j) H v d):Rps (okK p H0 own Hb j) H' v d :=
 r.mono (λ_ o=>o) (λa o h e=>k a o e (jt A h)) (jx A k)
def At.go(A:At p H0 own Hb H)(k:Kp p H H')(i:p.PI H'):At p H0 own Hb H':=⟨A.k0,A.kp.trans k,A.penb,i,A.ow⟩
def At.fw{a:Hp}(A:At p H0 own Hb H)(B:At p H0 own H a):At p H0 own Hb a:=⟨A.k0,A.kp.trans B.kp,A.penb,B.pen,A.ow⟩
def Kh(A:At p H0 own Hb H){k:Kd}{a:Addr}(o:okK p H0 own H k a):okK p H0 own Hb k a:=by
 cases k <;> first
  |exact o
  |exact A.free o
def lK(A:At p H0 own Hb H){k:Kd}{v:V}{d:D}{b:Hp}(r:Rp (okK p H0 own H k) b v d):Rp (okK p H0 own Hb k) b v d :=
 r.mono (λa o=>Kh A o) (λ_ _ _ e=>e) λ_ _ e=>e
def At.new(A:At p H0 own Hb H){a:Addr}(h:H a=none)(o:HO):Kp p H (upd H a o)/\p.PI (upd H a o)/\okK p H0 own Hb .new a :=
 have s:Same H (upd H a o):=λb u q=>by rw[ao (au q h)];exact q
 ⟨Kp.of s,p.mono H _ A.pen λb u _ q=>s b u q,A.free h⟩
end
structure RowsH(own:Addr->Option Nat)(r:Nat)(H:Hp)(st:Addr)(as:List Addr)(L:List ez):Prop where
 top:H st=some (.lst (as.map V.ref))
 nd:(st::as).Nodup
 ow:∀a∈st::as,own a=some r
 len:⇑as=⇑L
 row:∀(j:Nat)(a:Addr)(ds:ez),as[j]?=some a->L[j]?=some ds->∃vs,H a=some (.lst vs)/\Rps (λ_=>False) H vs ds
def RowsH.mono{own own':Addr->Option Nat}{r:Nat}{H H':Hp}{st:Addr}{c:List Addr}{L:List ez}(h:RowsH own r H st c L)(g:∀a o,own a=some r->H a=some o->own' a=some r/\H' a=some o)(t:∀a xs,H a=some (.tup xs)->H' a=some (.tup xs)):RowsH own' r H' st c L:=by
 have b:∀a∈st::c,∃o,H a=some o:=λa ha=>by
  rcases List.mem_cons.mp ha with rfl|ha
  ·exact⟨_,h.top⟩
  ·let⟨j,d⟩:=List.getElem?_of_mem ha;have hl:=(List.getElem?_eq_some_iff.mp d).1;let⟨vs,e,_⟩:=h.row j a _ d (List.getElem?_eq_getElem (by rw[←h.len];exact hl));exact⟨_,e⟩
 refine⟨(g st _ (h.ow st List.mem_cons_self) h.top).2,h.nd,λa ha=>?_,h.len,λj a ds e1 e2=>?_⟩
 ·let⟨o,e⟩:=b a ha;exact(g a o (h.ow a ha) e).1
 ·let⟨vs,e,f⟩:=h.row j a ds e1 e2;exact⟨vs,(g a _ (h.ow a (List.mem_cons_of_mem _ (List.mem_of_getElem? e1))) e).2,f.mono (λ_ o=>o) (λ_ _ o=>o.elim) t⟩
theorem pK{ok:Addr->Prop}{H:Hp}:∀(c:List Addr)(L:List ez),⇑c=⇑L->(∀a∈c,ok a)->(∀(j:Nat)(a:Addr)(ds:ez),c[j]?=some a->L[j]?=some ds->∃vs,H a=some (.lst vs)/\Rps (λ_=>False) H vs ds)->Rps ok H (c.map V.ref) (L.map PyData.list)
 |[],[],_,_,_=>.nil
 |a::c,d::L,hl,h,r=>by
  let⟨vs,e,f⟩:=r 0 a d rfl rfl;exact .cons (.lst (h a List.mem_cons_self) e (f.mono (λ_ o=>o.elim) (λ_ _ o=>o.elim) λ_ _ e=>e)) (pK c L ↑hl (λb hb=>h b (List.mem_cons_of_mem _ hb)) λj b ds e1 e2=>r (j+1) b ds e1 e2)
 |[],_::_,hl,_,_=>by cases hl
 |_::_,[],hl,_,_=>by cases hl
def RowsH.rp{own:Addr->Option Nat}{r:Nat}{H:Hp}{st:Addr}{b:List Addr}{L:List ez}(h:RowsH own r H st b L):Rp (λa=>own a=some r) H (.ref st) (.list (L.map PyData.list)) :=
 .lst (h.ow st List.mem_cons_self) h.top (pK b L h.len (λa ha=>h.ow a (List.mem_cons_of_mem _ ha)) h.row)
structure RowsT(own:Addr->Option Nat)(r:Nat)(H:Hp)(st:Addr)(as:List Addr)(L:List ez):Prop where
 top:H st=some (.tup (as.map V.ref))
 nd:as.Nodup
 ow:∀a∈as,own a=some r
 len:⇑as=⇑L
 row:∀(j:Nat)(a:Addr)(ds:ez),as[j]?=some a->L[j]?=some ds->∃vs,H a=some (.lst vs)/\Rps (λ_=>False) H vs ds
def RowsT.mono{own own':Addr->Option Nat}{r:Nat}{H H':Hp}{st:Addr}{b:List Addr}{L:List ez}(h:RowsT own r H st b L)(g:∀a o,own a=some r->H a=some o->own' a=some r/\H' a=some o)(t:∀a xs,H a=some (.tup xs)->H' a=some (.tup xs)):RowsT own' r H' st b L:=by
 refine⟨t st _ h.top,h.nd,λa ha=>?_,h.len,λj a ds e1 e2=>?_⟩
 ·let⟨j,c⟩:=List.getElem?_of_mem ha;have hl:=(List.getElem?_eq_some_iff.mp c).1;let⟨vs,e,_⟩:=h.row j a _ c (List.getElem?_eq_getElem (by rw[←h.len];exact hl));exact(g a _ (h.ow a ha) e).1
 ·let⟨vs,e,d⟩:=h.row j a ds e1 e2;exact⟨vs,(g a _ (h.ow a (List.mem_of_getElem? e1)) e).2,d.mono (λ_ o=>o) (λ_ _ o=>o.elim) t⟩
def RowsT.rp{own:Addr->Option Nat}{r:Nat}{H:Hp}{st:Addr}{b:List Addr}{L:List ez}(h:RowsT own r H st b L):Rp (λa=>own a=some r) H (.ref st) (.tuple (L.map PyData.list)) :=
 .tup h.top (pK b L h.len h.ow h.row)
def okS(p:Pn)(H0:Hp)(own:Addr->Option Nat)(b:Bool)(a:Addr):Prop:=(b=true->H0 a=none)/\¬p.fp a/\own a=none
def gj(p:Pn)(H0:Hp)(own:Addr->Option Nat)(σ:L2.St)(H:Hp)(i:Nat):Sl->Prop
 |.any=>True
 |.im d=>∃v,σ[i]?=some (some v)/\Rp (λ_=>False) H v d
 |.sh d=>∃v,σ[i]?=some (some v)/\Rp (λa=>¬p.fp a/\own a=none) H v d
 |.sn d=>∃v,σ[i]?=some (some v)/\Rp (λa=>H0 a=none/\¬p.fp a/\own a=none) H v d
 |.dw r d=>∃v,σ[i]?=some (some v)/\Rp (λa=>own a=some r) H v d
 |.pen C=>σ[i]?=some (some p.pv)/\C p
 |.rw r L=>∃st as,σ[i]?=some (some (.ref st))/\RowsH own r H st as L
 |.tw r L=>∃st as,σ[i]?=some (some (.ref st))/\RowsT own r H st as L
 |.scr v b=>σ[i]?=some (some v)/\(b=true->p=n8)
 |.sp r b ds=>∃l vs,σ[i]?=some (some (.ref l))/\own l=some r/\H l=some (.lst vs)/\Rps (okS p H0 own b) H vs ds
 |.gn r g=>∃v,σ[i]?=some (some v)/\g.Φ (λa=>own a=some r) (λa=>¬p.fp a/\own a=none) H v
structure EnvD[Gr](p:Pn)(H0:Hp)(own:Addr->Option Nat)(σ:L2.St)(H:Hp)(ρ:List Sl):Prop where
 k0:∀b o,H0 b=some o->¬p.fp b->H b=some o
 pen:p.PI H
 ow:∀a r,own a=some r->H0 a=none/\¬p.fp a/\H a≠none
 slot:∀i s,ρ[i]?=some s->gj p H0 own σ H i s
 len:⇑ρ=⇑σ
 gr:Gr.G p H0
variable [Gr]
section
variable{p:Pn}{H0 H H':Hp}{own:Addr->Option Nat}{σ:L2.St}{ρ:List Sl}
def EnvD.at(E:EnvD p H0 own σ H ρ):At p H0 own H H:=⟨E.k0,Kp.refl,E.pen,E.pen,E.ow⟩
def EnvD.go(E:EnvD p H0 own σ H ρ)(k:Kp p H H')(i:p.PI H'):EnvD p H0 own σ H' ρ:=by
 have A:=E.at;have f:=jx A k;refine⟨λb o e n=>k b o (E.k0 b o e n) n,i,λa r e=>?_,λj s e=>?_,E.len,E.gr⟩
 ·let⟨h1,h2,m⟩:=E.ow a r e;refine⟨h1,h2,λz=>?_⟩;cases q:H a with
  |none=>exact m q
  |some o=>rw[k a o q h2]at z;cases z
 ·have q:=E.slot j s e;cases s with
  |any=>trivial
  |im d=>exact let⟨v,a,b⟩:=q;⟨v,a,b.mono (λ_ o=>o) (λ_ _ o=>o.elim) f⟩
  |sh d=>exact let⟨v,a,b⟩:=q;⟨v,a,b.mono (λ_ o=>o) (λc u o e=>k c u e o.1) f⟩
  |sn d=>exact let⟨v,a,b⟩:=q;⟨v,a,b.mono (λ_ o=>o) (λc u o e=>k c u e o.2.1) f⟩
  |dw r d=>exact let⟨v,a,b⟩:=q;⟨v,a,b.mono (λ_ o=>o) (λc u o e=>k c u e (E.ow c r o).2.1) f⟩
  |pen C=>exact q
  |rw r L=>exact let⟨st,as,a,b⟩:=q;⟨st,as,a,b.mono (λc u o e=>⟨o,k c u e (E.ow c r o).2.1⟩) f⟩
  |tw r L=>exact let⟨st,as,a,b⟩:=q;⟨st,as,a,b.mono (λc u o e=>⟨o,k c u e (E.ow c r o).2.1⟩) f⟩
  |scr v b=>exact q
  |sp r b ds=>exact let⟨l,vs,a,o,h,z⟩:=q;⟨l,vs,a,o,k l _ h (E.ow l r o).2.1,z.mono (λ_ o=>o) (λc u o e=>k c u e o.2.1) f⟩
  |gn r g=>exact let⟨v,a,b⟩:=q;⟨v,a,g.mono (λc o n e=>⟨n,k c o e (E.ow c r n).2.1⟩) (λc o n e _ _=>⟨n,k c o e n.1⟩) f b⟩
end
abbrev DK:=Kd->D->Prop
abbrev DE:=List Sl->DK->Prop
def bJ(t:DE):TE:=λσ H Q=>∃p H0 own ρ P,EnvD p H0 own σ H ρ/\t ρ P/\∀k d v H',P k d->At p H0 own H H'->Rp (okK p H0 own H k) H' v d->Q v H'
abbrev PD(X:Cx)(e:Zt)(t:DE):Prop:=PE X e (bJ t)
abbrev DA:=List Sl->(List (Kd×D)->Prop)->Prop
inductive RpK(p:Pn)(H0:Hp)(own:Addr->Option Nat)(Hb H:Hp):List V->List (Kd×D)->Prop
 |nil:RpK p H0 own Hb H [] []
 |cons {v:V}{kd:Kd×D}{vs:List V}{ks:List (Kd×D)} (h:Rp (okK p H0 own Hb kd.1) H v kd.2) (t:RpK p H0 own Hb H vs ks):RpK p H0 own Hb H (v::vs) (kd::ks)
def kh(t:DA):TA:=λσ H Q=>∃p H0 own ρ P,EnvD p H0 own σ H ρ/\t ρ P/\∀ks vs H',P ks->At p H0 own H H'->RpK p H0 own H H' vs ks->Q vs H'
abbrev PDA(X:Cx)(es:List Zt)(t:DA):Prop:=PA X es (kh t)
abbrev DT:=List Sl->(Bool->Prop)->Prop
def liftT(t:DT):TT:=λσ H Q=>∃p H0 own ρ P,EnvD p H0 own σ H ρ/\t ρ P/\∀b H',P b->At p H0 own H H'->Q b H'
abbrev PDT(X:Cx)(e:Zt)(t:DT):Prop:=PT X e (liftT t)
def PE.wk{X:Cx}{e:Zt}{t t':TE}(h:PE X e t)(w:∀σ H Q,t' σ H Q->t σ H Q):PE X e t':=λpins s σ H Q I q=>h pins s σ H Q I (w σ H Q q)
def PT.wk{X:Cx}{e:Zt}{t t':TT}(h:PT X e t)(w:∀σ H Q,t' σ H Q->t σ H Q):PT X e t':=λpins s σ H Q I q=>h pins s σ H Q I (w σ H Q q)
def PA.wk{X:Cx}{e:List Zt}{t t':TA}(h:PA X e t)(w:∀σ H Q,t' σ H Q->t σ H Q):PA X e t':=λpos pins s σ H Q I q=>h pos pins s σ H Q I (w σ H Q q)
section
variable{pos:Pos}{a b:Zt}{ta tb:DE}
theorem RpK.go{p:Pn}{H0 c H H':Hp}{own:Addr->Option Nat}(A:At p H0 own c H)(k:Kp p H H'):∀{vs:List V}{ks:List (Kd×D)},RpK p H0 own c H vs ks->RpK p H0 own c H' vs ks
 |_,_,.nil=>.nil
 |_,_,.cons h t=>.cons (jB A k h) (RpK.go A k t)
theorem RpK.fw{p:Pn}{H0 c H H':Hp}{own:Addr->Option Nat}(A:At p H0 own c H):∀{vs:List V}{ks:List (Kd×D)},RpK p H0 own H H' vs ks->RpK p H0 own c H' vs ks
 |_,_,.nil=>.nil
 |_,_,.cons h t=>.cons (lK A h) (RpK.fw A t)
def tV(i:Nat):DE:=λρ P=>match ρ[i]? with
 |some (.im d)=>P .imm d
 |some (.sh d)=>P .shr d
 |some (.sn d)=>P .snw d
 |some (.dw r d)=>P (.reg r) d
 |some (.rw r L)=>P (.reg r) (.list (L.map PyData.list))
 |some (.tw r L)=>P (.reg r) (.tuple (L.map PyData.list))
 |some (.sp r b ds)=>P (if b=true then .n0 else .wk) (.list ds)
 |_=>False
def SX{i:Nat}{x:Str}{ps:Pos}(h:PE X (.Name x ps) (jJ i)):PD X (.Name x ps) (tV i):=PE.wk h (by
 rintro σ H Q ⟨p,H0,own,ρ,P,E,t,q⟩;unfold tV at t;split at t
 ·rename_i d e;let⟨v,f,r⟩:=E.slot i _ e;exact⟨v,f,q _ _ _ _ t E.at r⟩
 ·rename_i d e;let⟨v,f,r⟩:=E.slot i _ e;exact⟨v,f,q _ _ _ _ t E.at r⟩
 ·rename_i d e;let⟨v,f,r⟩:=E.slot i _ e;exact⟨v,f,q _ _ _ _ t E.at r⟩
 ·rename_i d e;let⟨v,f,r⟩:=E.slot i _ e;exact⟨v,f,q _ _ _ _ t E.at r⟩
 ·rename_i r L e;let⟨st,g,f,h⟩:=E.slot i _ e;exact⟨_,f,q _ _ _ _ t E.at h.rp⟩
 ·rename_i r L e;let⟨st,g,f,h⟩:=E.slot i _ e;exact⟨_,f,q _ _ _ _ t E.at h.rp⟩
 ·rename_i r b ds e;let⟨l,vs,f,o,h,z⟩:=E.slot i _ e;refine⟨_,f,q _ _ _ _ t E.at ?_⟩;cases b with
  |true=>exact .lst ⟨(E.ow l r o).1,(E.ow l r o).2.1⟩ h (z.mono (λc n=>⟨n.1 rfl,n.2.1⟩) (λ_ _ _ e=>e) λ_ _ e=>e)
  |false=>exact .lst (E.ow l r o).2.1 h (z.mono (λc n=>n.2.1) (λ_ _ _ e=>e) λ_ _ e=>e)
 ·exact t.elim)
def tK(d:D):DE:=λ_ P=>P .imm d
def nW{e:Zt}{v:V}{d:D}(h:PE X e (tC v))(r:∀H,Rp (λ_=>False) H v d):PD X e (tK d):=PE.wk h (by
 rintro σ H Q ⟨p,H0,own,ρ,P,E,t,q⟩;exact q _ _ _ _ t E.at (r H))
def aq{i:Int}{j:Nat}:PD X (.Constant (.int i) j pos) (tK (.int i)):=nW cV λ_=>.int i
def iH{i:Bool}{j:Nat}:PD X (.Constant (.bool i) j pos) (tK (.bool i)):=nW V3 λ_=>.bl i
def jX{j:Nat}:PD X (.Constant .none j pos) (tK .none):=nW SM λ_=>.non
abbrev G2:=Kd->D->Kd->D->DK->Prop
def t2(g:G2)(ta tb:DE):DE:=λρ P=>ta ρ λk1 d1=>tb ρ λk2 d2=>g k1 d1 k2 d2 P
def Ok2(g:G2)(r:R2):Prop:=∀p H0 own Hb H x y k1 d1 k2 d2 P Q,At p H0 own Hb H->Rp (okK p H0 own Hb k1) H x d1->Rp (okK p H0 own Hb k2) H y d2->g k1 d1 k2 d2 P ->
 (∀k d v H',P k d->Kp p H H'->p.PI H'->Rp (okK p H0 own Hb k) H' v d->Q v H')->r x y H Q
def Ef{g:G2}{r:R2}(ok:Ok2 g r):∀σ H Q,bJ (t2 g ta tb) σ H Q->tOp r (bJ ta) (bJ tb) σ H Q:=by
 rintro σ H Q ⟨p,H0,own,ρ,P,E,t,q⟩;refine⟨p,H0,own,ρ,_,E,t,λk1 d1 v1 H1 t1 A1 r1=>?_⟩;have c:=E.go A1.kp A1.pen;refine⟨p,H0,own,ρ,_,c,t1,λk2 d2 v2 H2 t2 A2 r2=>?_⟩;have A:At p H0 own H H2:=A1.fw A2;exact ok p H0 own H H2 v1 v2 k1 d1 k2 d2 P Q A (jB A1 A2.kp r1) (lK A1 r2) t2 λk d v H' h k3 i3 r3=>q k d v H' h (A.go k3 i3) r3
def vA{c:Operator}{r:R2}{g:G2}(d:OpR X (Z7 c) r)(ok:Ok2 g r)(ha:PD X a ta)(hb:PD X b tb):PD X (.BinOp a c b pos) (t2 g ta tb):=PE.wk (dF d ha hb) (Ef ok)
def sE{c:ZJ}{r:R2}{g:G2}(d:OpR X (ZK c) r)(ok:Ok2 g r)(ha:PD X a ta)(hb:PD X b tb)(hm:ZL c b=false):PD X (.Compare a [c] [b] pos) (t2 g ta tb):=PE.wk (DN d ha hb hm) (Ef ok)
def fu(t:DE):DT:=λρ P=>t ρ λ_ d=>match d with
 |.bool b=>P b
 |_=>False
def tG{t:DE}:∀σ H Q,liftT (fu t) σ H Q->(bJ t) σ H (λx H'=>∃k,x=.bl k/\Q k H'):=by
 rintro σ H Q ⟨p,H0,own,ρ,P,E,t,q⟩;refine⟨p,H0,own,ρ,_,E,t,λk d v H' h A r=>?_⟩;cases d with
 |bool b=>exact⟨b,r.bl',q b H' h A⟩
 |_=>exact h.elim
def gC{c:ZJ}{r:R2}{g:G2}(d:OpR X (ZK c) r)(ok:Ok2 g r)(ha:PD X a ta)(hb:PD X b tb)(hm:ZL c b=false):PDT X (.Compare a [c] [b] pos) (fu (t2 g ta tb)) :=
 PT.wk (nH d ha hb hm) λσ H Q h=>Ef ok σ H _ (tG σ H Q h)
def bR{e:Zt}{t:DE}(h:PD X e t)(he:∀whole,ZE e X.env whole=(do let v ←whole;standAt e.pos;holding [v] (ZO v)):=by intro _;rfl):PDT X e (fu t) :=
 PT.wk (Ju h he) λσ H Q q=>tG σ H Q q
def W0(t:DT):DT:=λρ P=>t ρ λb=>P (!b)
def cC{t:DT}(ha:PDT X a t):PDT X (.UnaryOp .Not a pos) (W0 t):=PT.wk (Jw ha) (by
 rintro σ H Q ⟨p,H0,own,ρ,P,E,t,q⟩;exact⟨p,H0,own,ρ,_,E,t,λb H' h A=>q _ H' h A⟩)
abbrev PDW(X:Cx)(e:Zt)(t:DT):Prop:=PW X e (liftT t)
def PW.wk{X:Cx}{e:Zt}{t t':TT}(h:PW X e t)(w:∀σ H Q,t' σ H Q->t σ H Q):PW X e t':=λwh pins s σ H Q I q=>h wh pins s σ H Q I (w σ H Q q)
def Hs(t u:DT):DT:=λρ P=>t ρ λb=>if b=true then u ρ P else P false
def dOr(t u:DT):DT:=λρ P=>t ρ λb=>if b=true then P true else u ρ P
section
variable{rest:List Zt}{t u:DT}
def jU(ha:PDT X a t):PDW X (.BoolOp .And [a] pos) t:=Dt ha
def fO(ha:PDT X a t):PDW X (.BoolOp .Or [a] pos) t:=Jq ha
def KQ:∀σ H Q,liftT (Hs t u) σ H Q->VD (liftT t) (liftT u) σ H Q:=by
 rintro σ H Q ⟨p,H0,own,ρ,P,E,t,q⟩;refine⟨p,H0,own,ρ,_,E,t,λb H' h A=>?_⟩;cases b with
 |true=>exact bC ⟨p,H0,own,ρ,P,E.go A.kp A.pen,↑h,λc H2 h2 A2=>q c H2 h2 (A.fw A2)⟩
 |false=>exact bw (q false H' ↑h A)
def O8:∀σ H Q,liftT (dOr t u) σ H Q->tOr (liftT t) (liftT u) σ H Q:=by
 rintro σ H Q ⟨p,H0,own,ρ,P,E,t,q⟩;refine⟨p,H0,own,ρ,_,E,t,λb H' h A=>?_⟩;cases b with
 |true=>exact bC (q true H' ↑h A)
 |false=>exact bw ⟨p,H0,own,ρ,P,E.go A.kp A.pen,↑h,λc H2 h2 A2=>q c H2 h2 (A.fw A2)⟩
def lN(ha:PDT X a t)(hb:PDW X (.BoolOp .And (b::rest) pos) u):PDW X (.BoolOp .And (a::b::rest) pos) (Hs t u):=PW.wk (Jr ha hb) KQ
def iU(ha:PDT X a t)(hb:PDW X (.BoolOp .Or (b::rest) pos) u):PDW X (.BoolOp .Or (a::b::rest) pos) (dOr t u):=PW.wk (QC ha hb) O8
def PDW.pt{e:Zt}{t:DT}(h:PDW X e t):PDT X e t:=PW.pt h
end
end
variable [Gr]
section
variable{pos:Pos}{a b e:Zt}{es:List Zt}{ta tb te:DE}{t:DA}
def nj:DA:=λ_ P=>P []
def iz(te:DE)(t:DA):DA:=λρ P=>te ρ λk d=>t ρ λks=>P ((k,d)::ks)
def ak:PDA X [] nj:=PA.wk dG (by
 rintro σ H Q ⟨p,H0,own,ρ,P,E,t,q⟩;exact q [] [] H t E.at .nil)
def aj(ha:PD X e te)(hr:PDA X es t)(hs:zS X e es:=by rfl):PDA X (e::es) (iz te t):=PA.wk (bV ha hr hs) (by
 rintro σ H Q ⟨p,H0,own,ρ,P,E,t,q⟩;refine⟨p,H0,own,ρ,_,E,t,λk d v H1 h A r=>?_⟩;refine⟨p,H0,own,ρ,_,E.go A.kp A.pen,h,λks vs H2 h2 A2 r2=>?_⟩;exact q _ _ H2 h2 (A.fw A2) (.cons (jB A A2.kp r) (RpK.fw A r2)))
def joins:List (Kd×D)->Kd
 |[]=>.imm
 |kd::ks=>kd.1.join (joins ks)
theorem RpK.all{p:Pn}{H0 c H d:Hp}{own:Addr->Option Nat}(A:At p H0 own c H):∀{vs:List V}{ks:List (Kd×D)}{k:Kd},(joins ks).le k=true->RpK p H0 own c d vs ks->Rps (okK p H0 own c (joins ks)) d vs (ks.map (·.2))
 |_,_,_,_,.nil=>.nil
 |_,kd::ks,k,e,.cons h t=>by
  have j:=dM kd.1 (joins ks);exact .cons (dR A j.1 h) ((RpK.all A (k:=joins ks) (by cases joins ks <;> simp[Kd.le]) t).mono (λa o=>dH A j.2 o) (λ_ _ _ e=>e) λ_ _ e=>e)
def Kd.le_refl(k:Kd):k.le k=true:=by cases k <;> simp[Kd.le]
theorem RpK.length{p:Pn}{H0 d c:Hp}{own:Addr->Option Nat}:∀{vs:List V}{ks:List (Kd×D)},RpK p H0 own d c vs ks->⇑vs=⇑ks
 |_,_,.nil=>rfl
 |_,_,.cons _ t=>by rw[List.length_cons,List.length_cons,RpK.length t]
def Qv(t:DA):DE:=λρ P=>t ρ λks=>⇑ks<=1000/\P ((joins ks).join .new) (.list (ks.map (·.2)))
def Am(t:DA):DE:=λρ P=>t ρ λks=>⇑ks<=1000/\P (norm (joins ks) (.tuple (ks.map (·.2)))) (.tuple (ks.map (·.2)))
def cg(h:PDA X es t):PD X (.List es pos) (Qv t):=PE.wk (rQ h) (by
 rintro σ H Q ⟨p,H0,own,ρ,P,E,t,q⟩;refine⟨p,H0,own,ρ,_,E,t,λks vs H1 h A r=>?_⟩;have d:=Ym;have hl:=⇑r;refine⟨by have:=h.1;lia,λl hl=>?_⟩;let⟨c,f,g⟩:=A.new hl (.lst vs);have j:=dM (joins ks) .new;refine q _ _ _ _ h.2 (A.go c f) (.lst (dH A j.2 g) aB ?_);exact(cU A c (RpK.all A (Kd.le_refl _) r)).mono (λa o=>dH A j.1 o) (λ_ _ _ e=>e) λ_ _ e=>e)
def aL{x1}(h:PDA X es t):PD X (.Tuple es x1 pos) (Am t):=PE.wk (JQ h) (by
 rintro σ H Q ⟨p,H0,own,ρ,P,E,t,q⟩;refine⟨p,H0,own,ρ,_,E,t,λks vs H1 h A r=>?_⟩;have d:=Ym;have hl:=⇑r;refine⟨by have:=h.1;lia,λl hl=>?_⟩;let⟨c,f,g⟩:=A.new hl (.tup vs);exact q _ _ _ _ h.2 (A.go c f) (aO (.tup aB (cU A c (RpK.all A (Kd.le_refl _) r)))))
abbrev GC:=List (Kd×D)->DK->Prop
def tCl(g:GC)(t:DA):DE:=λρ P=>t ρ λks=>g ks P
def OkC(g:GC)(r:List V->Hp->VK->Prop):Prop:=∀p H0 own Hb H vs ks P Q,At p H0 own Hb H->RpK p H0 own Hb H vs ks->g ks P ->
 (∀k d v H',P k d->Kp p H H'->p.PI H'->Rp (okK p H0 own Hb k) H' v d->Q v H')->r vs H Q
def QZ{g:GC}{r:List V->Hp->VK->Prop}(ok:OkC g r):∀σ H Q,bJ (tCl g t) σ H Q->tCB r (kh t) σ H Q:=by
 rintro σ H Q ⟨p,H0,own,ρ,P,E,t,q⟩;refine⟨p,H0,own,ρ,_,E,t,λks vs H1 h A r=>?_⟩;exact ok p H0 own H H1 vs ks P Q A r h λk d v H' h2 k2 i2 r2=>q k d v H' h2 (A.go k2 i2) r2
def gY{r:List V->Hp->VK->Prop}{id:String}{x:Str}{ps:Pos}{g:GC}(hc:fj X (.builtin id) r)(ok:OkC g r)(hg:Gl X x)(hm:X.mg x=none)(hv:Zq x=some (.builtin id))(ha:PDA X (e::es) t)(hn:x≠"__name__":=by decide)(hdb:zB x:=by decide)(he:zS X e es:=by rfl)(hpl:zP X pos es:=by rfl):PD X (.Call (.Name x ps) (e::es) [] pos) (tCl g t):=PE.wk (eO hc hg hm hv ha hn hdb he hpl) (QZ ok)
def sH{r:List V->Hp->VK->Prop}{id:String}{x:Str}{ps:Pos}{g:GC}(hc:fj X (.type id) r)(ok:OkC g r)(hg:Gl X x)(hm:X.mg x=none)(hv:Zq x=some (.type id))(ha:PDA X (e::es) t)(hn:x≠"__name__":=by decide)(hdb:zB x:=by decide)(he:zS X e es:=by rfl)(hpl:zP X pos es:=by rfl):PD X (.Call (.Name x ps) (e::es) [] pos) (tCl g t):=PE.wk (pN hc hg hm hv ha hn hdb he hpl) (QZ ok)
def spD(t:ed):Sp:=λvs H Q _=>∃ds P,Rps (λ_=>True) H vs ds/\t ds P/\∀d v H',P d->Same H H'->Rp (λa=>H a=none) H' v d->Q v H'
def spP(C:Pn->Prop)(t:ed):Sp:=λvs H Q _=>∃p vs' ds P,C p/\vs=p.pv::vs'/\p.PI H/\Rps (λa=>¬p.fp a) H vs' ds/\t ds P/\∀d v H',P d->Kp p H H'->p.PI H'->Rp (λa=>H a=none) H' v d->Q v H'
def tFn(f:ed)(t:DA):DE:=λρ P=>t ρ λks=>f (ks.map (·.2)) λd=>P (norm .new d) d
theorem RpK.rps{p:Pn}{H0 d H c:Hp}{own:Addr->Option Nat}(A:At p H0 own d H):∀{vs:List V}{ks:List (Kd×D)},RpK p H0 own d c vs ks->Rps (λa=>¬p.fp a) c vs (ks.map (·.2))
 |_,_,.nil=>.nil
 |_,_,.cons h t=>.cons (h.mono (λa o=>jt A o) (λ_ _ _ e=>e) λ_ _ e=>e) (RpK.rps A t)
def O9{f:ed}:∀σ H Q,bJ (tFn f t) σ H Q->xQ (spD f) [] E0 (kh t) σ H Q:=by
 rintro σ H Q ⟨p,H0,own,ρ,P,E,t,q⟩;refine⟨p,H0,own,ρ,_,E,t,λks vs H1 h A r=>?_⟩;show spD f (vs++[]) H1 Q E0;rw[List.append_nil];refine⟨ks.map (·.2),_,(RpK.rps A r).mono (λ_ _=>trivial) (λ_ _ _ e=>e) λ_ _ e=>e,h,λd v H' h2 s r2=>?_⟩;have c:Kp p H1 H':=Kp.of s;refine q _ d v H' h2 (A.go c (p.mono H1 H' A.pen λb o _ e=>s b o e)) (aO ?_);exact r2.mono (λa o=>A.free o) (λ_ _ _ e=>e) λ_ _ e=>e
def Nu(C:Pn->Prop)(f:ed)(i:Nat)(t:DA):DE:=λρ P=>ρ[i]?=some (.pen C)/\tFn f t ρ P
def KN{C:Pn->Prop}{f:ed}{i:Nat}:∀σ H Q,bJ (Nu C f i t) σ H Q->xQ (spP C f) [] E0 (Ip (jJ i) (kh t)) σ H Q:=by
 rintro σ H Q ⟨p,H0,own,ρ,P,E,⟨hp,t⟩,q⟩;let⟨hs,c⟩:=E.slot i _ hp;refine⟨p.pv,hs,p,H0,own,ρ,_,E,t,λks vs H1 h A r=>?_⟩;show spP C f ((p.pv::vs)++[]) H1 Q E0;rw[List.append_nil];refine⟨p,vs,ks.map (·.2),_,c,rfl,A.pen,RpK.rps A r,h,λd v H' h2 k2 i2 r2=>?_⟩;exact q _ d v H' h2 (A.go k2 i2) (aO (r2.mono (λa o=>A.free o) (λ_ _ _ e=>e) λ_ _ e=>e))
def gI(C:Int->Int->Prop)(f:Int->Int->D):G2:=λ_ d1 _ d2 P=>match d1,d2 with
 |.int i,.int j=>C i j/\P .imm (f i j)
 |_,_=>False
def gI0(f:Int->Int->D):G2:=λ_ d1 _ d2 P=>match d1,d2 with
 |.int i,.int j=>P .imm (f i j)
 |_,_=>False
def okI{C:Int->Int->Prop}{f:Int->Int->D}{g:Int->Int->V}(h:∀i j H,Rp (λ_=>False) H (g i j) (f i j)):Ok2 (gI C f) (rI C g):=by
 intro p H0 own k H x y n l o m P Q A c d t q;unfold gI at t;split at t
 ·rename_i i j;exact⟨i,j,c.int',d.int',t.1,q _ _ _ _ t.2 Kp.refl A.pen (h i j H)⟩
 ·exact t.elim
def Bl{f:Int->Int->D}{g:Int->Int->V}(h:∀i j H,Rp (λ_=>False) H (g i j) (f i j)):Ok2 (gI0 f) (rI0 g):=by
 intro p H0 own k H x y n l o m P Q A c d t q;unfold gI0 at t;split at t
 ·rename_i i j;exact⟨i,j,c.int',d.int',q _ _ _ _ t Kp.refl A.pen (h i j H)⟩
 ·exact t.elim
def S6(ha:PD X a ta)(hb:PD X b tb):PD X (.BinOp a .Add b pos) (t2 (gI0 λi j=>.int (i+j)) ta tb):=vA j5 (Bl λi j _=>.int _) ha hb
def jq(ha:PD X a ta)(hb:PD X b tb):PD X (.BinOp a .Sub b pos) (t2 (gI0 λi j=>.int (i - j)) ta tb):=vA S8 (Bl λi j _=>.int _) ha hb
def qP(ha:PD X a ta)(hb:PD X b tb):PD X (.BinOp a .FloorDiv b pos) (t2 (gI U9 λi j=>.int (i / j)) ta tb):=vA qT (okI λi j _=>.int _) ha hb
def wC(ha:PD X a ta)(hb:PD X b tb):PD X (.BinOp a .Mod b pos) (t2 (gI (λ_ j=>0<j) λi j=>.int (i % j)) ta tb):=vA j4 (okI λi j _=>.int _) ha hb
def J0(ha:PD X a ta)(hb:PD X b tb):PD X (.Compare a [.Lt] [b] pos) (t2 (gI0 λi j=>.bool (decide (i<j))) ta tb):=sE DW (Bl λi j _=>.bl _) ha hb (dg _)
def DP(ha:PD X a ta)(hb:PD X b tb):PD X (.Compare a [.Gt] [b] pos) (t2 (gI0 λi j=>.bool (decide (j<i))) ta tb):=sE J7 (Bl λi j _=>.bl _) ha hb (dg _)
def rT(ha:PD X a ta)(hb:PD X b tb):PDT X (.Compare a [.Lt] [b] pos) (fu (t2 (gI0 λi j=>.bool (decide (i<j))) ta tb)):=gC DW (Bl λi j _=>.bl _) ha hb (dg _)
def jV(ha:PD X a ta)(hb:PD X b tb):PDT X (.Compare a [.Gt] [b] pos) (fu (t2 (gI0 λi j=>.bool (decide (j<i))) ta tb)):=gC J7 (Bl λi j _=>.bl _) ha hb (dg _)
def Bc(ha:PD X a ta)(hb:PD X b tb):PDT X (.Compare a [.GtE] [b] pos) (fu (t2 (gI0 λi j=>.bool (decide (j<=i))) ta tb)):=gC QJ (Bl λi j _=>.bl _) ha hb (dg _)
def scD:D->D->Option Bool
 |.int i,.int j=>some (decide (i=j))
 |.bool i,.bool j=>some (decide (i=j))
 |.str i,.str j=>some (decide (i=j))
 |_,_=>none
def gEq(neg:Bool):G2:=λ_ d1 _ d2 P=>match scD d1 d2 with
 |some b=>P .imm (.bool (if neg then !b else b))
 |none=>False
def V9:Ok2 (gEq false) rEq:=by
 intro p H0 own g H x y l h m k P Q A d f t q;unfold gEq scD at t;split at t
 ·rename_i b e;split at e <;> first|cases e|skip
  ·rw[d.int',f.int'];refine⟨rfl,?_⟩;have c:∀i j:Int,decide (V.int i=V.int j)=decide (i=j):=λi j=>by simp
   rw[c];exact q _ _ _ _ t Kp.refl A.pen (.bl _)
  ·rw[d.bl',f.bl'];refine⟨rfl,?_⟩;have c:∀i j:Bool,decide (V.bl i=V.bl j)=decide (i=j):=λi j=>by simp
   rw[c];exact q _ _ _ _ t Kp.refl A.pen (.bl _)
  ·rw[d.str',f.str'];refine⟨rfl,?_⟩;have c:∀i j:Str,decide (V.str i=V.str j)=decide (i=j):=λi j=>by simp
   rw[c];exact q _ _ _ _ t Kp.refl A.pen (.bl _)
 ·exact t.elim
def XC:Ok2 (gEq true) rNe:=by
 intro p H0 own g H x y l h m k P Q A d f t q;unfold gEq scD at t;split at t
 ·rename_i b e;split at e <;> first|cases e|skip
  ·rw[d.int',f.int'];refine⟨rfl,?_⟩;have c:∀i j:Int,decide (V.int i=V.int j)=decide (i=j):=λi j=>by simp
   rw[c];exact q _ _ _ _ t Kp.refl A.pen (.bl _)
  ·rw[d.bl',f.bl'];refine⟨rfl,?_⟩;have c:∀i j:Bool,decide (V.bl i=V.bl j)=decide (i=j):=λi j=>by simp
   rw[c];exact q _ _ _ _ t Kp.refl A.pen (.bl _)
  ·rw[d.str',f.str'];refine⟨rfl,?_⟩;have c:∀i j:Str,decide (V.str i=V.str j)=decide (i=j):=λi j=>by simp
   rw[c];exact q _ _ _ _ t Kp.refl A.pen (.bl _)
 ·exact t.elim
def gIx:G2:=λk1 d1 _ d2 P=>match d1,d2 with
 |.list ds,.int i=>∃d,atI ds i=some d/\P (norm k1 d) d
 |.tuple ds,.int i=>∃d,atI ds i=some d/\P (norm k1 d) d
 |_,_=>False
def Rps.atI{ok:Addr->Prop}{H:Hp}{vs:List V}{ds:ez}{i:Int}{d:D}(r:Rps ok H vs ds)(h:L2.atI ds i=some d):∃v,L2.atI vs i=some v/\Rp ok H v d:=by
 unfold L2.atI at h ⊢;rw[⇑r];cases e:ixN ⇑ds i with
 |none=>rw[e]at h;cases h
 |some j =>
  rw[e]at h;let⟨v,h1,h2⟩:=r.getD (i:=j) (d:=d) h;exact⟨v,h1,h2⟩
def jd{p:Pn}{H0 d H:Hp}{own:Addr->Option Nat}{vs:List V}{c:Kd×D}(r:RpK p H0 own d H vs [c]):∃v,vs=[v]/\Rp (okK p H0 own d c.1) H v c.2:=by
 cases r with
 |cons h t=>cases t;exact⟨_,rfl,h⟩
def Jf{p:Pn}{H0 c H:Hp}{own:Addr->Option Nat}{vs:List V}{d f:Kd×D}(r:RpK p H0 own c H vs [d,f]):∃v w,vs=[v,w]/\Rp (okK p H0 own c d.1) H v d.2/\Rp (okK p H0 own c f.1) H w f.2:=by
 cases r with
 |cons h t =>
  cases t with
  |cons h2 t2=>cases t2;exact⟨_,_,rfl,h,h2⟩
def PB:GC:=λks P=>match ks with
 |[(_,.list ds)]=>P .imm (.int ⇑ds)
 |[(_,.tuple ds)]=>P .imm (.int ⇑ds)
 |_=>False
def V7{K:W.Frag}:OkC PB (λxs H Q=>∃p ys,xs=[.ref p]/\(SqL K H p ys\/SqT K H p ys)/\Q (.int ⇑ys) H):=by
 intro p H0 own g H vs ks P Q A r t q;unfold PB at t;split at t
 ·let⟨v,rfl,d⟩:=jd r;let⟨c,vs,rfl,o,hc,f⟩:=d.dh;exact⟨c,vs,rfl,.inl (SqL.of hc),by rw[⇑f];exact q _ _ _ _ t Kp.refl A.pen (.int _)⟩
 ·let⟨v,rfl,d⟩:=jd r;let⟨c,vs,rfl,hc,f⟩:=d.dU;exact⟨c,vs,rfl,.inr (SqT.of hc),by rw[⇑f];exact q _ _ _ _ t Kp.refl A.pen (.int _)⟩
 ·exact t.elim
def cW{ps:Pos}(hm:X.mg "len"=none)(ha:PDA X [a] t)(hg:Gl X "len":=by rfl)(he:zS X a []:=by rfl)(hpl:zP X pos []:=by rfl):PD X (.Call (.Name "len" ps) [a] [] pos) (tCl PB t) :=
 gY gF V7 hg hm PySem.boot_len ha ∅ ∅ he hpl
def Ue:GC:=λks P=>match ks with
 |[(_,.int i)]=>P .imm (.int i)
 |[(_,.bool b)]=>P .imm (.int (if b then 1 else 0))
 |_=>False
def nU{ps:Pos}(hm:X.mg "int"=none)(hv:Zq "int"=some (.type "int"))(ha:PDA X [a] t)(hg:Gl X "int":=by rfl)(he:zS X a []:=by rfl)(hpl:zP X pos []:=by rfl):PD X (.Call (.Name "int" ps) [a] [] pos) (tCl Ue t) :=
 sH Hz (by
  intro p H0 own d H vs ks P Q A r t q;unfold Ue at t;split at t
  ·rename_i k i;let⟨v,rfl,c⟩:=jd r;rw[c.int'];exact .inl ⟨i,rfl,q _ _ _ _ t Kp.refl A.pen (.int _)⟩
  ·rename_i k i;let⟨v,rfl,c⟩:=jd r;rw[c.bl'];exact .inr ⟨i,rfl,q _ _ _ _ t Kp.refl A.pen (.int _)⟩
  ·exact t.elim) hg hm hv ha ∅ ∅ he hpl
end
variable [Gr]
section
variable{ok ok':Addr->Prop}{H H':Hp}
mutual
theorem Rp.bI(f:∀a o,ok a->H a=some o->ok' a/\H' a=some o)(t:∀a xs,H a=some (.tup xs)->H' a=some (.tup xs)):∀{v:V}{d:D},Rp ok H v d->Rp ok' H' v d
 |_,_,.non=>.non
 |_,_,.bl b=>.bl b
 |_,_,.int i=>.int i
 |_,_,.str x=>.str x
 |_,_,.lst o h r=>.lst (f _ _ o h).1 (f _ _ o h).2 (Rps.bI f t r)
 |_,_,.tup h r=>.tup (t _ _ h) (Rps.bI f t r)
 |_,_,.dct o h r=>.dct (f _ _ o h).1 (f _ _ o h).2 (Rkv.bI f t r)
theorem Rps.bI(f:∀a o,ok a->H a=some o->ok' a/\H' a=some o)(t:∀a xs,H a=some (.tup xs)->H' a=some (.tup xs)):∀{v:List V}{d:ez},Rps ok H v d->Rps ok' H' v d
 |_,_,.nil=>.nil
 |_,_,.cons h r=>.cons (Rp.bI f t h) (Rps.bI f t r)
theorem Rkv.bI(f:∀a o,ok a->H a=some o->ok' a/\H' a=some o)(t:∀a xs,H a=some (.tup xs)->H' a=some (.tup xs)):∀{v:List (Key×V)}{d:List (D×D)},Rkv ok H v d->Rkv ok' H' v d
 |_,_,.nil=>.nil
 |_,_,.cons h r=>.cons (Rp.bI f t h) (Rkv.bI f t r)
end
end
structure DEnds where
 nx:List Sl->Prop
 rt:D->Prop
 bk:List Sl->Prop:=λ_=>False
 ct:List Sl->Prop:=λ_=>False
abbrev DS:=DEnds->List Sl->Prop
structure FrS(p:Pn)(own:Addr->Option Nat)(H:Hp)(own':Addr->Option Nat)(H':Hp):Prop where
 keep:∀b o,H b=some o->¬p.fp b->own b=none->H' b=some o/\own' b=none
 tup:∀a xs,H a=some (.tup xs)->H' a=some (.tup xs)
def FrS.trans{p:Pn}{i j k:Addr->Option Nat}{d f g:Hp}(a:FrS p i d j f)(b:FrS p j f k g):FrS p i d k g:=⟨λc o h n e=>let⟨x,y⟩:=a.keep c o h n e;b.keep c o x n y,λc xs e=>b.tup c xs (a.tup c xs e)⟩
def FrS.refl{p:Pn}{b:Addr->Option Nat}{a:Hp}:FrS p b a b a:=⟨λ_ _ h _ e=>⟨h,e⟩,λ_ _ e=>e⟩
def At.tups{p:Pn}{H0 H H':Hp}{own:Addr->Option Nat}(A:At p H0 own H H'):∀a xs,H a=some (.tup xs)->H' a=some (.tup xs):=jx (⟨A.k0,Kp.refl,A.penb,A.penb,A.ow⟩:At p H0 own H H) A.kp
structure RPost(p:Pn)(H0 H':Hp)(v:V)(d:D):Prop where
 k0:∀b o,H0 b=some o->¬p.fp b->H' b=some o
 pen:p.PI H'
 rp:Rp (λa=>H0 a=none/\¬p.fp a) H' v d
structure Wish(p:Pn)(H0:Hp)(own:Addr->Option Nat)(H:Hp)(P:DEnds)(Q:Ends):Prop where
 nx:∀own' σ' H' ρ',EnvD p H0 own' σ' H' ρ'->FrS p own H own' H'->P.nx ρ'->Q.nx σ' H'
 rt:∀d v H',P.rt d->RPost p H0 H' v d->Q.rt v H'
 bk:∀own' σ' H' ρ',EnvD p H0 own' σ' H' ρ'->FrS p own H own' H'->P.bk ρ'->Q.bk σ' H'
 ct:∀own' σ' H' ρ',EnvD p H0 own' σ' H' ρ'->FrS p own H own' H'->P.ct ρ'->Q.ct σ' H'
def Wish.go{p:Pn}{H0 H H':Hp}{own own':Addr->Option Nat}{P:DEnds}{Q:Ends}(w:Wish p H0 own H P Q)(f:FrS p own H own' H'):Wish p H0 own' H' P Q :=
 ⟨λo s h r e g n=>w.nx o s h r e (f.trans g) n,w.rt,λo s h r e g n=>w.bk o s h r e (f.trans g) n,λo s h r e g n=>w.ct o s h r e (f.trans g) n⟩
def j9(t:DS):TS:=λQ σ H=>∃p H0 own ρ P,EnvD p H0 own σ H ρ/\t P ρ/\Wish p H0 own H P Q
abbrev PDS(X:Cx)(st:ZF)(t:DS):Prop:=PS X st (j9 t)
abbrev nq(X:Cx)(st:List ZF)(t:DS):Prop:=PSs X st (j9 t)
def PSs.wk'{X:Cx}{a:List ZF}{t t':TS}(h:PSs X a t)(w:∀D σ H,t' D σ H->t D σ H):PSs X a t':=λpins s σ H D I q=>h pins s σ H D I (w D σ H q)
def PS.wk'{X:Cx}{a:ZF}{t t':TS}(h:PS X a t)(w:∀D σ H,t' D σ H->t D σ H):PS X a t':=λpins s σ H D I q=>h pins s σ H D I (w D σ H q)
def At.frs{p:Pn}{H0 H H':Hp}{own:Addr->Option Nat}(A:At p H0 own H H'):FrS p own H own H':=⟨λb o h n e=>⟨A.kp b o h n,e⟩,A.tups⟩
section
variable{pos:Pos}{st:ZF}{rest:List ZF}{e:Zt}{te:DE}{t u:DS}
def vK:DS:=λP ρ=>P.nx ρ
def Cq(t u:DS):DS:=λP ρ=>t { P with nx:=u P } ρ
def aU:nq X [] vK:=PSs.wk' nJ (by
 rintro Q σ H ⟨p,H0,own,ρ,P,E,t,w⟩;exact w.nx own σ H ρ E FrS.refl t)
def aA(h1:PDS X st t)(h2:nq X rest u):nq X (st::rest) (Cq t u):=PSs.wk' (cA h1 h2) (by
 rintro Q σ H ⟨p,H0,own,ρ,P,E,t,w⟩;exact⟨p,H0,own,ρ,_,E,t,⟨λo s h r e g n=>⟨p,H0,o,r,P,e,n,w.go g⟩,w.rt,w.bk,w.ct⟩⟩)
def aF(h1:PDS X st t):nq X [st] t:=iG h1
def eY:PDS X st (λ_ _=>False):=PS.wk' JC (by
 rintro Q σ H ⟨p,H0,own,ρ,P,E,t,w⟩;exact t)
def Uw(te:DE):DS:=λP ρ=>te ρ λk d=>k.le .n0=true/\P.rt d
def aJ(he:PD X e te):PDS X (.Return (some e) pos) (Uw te):=PS.wk' (jQ he) (by
 rintro Q σ H ⟨p,H0,own,ρ,P,E,t,w⟩;refine⟨p,H0,own,ρ,_,E,t,λk d v H' h A r=>w.rt d v H' h.2 ⟨λb o e n=>A.kp b o (A.k0 b o e n) n,A.pen,?_⟩⟩;exact dR A h.1 r)
def dIf(c:DT)(t u:DS):DS:=λP ρ=>c ρ λb=>if b=true then t P ρ else u P ρ
theorem cR{c:Zt}{a b:List ZF}{d:DT}(hc:PDT X c d)(ha:nq X a t)(hb:nq X b u):PDS X (.If c a b pos) (dIf d t u):=PS.wk' (vq hc ha hb) (by
 rintro Q σ H ⟨p,H0,own,ρ,P,E,t,w⟩;refine⟨p,H0,own,ρ,_,E,t,λb H' h A=>?_⟩;cases b with
 |true=>exact bC ⟨p,H0,own,ρ,P,E.go A.kp A.pen,↑h,w.go A.frs⟩
 |false=>exact bw ⟨p,H0,own,ρ,P,E.go A.kp A.pen,↑h,w.go A.frs⟩)
def Rj(te:DE):DS:=λP ρ=>te ρ λ_ _=>P.nx ρ
def lZ(he:PD X e te)(hs:ZQ e none pos.line X.env=pure false:=by rfl):PDS X (.Expr e pos) (Rj te):=PS.wk' (gA he hs) (by
 rintro Q σ H ⟨p,H0,own,ρ,P,E,t,w⟩;exact⟨p,H0,own,ρ,_,E,t,λk d v H' h A r=>w.nx own σ H' ρ (E.go A.kp A.pen) A.frs h⟩)
def Sl.region:Sl->Option Nat
 |.dw r _=>some r
 |.rw r _=>some r
 |.tw r _=>some r
 |.sp r _ _=>some r
 |.gn r _=>some r
 |_=>none
def o7(r:Nat)(ρ:List Sl)(i:Nat):Bool:=(ρ.set i .any).all λs=>s.region != some r
def stK(a:Option Nat)(ρ:List Sl)(i:Nat)(k:Kd)(d:D):Option Sl:=match k with
 |.imm=>some (.im d)
 |.new=>match a with
  |some r=>if o7 r ρ i=true then some (.dw r d)else none
  |none=>some (.sn d)
 |.reg r=>some (.dw r d)
 |.snw=>some (.sn d)
 |.shr=>some (.sh d)
 |_=>none
def Mr(i:Nat)(a:Option Nat)(te:DE):DS:=λP ρ=>te ρ λk d=>match stK a ρ i (norm k d) d with
 |some s=>P.nx (ρ.set i s)
 |none=>False
section
variable{p:Pn}{H0 H H1:Hp}{own:Addr->Option Nat}{σ:L2.St}{ρ:List Sl}{i:Nat}
def EnvD.set{v:V}{s:Sl}(E:EnvD p H0 own σ H ρ)(hs:i<⇑σ->gj p H0 own (σ.set i (some v)) H i s):EnvD p H0 own (σ.set i (some v)) H (ρ.set i s):=by
 refine⟨E.k0,E.pen,E.ow,λj s' e=>?_,↑E.len,E.gr⟩;by_cases a:j=i
 ·subst a;have hl:j<⇑ρ:=by
   have:=(List.getElem?_eq_some_iff.mp e).1;simpa using this
  rw[List.getElem?_set_self hl]at e;cases e;exact hs (by rw[←E.len];exact hl)
 ·rw[List.getElem?_set_ne (Ne.symm a)]at e;have q:=E.slot j s' e;have b:(σ.set i (some v))[j]?=σ[j]?:=List.getElem?_set_ne (Ne.symm a);cases s' <;> simp only[gj,b]at q ⊢ <;> exact q
def dz(r:Nat)(H H1:Hp)(own:Addr->Option Nat):Addr->Option Nat:=λa=>match H a,H1 a with
 |none,some _=>some r
 |_,_=>own a
def bK{r:Nat}{a:Addr}{o:HO}(h:H a=some o):dz r H H1 own a=own a:=by unfold dz;rw[h]
def jk{r:Nat}{a:Addr}{o:HO}(h:H a=none)(h1:H1 a=some o):dz r H H1 own a=some r:=by unfold dz;rw[h,h1]
def EnvD.adopt(r:Nat)(E:EnvD p H0 own σ H ρ)(A:At p H0 own H H1):EnvD p H0 (dz r H H1 own) σ H1 ρ:=by
 have k:=jx E.at A.kp;refine⟨λb o e n=>A.kp b o (E.k0 b o e n) n,A.pen,λa q e=>?_,λj s e=>?_,E.len,E.gr⟩
 ·cases h:H a with
  |some o =>
   rw[bK h]at e;let⟨x,y,z⟩:=E.ow a q e;refine⟨x,y,by rw[A.kp a o h y];exact λz=>nomatch z⟩
  |none =>
   cases h1:H1 a with
   |none =>
    have m:own a=some q:=by rw[←e];unfold dz;rw[h,h1]
    exact dS h (E.ow a q m).2.2
   |some o=>exact⟨E.at.h0 h,E.at.nfb h,λz=>nomatch z⟩
 ·have q:=E.slot j s e;cases s with
  |any=>trivial
  |im d=>exact let⟨v,a,b⟩:=q;⟨v,a,b.mono (λ_ o=>o) (λ_ _ o=>o.elim) k⟩
  |sh d=>exact let⟨v,a,b⟩:=q;⟨v,a,b.bI (λc o n h=>⟨⟨n.1,by rw[bK h];exact n.2⟩,A.kp c o h n.1⟩) k⟩
  |sn d=>exact let⟨v,a,b⟩:=q;⟨v,a,b.bI (λc o n h=>⟨⟨n.1,n.2.1,by rw[bK h];exact n.2.2⟩,A.kp c o h n.2.1⟩) k⟩
  |dw f d=>exact let⟨v,a,b⟩:=q;⟨v,a,b.bI (λc o n h=>⟨by rw[bK h];exact n,A.kp c o h (E.ow c f n).2.1⟩) k⟩
  |pen C=>exact q
  |rw f L=>exact let⟨st,as,a,b⟩:=q;⟨st,as,a,b.mono (λc o n h=>⟨by rw[bK h];exact n,A.kp c o h (E.ow c f n).2.1⟩) k⟩
  |tw f L=>exact let⟨st,as,a,b⟩:=q;⟨st,as,a,b.mono (λc o n h=>⟨by rw[bK h];exact n,A.kp c o h (E.ow c f n).2.1⟩) k⟩
  |scr v b=>exact q
  |sp f b ds=>exact let⟨l,vs,a,o,h,z⟩:=q;⟨l,vs,a,by rw[bK h];exact o,A.kp l _ h (E.ow l f o).2.1,z.bI (λc u n e=>⟨⟨n.1,n.2.1,by rw[bK e];exact n.2.2⟩,A.kp c u e n.2.1⟩) k⟩
  |gn f g=>exact let⟨v,a,b⟩:=q;⟨v,a,g.mono (λc o n h=>⟨by rw[bK h];exact n,A.kp c o h (E.ow c f n).2.1⟩) (λc o n h _ _=>⟨⟨n.1,by rw[bK h];exact n.2⟩,A.kp c o h n.1⟩) k b⟩
def pH{r:Nat}{k:Kd}{v:V}{d:D}(h:k.le .new=true)(A:At p H0 own H H1)(x:Rp (okK p H0 own H k) H1 v d):Rp (λa=>dz r H H1 own a=some r) H1 v d :=
 (dR A h x).bI (λa o n e=>⟨jk n e,e⟩) λ_ _ e=>e
def fG{r:Nat}(A:At p H0 own H H1):FrS p own H (dz r H H1 own) H1:=⟨λb o h n e=>⟨A.kp b o h n,by rw[bK h];exact e⟩,A.tups⟩
def EnvD.drop(E:EnvD p H0 own σ H ρ):EnvD p H0 own σ H (ρ.set i .any):=by
 refine⟨E.k0,E.pen,E.ow,λj s' e=>?_,↑E.len,E.gr⟩;by_cases a:j=i
 ·subst a;have hl:j<⇑ρ:=by
   have:=(List.getElem?_eq_some_iff.mp e).1;simpa using this
  rw[List.getElem?_set_self hl]at e;cases e;trivial
 ·rw[List.getElem?_set_ne (Ne.symm a)]at e;exact E.slot j s' e
def aX(r:Nat)(own:Addr->Option Nat):Addr->Option Nat:=λa=>if own a=some r then none else own a
def EnvD.clear{r:Nat}(E:EnvD p H0 own σ H ρ)(h:ρ.all (λs=>s.region != some r)=true):EnvD p H0 (aX r own) σ H ρ:=by
 refine⟨E.k0,E.pen,λa q e=>?_,λj s e=>?_,E.len,E.gr⟩
 ·unfold aX at e;split at e
  ·cases e
  ·exact E.ow a q e
 ·have q:=E.slot j s e;have z:=List.all_eq_true.mp h s (List.mem_of_getElem? e);have k:∀a,own a=none->aX r own a=none:=λa n=>by unfold aX;rw[n];simp
  cases s with
  |any=>trivial
  |im d=>exact q
  |sh d=>exact let⟨v,a,b⟩:=q;⟨v,a,b.mono (λc n=>⟨n.1,k c n.2⟩) (λ_ _ _ e=>e) λ_ _ e=>e⟩
  |sn d=>exact let⟨v,a,b⟩:=q;⟨v,a,b.mono (λc n=>⟨n.1,n.2.1,k c n.2.2⟩) (λ_ _ _ e=>e) λ_ _ e=>e⟩
  |dw r' d =>
   have f:r'≠r:=by simpa[Sl.region]using z
   exact let⟨v,a,b⟩:=q;⟨v,a,b.mono (λc n=>by unfold aX;rw[n,dQ ↑f]) (λ_ _ _ e=>e) λ_ _ e=>e⟩
  |pen C=>exact q
  |rw r' L =>
   have f:r'≠r:=by simpa[Sl.region]using z
   exact let⟨st,as,a,b⟩:=q;⟨st,as,a,b.mono (λc o n e=>⟨by unfold aX;rw[n,dQ ↑f],e⟩) λ_ _ e=>e⟩
  |tw r' L =>
   have f:r'≠r:=by simpa[Sl.region]using z
   exact let⟨st,as,a,b⟩:=q;⟨st,as,a,b.mono (λc o n e=>⟨by unfold aX;rw[n,dQ ↑f],e⟩) λ_ _ e=>e⟩
  |scr v b=>exact q
  |sp r' b ds =>
   have f:r'≠r:=by simpa[Sl.region]using z
   exact let⟨l,vs,a,o,h,y⟩:=q;⟨l,vs,a,by unfold aX;rw[o,dQ ↑f],h,y.mono (λc n=>⟨n.1,n.2.1,k c n.2.2⟩) (λ_ _ _ e=>e) λ_ _ e=>e⟩
  |gn r' g =>
   have f:r'≠r:=by simpa[Sl.region]using z
   exact let⟨v,a,b⟩:=q;⟨v,a,g.mono (λc o n e=>⟨by unfold aX;rw[n,dQ ↑f],e⟩) (λc o n e _ _=>⟨⟨n.1,k c n.2⟩,e⟩) (λ_ _ e=>e) b⟩
def gO{r:Nat}:FrS p own H (aX r own) H:=⟨λb o h n e=>⟨h,by unfold aX;rw[e];simp⟩,λ_ _ e=>e⟩
end
def aW{i:Nat}(g:Option Nat)(h:PS X st (rF (bJ te) (jC i))):PDS X st (Mr i g te):=PS.wk' h (by
 rintro Q σ H ⟨p,H0,own,ρ,P,E,t,w⟩;refine⟨p,H0,own,ρ,_,E,t,λk d v H1 h A r=>?_⟩;have r:=aO r;generalize norm k d=m at h r;show Q.nx (σ.set i (some v)) H1;have n:=E.go A.kp A.pen;have b:∀s,gj p H0 own (σ.set i (some v)) H1 i s\/¬i<⇑σ->P.nx (ρ.set i s)->Q.nx (σ.set i (some v)) H1:=λs hs hn =>
  w.nx own _ H1 _ (n.set λhl=>hs.elim id λz=>dS hl z) A.frs hn
 have a:i<⇑σ->(σ.set i (some v))[i]?=some (some v):=λhl=>List.getElem?_set_self hl;by_cases hl:i<⇑σ
 ·cases m with
  |imm=>exact b (.im d) (.inl ⟨v,a hl,r⟩) h
  |new =>
   cases g with
   |none=>exact b (.sn d) (.inl ⟨v,a hl,dR A (k:=.snw) rfl r⟩) h
   |some q =>
    simp only[stK]at h;by_cases f:o7 q ρ i=true
    ·rw[dP f]at h;have j:EnvD p H0 (aX q own) σ H (ρ.set i .any):=(E.drop (i:=i)).clear f;have c:At p H0 (aX q own) H H1:=⟨A.k0,A.kp,A.penb,A.pen,j.ow⟩
     have o:=j.adopt q c;have x:Rp (okK p H0 (aX q own) H .new) H1 v d:=r;have l:EnvD p H0 (dz q H H1 (aX q own)) (σ.set i (some v)) H1 ((ρ.set i .any).set i (.dw q d)):=o.set λ_=>⟨v,a hl,pH (k:=.new) rfl c x⟩
     rw[List.set_set]at l;exact w.nx _ _ H1 _ l (gO.trans (fG c)) h
    ·rw[dQ f]at h;exact h.elim
  |reg q=>exact b (.dw q d) (.inl ⟨v,a hl,r⟩) h
  |n0=>exact h.elim
  |snw=>exact b (.sn d) (.inl ⟨v,a hl,r⟩) h
  |shr=>exact b (.sh d) (.inl ⟨v,a hl,r⟩) h
  |wk=>exact h.elim
 ·cases hs:stK g ρ i m d with
  |none=>rw[hs]at h;exact h.elim
  |some s=>rw[hs]at h;exact b s (.inr hl) h)
end
variable [Gr]
section
variable{ok ok':Addr->Prop}{H:Hp}
mutual
theorem Rp.inj:∀{v:V}{d d':D},Rp ok H v d->Rp ok' H v d'->d=d'
 |_,_,_,.non,.non=>rfl
 |_,_,_,.bl b,.bl _=>rfl
 |_,_,_,.int i,.int _=>rfl
 |_,_,_,.str x,.str _=>rfl
 |_,_,_,.lst o h r,.lst o' h' r'=>by
  rw[h]at h';cases h';rw[Rps.inj r r']
 |_,_,_,.lst o h r,.tup h' r'=>by rw[h]at h';cases h'
 |_,_,_,.lst o h r,.dct o' h' r'=>by rw[h]at h';cases h'
 |_,_,_,.tup h r,.lst o' h' r'=>by rw[h]at h';cases h'
 |_,_,_,.tup h r,.tup h' r'=>by
  rw[h]at h';cases h';rw[Rps.inj r r']
 |_,_,_,.tup h r,.dct o' h' r'=>by rw[h]at h';cases h'
 |_,_,_,.dct o h r,.lst o' h' r'=>by rw[h]at h';cases h'
 |_,_,_,.dct o h r,.tup h' r'=>by rw[h]at h';cases h'
 |_,_,_,.dct o h r,.dct o' h' r'=>by
  rw[h]at h';cases h';rw[Rkv.inj r r']
theorem Rps.inj:∀{v:List V}{d d':ez},Rps ok H v d->Rps ok' H v d'->d=d'
 |_,_,_,.nil,.nil=>rfl
 |_,_,_,.cons h t,.cons h' t'=>by rw[Rp.inj h h',Rps.inj t t']
theorem Rkv.inj:∀{v:List (Key×V)}{d d':List (D×D)},Rkv ok H v d->Rkv ok' H v d'->d=d'
 |_,_,_,.nil,.nil=>rfl
 |_,_,_,.cons h t,.cons h' t'=>by rw[Rp.inj h h',Rkv.inj t t']
end
variable{l:Addr}{T:D}
mutual
theorem Rp.avoid(c:Rp ok' H (.ref l) T):∀{v:V}{d:D},Rp ok H v d->sizeOf d<sizeOf T->Rp (λa=>ok a/\a≠l) H v d
 |_,_,.non,_=>.non
 |_,_,.bl b,_=>.bl b
 |_,_,.int i,_=>.int i
 |_,_,.str x,_=>.str x
 |_,_,.lst (ds:=ds) o h r,s=>.lst ⟨o,λz=>by
   subst z;have e:=Rp.inj (Rp.lst o h r) c;rw[e]at s;exact dS s (Nat.lt_irrefl _)⟩ h (Rps.avoid c r (by simp only[PyData.list.sizeOf_spec]at s;lia))
 |_,_,.tup (ds:=ds) h r,s=>.tup h (Rps.avoid c r (by simp only[PyData.tuple.sizeOf_spec]at s;lia))
 |_,_,.dct (ds:=ds) o h r,s=>.dct ⟨o,λz=>by
   subst z;have e:=Rp.inj (Rp.dct o h r) c;rw[e]at s;exact dS s (Nat.lt_irrefl _)⟩ h (Rkv.avoid c r (by simp only[PyData.dict.sizeOf_spec]at s;lia))
theorem Rps.avoid(b:Rp ok' H (.ref l) T):∀{v:List V}{d:ez},Rps ok H v d->sizeOf d<sizeOf T->Rps (λa=>ok a/\a≠l) H v d
 |_,_,.nil,_=>.nil
 |_,_,.cons h t,s=>.cons (Rp.avoid b h (by simp only[List.cons.sizeOf_spec]at s;lia)) (Rps.avoid b t (by simp only[List.cons.sizeOf_spec]at s;lia))
theorem Rkv.avoid(b:Rp ok' H (.ref l) T):∀{v:List (Key×V)}{d:List (D×D)},Rkv ok H v d->sizeOf d<sizeOf T->Rkv (λa=>ok a/\a≠l) H v d
 |_,_,.nil,_=>.nil
 |_,_,.cons h t,s=>.cons (Rp.avoid b h (by simp only[List.cons.sizeOf_spec,Prod.mk.sizeOf_spec]at s;lia)) (Rkv.avoid b t (by simp only[List.cons.sizeOf_spec]at s;lia))
end
end
def forget(r:Nat)(ρ:List Sl):List Sl:=ρ.map λs=>if s.region=some r then .any else s
section
variable{p:Pn}{H0 H H1:Hp}{own:Addr->Option Nat}{σ:L2.St}{ρ:List Sl}{i:Nat}
def EnvD.write{r:Nat}{l:Addr}{u o':HO}(E:EnvD p H0 own σ H ρ)(hl:own l=some r)(A:H l=some u)(hu:∀xs,u≠.tup xs)(hc:¬Fxd u:=by rintro⟨_,_,z⟩;cases z):EnvD p H0 own σ (upd H l o') (forget r ρ):=by
 have w:=E.ow l r hl;have t:∀a xs,H a=some (.tup xs)->upd H l o' a=some (.tup xs):=λa xs e=>by
  rw[ao];exact e;intro z;subst z;rw[A]at e;exact hu xs (Option.some.inj e)
 refine⟨λb o e n=>?_,p.mono H _ E.pen λb o f e=>?_,λa q e=>?_,λj s e=>?_,by unfold forget;rw[List.length_map];exact E.len,E.gr⟩
 ·rw[ao];exact E.k0 b o e n;intro z;subst z;rw[w.1]at e;cases e
 ·rw[ao];exact e;intro z;subst z;exact f.elim w.2.1 λc=>hc (by rw[A]at e;cases e;exact c)
 ·let⟨x,y,z⟩:=E.ow a q e;refine⟨x,y,?_⟩;by_cases hh:a=l
  ·subst hh;rw[aB];exact λz=>nomatch z
  ·rw[ao hh];exact z
 ·unfold forget at e;rw[List.getElem?_map]at e;cases hr:ρ[j]? with
  |none=>rw[hr]at e;cases e
  |some s0 =>
   rw[hr]at e;have e:=Option.some.inj e;have q:=E.slot j s0 hr;have m:∀c,own c≠some r->c≠l:=λc n z=>by subst z;exact n hl
   cases s0 with
   |any=>simp only[Sl.region]at e;subst e;trivial
   |im d =>
    have e:Sl.im d=s:=e;subst e;exact let⟨v,a,b⟩:=q;⟨v,a,b.mono (λ_ o=>o) (λ_ _ o=>o.elim) t⟩
   |sh d =>
    have e:Sl.sh d=s:=e;subst e;exact let⟨v,a,b⟩:=q;⟨v,a,b.mono (λ_ o=>o) (λc o n e=>by rw[ao (m c (by rw[n.2];exact λz=>nomatch z))];exact e) t⟩
   |sn d =>
    have e:Sl.sn d=s:=e;subst e;exact let⟨v,a,b⟩:=q;⟨v,a,b.mono (λ_ o=>o) (λc o n e=>by rw[ao (m c (by rw[n.2.2];exact λz=>nomatch z))];exact e) t⟩
   |dw r' d =>
    by_cases k:r'=r
    ·subst k;have e:(if(some r':Option Nat)=some r' then Sl.any else Sl.dw r' d)=s:=e;rw[dP rfl]at e;subst e;trivial
    ·have e:(if(some r':Option Nat)=some r then Sl.any else Sl.dw r' d)=s:=e;rw[dQ ↑k]at e;subst e;exact let⟨v,a,b⟩:=q;⟨v,a,b.mono (λ_ o=>o) (λc o n e=>by rw[ao (m c (by rw[n];simpa using k))];exact e) t⟩
   |pen C =>
    have e:Sl.pen C=s:=e;subst e;exact q
   |scr v b =>
    have e:Sl.scr v b=s:=e;subst e;exact q
   |sp r' b ds =>
    by_cases k:r'=r
    ·subst k;have e:(if(some r':Option Nat)=some r' then Sl.any else Sl.sp r' b ds)=s:=e;rw[dP rfl]at e;subst e;trivial
    ·have e:(if(some r':Option Nat)=some r then Sl.any else Sl.sp r' b ds)=s:=e;rw[dQ ↑k]at e;subst e;exact let⟨l',vs,a,o,h,y⟩:=q;⟨l',vs,a,o,by rw[ao (m l' (by rw[o];simpa using k))];exact h,y.mono (λ_ o=>o) (λc o n e=>by rw[ao (m c (by rw[n.2.2];exact λz=>nomatch z))];exact e) t⟩
   |rw r' L =>
    by_cases k:r'=r
    ·subst k;have e:(if(some r':Option Nat)=some r' then Sl.any else Sl.rw r' L)=s:=e;rw[dP rfl]at e;subst e;trivial
    ·have e:(if(some r':Option Nat)=some r then Sl.any else Sl.rw r' L)=s:=e;rw[dQ ↑k]at e;subst e;exact let⟨st,as,a,b⟩:=q;⟨st,as,a,b.mono (λc o n e=>⟨n,by rw[ao (m c (by rw[n];simpa using k))];exact e⟩) t⟩
   |tw r' L =>
    by_cases k:r'=r
    ·subst k;have e:(if(some r':Option Nat)=some r' then Sl.any else Sl.tw r' L)=s:=e;rw[dP rfl]at e;subst e;trivial
    ·have e:(if(some r':Option Nat)=some r then Sl.any else Sl.tw r' L)=s:=e;rw[dQ ↑k]at e;subst e;exact let⟨st,as,a,b⟩:=q;⟨st,as,a,b.mono (λc o n e=>⟨n,by rw[ao (m c (by rw[n];simpa using k))];exact e⟩) t⟩
   |gn r' g =>
    by_cases k:r'=r
    ·subst k;have e:(if(some r':Option Nat)=some r' then Sl.any else Sl.gn r' g)=s:=e;rw[dP rfl]at e;subst e;trivial
    ·have e:(if(some r':Option Nat)=some r then Sl.any else Sl.gn r' g)=s:=e;rw[dQ ↑k]at e;subst e;exact let⟨v,a,b⟩:=q;⟨v,a,g.mono (λc o n e=>⟨n,by rw[ao (m c (by rw[n];simpa using k))];exact e⟩) (λc o n e _ _=>⟨n,by rw[ao (m c (by rw[n.2];exact λz=>nomatch z))];exact e⟩) t b⟩
def gG{r:Nat}{l:Addr}{u o':HO}(hl:own l=some r)(c:H l=some u)(hu:∀xs,u≠.tup xs):FrS p own H own (upd H l o'):=by
 refine⟨λb o h n e=>⟨?_,e⟩,λa xs e=>?_⟩
 ·rw[ao];exact h;intro z;subst z;rw[hl]at e;cases e
 ·rw[ao];exact e;intro z;subst z;rw[c]at e;exact hu xs (Option.some.inj e)
def EnvD.put{v:V}{s:Sl}(E:EnvD p H0 own σ H ρ)(hs:gj p H0 own σ H i s):EnvD p H0 own σ H (ρ.set i s):=by
 refine⟨E.k0,E.pen,E.ow,λj s' e=>?_,↑E.len,E.gr⟩;by_cases a:j=i
 ·subst a;have hl:j<⇑ρ:=by
   have:=(List.getElem?_eq_some_iff.mp e).1;simpa using this
  rw[List.getElem?_set_self hl]at e;cases e;exact hs
 ·rw[List.getElem?_set_ne (Ne.symm a)]at e;exact E.slot j s' e
def EnvD.Jh{r:Nat}{l:Addr}{vs vs':List V}{ds ds':ez}(E:EnvD p H0 own σ H ρ)(A:At p H0 own H H1)(hv:σ[i]?=some (some (.ref l)))(hl:own l=some r)(c:H l=some (.lst vs))(h:Rps (λa=>own a=some r) H vs ds)(hs:∀H2,(∀{w:V}{d:D},Rp (λa=>own a=some r) H w d->sizeOf d<sizeOf (PyData.list ds)->Rp (λa=>dz r H H1 own a=some r) H2 w d)->(∀{w:V}{d:D},Rp (okK p H0 own H .new) H1 w d->Rp (λa=>dz r H H1 own a=some r) H2 w d)->Rps (λa=>dz r H H1 own a=some r) H2 vs' ds') :
  EnvD p H0 (dz r H H1 own) σ (upd H1 l (.lst vs')) ((forget r ρ).set i (.dw r (.list ds')))/\FrS p own H (dz r H H1 own) (upd H1 l (.lst vs')):=by
 have h1:H1 l=some (.lst vs):=A.kp l _ c (E.ow l r hl).2.1;have b:dz r H H1 own l=some r:=by rw[bK c];exact hl
 have g:=(E.adopt r A).write (o':=.lst vs') b h1 (λxs z=>nomatch z);have f:∀a xs,H1 a=some (.tup xs)->upd H1 l (.lst vs') a=some (.tup xs):=λa xs e=>by
  rw[ao];exact e;intro z;subst z;rw[h1]at e;cases e
 refine⟨g.put (v:=.ref l) ⟨.ref l,hv,.lst b aB (hs _ ?_ ?_)⟩,(fG A).trans (gG b h1 λxs z=>nomatch z)⟩
 ·intro w d x j;have k:=Rp.avoid (Rp.lst (ok:=λa=>own a=some r) hl c h) x j;exact k.bI (λa o n e=>⟨by rw[bK e];exact n.1,by rw[ao n.2];exact A.kp a o e (E.ow a r n.1).2.1⟩) λa xs e=>f a xs (jx E.at A.kp a xs e)
 ·intro w d x;exact x.bI (λa o n e=>⟨jk n e,by rw[ao (λz=>by subst z;rw[c]at n;cases n)];exact e⟩) f
end
section
variable{pos:Pos}{st:ZF}{e:Zt}{te:DE}{i:Nat}{ta:DA}
def vg{d:D}{ds:ez}(h:d∈ds):sizeOf d<sizeOf (PyData.list ds):=by
 have:=List.sizeOf_lt_of_mem h;simp only[PyData.list.sizeOf_spec];lia
theorem v9{ok ok':Addr->Prop}{H a:Hp}{T:D}(f:∀{w:V}{d:D},Rp ok H w d->sizeOf d<sizeOf T->Rp ok' a w d):∀{vs:List V}{ds:ez},Rps ok H vs ds->(∀d∈ds,sizeOf d<sizeOf T)->Rps ok' a vs ds
 |_,_,.nil,_=>.nil
 |_,_,.cons h t,s=>.cons (f h (s _ List.mem_cons_self)) (v9 f t λd hd=>s d (List.mem_cons_of_mem _ hd))
def UL(i:Nat)(te:DE):DS:=λP ρ=>match ρ[i]? with
 |some (.dw r (.list ds))=>te ρ λk d=>(norm k d).le .new=true/\⇑ds<1000/\P.nx ((forget r ρ).set i (.dw r (.list (ds++[d]))))
 |_=>False
def ji(h:PS X st (vf (tBM X.K "list" nG (jJ i) (kh (iz te nj))))):PDS X st (UL i te):=PS.wk' h (by
 rintro Q σ H ⟨p,H0,own,ρ,P,E,t,w⟩;unfold UL at t;split at t
 ·rename_i r ds hr;let⟨v,hv,x⟩:=E.slot i _ hr;let⟨l,vs,rfl,hl,b,c⟩:=x.dh;refine⟨.ref l,hv,.inl ⟨rfl,vs,SqL.of b⟩,p,H0,own,ρ,λks=>∃k d,ks=[(k,d)]/\(norm k d).le .new=true/\⇑ds<1000/\P.nx ((forget r ρ).set i (.dw r (.list (ds++[d])))),E,?_,?_⟩
  ·show te ρ λk d=>∃a d',[(k,d)]=[(a,d')]/\_;have e:(λk d=>∃a d',[((k,d):Kd×D)]=[(a,d')]/\(norm a d').le .new=true/\⇑ds<1000/\P.nx ((forget r ρ).set i (.dw r (.list (ds++[d'])))))=λk d=>(norm k d).le .new=true/\⇑ds<1000/\P.nx ((forget r ρ).set i (.dw r (.list (ds++[d])))):=by
    funext k d;apply propext;constructor
    ·rintro⟨a,d',e,h⟩;cases e;exact h
    ·exact λh=>⟨k,d,rfl,h⟩
   rw[e];exact t
  ·rintro ks B q ⟨k,d,rfl,hk,m,hn⟩ A z;let⟨y,rfl,j⟩:=jd z;have j:=dR A hk (aO j);have h1:q l=some (.lst vs):=A.kp l _ b (E.ow l r hl).2.1;have s:=Ym;have u:=⇑c;refine⟨l,vs,y,rfl,rfl,h1,(),?_⟩;let⟨n,o⟩:=E.Jh (vs':=vs++[y]) (ds':=ds++[d]) A hv hl b c λH2 f g=>(v9 f c λd hd=>vg hd).snoc (g j);exact w.nx _ σ _ _ n o hn
 ·exact t.elim)
end
variable [Gr]
abbrev DG:=Kd->D->List Sl->(List Sl->Prop)->Prop
abbrev DGs:=Kd->ez->List Sl->(List Sl->Prop)->Prop
def xW(k:Kd)(d:D):Sl:=match k with
 |.imm=>.im d
 |.new=>.sn d
 |.reg r=>.dw r d
 |.snw=>.sn d
 |.shr=>.sh d
 |_=>.any
def okB(p:Pn)(H0:Hp)(own:Addr->Option Nat):Kd->Addr->Prop
 |.imm=>λ_=>False
 |.new=>λa=>H0 a=none/\¬p.fp a/\own a=none
 |.reg r=>λa=>own a=some r
 |.snw=>λa=>H0 a=none/\¬p.fp a/\own a=none
 |.shr=>λa=>¬p.fp a/\own a=none
 |.n0=>λ_=>True
 |.wk=>λ_=>True
def KZ(g:DG):TG:=λv σ H Q=>∃p H0 own ρ k d P,EnvD p H0 own σ H ρ/\Rp (okB p H0 own k) H v d/\g k d ρ P/\∀σ' ρ',EnvD p H0 own σ' H ρ'->P ρ'->Q σ' H
def tH(g:DGs):TGs:=λvs σ H Q=>∃p H0 own ρ k ds P,EnvD p H0 own σ H ρ/\Rps (okB p H0 own k) H vs ds/\g k ds ρ P/\∀σ' ρ',EnvD p H0 own σ' H ρ'->P ρ'->Q σ' H
abbrev PDG(X:Cx)(e:Zt)(g:DG):Prop:=PG X e (KZ g)
def PG.wk{X:Cx}{e:Zt}{t t':TG}(h:PG X e t)(w:∀v σ H Q,t' v σ H Q->t v σ H Q):PG X e t':=λpins s σ H v u Q I r q=>h pins s σ H v u Q I r (w v σ H Q q)
def PGs.wk{X:Cx}{e:List Zt}{t t':TGs}(h:PGs X e t)(w:∀v σ H Q,t' v σ H Q->t v σ H Q):PGs X e t':=λpins s σ H v u Q I r q=>h pins s σ H v u Q I r (w v σ H Q q)
def jP{p:Pn}{H0 H:Hp}{own:Addr->Option Nat}{k:Kd}{v:V}{d:D}(r:Rp (okB p H0 own k) H v d):Rp (okB p H0 own (norm k d)) H v d:=by
 by_cases h:eV d=true
 ·rw[eU h];exact r.imm h
 ·rw[nZ h];exact r
section
variable{pos:Pos}{e:Zt}{es:List Zt}
def gNm(i:Nat):DG:=λk d ρ P=>P (ρ.set i (xW (norm k d) d))
def IV{p:Pn}{H0 H:Hp}{own:Addr->Option Nat}{σ:L2.St}{i:Nat}{k:Kd}{v:V}{d:D}(r:Rp (okB p H0 own k) H v d)(h:σ[i]?=some (some v)):gj p H0 own σ H i (xW k d):=by
 cases k with
 |imm=>exact⟨v,h,r⟩
 |new=>exact⟨v,h,r⟩
 |reg q=>exact⟨v,h,r⟩
 |n0=>trivial
 |snw=>exact⟨v,h,r⟩
 |shr=>exact⟨v,h,r⟩
 |wk=>trivial
def aH{i:Nat}{x:Str}(h:PG X (.Name x pos) (jC i)):PDG X (.Name x pos) (gNm i):=PG.wk h (by
 rintro v σ H Q ⟨p,H0,own,ρ,k,d,P,E,r,t,q⟩;exact q _ _ (E.set λhl=>IV (jP r) (List.getElem?_set_self hl)) t)
def Lf:DGs:=λ_ ds ρ P=>match ds with
 |[]=>P ρ
 |_=>False
def wU(g:DG)(a:DGs):DGs:=λk ds ρ P=>match ds with
 |d::r=>g (norm k d) d ρ λρ'=>a k r ρ' P
 |[]=>False
theorem iQ:PGs X [] (tH Lf):=PGs.wk Dv (by
 rintro v σ H Q ⟨p,H0,own,ρ,k,ds,P,E,r,t,q⟩;cases ds with
 |nil=>cases r;exact⟨rfl,q _ _ E t⟩
 |cons d ds=>exact t.elim)
def cD{g:DG}{a:DGs}(h1:PDG X e g)(h2:PGs X es (tH a))(hs:(ZU (e::es) X.env).map (·.2)=ZR e X.env::(ZU es X.env).map (·.2):=by rfl):PGs X (e::es) (tH (wU g a)):=PGs.wk (rO h1 h2 hs) (by
 rintro v σ H Q ⟨p,H0,own,ρ,k,ds,P,E,r,t,q⟩;cases r with
 |nil=>exact t.elim
 |cons r rs =>
  exact⟨_,_,rfl,p,H0,own,ρ,_,_,_,E,jP r,t,λσ' ρ' E' t'=>⟨p,H0,own,ρ',k,_,P,E',rs,t',q⟩⟩)
def gTp(n:Nat)(a:DGs):DG:=λk d ρ P=>match d with
 |.tuple ds=>⇑ds=n/\a k ds ρ P
 |_=>False
def lA{b:DGs}{k n:Nat}(hc:X.calm=true)(h:PGs X es (tH b))(hn:⇑(ZU es X.env)=n:=by rfl)(hst:(ZU es X.env).findIdx? (·.1)=none:=by rfl):PDG X (.Tuple es k pos) (gTp n b):=PG.wk (JL hc h hn hst) (by
 rintro v σ H Q ⟨p,H0,own,ρ,k,d,P,E,r,t,q⟩;cases d with
 |tuple ds =>
  let⟨a,vs,rfl,ha,c⟩:=r.dU;exact⟨a,vs,rfl,SqT.of ha,by rw[⇑c];exact t.1,p,H0,own,ρ,k,ds,P,E,c,t.2,q⟩
 |_=>exact t.elim)
end
structure Wlk(Ok:Hp->Prop)(J:It)(ds:ez)(ok:Addr->Prop):Prop where
 go:∀i H,Ok H->i<⇑ds->J.go i H
 stop:∀H,Ok H->J.stop ⇑ds H
 yld:∀i H x H',Ok H->J.yld i H x H'->Same H H'/\∀d,ds[i]?=some d->Rp ok H' x d
 stab:∀H H',Ok H->(∀b o,ok b->H b=some o->H' b=some o)->(∀a xs,H a=some (.tup xs)->H' a=some (.tup xs))->Ok H'
abbrev DI:=List Sl->(Kd->ez->Prop)->Prop
def okA(p:Pn)(H0:Hp)(own:Addr->Option Nat)(b:Hp)(k:Kd)(H:Hp)(a:Addr):Prop:=okK p H0 own b k a/\∃o,H a=some o
def KY(t:DI):TI:=λσ H R=>∃p H0 own ρ P,EnvD p H0 own σ H ρ/\t ρ P/\∀k ds J H1 Ok,P k ds->At p H0 own H H1->Wlk Ok J ds (okA p H0 own H k H1)->Ok H1->R J H1
abbrev PDI(X:Cx)(tg e:Zt)(t:DI):Prop:=PI X tg e (KY t)
def PI.wk{X:Cx}{a e:Zt}{t t':TI}(h:PI X a e t)(w:∀σ H R,t' σ H R->t σ H R):PI X a e t':=λpins s σ H R I q=>h pins s σ H R I (w σ H R q)
section
variable{tg l:Zt}{tl:DE}{pos:Pos}{ta:DA}
def Ih{K:W.Frag}{ok:Addr->Prop}{a:Addr}{ds:ez}:Wlk (λH=>Rp ok H (.ref a) (.list ds)) (Itl K a) ds ok where
 go:=λi H r hi=>by
  let⟨b,vs,e,o,h,rs⟩:=r.dh;cases e;have:i<⇑vs:=by rw[⇑rs];exact hi
  exact⟨vs,vs[i],SqL.of h,by simp[this]⟩
 stop:=λH r=>by
  let⟨b,vs,e,o,h,rs⟩:=r.dh;cases e;exact⟨vs,SqL.of h,by rw[⇑rs];exact Nat.le_refl _⟩
 yld:=λi H x H' r y=>by
  let⟨rfl,y⟩:=y;let⟨b,vs,e,o,h,rs⟩:=r.dh;cases e;refine⟨Same.refl _,λd hd=>?_⟩;let⟨v,hv,rv⟩:=rs.getD hd;have:=y vs (SqL.of h);rw[hv]at this;cases this;exact rv
 stab:=λH H' r f t=>r.bI (λa o n e=>⟨n,f a o n e⟩) t
def Ib{K:W.Frag}{ok:Addr->Prop}{a:Addr}{ds:ez}:Wlk (λH=>Rp ok H (.ref a) (.tuple ds)) (Itt K a) ds ok where
 go:=λi H r hi=>by
  let⟨b,vs,e,h,rs⟩:=r.dU;cases e;have:i<⇑vs:=by rw[⇑rs];exact hi
  exact⟨vs,vs[i],SqT.of h,by simp[this]⟩
 stop:=λH r=>by
  let⟨b,vs,e,h,rs⟩:=r.dU;cases e;exact⟨vs,SqT.of h,by rw[⇑rs];exact Nat.le_refl _⟩
 yld:=λi H x H' r y=>by
  let⟨rfl,y⟩:=y;let⟨b,vs,e,h,rs⟩:=r.dU;cases e;refine⟨Same.refl _,λd hd=>?_⟩;let⟨v,hv,rv⟩:=rs.getD hd;have:=y vs (SqT.of h);rw[hv]at this;cases this;exact rv
 stab:=λH H' r f t=>r.bI (λa o n e=>⟨n,f a o n e⟩) t
def Ie{ok:Addr->Prop}{lo:Int}{n:Nat}:Wlk (λ_=>True) (Itr lo n) ((List.range n).map λi=>PyData.int (lo+~~~i)) ok where
 go:=λi H r hi=>by
  have h:i<n:=↑hi
  exact h
 stop:=λH r=>by show n<=_;simp
 yld:=λi H x H' r y=>by
  let⟨rfl,rfl⟩:=y;refine⟨Same.refl _,λd hd=>?_⟩;rw[List.getElem?_map]at hd;cases h:(List.range n)[i]? with
  |none=>rw[h]at hd;cases hd
  |some j =>
   rw[h]at hd;have e:=Option.some.inj hd;have hj:j=i:=by
    have:=List.getElem?_eq_some_iff.mp h;let⟨h1,h2⟩:=this;simpa using h2.symm
   subst e hj;exact .int _
 stab:=λ_ _ _ _ _=>trivial
def rpA{p:Pn}{H0 b H:Hp}{own:Addr->Option Nat}{k:Kd}{v:V}{d:D}(r:Rp (okK p H0 own b k) H v d):Rp (okA p H0 own b k H) H v d:=r.bI (λa o n e=>⟨⟨n,o,e⟩,e⟩) λ_ _ e=>e
def iSq(tl:DE):DI:=λρ P=>tl ρ λk d=>match d with
 |.list ds=>P k ds
 |.tuple ds=>P k ds
 |_=>False
theorem bW(hl:PD X l tl):PDI X tg l (iSq tl):=PI.wk (Ss hl) (by
 rintro σ H R ⟨p,H0,own,ρ,P,E,t,q⟩;refine⟨p,H0,own,ρ,_,E,t,λk d v H1 h A r=>?_⟩;cases d with
 |list ds =>
  let⟨a,vs,rfl,o,ha,b⟩:=r.dh;exact⟨a,rfl,.inl ⟨⟨vs,SqL.of ha⟩,q k ds _ H1 _ h A Ih (rpA r)⟩⟩
 |tuple ds =>
  let⟨a,vs,rfl,ha,b⟩:=r.dU;exact⟨a,rfl,.inr ⟨⟨vs,SqT.of ha⟩,q k ds _ H1 _ h A Ib (rpA r)⟩⟩
 |_=>exact h.elim)
def bA(lo:Int)(n:Nat):ez:=(List.range n).map λi=>PyData.int (lo+~~~i)
def iR1(ta:DA):DI:=λρ P=>ta ρ λks=>match ks with
 |[(_,.int j)]=>(-(2 ^ 62)<=j/\j<2 ^ 62)/\P .imm (bA 0 j.toNat)
 |_=>False
def cZ{a:Zt}{ps:Pos}(hm:X.mg "range"=none)(ha:PDA X [a] ta)(hg:Gl X "range":=by rfl)(hs:Zu [a] X.env=[(false,Zv a X.env)]:=by rfl):PDI X tg (.Call (.Name "range" ps) [a] [] pos) (iR1 ta):=PI.wk (Gs hg hm ha hs) (by
 rintro σ H R ⟨p,H0,own,ρ,P,E,t,q⟩;refine⟨p,H0,own,ρ,_,E,t,λks vs H1 h A r=>?_⟩;split at h
 ·rename_i k j;let⟨v,rfl,b⟩:=jd r;exact⟨j,by rw[b.int'],h.1.1,h.1.2,q _ _ _ H1 _ h.2 A Ie trivial⟩
 ·exact h.elim)
def o8(ds:ez):ez:=ds.zipIdx.map λx=>PyData.tuple [.int (~~~x.2),x.1]
def jh{ds:ez}{i:Nat}:(o8 ds)[i]?=(ds[i]?).map λd=>PyData.tuple [.int (~~~i),d]:=by
 unfold o8;rw[List.getElem?_map,List.getElem?_zipIdx];cases ds[i]? with
 |none=>rfl
 |some d=>simp
def gM{ds:ez}:⇑(o8 ds)=⇑ds:=by unfold o8;simp
def Gd{K:W.Frag}{ok:Addr->Prop}{a:Addr}{ds:ez}:Wlk (λH=>Rp ok H (.ref a) (.tuple ds)) (Ite K a) (o8 ds) ok where
 go:=λi H r hi=>by
  let⟨b,vs,e,h,rs⟩:=r.dU;cases e;have:i<⇑vs:=by rw[⇑rs];rw[gM]at hi;exact hi
  exact⟨vs,vs[i],SqT.of h,by simp[this]⟩
 stop:=λH r=>by
  let⟨b,vs,e,h,rs⟩:=r.dU;cases e;exact⟨vs,SqT.of h,by rw[⇑rs,gM];exact Nat.le_refl _⟩
 yld:=λi H x H' r y=>by
  let⟨t,v,rfl,ht,rfl,y⟩:=y;have sm:Same H (upd H t (.tup [.int i,v])):=λb u q=>by rw[ao (au q ht)];exact q
  refine⟨sm,λd hd=>?_⟩;let⟨b,vs,e,h,rs⟩:=r.dU;cases e;rw[jh]at hd;cases he:ds[i]? with
  |none=>rw[he]at hd;cases hd
  |some d0 =>
   rw[he]at hd;have e:=Option.some.inj hd;subst e;let⟨v',hv,rv⟩:=rs.getD he;have:=y vs (SqT.of h);rw[hv]at this;cases this;exact .tup aB (.cons (.int _) (.cons (rv.mono (λ_ o=>o) (λa o _ e=>sm a o e) λa xs e=>sm a _ e) .nil))
 stab:=λH H' r f t=>r.bI (λa o n e=>⟨n,f a o n e⟩) t
def iEn(ta:DA):DI:=λρ P=>ta ρ λks=>match ks with
 |[(k,.tuple ds)]=>P k (o8 ds)
 |_=>False
def pB{elts:List Zt}{kk:Nat}{b:Pos}{a:Zt}{ps:Pos}(hm:X.mg "enumerate"=none)(ha:PDA X [a] ta)(hg:Gl X "enumerate":=by rfl)(hs:Zu [a] X.env=[(false,Zv a X.env)]:=by rfl):PDI X (.Tuple elts kk b) (.Call (.Name "enumerate" ps) [a] [] pos) (iEn ta):=PI.wk (Oj hg hm ha hs) (by
 rintro σ H R ⟨p,H0,own,ρ,P,E,t,q⟩;refine⟨p,H0,own,ρ,_,E,t,λks vs H1 h A r=>?_⟩;split at h
 ·rename_i k ds;let⟨v,rfl,c⟩:=jd r;let⟨a,vs,e,ha,d⟩:=Rp.dU c;subst e;exact⟨a,rfl,⟨vs,SqT.of ha⟩,q k _ _ H1 _ h A Gd (rpA c)⟩
 ·exact h.elim)
end
variable [Gr]
def elK:Kd->Kd
 |.new=>.snw
 |k=>k
section
variable{tg iter:Zt}{pos:Pos}{body:List ZF}{ti:DI}{g:DG}{tb:DS}
def Uz(ti:DI)(g:DG)(tb:DS):DS:=λP ρ=>ti ρ λk ds=>k.le .shr=true/\∃Iv:Nat->List Sl->Prop,Iv 0 ρ /\
 (∀i d ρ',ds[i]?=some d->Iv i ρ'->g (norm (elK k) d) d ρ' λρ2=>tb { nx:=Iv (i+1),ct:=Iv (i+1),bk:=P.nx,rt:=P.rt } ρ2)/\∀ρ',Iv ⇑ds ρ'->P.nx ρ'
def Wb{p:Pn}{H0 i c H':Hp}{own own':Addr->Option Nat}{k:Kd}(hk:k.le .shr=true)(A:At p H0 own i c)(F:FrS p own c own' H'){v:V}{d:D}{h:Hp}(r:Rp (okA p H0 own i k c) h v d):Rp (okB p H0 own' (elK k)) h v d:=by
 refine r.mono (λa n=>?_) (λ_ _ _ e=>e) λ_ _ e=>e;let⟨o,u,hu⟩:=n;have b:¬p.fp a/\own a=none:=dH A (k:=.shr) hk o;have f:=(F.keep a u hu b.1 b.2).2;cases k with
 |imm=>exact o
 |new=>exact⟨A.h0 o,b.1,f⟩
 |reg q=>cases hk
 |n0=>cases hk
 |snw=>exact⟨o.1,b.1,f⟩
 |shr=>exact⟨b.1,f⟩
 |wk=>cases hk
def d7(hp:ZY (model X.prog X.w) X.A X.env X.xe)(hc:X.calm=true)(hi:PDI X tg iter ti)(hg:PDG X tg g)(hb:nq X body tb)(hs:zF X iter:=by intro _;rfl):PDS X (.For tg iter body [] pos) (Uz ti g tb):=PS.wk' (Sh hp hc hi hg hb hs) (by
 rintro Q σ H ⟨p,H0,own,ρ,P,E,t,w⟩;refine⟨p,H0,own,ρ,_,E,t,λk ds J H1 Ok h A W o1=>?_⟩;let⟨hk,v,O,step,l⟩:=h;have M:=w.go A.frs;have okS:∀own' H',FrS p own H1 own' H'->Ok H':=λown' H' F=>W.stab H1 H' o1 (λb o n e=>by
  have L:¬p.fp b/\own b=none:=dH A (k:=.shr) hk n.1;exact(F.keep b o e L.1 L.2).1) F.tup
 refine⟨λi m j H'=>m=⇑ds - i/\i<=⇑ds/\∃own' c,EnvD p H0 own' j H' c/\FrS p own H1 own' H'/\v i c,⟨_,rfl,Nat.zero_le _,own,ρ,E.go A.kp A.pen,FrS.refl,O⟩,?_⟩;rintro i m j H' ⟨rfl,hi,own',c,C,u,K⟩;have G:=okS own' H' u;by_cases d:i<⇑ds
 ·refine .inr ⟨W.go i H' G d,λσ2 H2=>∃own' c,EnvD p H0 own' σ2 H2 c/\FrS p own H1 own' H2/\v (i+1) c,λσ2 H2 h=>⟨_,(),rfl,d,h⟩,λx H2 y=>?_⟩;let⟨B,I⟩:=W.yld i H' x H2 G y;have I:=I ds[i] (List.getElem?_eq_getElem d);have N:EnvD p H0 own' j H2 c:=C.go (Kp.of B) (p.mono H' H2 C.pen λb o _ e=>B b o e);have D:FrS p own H1 own' H2:=⟨λb o e n z=>let⟨x,y⟩:=u.keep b o e n z;⟨B b o x,y⟩,λa xs e=>B a _ (u.tup a xs e)⟩
  refine⟨p,H0,own',c,_,_,_,N,jP (Wb hk A D I),step i ds[i] c (List.getElem?_eq_getElem d) K,λσ3 ρ3 E3 t3=>?_⟩;have q:∀own4 σ4 H4 ρ4,EnvD p H0 own4 σ4 H4 ρ4->FrS p own' H2 own4 H4->v (i+1) ρ4->∃own' c,EnvD p H0 own' σ4 H4 c/\FrS p own H1 own' H4/\v (i+1) c:=λown4 σ4 H4 ρ4 E4 F4 v4=>⟨own4,ρ4,E4,D.trans F4,v4⟩
  exact⟨p,H0,own',ρ3,_,E3,t3,⟨q,w.rt,λo s h r e f n=>M.nx o s h r e (D.trans f) n,q⟩⟩
 ·have e:i=⇑ds:=()
  subst e;exact .inl ⟨W.stop H' G,M.nx own' j H' c C u (l c K)⟩)
def Mq(a:DT)(tb:DS):DS:=λP ρ=>∃Iv:Nat->List Sl->Prop,(∃m,Iv m ρ)/\∀m ρ',Iv m ρ'->a ρ' λb =>
 if b=true then tb { nx:=λρ2=>∃m',m'<m/\Iv m' ρ2,ct:=λρ2=>∃m',m'<m/\Iv m' ρ2,bk:=P.nx,rt:=P.rt } ρ' else P.nx ρ'
theorem uo{c:Zt}{t:DT}(hp:ZY (model X.prog X.w) X.A X.env X.xe)(hc:PDT X c t)(hb:nq X body tb):PDS X (.While c body [] pos) (Mq t tb):=PS.wk' (Jz hp hc hb) (by
 rintro Q σ H ⟨p,H0,own,ρ,P,E,⟨i,⟨m,v⟩,step⟩,w⟩;refine⟨λm σ' H'=>∃own' ρ',EnvD p H0 own' σ' H' ρ'/\FrS p own H own' H'/\i m ρ',⟨m,own,ρ,E,FrS.refl,v⟩,?_⟩;rintro m q y ⟨a,d,k,u,x⟩;refine⟨p,H0,a,d,_,k,step m d x,λb H2 h A=>?_⟩;have l:=u.trans A.frs;cases b with
 |true =>
  refine bC ⟨λσ' H'=>∃m',m'<m/\∃own' ρ',EnvD p H0 own' σ' H' ρ'/\FrS p own H own' H'/\i m' ρ',λσ' H' h=>h,?_⟩;have j:∀own4 σ4 H4 ρ4,EnvD p H0 own4 σ4 H4 ρ4->FrS p a H2 own4 H4->(∃m',m'<m/\i m' ρ4)->∃m',m'<m/\∃own' ρ',EnvD p H0 own' σ4 H4 ρ'/\FrS p own H own' H4/\i m' ρ':=λown4 σ4 H4 ρ4 E4 F4 ⟨m',hm,v4⟩=>⟨m',hm,own4,ρ4,E4,l.trans F4,v4⟩
  exact⟨p,H0,a,d,{ nx:=λρ2=>∃m',m'<m/\i m' ρ2,ct:=λρ2=>∃m',m'<m/\i m' ρ2,bk:=P.nx,rt:=P.rt },k.go A.kp A.pen,↑h,⟨j,w.rt,λo s h r e f n=>w.nx o s h r e (l.trans f) n,j⟩⟩
 |false=>exact bw (w.nx a q H2 d (k.go A.kp A.pen) l ↑h))
end
def EnvD.comp{p:Pn}{H0 H:Hp}{own:Addr->Option Nat}{σ:L2.St}{ρ:List Sl}(n:Nat)(E:EnvD p H0 own σ H ρ):EnvD p H0 own (List.replicate n none++σ) H (List.replicate n .any++ρ):=by
 refine⟨E.k0,E.pen,E.ow,λj s e=>?_,by simp[E.len],E.gr⟩;by_cases a:j<n
 ·rw[List.getElem?_append_left ↑a]at e;have:s=.any:=by
   rw[List.getElem?_replicate]at e;rw[dP a]at e;exact(Option.some.inj e).symm
  subst this;trivial
 ·have b:(List.replicate n Sl.any++ρ)[j]?=ρ[j - n]?:=by rw[List.getElem?_append_right ↑a];simp
  have c:(List.replicate n (none:Option V)++σ)[j]?=σ[j - n]?:=by rw[List.getElem?_append_right ↑a];simp
  rw[b]at e;have q:=E.slot _ s e;cases s <;> simp only[gj,c]at q ⊢ <;> exact q
abbrev HN(X:Cx)(es:List Zt)(t:DT):Prop:=PTs X es (liftT t)
def cM{X:Cx}:HN X [] (λ_ P=>P true):=λpins s σ H Q I h=>by
 let⟨p,H0,own,ρ,P,E,t,q⟩:=h;exact Od pins s σ H Q I (q true H t E.at)
def fU{X:Cx}{c:Zt}{t:DT}(hc:PDT X c t):HN X [c] t:=Oc hc
def elC(k:Kd):Kd:=elK k
def dLC(n:Nat)(c:DI)(g:DG)(e:DT)(a:DE):DE:=λρ P=>c ρ λk ds=>⇑ds<=1000/\∃(ke:Kd)(Iv:Nat->ez->Prop),Iv 0 [] /\
 (∀i d ys,ds[i]?=some d->Iv i ys->g (norm (elC k) d) d (List.replicate n .any++ρ) λρ'=>e ρ' λb=>if b=true then a ρ' λk' d'=>(norm k' d').le ke=true/\Iv (i+1) (ys++[d'])else Iv (i+1) ys) /\
 ∀ys,Iv ⇑ds ys->P (ke.join .new) (.list ys)
def QT{p:Pn}{H0 f b:Hp}{own:Addr->Option Nat}{k:Kd}(A:At p H0 own f b){v:V}{d:D}{c:Hp}(r:Rp (okA p H0 own f k b) c v d):Rp (okB p H0 own (elC k)) c v d:=by
 refine r.mono (λa n=>?_) (λ_ _ _ e=>e) λ_ _ e=>e;let⟨o,u,hu⟩:=n;cases k with
 |imm=>exact o
 |new=>exact⟨A.h0 o,A.nfb o,A.yx o⟩
 |reg q=>exact o
 |n0=>trivial
 |snw=>exact o
 |shr=>exact o
 |wk=>trivial
section
variable{own:List Str}{scope:Zs}{tg iter elt:Zt}{ifs:List Zt}{pos:Pos}{ti:DI}{g:DG}{tt:DT}{te:DE}
def wK{n:Nat}:∀σ H Q,bJ (dLC n ti g tt te) σ H Q->tLC n (KY ti) (λ_=>KZ g) (λ_=>liftT tt) (λ_=>bJ te) σ H Q:=by
 rintro σ H Q ⟨p,H0,own,ρ,P,E,t,q⟩;refine⟨p,H0,own,ρ,_,E,t,λk ds J H1 Ok h A W o1=>?_⟩;let⟨O,D,N,Y,step,r⟩:=h;have okS:∀H',Kp p H1 H'->p.PI H'->Ok H':=λH' K i=>W.stab H1 H' o1 (λb o n e=>K b o e (jt A n.1)) (jx A K);refine⟨λi m ys H'=>m=⇑ds - i/\i<=⇑ds/\Kp p H1 H'/\p.PI H'/\∃es,Rps (okK p H0 own H D) H' ys es/\⇑es<=i/\N i es,⟨_,rfl,Nat.zero_le _,Kp.refl,A.pen,[],.nil,Nat.le_refl _,Y⟩,?_⟩;rintro c i m ys H' ⟨rfl,hi,B,z,es,G,hl,R⟩;have F:=okS H' B z;have f:=A.go B z;have V:=Ym;by_cases d:i<⇑ds
 ·refine .inr ⟨W.go i H' F d,by have:=⇑G;lia,λys' H2=>Kp p H1 H2/\p.PI H2/\∃es,Rps (okK p H0 own H D) H2 ys' es/\⇑es<=i+1/\N (i+1) es,λys' H2 h=>⟨_,(),rfl,d,h⟩,λx H2 y=>?_⟩;let⟨M,L⟩:=W.yld i H' x H2 F y;have L:=L ds[i] (List.getElem?_eq_getElem d);have U:p.PI H2:=p.mono H' H2 z λb o _ e=>M b o e;have C:Kp p H1 H2:=B.trans (Kp.of M);have u:=A.go C U;have T:EnvD p H0 own σ H2 ρ:=E.go u.kp u.pen;have I:=cU f (Kp.of M) G;refine⟨p,H0,own,_,_,_,_,T.comp n,jP (QT A L),step i ds[i] es (List.getElem?_eq_getElem d) R,λσ3 ρ3 E3 t3=>?_⟩;refine⟨p,H0,own,ρ3,_,E3,t3,λb H4 h4 A4=>?_⟩;have w:At p H0 own H H4:=u.fw A4;have s:=cU u A4.kp I;cases b with
  |true =>
   refine bC ⟨p,H0,own,ρ3,_,E3.go A4.kp A4.pen,↑h4,λk' d' v H6 h6 A6 r6=>?_⟩;refine⟨(C.trans A4.kp).trans A6.kp,A6.pen,es++[d'],(cU w A6.kp s).snoc (dR (w.fw A6) h6.1 (aO (lK w r6))),by simp;lia,h6.2⟩
  |false=>exact bw ⟨C.trans A4.kp,A4.pen,es,s,(),↑h4⟩
 ·have e:i=⇑ds:=()
  subst e;refine .inl ⟨W.stop H' F,λl hl'=>?_⟩;let⟨S,Z,nw⟩:=f.new hl' (.lst ys);have j:=dM D .new;refine q _ _ _ _ (r es R) (f.go S Z) (.lst (dH f j.2 nw) aB ?_);exact(cU f S G).mono (λa o=>dH f j.1 o) (λ_ _ _ e=>e) λ_ _ e=>e
def fX(own:List Str)(hc:X.calm=true)(hi:PDI X tg iter ti)(hg:∀c,PDG (X.comp own scope c) tg g)(ht:∀c,HN (X.comp own scope c) ifs tt)(he:∀c,PD (X.comp own scope c) elt te)(hk:iy X.env scope X.N=true:=by rfl)(hs:zF X iter:=by intro _;rfl) :
  PD X (.ListComp elt [⟨tg,iter,ifs,0⟩] scope pos) (dLC ⇑own ti g tt te):=PE.wk (V2 own hc hi hg ht he hk hs) wK
def pP(own M:List Str)(hc:X.calm=true)(hi:PDI X tg iter ti)(hg:∀c,PDG (X.bO own M scope c) tg g)(ht:∀c,HN (X.bO own M scope c) ifs tt)(he:∀c,PD (X.bO own M scope c) elt te)(hk:bM X.env scope X.N M=true:=by decide +kernel)(hs:zF X iter:=by intro _;rfl) :
  PD X (.ListComp elt [⟨tg,iter,ifs,0⟩] scope pos) (dLC ⇑own ti g tt te):=PE.wk (JT own M hc hi hg ht he hk hs) wK
end
def dO(d:D):Sl:=if eV d then .im d else .sh d
def lX{p:Pn}{H:Hp}{N:List Str}{vs:List V}{ds:ez}(g:Gr.G p H)(hp:p.PI H)(r:Rps (λa=>¬p.fp a) H vs ds):EnvD p H (λ_=>none) (L2.start N vs) H (ds.map dO++List.replicate (⇑N - ⇑vs) .any):=by
 refine⟨λ_ _ e _=>e,hp,(λ_ _ e=>nomatch e),λj s e=>?_,by unfold L2.start;simp[⇑r],g⟩;by_cases b:j<⇑ds
 ·rw[List.getElem?_append_left ↑b,List.getElem?_map]at e;let⟨v,hv,c⟩:=r.getD (List.getElem?_eq_getElem b);rw[List.getElem?_eq_getElem b]at e;have e:=Option.some.inj e;have hs:(L2.start N vs)[j]?=some (some v):=by
   unfold L2.start;rw[List.getElem?_append_left (by rw[List.length_map,⇑r];exact b),List.getElem?_map,hv];rfl
  subst e;unfold dO;by_cases hi:eV ds[j]=true
  ·rw[dP hi];exact⟨v,hs,c.imm hi⟩
  ·rw[dQ hi];exact⟨v,hs,c.mono (λ_ o=>⟨o,rfl⟩) (λ_ _ _ e=>e) λ_ _ e=>e⟩
 ·rw[List.getElem?_append_right ↑b,List.getElem?_replicate]at e;split at e
  ·cases e;trivial
  ·cases e
def Ut{f:ed}{T:DS}{N:List Str}{vs:List V}{H:Hp}{Q:VK}{E:XK}(h:spD f vs H Q E)(c:∀ds P,f ds P->T { nx:=λ_=>P .none,rt:=P } (ds.map dO++List.replicate (⇑N - ⇑ds) .any))(g:Gr.G n8 H:=by trivial):j9 T { nx:=λ_ H'=>Q .non H',rt:=Q } (L2.start N vs) H:=by
 let⟨ds,P,r,t,q⟩:=h;have E:=lX (p:=n8) (N:=N) g trivial (r.mono (ok':=λa=>¬n8.fp a) (λ_ _ z=>z) (λ_ _ _ e=>e) λ_ _ e=>e);rw[⇑r]at E;have i:∀H',(∀b o,H b=some o->¬n8.fp b->H' b=some o)->Same H H':=λH' k b o e=>k b o e λz=>z;refine⟨n8,H,λ_=>none,_,_,E,c ds P t,⟨λo s h' r' e' _ n=>q _ _ h' n (i h' e'.k0) .non,λd v h' n w=>q d v h' n (i h' w.k0) (w.rp.mono (λ_ o=>o.1) (λ_ _ _ e=>e) λ_ _ e=>e),λ_ _ _ _ _ _ n=>n.elim,λ_ _ _ _ _ _ n=>n.elim⟩⟩
def Uq{C:Pn->Prop}{f:ed}{T:DS}{N:List Str}{vs:List V}{H:Hp}{Q:VK}{E:XK}(h:spP C f vs H Q E)(b:∀ds P,f ds P->T { nx:=λ_=>P .none,rt:=P } (.pen C::(ds.map dO++List.replicate (⇑N - (⇑ds+1)) .any)))(g:∀p,Gr.G p H:=by intro _;trivial):j9 T { nx:=λ_ H'=>Q .non H',rt:=Q } (L2.start N vs) H:=by
 let⟨p,vs',ds,P,c,rfl,i,r,t,q⟩:=h;have E0:=lX (p:=p) (N:=N.drop 1) (g p) i r;have E:EnvD p H (λ_=>none) (L2.start N (p.pv::vs')) H (.pen C::(ds.map dO++List.replicate (⇑N - (⇑ds+1)) .any)):=by
  refine⟨λ_ _ e _=>e,i,(λ_ _ e=>nomatch e),λj s e=>?_,by unfold L2.start;simp[⇑r],g p⟩;cases j with
  |zero =>
   have e:=Option.some.inj e;subst e;exact⟨rfl,c⟩
  |succ j =>
   rw[List.getElem?_cons_succ]at e;have hl:⇑N - (⇑ds+1)=⇑(N.drop 1) - ⇑vs':=by rw[⇑r,List.length_drop];lia
   rw[hl]at e;have q:=E0.slot j s e;have es:(L2.start N (p.pv::vs'))[j+1]?=(L2.start (N.drop 1) vs')[j]?:=by
    unfold L2.start;have:⇑N - ⇑(p.pv::vs')=⇑(N.drop 1) - ⇑vs':=by rw[List.length_drop,List.length_cons];lia
    rw[this];simp
   cases s <;> simp only[gj,es]at q ⊢ <;> exact q
 have k:∀{H' v d},RPost p H H' v d->Rp (λa=>H a=none) H' v d:=λw=>w.rp.mono (λ_ o=>o.1) (λ_ _ _ e=>e) λ_ _ e=>e;exact⟨p,H,λ_=>none,_,_,E,b ds P t,⟨λo s h' r' e' _ n=>q _ _ h' n e'.k0 e'.pen .non,λd v h' n w=>q d v h' n w.k0 w.pen (k w),λ_ _ _ _ _ _ n=>n.elim,λ_ _ _ _ _ _ n=>n.elim⟩⟩
end Dl
namespace PySem
abbrev Vb(f0:Value)(q:Bool)(TI TO:Addr):Obj:={ cls:=.type "zip",data:=.fields #[f0,.bool q,.bool false,.ref TI,.ref TO]}
section
variable{prog:Za}{w:Zb}{A:Zr}{E:d6}{s:Shared}
structure ZSt(z TI TO i1 i2 l1 l2:Addr)(xs ys:el)(i:Nat)(h:Heap):Prop where
 zip:(i=0/\h.get? z=some (Vb .none false TI TO))\/∃(T:Addr)(q:Bool)(oT:Obj),h.get? z=some (Vb (Z4 T) q TI TO)/\h.get? T=some oT/\T≠z/\T≠i1/\T≠i2
 ti:h.get? TI=some { cls:=.type "tuple",data:=.seq #[.ref i1,.ref i2]}
 to:∃a b,h.get? TO=some { cls:=.type "tuple",data:=.seq #[a,b]}
 j1:h.IsListIter i1 l1 i
 j2:h.IsListIter i2 l2 i
 e1:h.IsList l1 xs
 e2:h.IsList l2 ys
variable{z TI TO i1 i2 l1 l2:Addr}{xs ys:el}
end
section
variable{prog:Za}{w:Zb}{A:Zr}{z TI TO i1 i2 l1 l2:Addr}{xs ys:el}{R:Result->Shared->Prop}
end
end PySem
namespace L2
open PySem.Spec
section
variable{X:Cx}{pins:ee}{σ:L2.St}{H:Hp}{s:Shared}
end
end L2
namespace Dl
open L2
variable{X:Cx}
variable [Gr]
section
variable{pos:Pos}{a b c e:Zt}{es:List Zt}{ta tb tc te:DE}{t:DA}
def newP(k:Kd)(ds:ez)(P:Kd->Prop):Prop:=(cH ds=true/\P .new)\/P (k.join .new)
def oh{p:Pn}{H0 d H f:Hp}{own:Addr->Option Nat}(A:At p H0 own d H){k:Kd}{vs:List V}{ds:ez}{P:Kd->Prop}{l:Addr}(r:Rps (okK p H0 own d k) f vs ds)(g:okK p H0 own d .new l)(hl:f l=some (.lst vs))(h:newP k ds P):∃k',P k'/\Rp (okK p H0 own d k') f (.ref l) (.list ds):=by
 rcases h with⟨i,h⟩|h
 ·exact⟨_,h,.lst g hl ((Rps.imm r i).mono (λ_ o=>o.elim) (λ_ _ _ e=>e) λ_ _ e=>e)⟩
 ·exact⟨_,h,.lst (dH A (dM k .new).2 g) hl (r.mono (λa o=>dH A (dM k .new).1 o) (λ_ _ _ e=>e) λ_ _ e=>e)⟩
theorem oX:∀l:eg,cH (l.map PyData.int)=true
 |[]=>rfl
 |x::l=>by
  show(eV (.int x)&&cH (l.map PyData.int))=true;rw[oX l];rfl
theorem cQ:∀l:eh,cH (l.map pD)=true
 |[]=>rfl
 |x::l=>by
  show(eV (pD x)&&cH (l.map pD))=true;rw[cQ l];rfl
def prD(p:D×D):D:=.tuple [p.1,p.2]
def Yi:GC:=λks P=>match ks with
 |[(k1,.list ds),(k2,.list es)]=>⇑ds<=1000/\newP (k1.join k2) ((ds.zip es).map prD) λk=>P k (.list ((ds.zip es).map prD))
 |_=>False
def tCh(f g:Int->Int->Bool)(ta tb tc:DE):DE:=λρ P=>ta ρ λ_ d1=>tb ρ λ_ d2=>match d1,d2 with
 |.int i,.int j=>if f i j=true then tc ρ λ_ d3=>(match d3 with
   |.int l=>P .imm (.bool (g j l))
   |_=>False)else P .imm (.bool false)
 |_,_=>False
def Ec{f g:Int->Int->Bool}:∀σ H Q,bJ (tCh f g ta tb tc) σ H Q->rE (rI0 λi j=>.bl (f i j)) (rI0 λi j=>.bl (g i j)) (bJ ta) (bJ tb) (bJ tc) σ H Q:=by
 rintro σ H Q ⟨p,H0,own,ρ,P,E,t,q⟩;refine⟨p,H0,own,ρ,_,E,t,λk1 d1 v1 H1 t1 A1 r1=>?_⟩;refine⟨p,H0,own,ρ,_,E.go A1.kp A1.pen,t1,λk2 d2 v2 H2 t2 A2 r2=>?_⟩;have A:=A1.fw A2;split at t2
 ·rename_i i j;refine⟨i,j,r1.int',r2.int',_,rfl,?_⟩;cases d:f i j with
  |true =>
   rw[d,dP rfl]at t2;refine bC ⟨p,H0,own,ρ,_,(E.go A1.kp A1.pen).go A2.kp A2.pen,t2,λk3 d3 v3 H3 t3 A3 r3=>?_⟩;cases d3 with
   |int l=>exact⟨j,l,r2.int',r3.int',q _ _ _ _ t3 (A.fw A3) (.bl _)⟩
   |_=>exact t3.elim
  |false =>
   rw[d,dQ Bool.false_ne_true]at t2;exact bw (q _ _ _ _ t2 A (.bl _))
 ·exact t2.elim
def wD(ha:PD X a ta)(hb:PD X b tb)(hc:PD X c tc)(hm:Yl [.LtE,.Lt] [b,c]=false:=by with_unfolding_all rfl):PD X (.Compare a [.LtE,.Lt] [b,c] pos) (tCh (λi j=>decide (i<=j)) (λi j=>decide (i<j)) ta tb tc):=PE.wk (JX J2 DW ha hb hc hm) Ec
def pO{f d:ZJ}{r i:R2}{g:DE}(h:PT X (.Compare a [f,d] [b,c] pos) (Io (rE r i (bJ ta) (bJ tb) (bJ tc))))(w:∀σ H Q,bJ g σ H Q->rE r i (bJ ta) (bJ tb) (bJ tc) σ H Q):PDT X (.Compare a [f,d] [b,c] pos) (fu g) :=
 PT.wk h λσ H Q q=>w σ H _ (tG σ H Q q)
def Qu(ta:DE):DE:=λρ P=>ta ρ λ_ d=>match d with
 |.bool b=>P .imm (.bool (!b))
 |_=>False
theorem Bd(ha:PD X a ta):PD X (.UnaryOp .Not a pos) (Qu ta):=PE.wk (SJ ha) (by
 rintro σ H Q ⟨p,H0,own,ρ,P,E,t,q⟩;refine⟨p,H0,own,ρ,_,E,t,λk d v H' h A r=>?_⟩;cases d with
 |bool b=>exact⟨b,r.bl',q _ _ _ _ h A (.bl _)⟩
 |_=>exact h.elim)
def Qw(ta tb:DE):DE:=λρ P=>ta ρ λ_ d=>match d with
 |.bool b=>if b=true then tb ρ P else P .imm (.bool false)
 |_=>False
def gW{op}(h:PD X a ta):PD X (.BoolOp op [a] pos) ta:=Sy h
theorem fC{rest:List Zt}(ha:PD X a ta)(hb:PD X (.BoolOp .And (b::rest) pos) tb):PD X (.BoolOp .And (a::b::rest) pos) (Qw ta tb):=PE.wk (SQ ha hb) (by
 rintro σ H Q ⟨p,H0,own,ρ,P,E,t,q⟩;refine⟨p,H0,own,ρ,_,E,t,λk d v H' h A r=>?_⟩;cases d with
 |bool b =>
  refine⟨b,r.bl',?_⟩;cases b with
  |true=>exact bC ⟨p,H0,own,ρ,P,E.go A.kp A.pen,↑h,λk d v H2 h2 A2 r2=>q k d v H2 h2 (A.fw A2) (lK A r2)⟩
  |false=>exact bw (q _ _ _ _ ↑h A (.bl _))
 |_=>exact h.elim)
def Vv(tc:DT)(ta tb:DE):DE:=λρ P=>tc ρ λb=>if b=true then ta ρ P else tb ρ P
theorem jf{u:DT}(hc:PDT X c u)(ha:PD X a ta)(hb:PD X b tb):PD X (.IfExp c a b pos) (Vv u ta tb):=PE.wk (JV hc ha hb) (by
 rintro σ H Q ⟨p,H0,own,ρ,P,E,t,q⟩;refine⟨p,H0,own,ρ,_,E,t,λb H' h A=>?_⟩;have f:∀k d v H2,P k d->At p H0 own H' H2->Rp (okK p H0 own H' k) H2 v d->Q v H2:=λk d v H2 h2 A2 r2=>q k d v H2 h2 (A.fw A2) (lK A r2);cases b with
 |true=>exact bC ⟨p,H0,own,ρ,P,E.go A.kp A.pen,↑h,f⟩
 |false=>exact bw ⟨p,H0,own,ρ,P,E.go A.kp A.pen,↑h,f⟩)
def tyD:D->String
 |.none=>"NoneType"
 |.bool _=>"bool"
 |.int _=>"int"
 |.str _=>"str"
 |.list _=>"list"
 |.tuple _=>"tuple"
 |.dict _=>"dict"
def isT(c:String)(d:D):Bool:=tyD d==c || (c=="int"&&tyD d=="bool")
def tIs(c:String)(te:DE):DE:=λρ P=>te ρ λ_ d=>P .imm (.bool (isT c d))
def bH{T:String}{x:Str}{ps g:Pos}(hk:∀t:Value,(t=.type "NoneType"\/t=.type "bool"\/t=.type "int"\/t=.type "str"\/t=.type "list"\/t=.type "tuple"\/t=.type "dict")->∃n,t=.type n/\W.kitOne X.K t (.type T)=some (n==T || (T=="int"&&n=="bool")))(hm:X.mg "isinstance"=none)(he:PD X e te)(m:PE X (.Name x g) (tC (.ty T)))(hg:Gl X "isinstance":=by rfl)(h1:Zu [e,.Name x g] X.env=(false,Zv e X.env)::Zu [.Name x g] X.env:=by rfl)(h2:Zu [.Name x g] X.env=(false,Zv (.Name x g) X.env)::Zu [] X.env:=by rfl)(hpl:(Zw pos (Zu [.Name x g] X.env)).any (·.1)=false:=by rfl) :
  PD X (.Call (.Name "isinstance" ps) [e,.Name x g] [] pos) (tIs T te):=PE.wk (eO xK hg hm UD (bV he (bV m dG h2) h1) ∅ ∅ h1 hpl) (by
 rintro σ H Q ⟨p,H0,own,ρ,P,E,t,q⟩;refine⟨p,H0,own,ρ,_,E,t,λk d v H' h A r=>?_⟩;have f:∀n,TyOf X.K H' v (.type n)->n=tyD d->∃x' c' t' b,[v,V.ty T]=[x',.ty c']/\TyOf X.K H' x' t'/\W.kitOne X.K t' (.type c')=some b/\Q (.bl b) H':=λn ty en=>by
  let⟨s,e,j⟩:=hk (.type n) (by rw[en];cases d <;> simp[tyD]);cases e;refine⟨v,T,.type n,_,rfl,ty,j,?_⟩;rw[en];exact q _ _ _ _ h A (.bl _)
 show ∃x' c' t' b,_/\_;cases r with
 |non=>exact f _ .non rfl
 |bl b=>exact f _ (.bl b) rfl
 |int i=>exact f _ (.int i) rfl
 |str x=>exact f _ (.str x) rfl
 |lst o hh l=>exact f _ (.lst hh) rfl
 |tup hh l=>exact f _ (.tup hh) rfl
 |dct o hh l=>exact f _ (.dK hh) rfl)
def Em{K:W.Frag}:∀t:Value,(t=.type "NoneType"\/t=.type "bool"\/t=.type "int"\/t=.type "str"\/t=.type "list"\/t=.type "tuple"\/t=.type "dict")->∃n,t=.type n/\W.kitOne K t (.type "int")=some (n=="int" || ("int"=="int"&&n=="bool")):=by
 rintro t (rfl|rfl|rfl|rfl|rfl|rfl|rfl) <;> exact⟨_,rfl,rfl⟩
def kJ{K:W.Frag}:∀t:Value,(t=.type "NoneType"\/t=.type "bool"\/t=.type "int"\/t=.type "str"\/t=.type "list"\/t=.type "tuple"\/t=.type "dict")->∃n,t=.type n/\W.kitOne K t (.type "bool")=some (n=="bool" || ("bool"=="int"&&n=="bool")):=by
 rintro t (rfl|rfl|rfl|rfl|rfl|rfl|rfl) <;> exact⟨_,rfl,rfl⟩
def zj{K:W.Frag}:∀t:Value,(t=.type "NoneType"\/t=.type "bool"\/t=.type "int"\/t=.type "str"\/t=.type "list"\/t=.type "tuple"\/t=.type "dict")->∃n,t=.type n/\W.kitOne K t (.type "list")=some (n=="list" || ("list"=="int"&&n=="bool")):=by
 rintro t (rfl|rfl|rfl|rfl|rfl|rfl|rfl) <;> exact⟨_,rfl,rfl⟩
def kit_tuple{K:W.Frag}:∀t:Value,(t=.type "NoneType"\/t=.type "bool"\/t=.type "int"\/t=.type "str"\/t=.type "list"\/t=.type "tuple"\/t=.type "dict")->∃n,t=.type n/\W.kitOne K t (.type "tuple")=some (n=="tuple" || ("tuple"=="int"&&n=="bool")):=by
 rintro t (rfl|rfl|rfl|rfl|rfl|rfl|rfl) <;> exact⟨_,rfl,rfl⟩
def El{K:W.Frag}:∀t:Value,(t=.type "NoneType"\/t=.type "bool"\/t=.type "int"\/t=.type "str"\/t=.type "list"\/t=.type "tuple"\/t=.type "dict")->∃n,t=.type n/\W.kitOne K t (.type "str")=some (n=="str" || ("str"=="int"&&n=="bool")):=by
 rintro t (rfl|rfl|rfl|rfl|rfl|rfl|rfl) <;> exact⟨_,rfl,rfl⟩
def Uh:GC:=λks P=>match ks with
 |[(_,.list ds)]=>∃bs:List Bool,ds=bs.map PyData.bool/\P .imm (.bool (bs.all id))
 |_=>False
theorem Rps.bools{ok:Addr->Prop}{H:Hp}:∀{vs:List V}{d:List Bool},Rps ok H vs (d.map PyData.bool)->vs=d.map V.bl
 |[],[],_=>rfl
 |_,b::d,.cons h t=>by
  have e:=h.bl';subst e;rw[Rps.bools t];rfl
def sI{ps:Pos}(hc:X.calm=true)(hm:X.mg "all"=none)(hv:Zq "all"=some (.builtin "all"))(ha:PDA X [a] t)(hg:Gl X "all":=by rfl)(he:zS X a []:=by rfl)(hpl:zP X pos []:=by rfl):PD X (.Call (.Name "all" ps) [a] [] pos) (tCl Uh t) :=
 gY (HB hc) (by
  intro p H0 own j H vs ks P Q A r t q;unfold Uh at t;split at t
  ·let⟨f,rfl,t⟩:=t;let⟨v,rfl,i⟩:=jd r;let⟨x,xs,g,k,h1,d⟩:=Rp.dh i;subst g;have h:=Rps.bools d;subst h;exact⟨x,f,rfl,SqL.of h1,q _ _ _ _ t Kp.refl A.pen (.bl _)⟩
  ·exact t.elim) hg hm hv ha ∅ ∅ he hpl
def gMM(f:Int->Int->Int):GC:=λks P=>match ks with
 |[(_,.int i),(_,.int j)]=>P .imm (.int (f i j))
 |_=>False
def qO{ps:Pos}(hc:X.calm=true)(hm:X.mg "max"=none)(ha:PDA X [a,b] t)(hg:Gl X "max":=by rfl)(he:Zu [a,b] X.env=(false,Zv a X.env)::Zu [b] X.env:=by rfl)(hpl:(Zw pos (Zu [b] X.env)).any (·.1)=false:=by rfl):PD X (.Call (.Name "max" ps) [a,b] [] pos) (tCl (gMM λi j=>if j > i then j else i) t) :=
 gY (Hy hc) (by
  intro p H0 own g H vs ks P Q A r t q;unfold gMM at t;split at t
  ·rename_i k i h j;let⟨v,w,rfl,d,f⟩:=Jf r;rw[Rp.int' d,Rp.int' f];exact⟨i,j,rfl,q _ _ _ _ t Kp.refl A.pen (.int _)⟩
  ·exact t.elim) hg hm boot_max ha ∅ ∅ he hpl
def qN{ps:Pos}(hc:X.calm=true)(hm:X.mg "min"=none)(ha:PDA X [a,b] t)(hg:Gl X "min":=by rfl)(he:Zu [a,b] X.env=(false,Zv a X.env)::Zu [b] X.env:=by rfl)(hpl:(Zw pos (Zu [b] X.env)).any (·.1)=false:=by rfl):PD X (.Call (.Name "min" ps) [a,b] [] pos) (tCl (gMM λi j=>if j<i then j else i) t) :=
 gY (Hx hc) (by
  intro p H0 own g H vs ks P Q A r t q;unfold gMM at t;split at t
  ·rename_i k i h j;let⟨v,w,rfl,d,f⟩:=Jf r;rw[Rp.int' d,Rp.int' f];exact⟨i,j,rfl,q _ _ _ _ t Kp.refl A.pen (.int _)⟩
  ·exact t.elim) hg hm boot_min ha ∅ ∅ he hpl
def Pz:GC:=λks P=>match ks with
 |[(k,.list ds)]=>newP k ds λk'=>P k' (.list ds)
 |[(k,.tuple ds)]=>newP k ds λk'=>P k' (.list ds)
 |_=>False
def nQ{ps:Pos}(hm:X.mg "list"=none)(ha:PDA X [a] t)(hg:Gl X "list":=by rfl)(he:zS X a []:=by rfl)(hpl:zP X pos []:=by rfl):PD X (.Call (.Name "list" ps) [a] [] pos) (tCl Pz t) :=
 sH xH (by
  intro p H0 own o H vs ks P Q A r t q;have f:∀{k ds xs},Rps (okK p H0 own o k) H xs ds->newP k ds (λm=>P m (.list ds))->∀l,H l=none->Q (.ref l) (upd H l (.lst xs)):=λ{k ds xs} rs t l hl=>by
   let⟨n,s,u⟩:=A.new hl (.lst xs);let⟨m,h,j⟩:=oh A (cU A n rs) u aB t;exact q _ _ _ _ h n s j
  unfold Pz at t;split at t
  ·let⟨v,rfl,i⟩:=jd r;let⟨x,xs,g,w,h1,d⟩:=Rp.dh i;subst g;exact⟨x,xs,rfl,.inl (SqL.of h1),f d t⟩
  ·let⟨v,rfl,i⟩:=jd r;let⟨x,xs,g,h1,d⟩:=Rp.dU i;subst g;exact⟨x,xs,rfl,.inr (SqT.of h1),f d t⟩
  ·exact t.elim) hg hm UE ha ∅ ∅ he hpl
def Lj:GC:=λks P=>match ks with
 |[(k,.list ds)]=>P (norm k (.tuple ds)) (.tuple ds)
 |[(k,.tuple ds)]=>P (norm k (.tuple ds)) (.tuple ds)
 |_=>False
def jo{ps:Pos}(hm:X.mg "tuple"=none)(ha:PDA X [a] t)(hg:Gl X "tuple":=by rfl)(he:zS X a []:=by rfl)(hpl:zP X pos []:=by rfl):PD X (.Call (.Name "tuple" ps) [a] [] pos) (tCl Lj t) :=
 sH uZ (by
  intro p H0 own j H vs ks P Q A r t q;unfold Lj at t;split at t
  ·rename_i k ds;let⟨v,rfl,f⟩:=jd r;let⟨x,xs,g,n,h1,d⟩:=Rp.dh f;subst g;refine⟨x,xs,rfl,.inl ⟨SqL.of h1,λl hl=>?_⟩⟩;let⟨h,i,m⟩:=A.new hl (.tup xs);exact q _ _ _ _ t h i (aO (.tup aB (cU A h d)))
  ·rename_i k ds;let⟨v,rfl,f⟩:=jd r;let⟨x,xs,g,h1,d⟩:=Rp.dU f;subst g;exact⟨x,xs,rfl,.inr ⟨SqT.of h1,q _ _ _ _ t Kp.refl A.pen (aO f)⟩⟩
  ·exact t.elim) hg hm UF ha ∅ ∅ he hpl
def BX:GC:=λks P=>match ks with
 |[(_,.list ds)]=>∃ns:eg,ds=ns.map PyData.int/\⇑ns<64/\∀out:eg,out.Perm ns->out.Pairwise (·<=·)->P .new (.list (out.map PyData.int))
 |_=>False
def rW{ps:Pos}(hm:X.mg "sorted"=none)(ha:PDA X [a] t)(hg:Gl X "sorted":=by rfl)(he:zS X a []:=by rfl)(hpl:zP X pos []:=by rfl):PD X (.Call (.Name "sorted" ps) [a] [] pos) (tCl BX t) :=
 gY xu (by
  intro p H0 own n H vs ks P Q A r t q;unfold BX at t;split at t
  ·let⟨ns,rfl,hl,t⟩:=t;let⟨v,rfl,m⟩:=jd r;let⟨x,xs,f,o,h1,d⟩:=Rp.dh m;subst f;have g:=Rps.ints d;subst g;refine⟨x,ns,rfl,SqL.of h1,hl,λl out hl' hp hs=>?_⟩;let⟨j,h,k⟩:=A.new hl' (.lst (out.map V.int));exact q _ _ _ _ (t out hp hs) j h (.lst k aB (Rps.ofMap (λi=>.int i) out))
  ·exact t.elim) hg hm UH ha ∅ ∅ he hpl
def BW:GC:=λks P=>match ks with
 |[(_,d)]=>∃ts:eh,(d=.list (ts.map pD)\/d=.tuple (ts.map pD))/\⇑ts<64/\(∀t∈ts,ql t)/\∀us:eh,us.Perm ts->us.Pairwise (λa b=>bF a<=bF b)->P .new (.list (us.map pD))
 |_=>False
theorem Rps.prs{ok:Addr->Prop}{H:Hp}:∀{vs:List V}{d:eh},Rps ok H vs (d.map pD)->Prs H vs d
 |[],[],_=>.nil
 |_,t::d,.cons h r=>by
  let⟨x,xs,e,f,k⟩:=Rp.dU h;let⟨l,m,g,i,j⟩:=Rps.two k;subst e g;rw[i.int',j.int']at f;exact .cons ⟨x,rfl,f⟩ (Rps.prs r)
theorem Prs.rps{ok:Addr->Prop}{H:Hp}:∀{vs:List V}{d:eh},Prs H vs d->Rps ok H vs (d.map pD)
 |_,_,.nil=>.nil
 |_,_,.cons r t=>by
  let⟨x,e,f⟩:=r;subst e;exact .cons (.tup f (.cons (.int _) (.cons (.int _) .nil))) (Prs.rps t)
def nP{ps:Pos}(hm:X.mg "sorted"=none)(ha:PDA X [a] t)(hg:Gl X "sorted":=by rfl)(he:zS X a []:=by rfl)(hpl:zP X pos []:=by rfl):PD X (.Call (.Name "sorted" ps) [a] [] pos) (tCl BW t) :=
 gY xq (by
  intro p H0 own n H vs ks P Q A r t q;unfold BW at t;split at t
  ·let⟨h,hd,hl,hn,t⟩:=t;let⟨v,rfl,j⟩:=jd r;have f:∀l ws us,H l=none->Prs H ws us->us.Perm h->us.Pairwise (λa b=>bF a<=bF b)->Q (.ref l) (upd H l (.lst ws)):=λl ws us hl' pr hp hs=>by
    let⟨i,k,m⟩:=A.new hl' (.lst ws);exact q _ _ _ _ (t us hp hs) i k (.lst m aB (cU A i (Prs.rps pr)))
   rcases hd with rfl|rfl
   ·let⟨x,xs,g,o,h1,d⟩:=Rp.dh j;subst g;exact⟨x,xs,h,rfl,.inl (SqL.of h1),Rps.prs d,hn,.inl hl,f⟩
   ·let⟨x,xs,g,h1,d⟩:=Rp.dU j;subst g;exact⟨x,xs,h,rfl,.inr (SqT.of h1),Rps.prs d,hn,.inl hl,f⟩
  ·exact t.elim) hg hm UH ha ∅ ∅ he hpl
end
variable [Gr]
section
variable{pins:ee}{σ:L2.St}{H:Hp}{s:Shared}{ok:Addr->Prop}
mutual
theorem Rp.reads(I:Inv X pins σ H s):∀{v:V}{d:D}{u:Value},Rp ok H v d->RelV v u->d.canLay0=true->∃as,UC s.heap u d as
 |_,_,_,.non,r,_=>by cases r;exact⟨_,.none⟩
 |_,_,_,.bl b,r,_=>by cases r;exact⟨_,.bool b⟩
 |_,_,_,.int i,r,_=>by let⟨t,rfl⟩:=r;exact⟨_,.int i t⟩
 |_,_,_,.str x,r,_=>by let⟨t,rfl⟩:=r;exact⟨_,.str x t⟩
 |_,_,_,.lst o h rs,r,c=>by
  cases r;let⟨its,f,pl,_⟩:=I.list (SqL.of h);let⟨as,e⟩:=Rps.reads I rs f (by simpa[PyData.canLay0]using c);let⟨g,a,hc,n,hd⟩:=pl.isList;exact⟨_,.list a hc hd ↑e⟩
 |_,_,_,.tup h rs,r,c=>by
  cases r;let⟨its,f,pl,_⟩:=I.tuple (SqT.of h);let⟨as,e⟩:=Rps.reads I rs f (by simpa[PyData.canLay0]using c);let⟨g,a,hc,n,hd⟩:=pl;exact⟨_,.tuple a hc hd ↑e⟩
 |_,_,_,.dct o h rs,r,c=>by simp[PyData.canLay0]at c
theorem Rps.reads(I:Inv X pins σ H s):∀{v:List V}{d:ez}{u:eo},Rps ok H v d->Vals v u->PyData.canLayAll0 d=true->∃as,UB s.heap u d as
 |_,_,_,.nil,r,_=>by cases r;exact⟨[],.nil⟩
 |_,_,_,.cons h t,r,c=>by
  cases r with
  |cons a b =>
   simp only[PyData.canLayAll0,Bool.and_eq_true]at c;let⟨as,e⟩:=Rp.reads I h a c.1;let⟨g,f⟩:=Rps.reads I t b c.2;exact⟨_,.cons e f⟩
end
end
def okD(d:D):Bool:=d.canLay0&&decide (d.depth<=60)
section
variable{pos:Pos}{a b e:Zt}{ta tb te:DE}
def Jp(K:W.Frag)(neg:Bool):R2:=λx y H Q=>∃ok ok' d e,Rp ok H x d/\Rp ok' H y e/\okD d=true/\okD e=true/\Q (.bl (if neg then !(PyData.eqv d e)else PyData.eqv d e)) H
def Ka(hu:X.A.units+64<Ys):OpR X (ZK .Eq) (Jp X.K false):=by
 intro g s σ H x y v u Q I k l h;let⟨ok,ok',d,e,hd,he,c,f,q⟩:=h;simp only[okD,Bool.and_eq_true,dL]at c f;let⟨m,i⟩:=hd.reads I k c.1;let⟨n,j⟩:=he.reads I l f.1;exact SeqAt.compareEq_reads i j c.1 f.1 () ⟨.bl _,H,I,rfl,q⟩
def J1(hu:X.A.units+64<Ys):OpR X (ZK .NotEq) (Jp X.K true):=by
 intro g s σ H x y v u Q I k l h;let⟨ok,ok',d,e,hd,he,c,f,q⟩:=h;simp only[okD,Bool.and_eq_true,dL]at c f;let⟨m,i⟩:=hd.reads I k c.1;let⟨n,j⟩:=he.reads I l f.1;exact SeqAt.compareNe_reads i j c.1 f.1 () ⟨.bl _,H,I,rfl,q⟩
def Wt(neg:Bool):G2:=λ_ d1 _ d2 P=>okD d1=true/\okD d2=true/\P .imm (.bool (if neg then !(PyData.eqv d1 d2)else PyData.eqv d1 d2))
def QM{K:W.Frag}(neg:Bool):Ok2 (Wt neg) (Jp K neg):=by
 intro p H0 own h H x y i c j d P Q A f g t q;exact⟨_,_,c,d,f,g,t.1,t.2.1,q _ _ _ _ t.2.2 Kp.refl A.pen (.bl _)⟩
def eqP(x:D)(h:Heap)(u:Value):Bool:=by
 classical
 exact decide (∃d as,UC h u d as/\PyData.eqv d x=true)
def R7(neg:Bool):R2:=λx y H Q=>∃ok ok' d es,Rp ok H x d/\(Rp ok' H y (.list es)\/Rp ok' H y (.tuple es))/\okD d=true/\(es.all okD)=true/\Q (.bl (if neg then !(es.any λe=>PyData.eqv e d)else es.any λe=>PyData.eqv e d)) H
def LR{x:D}{h:Heap}{u:Value}{d:D}{f:List Addr}(r:UC h u d f):eqP x h u=PyData.eqv d x:=by
 classical
 unfold eqP;rw[Bool.eq_iff_iff,dL];constructor
 ·rintro⟨d',c,g,e⟩;rw[(r.unique d' c g).1];exact e
 ·exact λe=>⟨d,f,r,e⟩
theorem pG{x:D}{h:Heap}:∀{us:eo}{ds:ez}{c:List Addr},UB h us ds c->us.any (eqP x h)=ds.any λe=>PyData.eqv e x
 |_,_,_,.nil=>rfl
 |_,_,_,.cons a b=>by
  rw[List.any_cons,List.any_cons,LR a,pG b]
theorem oG{A:Zr}{s:Shared}{x:D}{v:Value}{k:List Addr}(i:UC s.heap v x k)(g:okD x=true)(hu:A.units+60<Ys):∀{us:eo}{ds:ez}{j:List Addr},UB s.heap us ds j->ds.all okD=true->∀u∈us,SeqAt.EqAt A s u v (eqP x s.heap u)
 |_,_,_,.nil,_,u,f=>nomatch f
 |_,d::ds,_,.cons a b,c,u,f=>by
  simp only[List.all_cons,Bool.and_eq_true]at c;rcases List.mem_cons.mp f with rfl|f
  ·rw[LR a];have h:=c.1;simp only[okD,Bool.and_eq_true,dL]at h g;exact SeqAt.eqAt_reads _ _ A s _ _ _ _ a i h.1 g.1 ()
  ·exact oG i g hu b c.2 u f
def oW{A:Zr}(hu:A.units+64<Ys):A.in1.units+60<Ys:=by
 have:A.in1.units<=A.units+1:=by first|exact Nat.le_refl _|exact Nat.le_succ _|(unfold Around.in1;simp)
 lia
theorem oO:∀{es:ez},es.all okD=true->PyData.canLayAll0 es=true
 |[],_=>rfl
 |e::es,h=>by
  simp only[List.all_cons,Bool.and_eq_true,okD]at h;simp only[PyData.canLayAll0,Bool.and_eq_true];exact⟨h.1.1,oO h.2⟩
def Te(hu:X.A.units+64<Ys):OpR X (ZK .In) (R7 false):=by
 intro l s σ H x y v u Q I z n h;let⟨ok,ok',d,es,hd,hs,j,i,q⟩:=h;have f:=j;simp only[okD,Bool.and_eq_true,dL]at f;let⟨B,m⟩:=hd.reads I z f.1;rcases hs with hs|hs
 ·let⟨c,vs,rfl,o,hc,k⟩:=hs.dh;cases n;let⟨its,r,pl,t⟩:=I.list (SqL.of hc);let⟨p,g⟩:=k.reads I r (oO i);refine SeqAt.in_listAt (eqP d s.heap) pl.isList (λw hw=>oG m j (oW hu) g i w ↑hw) ⟨.bl _,H,I,rfl,?_⟩;rw[show its.toArray.any (eqP d s.heap)=its.any (eqP d s.heap) by simp,pG g];exact q
 ·let⟨c,vs,rfl,hc,k⟩:=hs.dU;cases n;let⟨its,r,pl,t⟩:=I.tuple (SqT.of hc);let⟨p,g⟩:=k.reads I r (oO i);refine SeqAt.in_tupleAt (eqP d s.heap) pl (λw hw=>oG m j (oW hu) g i w ↑hw) ⟨.bl _,H,I,rfl,?_⟩;rw[show its.toArray.any (eqP d s.heap)=its.any (eqP d s.heap) by simp,pG g];exact q
def Gw(hu:X.A.units+64<Ys):OpR X (ZK .NotIn) (R7 true):=by
 intro l s σ H x y v u Q I z n h;let⟨ok,ok',d,es,hd,hs,j,i,q⟩:=h;have f:=j;simp only[okD,Bool.and_eq_true,dL]at f;let⟨B,m⟩:=hd.reads I z f.1;rcases hs with hs|hs
 ·let⟨c,vs,rfl,o,hc,k⟩:=hs.dh;cases n;let⟨its,r,pl,t⟩:=I.list (SqL.of hc);let⟨p,g⟩:=k.reads I r (oO i);refine SeqAt.notIn_listAt (eqP d s.heap) pl.isList (λw hw=>oG m j (oW hu) g i w ↑hw) ⟨.bl _,H,I,rfl,?_⟩;rw[show its.toArray.any (eqP d s.heap)=its.any (eqP d s.heap) by simp,pG g];exact q
 ·let⟨c,vs,rfl,hc,k⟩:=hs.dU;cases n;let⟨its,r,pl,t⟩:=I.tuple (SqT.of hc);let⟨p,g⟩:=k.reads I r (oO i);refine SeqAt.notIn_tupleAt (eqP d s.heap) pl (λw hw=>oG m j (oW hu) g i w ↑hw) ⟨.bl _,H,I,rfl,?_⟩;rw[show its.toArray.any (eqP d s.heap)=its.any (eqP d s.heap) by simp,pG g];exact q
def gIn(neg:Bool):G2:=λ_ d1 _ d2 P=>match d2 with
 |.list es=>okD d1=true/\es.all okD=true/\P .imm (.bool (if neg then !(es.any λe=>PyData.eqv e d1)else es.any λe=>PyData.eqv e d1))
 |.tuple es=>okD d1=true/\es.all okD=true/\P .imm (.bool (if neg then !(es.any λe=>PyData.eqv e d1)else es.any λe=>PyData.eqv e d1))
 |_=>False
def okIn(neg:Bool):Ok2 (gIn neg) (R7 neg):=by
 intro p H0 own h H x y i c j g P Q A d f t q;cases g with
 |list es=>exact⟨_,_,c,es,d,.inl f,t.1,t.2.1,q _ _ _ _ t.2.2 Kp.refl A.pen (.bl _)⟩
 |tuple es=>exact⟨_,_,c,es,d,.inr f,t.1,t.2.1,q _ _ _ _ t.2.2 Kp.refl A.pen (.bl _)⟩
 |_=>exact t.elim
def rU(hu:X.A.units+64<Ys)(ha:PD X a ta)(hb:PD X b tb)(hm:ZL .In b=false:=by rfl):PDT X (.Compare a [.In] [b] pos) (fu (t2 (gIn false) ta tb)):=gC (Te hu) (okIn false) ha hb hm
def lO(hu:X.A.units+64<Ys)(ha:PD X a ta)(hb:PD X b tb)(hm:ZL .NotIn b=false:=by rfl):PDT X (.Compare a [.NotIn] [b] pos) (fu (t2 (gIn true) ta tb)):=gC (Gw hu) (okIn true) ha hb hm
variable [Gr]
section
variable{pos p2:Pos}{a b c e:Zt}{es:List Zt}{ta tb tc te:DE}{t:DA}{st:ZF}
abbrev DO:=List Sl->(Option Int->Prop)->Prop
def yX(t:DO):TO:=λσ H Q=>∃p H0 own ρ P,EnvD p H0 own σ H ρ/\t ρ P/\∀o H',P o->At p H0 own H H'->Q o H'
def PO.wk{e:Option Zt}{t t':TO}(h:PO X e t)(w:∀σ H Q,t' σ H Q->t σ H Q):PO X e t':=λpins s σ H Q I q=>h pins s σ H Q I (w σ H Q q)
def Ko:DO:=λ_ P=>P none
def Km(te:DE):DO:=λρ P=>te ρ λ_ d=>match d with
 |.int i=>P (some i)
 |_=>False
def fV:PO X none (yX Ko):=PO.wk Oh (by
 rintro σ H Q ⟨p,H0,own,ρ,P,E,t,q⟩;exact q _ _ t E.at)
theorem dX(h:PD X e te):PO X (some e) (yX (Km te)):=PO.wk (Og h) (by
 rintro σ H Q ⟨p,H0,own,ρ,P,E,t,q⟩;refine⟨p,H0,own,ρ,_,E,t,λk d v H' h A r=>?_⟩;cases d with
 |int i=>exact⟨i,r.int',q _ _ h A⟩
 |_=>exact h.elim)
def jE{α:Type}(ds:List α)(lo hi:Option Int):List α:=(ds.drop (HT.sIx ⇑ds 0 lo)).take (HT.sIx ⇑ds ⇑ds hi - HT.sIx ⇑ds 0 lo)
def Rps.cut{ok:Addr->Prop}{H:Hp}{vs:List V}{ds:ez}(r:Rps ok H vs ds)(lo hi:Option Int):Rps ok H (uY vs lo hi) (jE ds lo hi):=by
 unfold uY jE;rw[⇑r];exact(r.drop _).take _
def Yh(te:DE)(g f:DO):DE:=λρ P=>te ρ λk d=>g ρ λlo=>f ρ λhi=>match d with
 |.list ds=>newP k (jE ds lo hi) λk'=>P k' (.list (jE ds lo hi))
 |_=>False
def Ug:G2:=λk1 d1 k2 d2 P=>match d1,d2 with
 |.list ds,.list es=>⇑ds+⇑es<=1000/\newP (k1.join k2) (ds++es) λk=>P k (.list (ds++es))
 |_,_=>False
def Wa:Ok2 Ug V0:=by
 intro p H0 own r H x y h I i J P Q A F G t q;unfold Ug at t;split at t
 ·let⟨u,xs,w,L,h1,d⟩:=F.dh;let⟨v,ys,B,M,h2,f⟩:=G.dh;subst w B;have C:=Ym;refine⟨u,v,xs,ys,rfl,rfl,h1,h2,by rw[⇑d,⇑f];lia,λl hl=>?_⟩;let⟨s,D,E⟩:=A.new hl (.lst (xs++ys));have j:=dM h i;have m:∀{k vs ds},k.le (h.join i)=true->Rps (okK p H0 own r k) H vs ds->Rps (okK p H0 own r (h.join i)) H vs ds:=λhk z=>z.mono (λa o=>dH A hk o) (λ_ _ _ e=>e) λ_ _ e=>e;let⟨K,g,n⟩:=oh A (cU A s ((m j.1 d).app (m j.2 f))) E aB t.2;exact q _ _ _ _ g s D n
 ·exact t.elim
def Lq:G2:=λk1 d1 k2 d2 P=>match d1,d2 with
 |.tuple ds,.tuple es=>⇑ds+⇑es<=1000/\P (norm (k1.join k2) (.tuple (ds++es))) (.tuple (ds++es))
 |_,_=>False
def Tq:Ok2 Lq QB:=by
 intro p H0 own i H x y g C h D P Q A w B t q;unfold Lq at t;split at t
 ·let⟨n,xs,s,h1,d⟩:=w.dU;let⟨r,ys,u,h2,f⟩:=B.dU;subst s u;have v:=Ym;refine⟨n,r,xs,ys,rfl,rfl,h1,h2,by rw[⇑d,⇑f];lia,λl H' sm hl=>?_⟩;have K:Kp p H H':=Kp.of sm;have j:=dM g h;have m:∀{k vs ds},k.le (g.join h)=true->Rps (okK p H0 own i k) H vs ds->Rps (okK p H0 own i (g.join h)) H vs ds:=λhk z=>z.mono (λa o=>dH A hk o) (λ_ _ _ e=>e) λ_ _ e=>e;exact q _ _ _ _ t.2 K (p.mono H H' A.pen λb o _ e=>sm b o e) (aO (.tup hl (cU A K ((m j.1 d).app (m j.2 f)))))
 ·exact t.elim
def Yk(i:Nat)(te:DE):DS:=λP ρ=>match ρ[i]? with
 |some (.dw r (.list ds))=>te ρ λk d=>match d with
  |.list es=>(k.le .new || cH es)=true/\⇑ds+⇑es<=1000/\P.nx ((forget r ρ).set i (.dw r (.list (ds++es))))
  |_=>False
 |_=>False
def wF{te:DE}{ρ:List Sl}{R:Kd->D->Prop}(t:te ρ R):iz te nj ρ (λks=>∃k d,ks=[(k,d)]/\R k d):=by
 show te ρ λk d=>∃f d',[((k,d):Kd×D)]=[(f,d')]/\R f d';have e:(λk d=>∃f d',[((k,d):Kd×D)]=[(f,d')]/\R f d')=R:=by
  funext k d;apply propext;constructor
  ·rintro⟨f,d',e,h⟩;cases e;exact h
  ·exact λh=>⟨k,d,rfl,h⟩
 rw[e];exact t
def W3(i:Nat)(f te:DE):DS:=λP ρ=>match ρ[i]? with
 |some (.dw r (.list ds))=>f ρ λ_ dj=>te ρ λk d=>match dj with
  |.int j=>(norm k d).le .new=true/\0<=j/\j.toNat<=⇑ds/\⇑ds<1000/\P.nx ((forget r ρ).set i (.dw r (.list (ds.take j.toNat++d::ds.drop j.toNat))))
  |_=>False
 |_=>False
def Hq{i:Nat}{G:DE}(h:PS X st (vf (tBM X.K "list" Ds (jJ i) (kh (iz G (iz te nj)))))):PDS X st (W3 i G te):=PS.wk' h (by
 rintro Q σ H ⟨p,H0,own,ρ,P,E,t,w⟩;unfold W3 at t;split at t
 ·rename_i r ds hr;let⟨v,hv,x⟩:=E.slot i _ hr;let⟨l,vs,rfl,hl,z,B⟩:=x.dh;refine⟨.ref l,hv,.inl ⟨rfl,vs,SqL.of z⟩,p,H0,own,ρ,λks=>∃s n k d,ks=[(s,n),(k,d)]/\(match n with
   |.int j=>(norm k d).le .new=true/\0<=j/\j.toNat<=⇑ds/\⇑ds<1000/\P.nx ((forget r ρ).set i (.dw r (.list (ds.take j.toNat++d::ds.drop j.toNat))))
   |_=>False),E,?_,?_⟩
  ·show G ρ λs n=>te ρ λk d=>∃q o u d',[((s,n):Kd×D),(k,d)]=[(q,o),(u,d')]/\_;have e:∀(s:Kd)(n:D),(λk d=>∃q o u d',[((s,n):Kd×D),(k,d)]=[(q,o),(u,d')]/\(match o with
    |.int j=>(norm u d').le .new=true/\0<=j/\j.toNat<=⇑ds/\⇑ds<1000/\P.nx ((forget r ρ).set i (.dw r (.list (ds.take j.toNat++d'::ds.drop j.toNat))))
    |_=>False))=λk d=>(match n with
    |.int j=>(norm k d).le .new=true/\0<=j/\j.toNat<=⇑ds/\⇑ds<1000/\P.nx ((forget r ρ).set i (.dw r (.list (ds.take j.toNat++d::ds.drop j.toNat))))
    |_=>False):=λs n=>by
    funext k d;apply propext;constructor
    ·rintro⟨q,o,u,d',e,h⟩;cases e;exact h
    ·exact λh=>⟨s,n,k,d,rfl,h⟩
   simp only[e];exact t
  ·rintro ks V M ⟨s,n,k,d,rfl,hh⟩ A R;cases n with
   |int j =>
    let⟨hk,S,T,I,hn⟩:=hh;let⟨W,y,rfl,F,C⟩:=Jf R;have C:=dR A hk (aO C);have N:=Rp.int' F;have h1:M l=some (.lst vs):=A.kp l _ z (E.ow l r hl).2.1;have O:=Ym;have U:=⇑B;refine⟨l,vs,j.toNat,y,rfl,?_,h1,(),(),?_⟩
    ·rw[N];have:(~~~j.toNat)=j:=()
     rw[this]
    let⟨J,L⟩:=E.Jh (vs':=vs.take j.toNat++y::vs.drop j.toNat) (ds':=ds.take j.toNat++d::ds.drop j.toNat) A hv hl z B λH2 f g=>by
     have m:=v9 f B λd hd=>vg hd;exact(m.take _).app (.cons (g C) (m.drop _))
    exact w.nx _ σ _ _ J L hn
   |_=>exact hh.elim
 ·exact t.elim)
end
variable [Gr]
structure Cal(P:Za)(w:Zb)(K:W.Frag)(mg:Str->ew)(fw:Heap)(k:Nat)(x:Str)(ps:List Str)(sp:Sp):Prop where
 ex:∃f fd,k∩ps∩sp/\Binds K fd ps []/\W.keepIn K (.ref f)=true/\mg x=some (.ref f)
section
variable{k j:Nat}{x:Str}{ps:List Str}{e:Zt}{es:List Zt}{t:DA}{p pos pq:Pos}
def pcS{sp:Sp}{a:TA}(C:Cal X.prog X.w X.K X.mg X.fw k x ps sp)(hr:Room j X.A)(ha:PA X (e::es) a)(hk:k<=j)(hg:Gl X x)(hdb:zB x)(he:zS X e es)(hpl:zP X pos es) :
  PE X (.Call (.Name x p) (e::es) [] pos) (xQ sp [] E0 a):=by
 let⟨f,d,F,b,c,m⟩:=C.ex;exact Oq F (hr.mono hk) hg m c b .nil vB ha hdb he hpl
def dc{f:ed}(C:Cal X.prog X.w X.K X.mg X.fw k x ps (spD f))(hr:Room j X.A)(ha:PDA X (e::es) t)(hk:k<=j:=by decide)(hg:Gl X x:=by rfl)(hdb:zB x:=by decide)(he:zS X e es:=by rfl)(hpl:zP X pos es:=by rfl) :
  PD X (.Call (.Name x p) (e::es) [] pos) (tFn f t):=PE.wk (pcS C hr ha hk hg hdb he hpl) O9
def dcP{C:Pn->Prop}{i:Nat}{f:ed}{y:Str}{a:Pos}(CC:Cal X.prog X.w X.K X.mg X.fw k x ps (spP C f))(hr:Room j X.A)(hi:PE X (.Name y a) (jJ i))(ha:PDA X es t)(hk:k<=j:=by decide)(hg:Gl X x:=by rfl)(hdb:zB x:=by decide)(he:Zu (.Name y a::es) X.env=(false,Zv (.Name y a) X.env)::Zu es X.env:=by rfl)(hpl:zP X pos es:=by rfl) :
  PD X (.Call (.Name x p) (.Name y a::es) [] pos) (Nu C f i t):=PE.wk (pcS CC hr (bV hi ha) hk hg hdb he hpl) KN
def dv(i:Nat){x:Str}{pos:Pos}(hN:X.N[i]?=some x:=by rfl)(hv:Vis X.env.scope x:=by first|exact Or.inl rfl|exact Or.inr (Or.inl rfl)|exact Or.inr (Or.inr rfl))(hd:zB x:=by decide)(hcd:(x==("__classdict__":Str))=false:=by decide):PD X (.Name x pos) (tV i):=SX (pv i hN hv hd hcd)
end
structure Bn(mg:Str->ew):Prop where
 isinstance:mg "isinstance"=none
 int:mg "int"=none
 bool:mg "bool"=none
 tuple:mg "tuple"=none
 list:mg "list"=none
 len:mg "len"=none
 all:mg "all"=none
 min:mg "min"=none
 max:mg "max"=none
 sorted:mg "sorted"=none
 range:mg "range"=none
 abs:mg "abs"=none
def boot_all:Zq "all"=some (.builtin "all"):=⋯
def boot_abs:Zq "abs"=some (.builtin "abs"):=⋯
abbrev FF:=ed
def Ei{f:ed}{n:Nat}(hn:∀ds P,f ds P->⇑ds=n:=by intro _ _ h;repeat (first|(let⟨rfl,_⟩:=h;rfl)|let⟨_,h⟩:=h)):∀vs H Q E,spD f vs H Q E->⇑vs=n:=λvs H Q E h=>by
 let⟨ds,P,r,t,_⟩:=h;rw[⇑r];exact hn ds P t
def Us{f:ed}{T:DS}{N:List Str}{vs:List V}{H:Hp}{Q:VK}{E:XK}(h:spD f vs H Q E)(a:∀ds P,f ds P->∃ρ,ds.map dO++List.replicate (⇑N - ⇑ds) .any=ρ/\T { nx:=λ_=>P .none,rt:=P } ρ)(g:Gr.G n8 H:=by trivial):j9 T { nx:=λ_ H'=>Q .non H',rt:=Q } (L2.start N vs) H :=
 Ut h (λds P t=>by
  let⟨ρ,e,q⟩:=a ds P t;rw[e];exact q) g
def bB(n:Int)(us:eh):D:=.tuple [.int n,.tuple (us.map pD)]
def jy(n:Int)(us:eh):eV (bB n us)=true:=by
 show(eV (.int n)&&(cH (us.map pD)&&true))=true;rw[cQ];rfl
def rz(n:Int)(us:eh):dO (bB n us)=.im (bB n us):=dP (jy n us)
def qj{n:Int}{us:eh}{l a:List Sl}(h:l=a):dO (bB n us)::l=.im (bB n us)::a:=by rw[rz,h]
def enterQ{C:Pn->Prop}{f:ed}{T:DS}{N:List Str}{vs:List V}{H:Hp}{Q:VK}{E:XK}(h:spP C f vs H Q E)(a:∀ds P,f ds P->∃ρ,ds.map dO++List.replicate (⇑N - (⇑ds+1)) .any=ρ/\T { nx:=λ_=>P .none,rt:=P } (.pen C::ρ))(g:∀p,Gr.G p H:=by intro _;trivial):j9 T { nx:=λ_ H'=>Q .non H',rt:=Q } (L2.start N vs) H :=
 Uq h (λds P t=>by
  let⟨ρ,e,q⟩:=a ds P t;rw[e];exact q) g
variable [Gr]
def Kw{α β:Type}{ds:List α}{i:Nat}{d:α}(f:α->β)(h:ds[i]?=some d):(ds.take (i+1)).map f=(ds.take i).map f++[f d]:=by
 rw[List.take_add_one,h,List.map_append];rfl
def iJ{α β:Type}{l:List α}{g:α->β}{i:Nat}{d:β}(h:(l.map g)[i]?=some d):∃x,l[i]?=some x/\g x=d:=by
 rw[List.getElem?_map]at h;cases e:l[i]? with
 |none=>rw[e]at h;cases h
 |some x=>rw[e]at h;exact⟨x,rfl,Option.some.inj h⟩
theorem lQ:∀l:eg,(l.map PyData.int).all okD=true
 |[]=>rfl
 |x::l=>by
  rw[List.map_cons,List.all_cons,lQ l];rfl
theorem any_ints(x:Int):∀l:eg,((l.map PyData.int).any λe=>PyData.eqv e (.int x))=decide (x∈l)
 |[]=>rfl
 |y::l=>by
  rw[List.map_cons,List.any_cons,any_ints x l];have e:PyData.eqv (.int y) (.int x)=(y==x):=rfl;rw[e,Bool.eq_iff_iff,Bool.or_eq_true,beq_iff_eq,dL,dL,List.mem_cons];constructor
  ·rintro(h|h)
   ·exact .inl h.symm
   ·exact .inr h
  ·rintro(h|h)
   ·exact .inl h.symm
   ·exact .inr h
def aY(lo:Int)(n:Nat):⇑(bA lo n)=n:=by unfold bA;simp
def cY{lo:Int}{n i:Nat}{d:D}(h:(bA lo n)[i]?=some d):i<n/\d=.int (lo+~~~i):=by
 unfold bA at h;let⟨x,c,e⟩:=iJ h;let⟨h1,h2⟩:=List.getElem?_eq_some_iff.mp c;have a:i<n:=↑h1
 have b:x=i:=↑h2.symm
 subst b;exact⟨a,e.symm⟩
variable [Gr]
section
variable{pos p2:Pos}{a b e:Zt}{ta tb te:DE}
theorem Rps.rep{ok:Addr->Prop}{H:Hp}{vs:List V}{ds:ez}(r:Rps ok H vs ds):∀k:Nat,Rps ok H (List.replicate k vs).flatten (List.replicate k ds).flatten
 |0=>.nil
 |k+1=>by
  rw[List.replicate_succ,List.replicate_succ,List.flatten_cons,List.flatten_cons];exact r.app (Rps.rep r k)
def Ud:G2:=λk1 d1 _ d2 P=>match d1,d2 with
 |.list ds,.int k=>0<=k/\k<1000/\⇑ds * k.toNat<=1000/\newP k1 (List.replicate k.toNat ds).flatten λk'=>P k' (.list (List.replicate k.toNat ds).flatten)
 |_,_=>False
def V6:Ok2 Ud VL:=by
 intro p H0 own s H x y z u B v P Q A o r t q;unfold Ud at t;split at t
 ·rename_i ds k;let⟨h,xs,i,C,h1,c⟩:=o.dh;subst i;have j:=Ym;refine⟨h,k,xs,rfl,r.int',h1,(),(),by rw[⇑c];lia,λl hl=>?_⟩;let⟨g,m,n⟩:=A.new hl (.lst (List.replicate k.toNat xs).flatten);let⟨w,d,f⟩:=oh A (cU A g (c.rep k.toNat)) n aB t.2.2.2;exact q _ _ _ _ d g m f
 ·exact t.elim
def Ws:G2:=λ_ d1 _ d2 P=>match d1,d2 with
 |.bool i,.bool j=>P .imm (.bool (decide (i=j)))
 |_,_=>False
def V8:Ok2 Ws (λx y H Q=>∃a b,x=.bl a/\y=.bl b/\Q (.bl (decide (a=b))) H):=by
 intro p H0 own f H x y i g j h P Q A c d t q;unfold Ws at t;split at t
 ·cases c;cases d;exact⟨_,_,rfl,rfl,q _ _ _ _ t Kp.refl A.pen (.bl _)⟩
 ·exact t.elim
end
section
variable{pos:Pos}{a:Zt}{t:DA}
variable [Gr]
end
variable [Gr]
def jY{x:Str}{i:Int}{u:Value}{ps:Pos}(hg:Gl X x)(hm:X.mg x=some u)(r:RelV (.int i) u)(hd:zB x:=by decide):PD X (.Name x ps) (tK (.int i)):=nW (Oo hg hm r hd) λ_=>.int i
def Vu(te:DE):DE:=λρ P=>te ρ λ_ d=>P .imm (.bool (tyD d=="list" || tyD d=="tuple"))
def TX{K:W.Frag}(d:D):W.kitAny K (.type (tyD d)) [.type "list",.type "tuple"]=some (tyD d=="list" || tyD d=="tuple"):=by
 cases d <;> rfl
def nR{x y:Str}{ps g c j:Pos}{kk:Nat}(hm:X.mg "isinstance"=none)(he:PD X e te)(z:PE X (.Name x g) (tC (.ty "list")))(m:PE X (.Name y c) (tC (.ty "tuple")))(hg:Gl X "isinstance":=by rfl)(h1:Zu [e,.Tuple [.Name x g,.Name y c] kk j] X.env=(false,Zv e X.env)::Zu [.Tuple [.Name x g,.Name y c] kk j] X.env:=by rfl)(h2:Zu [.Tuple [.Name x g,.Name y c] kk j] X.env=(false,Zv (.Tuple [.Name x g,.Name y c] kk j) X.env)::Zu [] X.env:=by rfl)(u:Zu [.Name x g,.Name y c] X.env=(false,Zv (.Name x g) X.env)::Zu [.Name y c] X.env:=by rfl)(w:Zu [.Name y c] X.env=(false,Zv (.Name y c) X.env)::Zu [] X.env:=by rfl)(hpl:(Zw pos (Zu [.Tuple [.Name x g,.Name y c] kk j] X.env)).any (·.1)=false:=by rfl) :
  PD X (.Call (.Name "isinstance" ps) [e,.Tuple [.Name x g,.Name y c] kk j] [] pos) (Vu te):=PE.wk (eO xJ hg hm UD (bV he (bV (JQ (bV z (bV m dG w) u)) dG h2) h1) ∅ ∅ h1 hpl) (by
 rintro σ H Q ⟨p,H0,own,ρ,P,E,t,q⟩;refine⟨p,H0,own,ρ,_,E,t,λk d v H' h A r=>?_⟩;refine⟨by show 2<=sizeLine;decide,λl hl=>?_⟩;let⟨n,B,D⟩:=A.new hl (.tup [.ty "list",.ty "tuple"]);have C:=jB A n r;have f:TyOf X.K (upd H' l (.tup [.ty "list",.ty "tuple"])) v (.type (tyD d))->∃x p c1 c2 t b,[v,V.ref l]=[x,.ref p]/\TyOf X.K (upd H' l (.tup [.ty "list",.ty "tuple"])) x t/\SqT X.K (upd H' l (.tup [.ty "list",.ty "tuple"])) p [.ty c1,.ty c2]/\W.kitAny X.K t [.type c1,.type c2]=some b/\Q (.bl b) (upd H' l (.tup [.ty "list",.ty "tuple"])):=λty =>
  ⟨v,l,"list","tuple",_,_,rfl,ty,SqT.of aB,TX d,q _ _ _ _ h (A.go n B) (.bl _)⟩
 show ∃x p c1 c2 t b,_/\_;cases C with
 |non=>exact f .non
 |bl b=>exact f (.bl b)
 |int i=>exact f (.int i)
 |str x=>exact f (.str x)
 |lst o hh s=>exact f (.lst hh)
 |tup hh s=>exact f (.tup hh)
 |dct o hh s=>exact f (.dK hh))
variable [Gr]
def O1:D->Bool
 |.none=>true
 |_=>false
def Ho:G2:=λ_ d1 _ d2 P=>match d2 with
 |.none=>P .imm (.bool (O1 d1))
 |_=>False
def Dm{ok:Addr->Prop}{H:Hp}{v:V}{d:D}(r:Rp ok H v d):decide (v=.non)=O1 d:=by
 cases r <;> simp[O1]
def QL:Ok2 Ho (λx y H Q=>y=.non/\Q (.bl (decide (x=.non))) H):=by
 intro p H0 own f H x y i g j h P Q A c d t q;unfold Ho at t;split at t
 ·cases d;rw[Dm c];exact⟨rfl,q _ _ _ _ t Kp.refl A.pen (.bl _)⟩
 ·exact t.elim
def Bg(ha:PD X a ta)(hb:PD X b tb):PD X (.Compare a [.Is] [b] pos) (t2 Ho ta tb):=sE J6 QL ha hb (dg _)
def wA(ha:PD X a ta)(hb:PD X b tb):PDT X (.Compare a [.Is] [b] pos) (fu (t2 Ho ta tb)):=gC J6 QL ha hb (dg _)
end
variable [Gr]
section
variable{pos:Pos}{st:ZF}
end
@[reducible] def grX(H:Hp):Gr:=⟨λp H0=>p=n8/\H0=H⟩
structure Cal1(P:Za)(w:Zb)(K:W.Frag)(mg:Str->ew)(fw:Heap)(k:Nat)(x:Str)(ps:List Str)(sp:Sp):Prop where
 ex:∃f fd,FnOk P w K mg fw (CX1 P w) k f fd ps sp/\Binds K fd ps []/\W.keepIn K (.ref f)=true/\mg x=some (.ref f)
section
variable{E:XK}{k j:Nat}{x:Str}{ps:List Str}{e:Zt}{es:List Zt}{p pos:Pos}
end
variable [Gr]
section
variable{pos:Pos}{a b e:Zt}{ta tb te:DE}{t:DA}
end
end Dl
namespace L2
def once(ns:eg):eg:=ns.foldl step_dedup []
section
variable{X:Cx}
end
end L2
namespace Dl
open L2
variable{X:Cx}
variable [Gr]
section
variable{pos pos':Pos}{a:Zt}{t:DA}
end
variable [Gr]
section
variable{pos p2:Pos}{a b c e:Zt}{es:List Zt}{ta tb tc te:DE}{t:DA}{st:ZF}
def OpR.or{f:Value->Value->Sem Value}{r g:R2}(h:OpR X f r)(h':OpR X f g):OpR X f (λx y H Q=>r x y H Q\/g x y H Q):=by
 intro d s σ H x y v u Q I i j q;rcases q with q|q
 ·exact h d s σ H x y v u Q I i j q
 ·exact h' d s σ H x y v u Q I i j q
def aG(ha:PD X a ta)(hb:PD X b tb)(hs:pI b:=by exact λ_ _=>rfl):PD X (.Subscript a b pos) (t2 gIx ta tb):=PE.wk (Dz (IxR.or qZ Lb) ha hb hs) (Ef (by
 intro p H0 own k H x y n l r m P Q A h j t q;unfold gIx at t;split at t
 ·rename_i ds i;let⟨d,hd,t⟩:=t;let⟨c,vs,rfl,o,hc,f⟩:=h.dh;let⟨v,hv,g⟩:=f.atI hd;exact .inl ⟨c,vs,i,v,rfl,j.int',SqL.of hc,hv,q _ _ _ _ t Kp.refl A.pen (aO g)⟩
 ·rename_i ds i;let⟨d,hd,t⟩:=t;let⟨c,vs,rfl,hc,f⟩:=h.dU;let⟨v,hv,g⟩:=f.atI hd;exact .inr ⟨c,vs,i,v,rfl,j.int',SqT.of hc,hv,q _ _ _ _ t Kp.refl A.pen (aO g)⟩
 ·exact t.elim))
def Et:G2:=λk1 d1 k2 d2 P=>match d1 with
 |.int i=>(match d2 with
  |.int j=>P .imm (.int (i+j))
  |_=>False)
 |.list ds=>Ug k1 (.list ds) k2 d2 P
 |.tuple ds=>Lq k1 (.tuple ds) k2 d2 P
 |_=>False
theorem bT(ha:PD X a ta)(hb:PD X b tb):PD X (.BinOp a .Add b pos) (t2 Et ta tb):=vA (OpR.or j5 (OpR.or Tf Ow)) (by
 intro p H0 own h H x y k m l d P Q A f g t q;cases m with
 |int i =>
  cases d with
  |int j=>exact .inl ⟨i,j,f.int',g.int',q _ _ _ _ t Kp.refl A.pen (.int _)⟩
  |_=>exact t.elim
 |list ds=>exact .inr (.inl (Wa p H0 own h H x y k _ l d P Q A f g t q))
 |tuple ds=>exact .inr (.inr (Tq p H0 own h H x y k _ l d P Q A f g t q))
 |_=>exact t.elim) ha hb
def Lk:G2:=λk1 d1 k2 d2 P=>match d1 with
 |.int i=>(match d2 with
  |.int j=>HS i j/\P .imm (.int (i * j))
  |_=>False)
 |.list ds=>Ud k1 (.list ds) k2 d2 P
 |_=>False
theorem nO(ha:PD X a ta)(hb:PD X b tb):PD X (.BinOp a .Mult b pos) (t2 Lk ta tb):=vA (OpR.or pQ S9) (by
 intro p H0 own h H x y l k m d P Q A f g t q;cases k with
 |int i =>
  cases d with
  |int j=>exact .inl ⟨i,j,f.int',g.int',t.1,q _ _ _ _ t.2 Kp.refl A.pen (.int _)⟩
  |_=>exact t.elim
 |list ds=>exact .inr (V6 p H0 own h H x y l _ m d P Q A f g t q)
 |_=>exact t.elim) ha hb
def ni(neg:Bool):G2:=λk1 d1 k2 d2 P=>match scD d1 d2 with
 |some b=>P .imm (.bool (if neg then !b else b))
 |none=>Wt neg k1 d1 k2 d2 P
def QS{K:W.Frag}:Ok2 (ni false) (λx y H Q=>rEq x y H Q\/Jp K false x y H Q):=by
 intro p H0 own i H x y g d h f P Q A j k t q;cases e:scD d f with
 |some b =>
  have t':gEq false g d h f P:=by
   unfold ni at t;unfold gEq;rw[e]at t ⊢;exact t
  exact .inl (V9 p H0 own i H x y g d h f P Q A j k t' q)
 |none =>
  unfold ni at t;rw[e]at t;exact .inr (QM false p H0 own i H x y g d h f P Q A j k t q)
def QK{K:W.Frag}:Ok2 (ni true) (λx y H Q=>rNe x y H Q\/Jp K true x y H Q):=by
 intro p H0 own i H x y g d h f P Q A j k t q;cases e:scD d f with
 |some b =>
  have t':gEq true g d h f P:=by
   unfold ni at t;unfold gEq;rw[e]at t ⊢;exact t
  exact .inl (XC p H0 own i H x y g d h f P Q A j k t' q)
 |none =>
  unfold ni at t;rw[e]at t;exact .inr (QM true p H0 own i H x y g d h f P Q A j k t q)
def jr(hu:X.A.units+64<Ys)(ha:PD X a ta)(hb:PD X b tb):PD X (.Compare a [.Eq] [b] pos) (t2 (ni false) ta tb):=sE (OpR.or Kc (Ka hu)) QS ha hb (dg _)
def Bf(hu:X.A.units+64<Ys)(ha:PD X a ta)(hb:PD X b tb):PD X (.Compare a [.NotEq] [b] pos) (t2 (ni true) ta tb):=sE (OpR.or QG (J1 hu)) QK ha hb (dg _)
def fQ(hu:X.A.units+64<Ys)(ha:PD X a ta)(hb:PD X b tb):PDT X (.Compare a [.Eq] [b] pos) (fu (t2 (ni false) ta tb)):=gC (OpR.or Kc (Ka hu)) QS ha hb (dg _)
def gB(hu:X.A.units+64<Ys)(ha:PD X a ta)(hb:PD X b tb):PDT X (.Compare a [.NotEq] [b] pos) (fu (t2 (ni true) ta tb)):=gC (OpR.or QG (J1 hu)) QK ha hb (dg _)
end
section
variable{n:Nat}{g:DG}{tt:DT}{te:DE}{ρ:List Sl}{k:Kd}{ds:ez}{R:Kd->ez->Prop}
def O5{α β:Type}(f:α->β){l:List α}{i:Nat}{x:α}(h:l[i]?=some x):(l.take (i+1)).map f=(l.take i).map f++[f x]:=by
 rw[List.take_add_one,h];simp
def Bu{α:Type}(xs:List α)(e f:α->D)(a:Kd)(hd:ds=xs.map e)(hl:⇑xs<=1000)(step:∀x∈xs,∀(A:D->Prop)(B:Prop),A (f x)->g (norm (elC k) (e x)) (e x) (List.replicate n .any++ρ) λρ'=>if true=true then te ρ' λk' d'=>(norm k' d').le a=true/\A d' else B)(q:R a (xs.map f)) :
  ⇑ds<=1000/\∃(a:Kd)(b:Nat->ez->Prop),b 0 [] /\
   (∀i d ys,ds[i]?=some d->b i ys->g (norm (elC k) d) d (List.replicate n .any++ρ) λρ'=>if true=true then te ρ' λk' d'=>(norm k' d').le a=true/\b (i+1) (ys++[d'])else b (i+1) ys) /\
   ∀ys,b ⇑ds ys->R a ys:=by
 subst hd;refine⟨by rw[List.length_map];exact hl,a,λi ys=>ys=(xs.take i).map f,rfl,?_,?_⟩
 ·rintro i d ys hd rfl;rw[List.getElem?_map]at hd;cases c:xs[i]? with
  |none=>rw[c]at hd;cases hd
  |some x =>
   rw[c]at hd;have hd:=Option.some.inj hd;subst hd;exact step x (List.mem_of_getElem? c) (λd'=>(xs.take i).map f++[d']=(xs.take (i+1)).map f) _ (O5 f c).symm
 ·rintro ys rfl;rw[List.length_map,List.take_length];exact q
def tM{α:Type}(xs:List α)(e:α->D)(p:α->Bool)(f:α->D)(a:Kd)(hd:ds=xs.map e)(hl:⇑xs<=1000)(step:∀x∈xs,∀(A:D->Prop)(B:Prop),(p x=true->A (f x))->(p x=false->B)->g (norm (elC k) (e x)) (e x) (List.replicate n .any++ρ) λρ'=>tt ρ' λb=>if b=true then te ρ' λk' d'=>(norm k' d').le a=true/\A d' else B)(q:R a ((xs.filter p).map f)) :
  ⇑ds<=1000/\∃(a:Kd)(c:Nat->ez->Prop),c 0 [] /\
   (∀i d ys,ds[i]?=some d->c i ys->g (norm (elC k) d) d (List.replicate n .any++ρ) λρ'=>tt ρ' λb=>if b=true then te ρ' λk' d'=>(norm k' d').le a=true/\c (i+1) (ys++[d'])else c (i+1) ys) /\
   ∀ys,c ⇑ds ys->R a ys:=by
 subst hd;refine⟨by rw[List.length_map];exact hl,a,λi ys=>ys=((xs.take i).filter p).map f,rfl,?_,?_⟩
 ·rintro i d ys hd rfl;rw[List.getElem?_map]at hd;cases j:xs[i]? with
  |none=>rw[j]at hd;cases hd
  |some x =>
   rw[j]at hd;have hd:=Option.some.inj hd;subst hd;have sn:((xs.take (i+1)).filter p).map f=((xs.take i).filter p).map f++if p x=true then [f x]else []:=by
    rw[List.take_add_one,j,List.filter_append,List.map_append];cases hp:p x <;> simp[hp]
   refine step x (List.mem_of_getElem? j) (λd'=>((xs.take i).filter p).map f++[d']=((xs.take (i+1)).filter p).map f) _ (λh=>?_) (λh=>?_)
   ·rw[sn,dP h]
   ·show _=_;rw[sn,h,dQ Bool.false_ne_true,List.append_nil]
 ·rintro ys rfl;rw[List.length_map,List.take_length];exact q
section
variable{g:DG}{tb:DS}{k:Kd}{ds:ez}{ρ:List Sl}{P:DEnds}
end
variable [Gr]
section
variable{scope:Zs}{tg iter elt:Zt}{ifs:List Zt}{pos:Pos}{ti:DI}{g:DG}{tt:DT}{te:DE}
def Sg(own:List Str){i:Nat}{y:Str}{e a:Pos}(hc:X.calm=true)(hN:X.N.Nodup)(b:X.N[i]?=some y)(h:Loc X.env.scope y)(hi:PDI X tg iter ti)(hg:∀c,PDG (X.comp own scope c) tg g)(ht:∀c,HN (X.comp own scope c) ifs tt)(he:∀c,PD (X.comp own scope c) elt te)(d:ZQ (.ListComp elt [⟨tg,iter,ifs,0⟩] scope pos) (some (.Name y e)) a.line X.env=pure true:=by rfl)(hk:iy X.env scope X.N=true:=by rfl)(hs:zF X iter:=by intro _;rfl)(f:zL X y:=by first|exact .inl rfl|exact .inr rfl|assumption) :
  PS X (.Assign [.Name y e] (.ListComp elt [⟨tg,iter,ifs,0⟩] scope pos) a) (rF (bJ (dLC ⇑own ti g tt te)) (jC i)):=PS.wk' (QD own hc hN b h hi hg ht he d hk hs f) λD σ H q=>wK σ H _ q
end
end
variable [Gr]
section
variable{pos:Pos}{st:ZF}{rest:List ZF}{te tj:DE}{ti:DI}{t:DS}
def Uy(i:Nat)(t:DS):DS:=λP ρ=>match ρ[i]? with
 |some (.dw r d)=>o7 r ρ i=true/\t P (ρ.set i (.sn d))
 |some (.rw r L)=>o7 r ρ i=true/\t P (ρ.set i (.sn (.list (L.map PyData.list))))
 |some (.sp r b ds)=>o7 r ρ i=true/\t P (ρ.set i (if b=true then .sn (.list ds)else .sh (.list ds)))
 |_=>False
def EnvD.freeze{p:Pn}{H0 H:Hp}{own:Addr->Option Nat}{σ:L2.St}{ρ:List Sl}{i r:Nat}{d:D}{v:V}(E:EnvD p H0 own σ H ρ)(f:o7 r ρ i=true)(hv:σ[i]?=some (some v))(x:Rp (λa=>own a=some r) H v d) :
  EnvD p H0 (aX r own) σ H (ρ.set i (.sn d)):=by
 have c:EnvD p H0 (aX r own) σ H (ρ.set i .any):=(E.drop (i:=i)).clear f;have b:=c.put (v:=v) (i:=i) (s:=.sn d) ⟨v,hv,x.mono (λa o=>⟨(E.ow a r o).1,(E.ow a r o).2.1,by unfold aX;rw[dP o]⟩) (λ_ _ _ e=>e) λ_ _ e=>e⟩;rw[List.set_set]at b;exact b
def Cp(i:Nat)(h:nq X rest t):nq X rest (Uy i t):=PSs.wk' h (by
 rintro Q σ H ⟨p,H0,own,ρ,P,E,q,w⟩;unfold Uy at q;split at q
 ·rename_i r d e;let⟨v,hv,x⟩:=E.slot i _ e;exact⟨p,H0,_,_,P,E.freeze q.1 hv x,q.2,w.go gO⟩
 ·rename_i r L e;let⟨st,k,hv,x⟩:=E.slot i _ e;exact⟨p,H0,_,_,P,E.freeze q.1 hv x.rp,q.2,w.go gO⟩
 ·rename_i r b ds e;let⟨l,vs,hv,o,h,z⟩:=E.slot i _ e;have j:EnvD p H0 (aX r own) σ H (ρ.set i .any):=(E.drop (i:=i)).clear q.1;have g:∀a,own a=none->aX r own a=none:=λa n=>by unfold aX;rw[n];simp
  have cl:aX r own l=none:=by unfold aX;rw[dP o]
  have f:EnvD p H0 (aX r own) σ H ((ρ.set i .any).set i (if b=true then .sn (.list ds)else .sh (.list ds))):=j.put (v:=.ref l) (by
   cases b with
   |true=>exact⟨_,hv,.lst ⟨(E.ow l r o).1,(E.ow l r o).2.1,cl⟩ h (z.mono (λc n=>⟨n.1 rfl,n.2.1,g c n.2.2⟩) (λ_ _ _ e=>e) λ_ _ e=>e)⟩
   |false=>exact⟨_,hv,.lst ⟨(E.ow l r o).2.1,cl⟩ h (z.mono (λc n=>⟨n.2.1,g c n.2.2⟩) (λ_ _ _ e=>e) λ_ _ e=>e)⟩)
  rw[List.set_set]at f;exact⟨p,H0,_,_,P,f,q.2,w.go gO⟩
 ·exact q.elim)
def dSp(i:Nat)(b:Bool)(t:DS):DS:=λP ρ=>match ρ[i]? with
 |some (.dw r (.list ds))=>cH ds=true/\t P (ρ.set i (.sp r b ds))
 |_=>False
def Mg(i:Nat)(b:Bool)(h:nq X rest t):nq X rest (dSp i b t):=PSs.wk' h (by
 rintro Q σ H ⟨p,H0,own,ρ,P,E,q,w⟩;unfold dSp at q;split at q
 ·rename_i r ds e;let⟨v,hv,x⟩:=E.slot i _ e;let⟨l,vs,rfl,o,h,z⟩:=x.dh;exact⟨p,H0,own,_,P,E.put (v:=.ref l) (i:=i) (s:=.sp r b ds) ⟨l,vs,hv,o,h,(z.imm q.1).mono (λ_ o=>o.elim) (λ_ _ o=>o.elim) λ_ _ e=>e⟩,q.2,w⟩
 ·exact q.elim)
def spK(b:Bool):Kd:=if b=true then .snw else .shr
def Tn{p:Pn}{H0 f H:Hp}{own:Addr->Option Nat}{b:Bool}(A:At p H0 own f H){k:Kd}(hk:k.le (spK b)=true){v:V}{d:D}{c:Hp}(r:Rp (okK p H0 own f k) c v d):Rp (okS p H0 own b) c v d:=by
 have g:=dR A hk r;cases b with
 |true=>exact g.mono (λa o=>⟨λ_=>o.1,o.2.1,o.2.2⟩) (λ_ _ _ e=>e) λ_ _ e=>e
 |false=>exact g.mono (λa o=>⟨λz=>(nomatch z),o.1,o.2⟩) (λ_ _ _ e=>e) λ_ _ e=>e
def EnvD.N8{p:Pn}{H0 H:Hp}{own:Addr->Option Nat}{σ:L2.St}{ρ:List Sl}{i r:Nat}{b:Bool}{l:Addr}{vs vs':List V}{ds':ez}(E:EnvD p H0 own σ H ρ)(hv:σ[i]?=some (some (.ref l)))(o:own l=some r)(h:H l=some (.lst vs))(z:Rps (okS p H0 own b) H vs' ds') :
  EnvD p H0 own σ (upd H l (.lst vs')) ((forget r ρ).set i (.sp r b ds'))/\FrS p own H own (upd H l (.lst vs')):=by
 refine⟨(E.write (o':=.lst vs') o h λxs z=>nomatch z).put (v:=.ref l) ⟨l,vs',hv,o,aB,z.mono (λ_ o=>o) (λc u n e=>?_) λa xs e=>?_⟩,gG o h λxs z=>nomatch z⟩
 ·rw[ao];exact e;intro y;subst y;rw[n.2.2]at o;cases o
 ·rw[ao];exact e;intro y;subst y;rw[h]at e;cases e
def Mu(i:Nat)(te:DE):DS:=λP ρ=>match ρ[i]? with
 |some (.sp r b ds)=>te ρ λk d=>(norm k d).le (spK b)=true/\⇑ds<1000/\P.nx ((forget r ρ).set i (.sp r b (ds++[d])))
 |_=>False
def wY{i:Nat}(h:PS X st (vf (tBM X.K "list" nG (jJ i) (kh (iz te nj))))):PDS X st (Mu i te):=PS.wk' h (by
 rintro Q σ H ⟨p,H0,own,ρ,P,E,t,w⟩;unfold Mu at t;split at t
 ·rename_i r b ds hr;let⟨l,vs,hv,o,j,m⟩:=E.slot i _ hr;refine⟨.ref l,hv,.inl ⟨rfl,vs,SqL.of j⟩,p,H0,own,ρ,_,E,wF t,?_⟩;rintro ks D f ⟨k,d,rfl,hk,g,hn⟩ A B;let⟨y,rfl,C⟩:=jd B;have q:=E.go A.kp A.pen;have h1:f l=some (.lst vs):=A.kp l _ j (E.ow l r o).2.1;have a:Rps (okS p H0 own b) f vs ds:=m.mono (λ_ o=>o) (λc u n e=>A.kp c u e n.2.1) A.tups;have x:=Ym;have z:=⇑m;refine⟨l,vs,y,rfl,rfl,h1,(),?_⟩;let⟨s,v⟩:=q.N8 (b:=b) hv o h1 (a.snoc (Tn A hk (aO C)));exact w.nx _ σ _ _ s (A.frs.trans v) hn
 ·exact t.elim)
def Yg(i:Nat)(tj te:DE):DS:=λP ρ=>match ρ[i]? with
 |some (.sp r b ds)=>tj ρ λ_ dj=>te ρ λk d=>match dj with
  |.int j=>(norm k d).le (spK b)=true/\0<=j/\j.toNat<=⇑ds/\⇑ds<1000/\P.nx ((forget r ρ).set i (.sp r b (ds.take j.toNat++d::ds.drop j.toNat)))
  |_=>False
 |_=>False
theorem yg:∀{c d:List Addr},c.map V.ref=d.map V.ref->c=d
 |[],[],_=>rfl
 |a::c,b::d,e=>by
  rw[List.map_cons,List.map_cons]at e;injection e with e1 e2
  rw[V.ref.inj e1,yg e2]
 |[],_::_,e=>by cases e
 |_::_,[],e=>by cases e
def xg(js:ei)(t:DS):DS:=λP ρ=>t P (js.foldl (λρ j=>ρ.set j .any) ρ)
theorem EnvD.drops{p:Pn}{H0 H:Hp}{own:Addr->Option Nat}{σ:L2.St}:∀(js:ei) {ρ:List Sl},EnvD p H0 own σ H ρ->EnvD p H0 own σ H (js.foldl (λρ j=>ρ.set j .any) ρ)
 |[],_,E=>E
 |_::js,_,E=>EnvD.drops js E.drop
def aQ(js:ei)(h:nq X rest t):nq X rest (xg js t):=PSs.wk' h (by
 rintro Q σ H ⟨p,H0,own,ρ,P,E,q,w⟩;exact⟨p,H0,own,_,P,E.drops js,q,w⟩)
def w6(i:Nat)(tj te:DE):DS:=λP ρ=>match ρ[i]? with
 |some (.rw r L)=>tj ρ λ_ dj=>match dj with
  |.int j=>∃n l,ixN ⇑L j=some n/\L[n]?=some l/\te ρ λ_ d=>eV d=true/\⇑l<1000/\P.nx ((forget r ρ).set i (.rw r (L.set n (l++[d]))))
  |_=>False
 |_=>False
def lY{i:Nat}(h:PS X st (vf (tBM X.K "list" nG (tOp (VN X.K) (jJ i) (bJ tj)) (kh (iz te nj))))):PDS X st (w6 i tj te):=PS.wk' h (by
 rintro Q σ H ⟨p,H0,own,ρ,P,E,q,w⟩;unfold w6 at q;split at q
 ·rename_i r L hr;let⟨st,as,hv,R0⟩:=E.slot i _ hr;refine⟨.ref st,hv,p,H0,own,ρ,_,E,q,λkj dj vj H1 M A1 rj=>?_⟩;cases dj with
  |int j =>
   have J:=E.go A1.kp A1.pen;let⟨W,c,x,C⟩:=J.slot i _ hr;rw[hv]at x;cases x;have ej:=Rp.int' rj;subst ej;let⟨n,l,hn,hl,M⟩:=M;have u:=(List.getElem?_eq_some_iff.mp hl).1;rw[List.getElem?_eq_getElem u]at hl;cases hl;have g:n<⇑c:=by rw[C.len];exact u
   have R:atI (c.map V.ref) j=some (.ref c[n]):=by
    unfold L2.atI;rw[List.length_map,C.len,hn];show(c.map V.ref)[n]?=_;rw[List.getElem?_map,List.getElem?_eq_getElem g];rfl
   let⟨vs,T,rv⟩:=C.row n c[n] L[n] (List.getElem?_eq_getElem g) (List.getElem?_eq_getElem u);refine⟨st,_,j,.ref c[n],rfl,rfl,SqL.of C.top,R,.inl ⟨rfl,vs,SqL.of T⟩,p,H0,own,ρ,_,J,wF M,?_⟩;rintro ks ws N ⟨k,d,rfl,im,len,nx⟩ I rk;let⟨y,rfl,U⟩:=jd rk;have U:Rp (λ_=>False) N y d:=Rp.imm U im;have E2:=J.go I.kp I.pen;let⟨W,b,x,R2⟩:=E2.slot i _ hr;rw[hv]at x;cases x
   -- the rows are those of before
   have O:b=c:=by
    have A:=I.kp st _ C.top (J.ow st r (C.ow st List.mem_cons_self)).2.1;rw[R2.top]at A;have D:=(HO.lst.inj (Option.some.inj A))
    exact yg D
   subst O;let⟨B,f,G⟩:=R2.row n b[n] L[n] (List.getElem?_eq_getElem g) (List.getElem?_eq_getElem u);have oa:=R2.ow b[n] (List.mem_cons_of_mem _ (List.getElem_mem g));have h24:=Ym;have ln:=⇑G;refine⟨b[n],B,y,rfl,rfl,f,(),?_⟩;have Y:∀a xs,N a=some (.tup xs)->upd N b[n] (.lst (B++[y])) a=some (.tup xs):=λa xs e=>by
    rw[ao];exact e;intro z;subst z;rw[f]at e;cases e
   have E3:=E2.write (o':=.lst (B++[y])) oa f (λxs z=>nomatch z);have F:=List.nodup_cons.mp R2.nd;have E4:=E3.put (v:=.ref st) (i:=i) (s:=.rw r (L.set n (L[n]++[d]))) ⟨st,b,hv,⟨?_,R2.nd,R2.ow,by rw[List.length_set];exact R2.len,λm a ds A D=>?_⟩⟩
   ·exact w.nx _ σ _ _ E4 ((A1.frs.trans I.frs).trans (gG oa f λxs z=>nomatch z)) nx
   ·rw[ao];exact R2.top;intro z;exact F.1 (by rw[z];exact List.getElem_mem g)
   ·by_cases S:m=n
    ·subst S;rw[List.getElem?_set_self u]at D;rw[List.getElem?_eq_getElem g]at A;cases A;cases D;exact⟨_,aB,(G.mono (λ_ o=>o) (λ_ _ o=>o.elim) Y).snoc (U.mono (λ_ o=>o) (λ_ _ o=>o.elim) Y)⟩
    ·rw[List.getElem?_set_ne (Ne.symm S)]at D;let⟨Z,h3,r3⟩:=R2.row m a ds A D;refine⟨Z,?_,r3.mono (λ_ o=>o) (λ_ _ o=>o.elim) Y⟩;rw[ao];exact h3;intro z;have hm:=(List.getElem?_eq_some_iff.mp A).1;have hz:b[m]=b[n]:=by rw[(List.getElem?_eq_some_iff.mp A).2];exact z
     exact S ((List.getElem_inj F.2).mp hz)
  |_=>exact M.elim
 ·exact q.elim)
def Ms(i r:Nat)(ti:DI):DS:=λP ρ=>ti ρ λk ds=>⇑ds<=1000/\o7 r ρ i=true/\P.nx (ρ.set i (.rw r (List.replicate ⇑ds [])))
def ur{i n j:Nat}(r:Nat)(h:PS X st (rF (tLC n (KY ti) (λ_=>KZ (gNm j)) (λ_=>liftT λ_ P=>P true) (λ_=>Vs Nt)) (jC i))):PDS X st (Ms i r ti):=PS.wk' h (by
 rintro Q σ H ⟨p,H0,own,ρ,P,E,q,w⟩;refine⟨p,H0,own,ρ,_,E,q,λk ds J H1 Ok h A W o1=>?_⟩;let⟨hlen,hf,nx⟩:=h;have okS:∀H',Kp p H1 H'->p.PI H'->Ok H':=λH' K i=>W.stab H1 H' o1 (λb o n e=>K b o e (jt A n.1)) (jx A K);refine⟨λi m ys H'=>m=⇑ds - i/\i<=⇑ds/\Kp p H1 H'/\p.PI H'/\∃d:List Addr,ys=d.map V.ref/\d.Nodup/\⇑d=i/\∀a∈d,H a=none/\H' a=some (.lst []),⟨_,rfl,Nat.zero_le _,Kp.refl,A.pen,[],rfl,.nil,rfl,λa ha=>nomatch ha⟩,?_⟩;rintro c u m ys H' ⟨rfl,hi,M,L,d,rfl,nd,la,hn⟩;have S:=okS H' M L;have U:=A.go M L;have h24:=Ym;by_cases f:u<⇑ds
 ·refine .inr ⟨W.go u H' S f,by rw[List.length_map];lia,λys' H2=>Kp p H1 H2/\p.PI H2/\∃d:List Addr,ys'=d.map V.ref/\d.Nodup/\⇑d=u+1/\∀a∈d,H a=none/\H2 a=some (.lst []),λys' H2 h=>⟨_,(),rfl,f,h⟩,λx H2 y=>?_⟩;let⟨F,T⟩:=W.yld u H' x H2 S y;have T:=T ds[u] (List.getElem?_eq_getElem f);have I2:p.PI H2:=p.mono H' H2 L λb o _ e=>F b o e;have K2:Kp p H1 H2:=M.trans (Kp.of F);have G:=A.go K2 I2;have C:EnvD p H0 own σ H2 ρ:=E.go G.kp G.pen;refine⟨p,H0,own,_,_,_,λ_=>True,C.comp n,jP (QT A T),trivial,λσ3 ρ3 I t3=>?_⟩;refine⟨p,H0,own,ρ3,λb=>b=true,I,rfl,λb H4 h4 A4=>?_⟩;subst h4;refine bC ⟨(by show 0<=sizeLine;lia),λl hl=>?_⟩;have A5:At p H0 own H H4:=G.fw A4;let⟨D,O,R⟩:=A5.new hl (.lst []);refine⟨(K2.trans A4.kp).trans D,O,d++[l],by rw[List.map_append];rfl,?_,by rw[List.length_append,la];rfl,λa ha=>?_⟩
  ·refine List.nodup_append.mpr ⟨nd,by simp,λa ha b hb=>?_⟩;rw[List.mem_singleton.mp hb];intro z;subst z;have e:=A4.kp a _ (F a _ (hn a ha).2) (A.nfb (hn a ha).1);rw[hl]at e;cases e
  ·rcases List.mem_append.mp ha with z|z
   ·refine⟨(hn a z).1,?_⟩;have e:=A4.kp a _ (F a _ (hn a z).2) (A.nfb (hn a z).1);exact D a _ e (A.nfb (hn a z).1)
   ·rw[List.mem_singleton.mp z];exact⟨R,aB⟩
 ·have e:u=⇑ds:=()
  subst e;refine .inl ⟨W.stop H' S,λl hl=>?_⟩;let⟨D,O,R⟩:=U.new hl (.lst (d.map V.ref));have B:=U.go D O;show Q.nx (σ.set i (some (.ref l))) (upd H' l (.lst (d.map V.ref)));have C:EnvD p H0 (aX r own) σ H (ρ.set i .any):=(E.drop (i:=i)).clear hf;have Y:At p H0 (aX r own) H (upd H' l (.lst (d.map V.ref))):=⟨B.k0,B.kp,B.penb,B.pen,C.ow⟩
  have I:=C.adopt r Y;have g:l∉d:=λz=>by rw[(hn l z).2]at hl;cases hl
  have Z:=I.set (i:=i) (v:=.ref l) (s:=.rw r (List.replicate ⇑ds [])) λhli=>⟨l,d,List.getElem?_set_self hli,⟨aB,List.nodup_cons.mpr ⟨g,nd⟩,λa ha=>?_,by rw[la,List.length_replicate],λm a es e1 e2=>?_⟩⟩
  ·rw[List.set_set]at Z;exact w.nx _ _ _ _ Z (gO.trans (fG Y)) nx
  ·rcases List.mem_cons.mp ha with rfl|ha
   ·exact jk R aB
   ·exact jk (hn a ha).1 (by rw[ao (λz:a=l=>g (by rw[←z];exact ha))];exact(hn a ha).2)
  ·have ha:=List.mem_of_getElem? e1;have N:es=[]:=by
    have:=List.mem_of_getElem? e2;exact(List.mem_replicate.mp this).2
   subst N;exact⟨[],by rw[ao (λz:a=l=>g (by rw[←z];exact ha))];exact(hn a ha).2,.nil⟩)
def qQ:PD X (.Dict [] [] pos) (λ_ P=>P .new (.dict [])):=PE.wk JW (by
 rintro σ H Q ⟨p,H0,own,ρ,P,E,t,q⟩;have A:=E.at;exact λd hd=>let⟨k2,i2,nw⟩:=A.new hd (.dK []);q _ _ _ _ t (A.go k2 i2) (.dct nw aB .nil))
end
@[reducible] def grL(K:W.Frag)(a:Addr)(ns:eg):Gr:=⟨λp H0=>SqL K H0 a (ns.map V.int)/\∀b,p.fp b->H0 b=none⟩
section
variable{k1 k2 j:Nat}{x y z:Str}{ps1 ps2:List Str}{e:Zt}{es1 es2:List Zt}{p1 p2 p3 pos pos1:Pos}{K:W.Frag}{sc:Addr}{ns:eg}{C:Pn->Prop}{pre:ez->Prop}{g:ed}{i:Nat}
end
variable [Gr]
section
variable{pos pos':Pos}{a b:Zt}{t:DA}
def N6{ok:Addr->Prop}{H:Hp}(lo hi:Int):Rps ok H (xZ lo hi) (bA lo (hi - lo).toNat):=by
 unfold xZ bA;exact Rps.ofMap (λx=>.int _) _
def PK{p:Pn}{H0 H c:Hp}{own:Addr->Option Nat}{P:DK}{Q:VK}{lo hi:Int}(A:At p H0 own H c)(h:P .new (.list (bA lo (hi - lo).toNat)))(b:-1000<=lo/\lo<=1000/\-1000<=hi/\hi<=1000)(q:∀k d v H',P k d->At p H0 own H H'->Rp (okK p H0 own H k) H' v d->Q v H')(r:Addr)(hr:c r=none) :
  ∃p' lo' hi',[V.ref r]=[.ref p']/\upd c r (.rng lo hi) p'=some (.rng lo' hi')/\(-1000<=lo'/\lo'<=1000/\-1000<=hi'/\hi'<=1000)/\∀l,upd c r (.rng lo hi) l=none->Q (.ref l) (upd (upd c r (.rng lo hi)) l (.lst (xZ lo' hi'))):=by
 refine⟨r,lo,hi,rfl,aB,b,λl hl=>?_⟩;let⟨i,f,_⟩:=A.new hr (.rng lo hi);have e:=A.go i f;let⟨j,g,m⟩:=e.new hl (.lst (xZ lo hi));exact q _ _ _ _ h (e.go j g) (.lst m aB (N6 lo hi))
def Vt(t:DA):DE:=λρ P=>t ρ λks=>match ks with
 |[(_,.int j)]=>(-1000<=j/\j<=1000)/\P .new (.list (bA 0 (j - 0).toNat))
 |_=>False
def mX{ps c:Pos}(hc:X.calm=true)(hml:X.mg "list"=none)(hmr:X.mg "range"=none)(ha:PDA X [a] t)(hgl:Gl X "list":=by rfl)(hgr:Gl X "range":=by rfl)(he:zS X a []:=by rfl)(hpl:(Zw pos' (Zu [] X.env)).any (·.1)=false:=by rfl)(he2:Zu [.Call (.Name "range" c) [a] [] pos'] X.env=(false,Zv (.Call (.Name "range" c) [a] [] pos') X.env)::Zu [] X.env:=by rfl)(hpl2:zP X pos []:=by rfl) :
  PD X (.Call (.Name "list" ps) [.Call (.Name "range" c) [a] [] pos'] [] pos) (Vt t):=PE.wk (pN (u5 hc) hgl hml UE (bV (pN Hw hgr hmr boot_range ha ∅ ∅ he hpl) dG he2) ∅ ∅ he2 hpl2) (by
 rintro σ H Q ⟨p,H0,own,ρ,P,E,t,q⟩;refine⟨p,H0,own,ρ,_,E,t,λks vs H1 h A rk=>?_⟩;split at h
 ·rename_i k j;let⟨v,rfl,d⟩:=jd rk;have e:=Rp.int' d;subst e;exact⟨j,rfl,PK A h.2 ⟨(),(),h.1.1,h.1.2⟩ q⟩
 ·exact h.elim)
end
variable [Gr]
mutual
inductive Tm where
 |int (i:Int)
 |neg (i:Int)
 |bl (b:Bool)
 |non
 |str (s:Str)
 |var (i:Nat)
 |lst (ts:Tms)
 |tup (ts:Tms)
 |dct
inductive Tms where
 |nil
 |cons (t:Tm) (ts:Tms)
end
def Xi(a:Zs)(x:Str):Bool:=a.names.lookup x==some .local || a.names.lookup x==some .cell || a.names.lookup x==some .free
def cI(i:Int):UI->Bool
 |.int j=>i==j
 |_=>false
def cB(b:Bool):UI->Bool
 |.bool c=>b==c
 |_=>false
def cS(s:Str):UI->Bool
 |.str u=>s==u
 |_=>false
def cN:UI->Bool
 |.none=>true
 |_=>false
def XR:UnaryOp->Bool
 |.USub=>true
 |_=>false
def isC(f:UI->Bool):Zt->Bool
 |.Constant c _ _=>f c
 |_=>false
def isN(i:Int):Zt->Bool
 |.UnaryOp o e _=>XR o&&isC (cI i) e
 |_=>false
def isV(N:List Str)(a:Zs)(i:Nat):Zt->Bool
 |.Name x _=>N[i]?==some x&&(Xi a x&&(!(x==("__debug__":Str))&&!(x==("__classdict__":Str))))
 |_=>false
def isD:Zt->Bool
 |.Dict ks vs _=>ks.isEmpty&&vs.isEmpty
 |_=>false
mutual
def okT(N:List Str)(a:Zs):Tm->Zt->Bool
 |.int i=>isC (cI i)
 |.neg i=>isN i
 |.bl b=>isC (cB b)
 |.non=>isC cN
 |.str s=>isC (cS s)
 |.var i=>isV N a i
 |.lst c=>λe=>match e with
  |.List es _=>Tj N a c es
  |_=>false
 |.tup c=>λe=>match e with
  |.Tuple es _ _=>Tj N a c es
  |_=>false
 |.dct=>isD
def Tj(N:List Str)(a:Zs):Tms->List Zt->Bool
 |.nil=>λes=>es.isEmpty
 |.cons t b=>λes=>match es with
  |[]=>false
  |e::es=>okT N a t e&&Tj N a b es
end
mutual
def evT(ρ:List Sl):Tm->Option (Kd×D)
 |.int i=>some (.imm,.int i)
 |.neg i=>some (.imm,.int (-i))
 |.bl b=>some (.imm,.bool b)
 |.non=>some (.imm,.none)
 |.str s=>some (.imm,.str s)
 |.var i=>match ρ[i]? with
  |some (.im d)=>some (.imm,d)
  |some (.sh d)=>some (.shr,d)
  |some (.sn d)=>some (.snw,d)
  |some (.dw r d)=>some (.reg r,d)
  |_=>none
 |.lst a=>match Ul ρ a with
  |some ks=>some ((joins ks).join .new,.list (ks.map (·.2)))
  |none=>none
 |.tup a=>match Ul ρ a with
  |some ks=>some (norm (joins ks) (.tuple (ks.map (·.2))),.tuple (ks.map (·.2)))
  |none=>none
 |.dct=>some (.new,.dict [])
def Ul(ρ:List Sl):Tms->Option (List (Kd×D))
 |.nil=>some []
 |.cons t a=>match evT ρ t,Ul ρ a with
  |some k,some ks=>some (k::ks)
  |_,_=>none
end
mutual
def smT:Tm->Bool
 |.lst a=>RL 1000 a
 |.tup a=>RL 1000 a
 |_=>true
def RL:Nat->Tms->Bool
 |_,.nil=>true
 |n+1,.cons t ts=>smT t&&RL n ts
 |0,.cons _ _=>false
end
section
variable{e:Zt}{es:List Zt}
section
variable{N:List Str}{sc:Zs}
end
end
end Dl
namespace L2
open PySem.Spec HT
section
variable{X:Cx}{e:Zt}{te:TE}{p1 p2 p3 pos:Pos}
end
end L2
namespace Dl
open L2
variable{X:Cx}
variable [Gr]
section
variable{pos p1 p2 p3:Pos}{a b e:Zt}{es:List Zt}{ta tb te:DE}{t:DA}
def Rx(te:DE)(f c:DO):DE:=λρ P=>te ρ λk d=>f ρ λlo=>c ρ λhi=>match d with
 |.list ds=>newP k (jE ds lo hi) λk'=>P k' (.list (jE ds lo hi))
 |.tuple ds=>¬(HT.sIx ⇑ds 0 lo=0/\HT.sIx ⇑ds ⇑ds hi=⇑ds)/\P (norm k (.tuple (jE ds lo hi))) (.tuple (jE ds lo hi))
 |_=>False
theorem jW{lo hi:Option Zt}{y w:DO}(he:PD X e te)(hl:PO X lo (yX y))(hh:PO X hi (yX w)):PD X (.Subscript e (.Slice lo hi none p2) pos) (Rx te y w):=PE.wk (JR (SlR.or Ny RM) he hl hh) (by
 rintro σ H Q ⟨p,H0,own,ρ,P,E,t,q⟩;refine⟨p,H0,own,ρ,_,E,t,λk d v H1 h A r=>?_⟩;refine⟨p,H0,own,ρ,_,E.go A.kp A.pen,h,λo1 H2 h2 A2=>?_⟩;refine⟨p,H0,own,ρ,_,(E.go A.kp A.pen).go A2.kp A2.pen,h2,λo2 H3 h3 A3=>?_⟩;have c:=(A.fw A2).fw A3;have u:=jB (A.fw A2) A3.kp (jB A A2.kp r);cases d with
 |list ds =>
  let⟨x,xs,i,o,h1,g⟩:=Rp.dh u;subst i;refine .inl ⟨x,xs,rfl,SqL.of h1,λl hl=>?_⟩;let⟨f,m,s⟩:=c.new hl (.lst (uY xs o1 o2));let⟨z,j,n⟩:=oh c (cU c f (g.cut o1 o2)) s aB h3;exact q _ _ _ _ j (c.go f m) n
 |tuple ds =>
  let⟨x,xs,i,h1,g⟩:=Rp.dU u;subst i;refine .inr ⟨x,xs,rfl,SqT.of h1,by rw[⇑g];exact h3.1,λl hl=>?_⟩;let⟨f,m,s⟩:=c.new hl (.tup (uY xs o1 o2));exact q _ _ _ _ h3.2 (c.go f m) (aO (.tup aB (cU c f (g.cut o1 o2))))
 |_=>exact h3.elim)
end
variable [Gr]
abbrev IM:=List (Int×D)
def kvD(m:IM):List (D×D):=m.map λp=>(PyData.int p.1,p.2)
def gb(m:IM)(k:Int):Bool:=m.any λp=>decide (p.1=k)
def mD(m:IM)(k:Int):Option D:=(m.find? λp=>decide (p.1=k)).map (·.2)
def iT(m:IM)(k:Int)(d:D):IM:=if gb m k=true then m.map (λp=>if p.1=k then(p.1,d)else p)else m++[(k,d)]
def qe(m:IM):Bool:=m.all λp=>eV p.2
def K9{k:Key}{i:Int}(h:kD k=.int i):k=.inl i:=by
 cases k with
 |inl j=>cases h;rfl
 |inr x=>cases h
theorem Rkv.kv:∀{ok:Addr->Prop}{H:Hp}{a:List (Key×V)}{m:IM},Rkv ok H a (kvD m)->∃vs:List V,a=(m.map (·.1)).zipWith (λi v=>(Sum.inl i,v)) vs/\Rps ok H vs (m.map (·.2))
 |_,_,_,[],h=>by cases h;exact⟨[],rfl,.nil⟩
 |_,_,_,p::m,h=>by
  unfold kvD at h;rw[List.map_cons]at h;generalize hk:PyData.int p.1=kk at h;cases h with
  |cons h t =>
   rename_i k v b;let⟨vs,rfl,r⟩:=Rkv.kv (m:=m) t;have e:=K9 hk.symm;subst e;exact⟨v::vs,rfl,.cons h r⟩
theorem wN:∀{m:IM}{vs:List V} (k:Int),⇑vs=⇑m->(((m.map (·.1)).zipWith (λi v=>((Sum.inl i:Key),v)) vs).any λkv=>decide (kv.1=Sum.inl k))=gb m k
 |[],[],_,_=>rfl
 |p::m,v::vs,k,h=>by
  have a:=wN (m:=m) (vs:=vs) k ↑h;have e:decide ((Sum.inl p.1:Key)=Sum.inl k)=decide (p.1=k):=by
   by_cases c:p.1=k <;> simp[c]
  show(decide ((Sum.inl p.1:Key)=Sum.inl k) || _)=(decide (p.1=k) || _)
  rw[e];exact dV _ a
 |[],_::_,_,h=>by cases h
 |_::_,[],_,h=>by cases h
def Ii{a:List (Key×V)}{k:Key}:(gw a k).isSome=a.any λkv=>decide (kv.1=k):=by
 induction a with
 |nil=>rfl
 |cons p r ih =>
  unfold gw at ih ⊢;rw[List.find?_cons,List.any_cons];cases h:decide (p.1=k)with
  |true=>rfl
  |false=>exact ih
theorem Ek:∀{ok:Addr->Prop}{H:Hp}{m:IM}{vs:List V}{k:Int}{d:D},Rps ok H vs (m.map (·.2))->mD m k=some d->∃v,gw ((m.map (·.1)).zipWith (λi v=>((Sum.inl i:Key),v)) vs) (Sum.inl k)=some v/\Rp ok H v d
 |_,_,[],_,_,_,_,h=>by cases h
 |_,_,p::m,_,k,d,.cons r t,h=>by
  unfold mD at h;rw[List.find?_cons]at h;by_cases c:p.1=k
  ·rw[fy c]at h;cases h;refine⟨_,?_,r⟩;show gw ((Sum.inl p.1,_)::_) (Sum.inl k)=_;rw[jF (by rw[c])]
  ·rw[dC c]at h;let⟨v,e,a⟩:=Ek (m:=m) (k:=k) (d:=d) t h;refine⟨v,?_,a⟩;show gw ((Sum.inl p.1,_)::_) (Sum.inl k)=_;unfold gw at e ⊢;rw[List.find?_cons,dC (λz=>c (Sum.inl.inj z))];exact e
def Pu:∀{m:IM}{vs:List V}{k:Int}{v:V}{ok:Addr->Prop}{H:Hp}{d:D},Rps ok H vs (m.map (·.2))->Rp ok H v d->Rkv ok H (putK ((m.map (·.1)).zipWith (λi v=>((Sum.inl i:Key),v)) vs) (Sum.inl k) v) (kvD (iT m k d)):=by
 intro m vs k v ok H d g o;have hl:⇑vs=⇑m:=by rw[⇑g,List.length_map]
 have j:∀{m:IM}{vs:List V},Rps ok H vs (m.map (·.2))->Rkv ok H ((m.map (·.1)).zipWith (λi v=>((Sum.inl i:Key),v)) vs) (kvD m):=by
  intro m;induction m with
  |nil=>intro vs r;cases r;exact .nil
  |cons p m e =>
   intro vs r;cases r with
   |cons h t=>exact .cons (k:=Sum.inl p.1) h (e t)
 unfold putK iT;rw[wN k hl];by_cases c:gb m k=true
 ·rw[dP c,dP c];clear c hl;induction m generalizing vs with
  |nil=>cases g;exact .nil
  |cons p m e =>
   cases g with
   |cons h t =>
    have:=e t;by_cases f:p.1=k
    ·have n:(Sum.inl p.1:Key)=Sum.inl k:=by rw[f]
     show Rkv ok H ((if(Sum.inl p.1:Key)=Sum.inl k then((Sum.inl p.1:Key),v)else(Sum.inl p.1,_))::_) (kvD ((if p.1=k then(p.1,d)else p)::_));rw[dP n,dP f];exact .cons (k:=Sum.inl p.1) o this
    ·have n:¬((Sum.inl p.1:Key)=Sum.inl k):=λz=>f (Sum.inl.inj z);show Rkv ok H ((if(Sum.inl p.1:Key)=Sum.inl k then((Sum.inl p.1:Key),v)else(Sum.inl p.1,_))::_) (kvD ((if p.1=k then(p.1,d)else p)::_));rw[dQ n,dQ f];exact .cons (k:=Sum.inl p.1) h this
 ·rw[dQ c,dQ c];have l:∀{a b:List (Key×V)}{x y:List (D×D)},Rkv ok H a x->Rkv ok H b y->Rkv ok H (a++b) (x++y):=by
   intro a b x y h1 h2;induction a generalizing x with
   |nil=>cases h1;exact h2
   |cons p a e=>cases h1 with|cons h t=>exact .cons h (e t)
  unfold kvD;rw[List.map_append];exact l (j g) (.cons (k:=Sum.inl k) o .nil)
section
variable{pos pos' p2:Pos}{a b e:Zt}{ta tb te tj tm:DE}{st st2:ZF}{rest:List ZF}{ti:DI}{g:DG}{t:DS}
def tD1(ta tb:DE):DE:=λρ P=>ta ρ λ_ d1=>tb ρ λk2 d2=>match d1 with
 |.int i=>(norm k2 d2).le .new=true/\P .new (.dict (kvD [(i,d2)]))
 |_=>False
theorem rZ(ha:PD X a ta)(hb:PD X b tb):PD X (.Dict [some a] [b] pos) (tD1 ta tb):=PE.wk (wz (gU ha hb wu) rfl rfl (by intro z;cases z) (by show 1<=15;decide)) (by
 rintro σ H Q ⟨p,H0,own,ρ,P,E,t,q⟩;intro c hc;have d:=E.at;let⟨m,l,s⟩:=d.new hc (.dK []);have j:=d.nfb hc;refine⟨p,H0,own,ρ,_,E.go m l,t,λk1 d1 v1 H1 t1 A1 r1=>?_⟩;refine⟨p,H0,own,ρ,_,(E.go m l).go A1.kp A1.pen,t1,λk2 d2 v2 H2 t2 A2 r2=>?_⟩;have h1:H1 c=some (.dK []):=A1.kp c _ aB j;have h2:H2 c=some (.dK []):=A2.kp c _ h1 j;refine⟨h2,?_⟩;cases d1 with
 |int i =>
  have r:=Rp.int' r1;subst r;refine⟨[(Sum.inl i,v2)],rfl,(by show 1<=15;decide),?_⟩;show Q (.ref c) (upd H2 c (.dK [(Sum.inl i,v2)]));have K:Kp p H (upd H2 c (.dK [(Sum.inl i,v2)])):=λx o ex nx=>by
   rw[ao (au ex hc)];exact A2.kp x o (A1.kp x o (by rw[ao (au ex hc)];exact ex) nx) nx
  have f:p.PI (upd H2 c (.dK [(Sum.inl i,v2)])):=p.mono H2 _ A2.pen λx o fx ex=>by
   rw[ao (λz:x=c=>fx.elim (λfx=>j (by rw[←z];exact fx)) λ⟨_,_,y⟩=>by rw[z,h2,y]at ex;cases ex)];exact ex
  refine q _ _ _ _ t2.2 ⟨d.k0,K,d.penb,f,d.ow⟩ (.dct s aB (.cons (k:=Sum.inl i) ?_ .nil));have v:Rp (okK p H0 own H1 .new) H2 v2 d2:=dR A2 t2.1 (aO r2);refine v.bI (λx o n ex=>⟨?_,?_⟩) λx xs ex=>?_
  ·have n:H1 x=none:=n;cases h:H x with
   |none=>exact h
   |some u =>
    have:=A1.kp x u (by rw[ao (au h hc)];exact h) (A2.nfb n);rw[n]at this;cases this
  ·have n:H1 x=none:=n;rw[ao (λz=>by rw[z,h1]at n;cases n)];exact ex
  ·rw[ao (λz=>by rw[z,h2]at ex;cases ex)];exact ex
 |_=>exact t2.elim)
def PJ(neg:Bool):G2:=λ_ d1 _ d2 P=>match d1,d2 with
 |.int k,.dict ds=>∃m:IM,ds=kvD m/\P .imm (.bool (if neg then !(gb m k)else gb m k))
 |_,_=>False
def Rp.Qg{ok:Addr->Prop}{H:Hp}{v:V}{ds:List (D×D)}(r:Rp ok H v (.dict ds)):∃a kvs,v=.ref a/\ok a/\H a=some (.dK kvs)/\Rkv ok H kvs ds:=by
 cases r with
 |dct o h r=>exact⟨_,_,rfl,o,h,r⟩
def yV:∀σ H Q,bJ (t2 (PJ true) ta tb) σ H Q->Dg (bJ ta) (bJ tb) σ H Q:=by
 rintro σ H Q ⟨p,H0,own,ρ,P,E,t,q⟩;refine⟨p,H0,own,ρ,_,E,t,λk1 d1 v1 H1 t1 A1 r1=>?_⟩;refine⟨p,H0,own,ρ,_,E.go A1.kp A1.pen,t1,λk2 d2 v2 H2 t2 A2 r2=>?_⟩;have A:=A1.fw A2;unfold PJ at t2;split at t2
 ·rename_i k ds;let⟨m,rfl,t2⟩:=t2;have d:=Rp.int' r1;subst d;let⟨c,f,rfl,o,hc,h⟩:=Rp.Qg r2;let⟨vs,rfl,i⟩:=h.kv;refine⟨c,_,rfl,mK.k (k:=Sum.inl k) hc,?_⟩;rw[Ii,wN k (by rw[⇑i,List.length_map])];exact q _ _ _ _ t2 A (.bl _)
 ·exact t2.elim
def hu1(hu:X.A.units+64<Ys):X.A.units+1<Ys:=()
def jm(hu:X.A.units+64<Ys)(ha:PD X a ta)(hb:PD X b tb)(hm:ZL .NotIn b=false:=by rfl):PDT X (.Compare a [.NotIn] [b] pos) (fu (t2 (PJ true) ta tb)):=PT.wk (R9 (Gv (hu1 hu) ha hb) hm) λσ H Q q=>yV σ H _ (by
 let⟨p,H0,own,ρ,P,E,t,q⟩:=q;refine⟨p,H0,own,ρ,_,E,t,λk d v H' h A r=>?_⟩;cases d with
 |bool b=>exact⟨b,Rp.bl' r,q b H' h A⟩
 |_=>exact h.elim)
def Ln:G2:=λk1 d1 _ d2 P=>match d1,d2 with
 |.dict ds,.int k=>∃(m:IM)(d:D),ds=kvD m/\mD m k=some d/\P (norm k1 d) d
 |_,_=>False
def qR(hu:X.A.units+64<Ys)(ha:PD X a ta)(hb:PD X b tb)(hs:Nh b:=by exact λ_ _=>rfl):PD X (.Subscript a b pos) (t2 Ln ta tb):=PE.wk (fK (hu1 hu) ha hb hs) (by
 rintro σ H Q ⟨p,H0,own,ρ,P,E,t,q⟩;refine⟨p,H0,own,ρ,_,E,t,λk1 d1 v1 H1 t1 A1 r1=>?_⟩;refine⟨p,H0,own,ρ,_,E.go A1.kp A1.pen,t1,λk2 d2 v2 H2 t2 A2 r2=>?_⟩;have A:=A1.fw A2;unfold Ln at t2;split at t2
 ·rename_i ds k;let⟨m,d,rfl,hg,t2⟩:=t2;have f:=Rp.int' r2;subst f;let⟨c,i,rfl,o,hc,j⟩:=Rp.Qg (jB A1 A2.kp r1);let⟨vs,rfl,l⟩:=j.kv;let⟨v,h,n⟩:=Ek l hg;refine⟨c,v,rfl,?_,q _ _ _ _ t2 A (aO n)⟩;rw[←h];exact mK.k (k:=Sum.inl k) hc
 ·exact t2.elim)
def Mt(i:Nat)(tk c:DE):DS:=λP ρ=>match ρ[i]? with
 |some (.dw r (.dict ds))=>c ρ λ_ dv=>tk ρ λ_ dk=>match dk with
  |.int k=>∃m:IM,ds=kvD m/\eV dv=true/\qe m=true/\⇑m<1000/\P.nx ((forget r ρ).set i (.dw r (.dict (kvD (iT m k dv)))))
  |_=>False
 |_=>False
theorem zx{ok:Addr->Prop}{H:Hp}:∀{m:IM}{vs:List V},qe m=true->Rps ok H vs (m.map (·.2))->Rps (λ_=>False) H vs (m.map (·.2))
 |[],_,_,.nil=>.nil
 |p::m,_,h,.cons r t=>by
  unfold qe at h;rw[List.all_cons,Bool.and_eq_true]at h;exact .cons (r.imm h.1) (zx (m:=m) h.2 t)
def pA{i:Nat}{tk B:DE}(h:PS X st (Qx (jJ i) (bJ tk) (bJ B))):PDS X st (Mt i tk B):=PS.wk' h (by
 rintro Q σ H ⟨p,H0,own,ρ,P,E,t,w⟩;unfold Mt at t;split at t
 ·rename_i r ds hr;let⟨v,hv,_⟩:=E.slot i _ hr;refine⟨p,H0,own,ρ,_,E,t,λkv dv vv H1 t1 A1 r1=>?_⟩;have n:=E.go A1.kp A1.pen;refine⟨v,hv,p,H0,own,ρ,_,n,t1,λkk dk vk H2 t2 A2 r2=>?_⟩;have q:=n.go A2.kp A2.pen;cases dk with
  |int k =>
   let⟨m,rfl,im,imm,u,J⟩:=t2;let⟨M,d,x⟩:=q.slot i _ hr;rw[hv]at d;cases d;let⟨l,G,rfl,o,hl,K⟩:=Rp.Qg x;let⟨vs,rfl,A⟩:=K.kv;have D:=Rp.int' r2;subst D;have F:=Ym;have f:=zx imm A;have j:Rp (λ_=>False) H2 vv dv:=(jB A1 A2.kp r1).imm im;have I:⇑((m.map (·.1)).zipWith (λi v=>((Sum.inl i:Key),v)) vs)=⇑m:=by
    rw[List.length_zipWith,List.length_map,⇑A,List.length_map,Nat.min_self]
   refine⟨l,_,rfl,qm.k (k:=Sum.inl k) hl (by rw[I];lia),?_⟩;have y:=Pu (k:=k) f j;generalize putK ((m.map (·.1)).zipWith (λi v=>((Sum.inl i:Key),v)) vs) (Sum.inl k) vv=c at y;have L:∀a xs,H2 a=some (.tup xs)->upd H2 l (.dK c) a=some (.tup xs):=λa xs e=>by
    rw[ao (λz=>by rw[z,hl]at e;cases e)];exact e
   have C:=(q.write (o':=.dK c) o hl λxs z=>nomatch z).put (v:=.ref l) (i:=i) (s:=.dw r (.dict (kvD (iT m k dv)))) ⟨_,hv,.dct o aB (y.mono (λ_ o=>o.elim) (λ_ _ o=>o.elim) L)⟩;exact w.nx _ σ _ _ C ((A1.frs.trans A2.frs).trans (gG o hl λxs z=>nomatch z)) J
  |_=>exact t2.elim
 ·exact t.elim)
def Vj(te:DE):DT:=λρ P=>te ρ λ_ d=>match d with
 |.list ds=>P (!ds.isEmpty)
 |.tuple ds=>P (!ds.isEmpty)
 |.bool b=>P b
 |_=>False
def Mf{ok:Addr->Prop}{H:Hp}{vs:List V}{ds:ez}(r:Rps ok H vs ds):(!vs.isEmpty)=!ds.isEmpty:=by
 cases r <;> rfl
def qM(h:PD X e te)(he:∀whole,ZE e X.env whole=(do let v ←whole;standAt e.pos;holding [v] (ZO v)):=by intro _;rfl):PDT X e (Vj te):=PT.wk (Jv h he) (by
 rintro σ H Q ⟨p,H0,own,ρ,P,E,t,q⟩;refine⟨p,H0,own,ρ,_,E,t,λk d v H' h A r=>?_⟩;cases d with
 |list ds =>
  let⟨c,vs,rfl,o,hc,f⟩:=Rp.dh r;exact⟨_,.inl ⟨vs,SqL.of hc,rfl⟩,by rw[Mf f];exact q _ _ h A⟩
 |tuple ds =>
  let⟨c,vs,rfl,hc,f⟩:=Rp.dU r;exact⟨_,.inr (.inl ⟨vs,SqT.of hc,rfl⟩),by rw[Mf f];exact q _ _ h A⟩
 |bool b =>
  have e:=Rp.bl' r;subst e;exact⟨b,rfl,q _ _ h A⟩
 |_=>exact h.elim)
end
variable [Gr]
def Ca(r:Nat)(ρ:List Sl):forget r (forget r ρ)=forget r ρ:=by
 unfold forget;rw[List.map_map];refine List.map_congr_left λs _=>?_;show(if(if s.region=some r then Sl.any else s).region=some r then Sl.any else(if s.region=some r then Sl.any else s))=_;by_cases h:s.region=some r
 ·rw[dP h];rfl
 ·rw[dQ h,dQ h]
section
variable{te te1 te2 tj tm:DE}{st st2:ZF}{rest:List ZF}{t:DS}
end
variable [Gr]
section
variable{te tj:DE}{st:ZF}{t:DS}
end
end Dl
namespace L2
open PySem.Spec
def Qp(K:W.Frag)(a:Addr):It :=
 ⟨λi H=>∃xs x,SqL K H a xs/\xs[i]?=some x,λi H x H'=>∃t v,x=.ref t/\H t=none/\H'=upd H t (.tup [.int i,v])/\∀xs,SqL K H a xs->xs[i]?=some v,λi H=>∃xs,SqL K H a xs/\⇑xs<=i⟩
def Al{P:Za}{w:Zb}{K:W.Frag}{elts:List Zt}{kk:Nat}{pos:Pos}(a e it:Addr)(hei:e≠it) :
  Turn P w K (.Tuple elts kk pos) (Qp K a) [e,it] e (λi h=>(∃old,IsEnum h e it i old)/\h.IsListIter it a i) where
 mem:=by simp
 obj:=λi h st b hb=>by
  let⟨⟨old,he⟩,o,ho,hc,hd⟩:=st;rcases List.mem_cons.mp hb with rfl|hb
  ·exact⟨_,he,λv z=>nomatch z⟩
  ·have e1:b=it:=↑hb
   subst e1;exact⟨o,ho,λv z=>by rw[hd]at z;cases z⟩
 keep:=λi h h' st k=>by
  let⟨⟨old,he⟩,o,ho,r⟩:=st;exact⟨⟨old,k e (by simp) _ he⟩,o,k it (by simp) _ ho,r⟩
 item:=by
  intro X hP hw hK hc i pins s σ H E I hf st hg;subst hP hw hK;let⟨xs,x,hq,hx⟩:=hg;let⟨its,rv,p,hz⟩:=I.list hq;let⟨u,hu,ru⟩:=rv.get hx;let⟨⟨old,he⟩,hit⟩:=st;have hai:a≠it:=λz=>by
   let⟨o,_,ho,hc1,_⟩:=p;let⟨o',ho',hc2,_⟩:=hit;rw[z,ho']at ho;cases ho;rw[hc2]at hc1;injection hc1 with z2;exact dS z2 ∅
  have hae:e≠a:=λz=>by
   let⟨o,_,ho,hc1,_⟩:=p;have he':s.heap.get? e=some _:=he;rw[z,ho]at he';cases he';have z1:Value.type "enumerate"=Value.type "list":=hc1;injection z1 with z2;exact dS z2 ∅
  have hlt:i<its.toArray.size:=by have:=(List.getElem?_eq_some_iff.mp hu).1;simpa using this
  let⟨e0,e1,e2,e3,e4,e5⟩:=hf e (by simp);let⟨f0,f1,f2,f3,f4,f5⟩:=hf it (by simp);have D:=Draws.list (prog:=X.prog) (w:=X.w) (A:=X.A.in1) (I.ok.hd hc) it a hai its.toArray;refine VS D he ⟨hit,p.isList⟩ hlt hei (by simp[hei,hae]) λx' h' tk hP ho hs' hT hsz hk=>⟨_,rfl,?_⟩
  have ex:x'=u:=by
   have hP':its[i]?=some x':=↑hP
   rw[hu]at hP';exact(Option.some.inj hP').symm
  subst ex;refine VT ho λh2 he2 hs2=>?_;have hTn:H ↥s=none:=I.hok.fresh (Nat.le_refl _);have keep2:∀b o,b≠e->b≠it->s.heap.get? b=some o->h2.get? b=some o:=λb o hb1 hb2 q=>(hs2.2 b hb1).trans (hk b o hb1 hb2 q);have hTe:↥s≠e:=Nat.ne_of_gt (Heap.lt_size he);have hTup:h2.get? ↥s=some { cls:=.type "tuple",data:=.seq #[.int i tk,x']}:=(hs2.2 _ hTe).trans hT;have J:Inv X pins σ (upd H ↥s (.tup [.int i,x])) { s with heap:=h2,toks:=tk+1 }:=by
   refine I.step (g':=s.gens) (d':=s.drawn) (t':=tk+1) (ch:=[e,it]) (λb hb=>?_) (λb o _ _ hcb q _=>keep2 b o (λz=>hcb (by simp[z])) (λz=>hcb (by simp[z])) q)
    (λb o _ _ hcb q _=>⟨o.slots,keep2 b o (λz=>hcb (by simp[z])) (λz=>hcb (by simp[z])) q⟩) (λb o _ q n=>by rw[ao (Nat.ne_of_lt (Heap.lt_size q))];exact n)
    (λb o hcb q=>⟨o,keep2 b o (λz=>hcb (by simp[z])) (λz=>hcb (by simp[z])) q⟩) (λb ys q=>by rw[ao (au q hTn)];exact q) (λb o y q=>by rw[ao (au q hTn)];exact q)
    (λb ps q=>⟨#[],by rw[ao (au q hTn),q];simp⟩) (λm hm=>?_) ?_ I.bare
   ·rcases List.mem_cons.mp hb with rfl|hb
    ·exact⟨e3,e1,e4,e5⟩
    ·have z:b=it:=↑hb
     subst z;exact⟨f3,f1,f4,f5⟩
   ·let⟨o,es,ep,ho',r⟩:=hm;exact⟨o,es,ep,keep2 _ o (Ne.symm e1) (Ne.symm f1) ho',r⟩
   ·intro b u' q;have nT:∀{c y},H c=some y->c≠e/\c≠it:=λ{c y} z=>⟨λv=>(by rw[v,e0]at z;exact nomatch z),λv=>(by rw[v,f0]at z;exact nomatch z)⟩
    by_cases hb:b=↥s
    ·subst hb;rw[aB]at q;cases q;exact⟨(by show 2<=sizeLine;decide),[.int i tk,x'],.cons ⟨_,rfl⟩ (.cons ru .nil),_,hTup,rfl,_,rfl⟩
    ·rw[ao hb]at q;refine(I.hok b u' q).stay (λc v hcv y=>keep2 c v ?_ ?_ y) (λc y=>by rw[ao (au y hTn)];exact y) λc ys y=>by rw[ao (au y hTn)];exact y
     ·rcases hcv with rfl|z
      ·exact(nT q).1
      ·exact(nT z).1
     ·rcases hcv with rfl|z
      ·exact(nT q).2
      ·exact(nT z).2
  refine⟨.ref ↥s,_,J,rfl,⟨_,x,rfl,hTn,rfl,λys hy=>by rw[I.oK hy hq];exact hx⟩,⟨⟨x',?_⟩,?_⟩,λb hb=>?_⟩
  ·have he3:IsEnum h2 e it ((i:Int)+1) x':=↑he2
   have ec:(~~~(i+1))=(i:Int)+1:=()
   rw[ec];exact he3
  ·let⟨o,ho2,r⟩:=hs'.1;exact⟨o,(hs2.2 it (Ne.symm hei)).trans ho2,r⟩
  ·rw[ao]
   ·exact(hf b hb).1
   ·rcases List.mem_cons.mp hb with rfl|hb
    ·exact Ne.symm hTe
    ·have z:b=it:=↑hb
     subst z;let⟨o,ho2,_⟩:=hit;exact Nat.ne_of_lt (Heap.lt_size ho2)
 done:=by
  intro X hP hw hK hc i pins s σ H E I hf st hg;subst hP hw hK;let⟨xs,hq,hx⟩:=hg;let⟨its,rv,p,hz⟩:=I.list hq;let⟨⟨old,he⟩,hit⟩:=st;let⟨f0,f1,f2,f3,f4,f5⟩:=hf it (by simp);have hl:=⇑rv;have hT:s.TypeIs (.ref e) "enumerate":=⟨_,he,rfl⟩
  unfold Z0;refine wpAny_bind (VU (YH (name:=Str.ofString "__next__") hT PySem.F.slot_enumerate_next
   (YI PySem.F.slot_enumerate_next hT PySem.F.entry_enumerate_next ?_ (PySem.F.args_enumerate_next_1 _))))
  show wpAny _ _ (VE (.ref e) 2 >>=_) _ _ _;refine wpAny_bind (YF he rfl (x:=.ref it) rfl ?_);refine wpAny_bind (wpAny_nextOf_list_end (I.ok.hd hc) hit p.isList (by simp;lia) λh' x he' hx'=>?_);let⟨o,ho,hc'⟩:=hx';refine wpAny_bind (VW (T:="StopIteration") (b:=true) ⟨o,ho,hc'⟩ VX ?_);exact Z2 ⟨rfl,I.turned (t':=s.toks) (λb o hb e=>he' b o hb e) f0 f1 f3 f4 f5⟩
 self:=λA i s Q E st h=>by
  let⟨⟨old,he⟩,_⟩:=st;have hT:s.TypeIs (.ref e) "enumerate":=⟨_,he,rfl⟩
  refine VY hT PySem.F.slot_enumerate_iter (YI PySem.F.slot_enumerate_iter hT PySem.F.entry_enumerate_iter ?_ (PySem.F.args_enumerate_iter_1 _));show wpAny _ _ (ret (.ref e)) _ _ s;exact Z2 ⟨_,rfl,"enumerate",_,hT,PySem.F.slot_enumerate_next.lookup,h⟩
def Ua(K:W.Frag)(b:TA):TI:=λσ H R=>b σ H λvs H1=>∃a,vs=[.ref a]/\(∃xs,SqL K H1 a xs)/\R (Qp K a) H1
def JK{X:Cx}{elts:List Zt}{kk:Nat}{f:Pos}{a:Zt}{g:TA}{p pos:Pos}(hg:Gl X "enumerate")(hm:X.mg "enumerate"=none)(ha:PA X [a] g)(hs:Zu [a] X.env=[(false,Zv a X.env)]:=by rfl):PI X (.Tuple elts kk f) (.Call (.Name "enumerate" p) [a] [] pos) (Ua X.K g):=by
 intro d s σ H R I h;refine Call_ (kI I hg hm boot_enumerate (PyProof.Rows.callWith_type1 (thn (ha pos d s σ H _ I h) λus s1 ⟨vs,H1,I1,r1,q1⟩=>?_) hs rfl));let⟨b,e,⟨xs,k⟩,q⟩:=q1;subst e;let⟨u,rfl,m⟩:=vals1 r1;cases m;let⟨its,o,l,n⟩:=I1.list k;refine call_enumerate_list l.isList λh' he hit hsz hk=>?_;have j:Inv X d σ H1 { s1 with heap:=h' }:=I1.kept (t':=s1.toks) hk;have T:Turn X.prog X.w X.K (.Tuple elts kk f) (Qp X.K b) [↥s1+1,↥s1] (↥s1+1) (λi h=>(∃old,IsEnum h (↥s1+1) ↥s1 i old)/\h.IsListIter ↥s1 b i):=Al b _ _ (Nat.ne_of_gt (Nat.lt_succ_self _));refine T.self _ 0 _ _ _ ⟨⟨_,he⟩,hit⟩ ⟨_,_,_,_,H1,rfl,j,T,⟨⟨_,he⟩,hit⟩,λc hc=>?_,q⟩;rcases List.mem_cons.mp hc with rfl|hc
 ·exact I1.zH (Nat.le_succ _) (I1.hok.fresh (Nat.le_succ _))
 ·have z:c=↥s1:=↑hc
  subst z;exact I1.zH (Nat.le_refl _) (I1.hok.fresh (Nat.le_refl _))
end L2
namespace Dl
open L2
variable{X:Cx}
variable [Gr]
section
variable{tg:Zt}{pos:Pos}{ta:DA}
def Ah{K:W.Frag}{ok:Addr->Prop}{a:Addr}{ds:ez}:Wlk (λH=>Rp ok H (.ref a) (.list ds)) (Qp K a) (o8 ds) ok where
 go:=λi H r hi=>by
  let⟨b,vs,e,_,h,rs⟩:=r.dh;cases e;have:i<⇑vs:=by rw[⇑rs];rw[gM]at hi;exact hi
  exact⟨vs,vs[i],SqL.of h,by simp[this]⟩
 stop:=λH r=>by
  let⟨b,vs,e,_,h,rs⟩:=r.dh;cases e;exact⟨vs,SqL.of h,by rw[⇑rs,gM];exact Nat.le_refl _⟩
 yld:=λi H x H' r y=>by
  let⟨t,v,rfl,ht,rfl,y⟩:=y;have sm:Same H (upd H t (.tup [.int i,v])):=λb u q=>by rw[ao (au q ht)];exact q
  refine⟨sm,λd hd=>?_⟩;let⟨b,vs,e,_,h,rs⟩:=r.dh;cases e;rw[jh]at hd;cases he:ds[i]? with
  |none=>rw[he]at hd;cases hd
  |some d0 =>
   rw[he]at hd;have e:=Option.some.inj hd;subst e;let⟨v',hv,rv⟩:=rs.getD he;have:=y vs (SqL.of h);rw[hv]at this;cases this;exact .tup aB (.cons (.int _) (.cons (rv.mono (λ_ o=>o) (λa o _ e=>sm a o e) λa xs e=>sm a _ e) .nil))
 stab:=λH H' r f t=>r.bI (λa o n e=>⟨n,f a o n e⟩) t
def Wn(ta:DA):DI:=λρ P=>ta ρ λks=>match ks with
 |[(k,.list ds)]=>P k (o8 ds)
 |_=>False
def ux{elts:List Zt}{kk:Nat}{b:Pos}{a:Zt}{ps:Pos}(hm:X.mg "enumerate"=none)(ha:PDA X [a] ta)(hg:Gl X "enumerate":=by rfl)(hs:Zu [a] X.env=[(false,Zv a X.env)]:=by rfl):PDI X (.Tuple elts kk b) (.Call (.Name "enumerate" ps) [a] [] pos) (Wn ta):=PI.wk (JK hg hm ha hs) (by
 rintro σ H R ⟨p,H0,own,ρ,P,E,t,q⟩;refine⟨p,H0,own,ρ,_,E,t,λks vs H1 h A r=>?_⟩;split at h
 ·rename_i k ds;let⟨v,rfl,c⟩:=jd r;let⟨a,vs,e,_,ha,d⟩:=Rp.dh c;subst e;exact⟨a,rfl,⟨vs,SqL.of ha⟩,q k _ _ H1 _ h A Ah (rpA c)⟩
 ·exact h.elim)
end
section
section
variable{prog:Za}{w:Zb}{A:Zr}{E:d6}
end
section
variable{pos:Pos}
variable [Gr]
end
section
variable{pos:Pos}{a:Zt}{t:DA} [Gr]
def Yj(f:Int->Int->Int)(le:Int->Int->Prop):GC:=λks P=>match ks with
 |[(_,.tuple [.int i,.int j])]=>P .imm (.int (f i j))
 |[(_,.list ds)]=>∃ns:eg,ds=ns.map PyData.int/\ns≠[]/\∀M,M∈ns->(∀a∈ns,le M a)->P .imm (.int M)
 |_=>False
def BZ:GC:=λks P=>match ks with
 |[(_,.dict ds)]=>∃m:IM,ds=kvD m/\⇑m<64/\∀out:eg,out.Perm (m.map (·.1))->out.Pairwise (·<=·)->P .new (.list (out.map PyData.int))
 |_=>False
theorem yc{ok:Addr->Prop}{H:Hp}:∀{b:List (Key×V)}{ds:List (D×D)}{m:IM},Rkv ok H b ds->ds=kvD m->b.map (·.1)=(m.map (·.1)).map Sum.inl
 |_,_,[],.nil,_=>rfl
 |_,_,p::m,.cons h t,e=>by
  have c:kD _=PyData.int p.1:=dV Prod.fst (List.cons.inj e).1;have d:=K9 c;rw[List.map_cons,List.map_cons,List.map_cons,yc (m:=m) t (List.cons.inj e).2,←d]
 |_,_,[],.cons _ _,e=>nomatch e
 |_,_,_::_,.nil,e=>nomatch e
def rY{ps:Pos}(hc:X.calm=true)(hm:X.mg "sorted"=none)(ha:PDA X [a] t)(hg:Gl X "sorted":=by rfl)(he:zS X a []:=by rfl)(hpl:zP X pos []:=by rfl):PD X (.Call (.Name "sorted" ps) [a] [] pos) (tCl BZ t) :=
 gY (xG hc) (by
  intro p H0 own j H vs ks P Q A r t q;unfold BZ at t;split at t
  ·let⟨m,rfl,hl,t⟩:=t;let⟨v,rfl,h⟩:=jd r;let⟨x,b,d,k,h1,c⟩:=Rp.Qg h;subst d;refine⟨x,b,m.map (·.1),rfl,h1,yc c rfl,by rw[List.length_map];exact hl,λl out hl' hp hs=>?_⟩;let⟨f,e,g⟩:=A.new hl' (.lst (out.map V.int));exact q _ _ _ _ (t out hp hs) f e (.lst g aB (Rps.ofMap (λi=>.int i) out))
  ·exact t.elim) hg hm UH ha ∅ ∅ he hpl
def Eu:G2:=λ_ d1 _ d2 P=>match d2 with
 |.none=>P .imm (.bool (!O1 d1))
 |_=>False
def Tp:Ok2 Eu (λx y H Q=>y=.non/\Q (.bl (!decide (x=.non))) H):=by
 intro p H0 own d H x y g e h f P Q A b c t q;unfold Eu at t;split at t
 ·cases c;rw[Dm b];exact⟨rfl,q _ _ _ _ t Kp.refl A.pen (.bl _)⟩
 ·exact t.elim
variable{b:Zt}{ta tb:DE}
def mW(ha:PD X a ta)(hb:PD X b tb):PDT X (.Compare a [.IsNot] [b] pos) (fu (t2 Eu ta tb)):=gC Ou Tp ha hb (dg _)
end
end
section
variable{pos:Pos}{a e:Zt}{te ta:DE}{t:DA}{st st2:ZF}{rest:List ZF} [Gr]
end
section
variable{tg iter c:Zt}{pos pos1:Pos}{ret:ZF}{ti:DI}{g:DG}{tc:DT} [Gr]
end
end Dl
namespace L2
def Asc(xs:Array Nat):Prop:=xs.toList.Pairwise (·<·)
structure Good(w:Zb)(t:UK):Prop where
 asc:Asc t.place
 dum:t.dummies=#[]
 led:t.led=!w.params.followText "set-order"
section
variable{w:Zb}{t:UK}
end
section
variable{P:Za}{w:Zb}{A:Zr}{E:d6}{s:Shared}
section
variable{P:Za}{w:Zb}{A:Zr}{R:Result->Shared->Prop}{I:Addr}{fp wr:List Addr}{G:Array ZC->Array ZC->Prop}{n:Nat}{W:Nat->Value->Prop}{St:Nat->Shared->Prop}
end
end
section
variable{P:Za}{w:Zb}{A:Zr}{E:d6}{s:Shared}{I a:Addr}{f:Value}{i n ep:Nat}{o:Obj}{es:Array (Int×Value)}{t:UK}
end
section
variable{P:Za}{w:Zb}{A:Zr}{E:d6}{s:Shared}
variable{a:Addr}{i ep:Nat}{o:Obj}{es:Array (Int×Value)}{t:UK}
end
section
variable{P:Za}{w:Zb}{A:Zr}{E:d6}{s:Shared}{I a:Addr}{ep:Nat}{o:Obj}{es:Array (Int×Value)}{t:UK}
end
end L2
namespace L2
open PySem.Spec
section
variable{P:Za}{w:Zb}{A:Zr}{E:d6}{s:Shared}{a:Addr}{S:Int->Bool}{n:Nat}
end
end L2
set_option autoImplicit true
set_option relaxedAutoImplicit true
namespace Wr
open L2 Dl
structure WD[Gr](X:Cx)(e:Zt)(t:DE):Prop where
 h:PD X e t
structure WDT[Gr](X:Cx)(e:Zt)(t:DT):Prop where
 h:PDT X e t
structure WDW[Gr](X:Cx)(e:Zt)(t:DT):Prop where
 h:PDW X e t
structure WDA[Gr](X:Cx)(e:List Zt)(t:DA):Prop where
 h:PDA X e t
structure WDS[Gr](X:Cx)(e:ZF)(t:DS):Prop where
 h:PDS X e t
structure WDSs[Gr](X:Cx)(e:List ZF)(t:DS):Prop where
 h:nq X e t
structure WDI[Gr](X:Cx)(tg e:Zt)(t:DI):Prop where
 h:PDI X tg e t
structure WDG[Gr](X:Cx)(e:Zt)(t:DG):Prop where
 h:PDG X e t
structure WDGs[Gr](X:Cx)(e:List Zt)(t:DGs):Prop where
 h:PGs X e (tH t)
structure WDTs[Gr](X:Cx)(e:List Zt)(t:DT):Prop where
 h:HN X e t
structure WDO[Gr](X:Cx)(e:Option Zt)(t:DO):Prop where
 h:PO X e (yX t)
structure WV(X:Cx)(e:Zt)(i:Nat):Prop where
 h:PE X e (jJ i)
structure WC(X:Cx)(e:Zt)(v:V):Prop where
 h:PE X e (tC v)
section
variable [Gr]
def wv(i:Nat){x:Str}{pos:Pos}(hN:X.N[i]?=some x:=by rfl)(hv:Vis X.env.scope x:=by first|exact Or.inl rfl|exact Or.inr (Or.inl rfl)|exact Or.inr (Or.inr rfl))(hd:zB x:=by decide)(hcd:(x==("__classdict__":Str))=false:=by decide):WV X (.Name x pos) i:=⟨pv i hN hv hd hcd⟩
def wpt{t:DT}(h:WDW X e t):WDT X e t:=⟨PDW.pt h.h⟩
def pO{g d:ZJ}{f k:Int->Int->Bool}(l:OpR X (ZK g) (rI0 λi j=>.bl (f i j)))(e:OpR X (ZK d) (rI0 λi j=>.bl (k i j)))(ha:WD X a ta)(hb:WD X b tb)(hc:WD X c tc)(hm:Yl [g,d] [b,c]=false:=by with_unfolding_all rfl):WDT X (.Compare a [g,d] [b,c] pos) (fu (tCh f k ta tb tc)):=⟨Dl.pO (Jx l e ha.h hb.h hc.h hm) Ec⟩
def wty{x:Str}{T:String}(hg:Gl X x)(hm:X.mg x=none)(hv:Zq x=some (.type T))(hn:x≠"__name__":=by decide)(hd:zB x:=by decide):WC X (.Name x ps) (.ty T):=⟨Ot hg hm hv rfl hn hd⟩
def aW{i:Nat}{x:Str}{e:Zt}{c:DE}{a pos:Pos}(b:Option Nat)(hN:X.N.Nodup)(hi:X.N[i]?=some x)(f:Loc X.env.scope x)(he:WD X e c)(hs:ZQ e (some (.Name x a)) pos.line X.env=pure false:=by rfl)(d:zL X x:=by first|exact .inl rfl|exact .inr rfl|assumption) :
  WDS X (.Assign [.Name x a] e pos) (Mr i b c):=⟨Dl.aW b (eN hN hi f he.h hs d)⟩
def zM(f:Option Nat)(own:List Str){i:Nat}{y:Str}{e a:Pos}(hc:X.calm=true)(hN:X.N.Nodup)(b:X.N[i]?=some y)(k:Loc X.env.scope y)(hi:WDI X tg iter ti)(hg:∀c,WDG (X.comp own scope c) tg g)(ht:∀c,WDTs (X.comp own scope c) ifs tt)(he:∀c,WD (X.comp own scope c) elt te)(d:ZQ (.ListComp elt [⟨tg,iter,ifs,0⟩] scope pos) (some (.Name y e)) a.line X.env=pure true:=by rfl)(hk:iy X.env scope X.N=true:=by rfl)(hs:zF X iter:=by intro _;rfl)(j:zL X y:=by first|exact .inl rfl|exact .inr rfl|assumption) :
  WDS X (.Assign [.Name y e] (.ListComp elt [⟨tg,iter,ifs,0⟩] scope pos) a) (Mr i f (dLC ⇑own ti g tt te)):=⟨Dl.aW f (Sg own hc hN b k hi.h (λc=>(hg c).h) (λc=>(ht c).h) (λc=>(he c).h) d hk hs j)⟩
def ur(r:Nat)(own:List Str){i j:Nat}{y z:Str}{g a b f:Pos}(hc:X.calm=true)(hN:X.N.Nodup)(d:X.N[i]?=some y)(l:Loc X.env.scope y)(hi:WDI X (.Name z b) iter ti)(hg:∀c,WDG (X.comp own scope c) (.Name z b) (gNm j))(e:ZQ (.ListComp (.List [] f) [⟨.Name z b,iter,[],0⟩] scope pos) (some (.Name y g)) a.line X.env=pure true:=by rfl)(hk:iy X.env scope X.N=true:=by rfl)(hs:zF X iter:=by intro _;rfl)(k:zL X y:=by first|exact .inl rfl|exact .inr rfl|assumption) :
  WDS X (.Assign [.Name y g] (.ListComp (.List [] f) [⟨.Name z b,iter,[],0⟩] scope pos) a) (Ms i r ti):=⟨Dl.ur r (QD own hc hN d l hi.h (λc=>(hg c).h) (λc=>cM) (λc=>rQ dG) e hk hs k)⟩
def ji{i:Nat}{x:Str}{e:Zt}{es:List Zt}{b a g pos:Pos}(hv:WV X (.Name x g) i)(ha:WDA X (e::es) (iz te nj))(d:Yp (.Name x g) "append" X.env (Zv (.Name x g) X.env)=Zv (.Name x g) X.env:=by rfl)(j:zW X a (e::es):=by rfl)(f:(b.endLine==a.line)=true:=by rfl)(hst:zS X e es:=by rfl)(c:zP X a es:=by rfl)(hs:ZQ (.Call (.Attribute (.Name x g) "append" b) (e::es) [] a) none pos.line X.env=pure false:=by rfl) :
  WDS X (.Expr (.Call (.Attribute (.Name x g) "append" b) (e::es) [] a) pos) (UL i te):=⟨Dl.ji (gA (rR PySem.F.plainAttrs_list PySem.F.slot_list_append PySem.F.type_list_append gJ hv.h ha.h d j f hst c) hs)⟩
def wY{i:Nat}{x:Str}{e:Zt}{es:List Zt}{b a g pos:Pos}(hv:WV X (.Name x g) i)(ha:WDA X (e::es) (iz te nj))(d:Yp (.Name x g) "append" X.env (Zv (.Name x g) X.env)=Zv (.Name x g) X.env:=by rfl)(j:zW X a (e::es):=by rfl)(f:(b.endLine==a.line)=true:=by rfl)(hst:zS X e es:=by rfl)(c:zP X a es:=by rfl)(hs:ZQ (.Call (.Attribute (.Name x g) "append" b) (e::es) [] a) none pos.line X.env=pure false:=by rfl) :
  WDS X (.Expr (.Call (.Attribute (.Name x g) "append" b) (e::es) [] a) pos) (Mu i te):=⟨Dl.wY (gA (rR PySem.F.plainAttrs_list PySem.F.slot_list_append PySem.F.type_list_append gJ hv.h ha.h d j f hst c) hs)⟩
def lY{i:Nat}{x:Str}{e d:Zt}{es:List Zt}{b a j sp pos:Pos}(hv:WV X (.Name x j) i)(m:WD X d tj)(ha:WDA X (e::es) (iz te nj))(l:pI d:=by exact λ_ _=>rfl)(f:Yp (.Subscript (.Name x j) d sp) "append" X.env (Zv (.Subscript (.Name x j) d sp) X.env)=Zv (.Subscript (.Name x j) d sp) X.env:=by rfl)(k:zW X a (e::es):=by rfl)(g:(b.endLine==a.line)=true:=by rfl)(hst:zS X e es:=by rfl)(c:zP X a es:=by rfl)(hs:ZQ (.Call (.Attribute (.Subscript (.Name x j) d sp) "append" b) (e::es) [] a) none pos.line X.env=pure false:=by rfl) :
  WDS X (.Expr (.Call (.Attribute (.Subscript (.Name x j) d sp) "append" b) (e::es) [] a) pos) (w6 i tj te):=⟨Dl.lY (gA (rR PySem.F.plainAttrs_list PySem.F.slot_list_append PySem.F.type_list_append gJ (Dz qZ hv.h m.h l) ha.h f k g hst c) hs)⟩
def pA{i:Nat}{x:Str}{b e:Zt}{c a pos:Pos}(hu:X.A.units+64<Ys)(hv:WV X (.Name x c) i)(hk:WD X b tk)(he:WD X e tv)(hs:ZQ e (some (.Subscript (.Name x c) b a)) pos.line X.env=pure false:=by rfl) :
  WDS X (.Assign [.Subscript (.Name x c) b a] e pos) (Mt i tk tv):=⟨Dl.pA (nM (hu1 hu) hv.h hk.h he.h hs)⟩
def jY{x:Str}{i:Int}{u:Value}{ps:Pos}(hg:Gl X x)(hm:X.mg x=some u)(r:RelV (.int i) u)(hd:zB x:=by decide):WD X (.Name x ps) (tK (.int i)):=⟨Dl.jY hg hm r hd⟩
def aH{i:Nat}{x:Str}(hN:X.N.Nodup)(hi:X.N[i]?=some x)(b:Loc X.env.scope x)(a:zL X x:=by first|exact .inl rfl|exact .inr rfl|assumption):WDG X (.Name x pos) (gNm i):=⟨Dl.aH (Dw hN hi b a)⟩
def aq{i:Int}{j:Nat}:WD X (.Constant (.int i) j pos) (tK (.int i)):=⟨Dl.aq ⟩
def iH{i:Bool}{j:Nat}:WD X (.Constant (.bool i) j pos) (tK (.bool i)):=⟨Dl.iH ⟩
def jX{j:Nat}:WD X (.Constant .none j pos) (tK .none):=⟨Dl.jX ⟩
def bR{e:Zt}{t:DE}(h:WD X e t)(he:∀whole,ZE e X.env whole=(do let v ←whole;standAt e.pos;holding [v] (ZO v)):=by intro _;rfl):WDT X e (fu t):=⟨Dl.bR (h:=h.h) (he:=he)⟩
def cC{t:DT}(ha:WDT X a t):WDT X (.UnaryOp .Not a pos) (W0 t):=⟨Dl.cC (ha:=ha.h)⟩
def jU(ha:WDT X a t):WDW X (.BoolOp .And [a] pos) t:=⟨Dl.jU (ha:=ha.h)⟩
def fO(ha:WDT X a t):WDW X (.BoolOp .Or [a] pos) t:=⟨Dl.fO (ha:=ha.h)⟩
def lN{rest:List Zt}(ha:WDT X a t)(hb:WDW X (.BoolOp .And (b::rest) pos) u):WDW X (.BoolOp .And (a::b::rest) pos) (Hs t u):=⟨Dl.lN (ha:=ha.h) (hb:=hb.h)⟩
def iU{rest:List Zt}(ha:WDT X a t)(hb:WDW X (.BoolOp .Or (b::rest) pos) u):WDW X (.BoolOp .Or (a::b::rest) pos) (dOr t u):=⟨Dl.iU (ha:=ha.h) (hb:=hb.h)⟩
def ak :WDA X [] nj:=⟨Dl.ak ⟩
def aj(ha:WD X e te)(hr:WDA X es t)(hs:zS X e es:=by rfl):WDA X (e::es) (iz te t):=⟨Dl.aj (ha:=ha.h) (hr:=hr.h) (hs:=hs)⟩
def cg(h:WDA X es t):WD X (.List es pos) (Qv t):=⟨Dl.cg (h:=h.h)⟩
def aL{x1}(h:WDA X es t):WD X (.Tuple es x1 pos) (Am t):=⟨Dl.aL (h:=h.h)⟩
def jq(ha:WD X a ta)(hb:WD X b tb):WD X (.BinOp a .Sub b pos) (t2 (gI0 λi j=>.int (i - j)) ta tb):=⟨Dl.jq (ha:=ha.h) (hb:=hb.h)⟩
def qP(ha:WD X a ta)(hb:WD X b tb):WD X (.BinOp a .FloorDiv b pos) (t2 (gI U9 λi j=>.int (i / j)) ta tb):=⟨Dl.qP (ha:=ha.h) (hb:=hb.h)⟩
def wC(ha:WD X a ta)(hb:WD X b tb):WD X (.BinOp a .Mod b pos) (t2 (gI (λ_ j=>0<j) λi j=>.int (i % j)) ta tb):=⟨Dl.wC (ha:=ha.h) (hb:=hb.h)⟩
def J0(ha:WD X a ta)(hb:WD X b tb):WD X (.Compare a [.Lt] [b] pos) (t2 (gI0 λi j=>.bool (decide (i<j))) ta tb):=⟨Dl.J0 (ha:=ha.h) (hb:=hb.h)⟩
def DP(ha:WD X a ta)(hb:WD X b tb):WD X (.Compare a [.Gt] [b] pos) (t2 (gI0 λi j=>.bool (decide (j<i))) ta tb):=⟨Dl.DP (ha:=ha.h) (hb:=hb.h)⟩
def rT(ha:WD X a ta)(hb:WD X b tb):WDT X (.Compare a [.Lt] [b] pos) (fu (t2 (gI0 λi j=>.bool (decide (i<j))) ta tb)):=⟨Dl.rT (ha:=ha.h) (hb:=hb.h)⟩
def jV(ha:WD X a ta)(hb:WD X b tb):WDT X (.Compare a [.Gt] [b] pos) (fu (t2 (gI0 λi j=>.bool (decide (j<i))) ta tb)):=⟨Dl.jV (ha:=ha.h) (hb:=hb.h)⟩
def Bc(ha:WD X a ta)(hb:WD X b tb):WDT X (.Compare a [.GtE] [b] pos) (fu (t2 (gI0 λi j=>.bool (decide (j<=i))) ta tb)):=⟨Dl.Bc (ha:=ha.h) (hb:=hb.h)⟩
def cW{ps:Pos}(hm:X.mg "len"=none)(ha:WDA X [a] t)(hg:Gl X "len":=by rfl)(he:zS X a []:=by rfl)(hpl:zP X pos []:=by rfl):WD X (.Call (.Name "len" ps) [a] [] pos) (tCl PB t):=⟨Dl.cW (hm:=hm) (ha:=ha.h) (hg:=hg) (he:=he) (hpl:=hpl)⟩
def nU{ps:Pos}(hm:X.mg "int"=none)(hv:Zq "int"=some (.type "int"))(ha:WDA X [a] t)(hg:Gl X "int":=by rfl)(he:zS X a []:=by rfl)(hpl:zP X pos []:=by rfl):WD X (.Call (.Name "int" ps) [a] [] pos) (tCl Ue t):=⟨Dl.nU (hm:=hm) (hv:=hv) (ha:=ha.h) (hg:=hg) (he:=he) (hpl:=hpl)⟩
def aU :WDSs X [] vK:=⟨Dl.aU ⟩
def aA{st:ZF}{rest:List ZF}(h1:WDS X st t)(h2:WDSs X rest u):WDSs X (st::rest) (Cq t u):=⟨Dl.aA (h1:=h1.h) (h2:=h2.h)⟩
def aF{st:ZF}(h1:WDS X st t):WDSs X [st] t:=⟨Dl.aF (h1:=h1.h)⟩
def eY{st:ZF}:WDS X st (λ_ _=>False):=⟨Dl.eY ⟩
def aJ(he:WD X e te):WDS X (.Return (some e) pos) (Uw te):=⟨Dl.aJ (he:=he.h)⟩
def cR{c:Zt}{a b:List ZF}{d:DT}(hc:WDT X c d)(ha:WDSs X a t)(hb:WDSs X b u):WDS X (.If c a b pos) (dIf d t u):=⟨Dl.cR (hc:=hc.h) (ha:=ha.h) (hb:=hb.h)⟩
def lZ(he:WD X e te)(hs:ZQ e none pos.line X.env=pure false:=by rfl):WDS X (.Expr e pos) (Rj te):=⟨Dl.lZ (he:=he.h) (hs:=hs)⟩
def iQ :WDGs X [] Lf:=⟨Dl.iQ ⟩
def cD{g:DG}{a:DGs}(h1:WDG X e g)(h2:WDGs X es a)(hs:(ZU (e::es) X.env).map (·.2)=ZR e X.env::(ZU es X.env).map (·.2):=by rfl):WDGs X (e::es) (wU g a):=⟨Dl.cD (h1:=h1.h) (h2:=h2.h) (hs:=hs)⟩
def lA{a:DGs}{k n:Nat}(hc:X.calm=true)(h:WDGs X es a)(hn:⇑(ZU es X.env)=n:=by rfl)(hst:(ZU es X.env).findIdx? (·.1)=none:=by rfl):WDG X (.Tuple es k pos) (gTp n a):=⟨Dl.lA (hc:=hc) (h:=h.h) (hn:=hn) (hst:=hst)⟩
def bW(hl:WD X l tl):WDI X tg l (iSq tl):=⟨Dl.bW (hl:=hl.h)⟩
def cZ{a:Zt}{ps:Pos}(hm:X.mg "range"=none)(ha:WDA X [a] ta)(hg:Gl X "range":=by rfl)(hs:Zu [a] X.env=[(false,Zv a X.env)]:=by rfl):WDI X tg (.Call (.Name "range" ps) [a] [] pos) (iR1 ta):=⟨Dl.cZ (hm:=hm) (ha:=ha.h) (hg:=hg) (hs:=hs)⟩
def pB{elts:List Zt}{kk:Nat}{b:Pos}{a:Zt}{ps:Pos}(hm:X.mg "enumerate"=none)(ha:WDA X [a] ta)(hg:Gl X "enumerate":=by rfl)(hs:Zu [a] X.env=[(false,Zv a X.env)]:=by rfl):WDI X (.Tuple elts kk b) (.Call (.Name "enumerate" ps) [a] [] pos) (iEn ta):=⟨Dl.pB (hm:=hm) (ha:=ha.h) (hg:=hg) (hs:=hs)⟩
def d7{a:List ZF}(hp:ZY (model X.prog X.w) X.A X.env X.xe)(hc:X.calm=true)(hi:WDI X tg iter ti)(hg:WDG X tg g)(hb:WDSs X a tb)(hs:zF X iter:=by intro _;rfl):WDS X (.For tg iter a [] pos) (Uz ti g tb):=⟨Dl.d7 (hp:=hp) (hc:=hc) (hi:=hi.h) (hg:=hg.h) (hb:=hb.h) (hs:=hs)⟩
def uo{a:List ZF}{c:Zt}{b:DT}(hp:ZY (model X.prog X.w) X.A X.env X.xe)(hc:WDT X c b)(hb:WDSs X a tb):WDS X (.While c a [] pos) (Mq b tb):=⟨Dl.uo (hp:=hp) (hc:=hc.h) (hb:=hb.h)⟩
def cM{X:Cx}:WDTs X [] (λ_ P=>P true):=⟨Dl.cM ⟩
def fU{X:Cx}{c:Zt}{t:DT}(hc:WDT X c t):WDTs X [c] t:=⟨Dl.fU (hc:=hc.h)⟩
def fX(own:List Str)(hc:X.calm=true)(hi:WDI X tg iter ti)(hg:∀c,WDG (X.comp own scope c) tg g)(ht:∀c,WDTs (X.comp own scope c) ifs tt)(he:∀c,WD (X.comp own scope c) elt te)(hk:iy X.env scope X.N=true:=by rfl)(hs:zF X iter:=by intro _;rfl):WD X (.ListComp elt [⟨tg,iter,ifs,0⟩] scope pos) (dLC ⇑own ti g tt te):=⟨Dl.fX (own:=own) (hc:=hc) (hi:=hi.h) (hg:=λc=>(hg c).h) (ht:=λc=>(ht c).h) (he:=λc=>(he c).h) (hk:=hk) (hs:=hs)⟩
def pP(own M:List Str)(hc:X.calm=true)(hi:WDI X tg iter ti)(hg:∀c,WDG (X.bO own M scope c) tg g)(ht:∀c,WDTs (X.bO own M scope c) ifs tt)(he:∀c,WD (X.bO own M scope c) elt te)(hk:bM X.env scope X.N M=true:=by decide +kernel)(hs:zF X iter:=by intro _;rfl):WD X (.ListComp elt [⟨tg,iter,ifs,0⟩] scope pos) (dLC ⇑own ti g tt te):=⟨Dl.pP (own:=own) (M:=M) (hc:=hc) (hi:=hi.h) (hg:=λc=>(hg c).h) (ht:=λc=>(ht c).h) (he:=λc=>(he c).h) (hk:=hk) (hs:=hs)⟩
def wD(ha:WD X a ta)(hb:WD X b tb)(hc:WD X c tc)(hm:Yl [.LtE,.Lt] [b,c]=false:=by with_unfolding_all rfl):WD X (.Compare a [.LtE,.Lt] [b,c] pos) (tCh (λi j=>decide (i<=j)) (λi j=>decide (i<j)) ta tb tc):=⟨Dl.wD (ha:=ha.h) (hb:=hb.h) (hc:=hc.h) (hm:=hm)⟩
def Bd(ha:WD X a ta):WD X (.UnaryOp .Not a pos) (Qu ta):=⟨Dl.Bd (ha:=ha.h)⟩
def gW{op}(h:WD X a ta):WD X (.BoolOp op [a] pos) ta:=⟨Dl.gW (h:=h.h)⟩
def fC{rest:List Zt}(ha:WD X a ta)(hb:WD X (.BoolOp .And (b::rest) pos) tb):WD X (.BoolOp .And (a::b::rest) pos) (Qw ta tb):=⟨Dl.fC (ha:=ha.h) (hb:=hb.h)⟩
def jf{u:DT}(hc:WDT X c u)(ha:WD X a ta)(hb:WD X b tb):WD X (.IfExp c a b pos) (Vv u ta tb):=⟨Dl.jf (hc:=hc.h) (ha:=ha.h) (hb:=hb.h)⟩
def sI{ps:Pos}(hc:X.calm=true)(hm:X.mg "all"=none)(hv:Zq "all"=some (.builtin "all"))(ha:WDA X [a] t)(hg:Gl X "all":=by rfl)(he:zS X a []:=by rfl)(hpl:zP X pos []:=by rfl):WD X (.Call (.Name "all" ps) [a] [] pos) (tCl Uh t):=⟨Dl.sI (hc:=hc) (hm:=hm) (hv:=hv) (ha:=ha.h) (hg:=hg) (he:=he) (hpl:=hpl)⟩
def qO{ps:Pos}(hc:X.calm=true)(hm:X.mg "max"=none)(ha:WDA X [a,b] t)(hg:Gl X "max":=by rfl)(he:Zu [a,b] X.env=(false,Zv a X.env)::Zu [b] X.env:=by rfl)(hpl:(Zw pos (Zu [b] X.env)).any (·.1)=false:=by rfl):WD X (.Call (.Name "max" ps) [a,b] [] pos) (tCl (gMM λi j=>if j > i then j else i) t):=⟨Dl.qO (hc:=hc) (hm:=hm) (ha:=ha.h) (hg:=hg) (he:=he) (hpl:=hpl)⟩
def qN{ps:Pos}(hc:X.calm=true)(hm:X.mg "min"=none)(ha:WDA X [a,b] t)(hg:Gl X "min":=by rfl)(he:Zu [a,b] X.env=(false,Zv a X.env)::Zu [b] X.env:=by rfl)(hpl:(Zw pos (Zu [b] X.env)).any (·.1)=false:=by rfl):WD X (.Call (.Name "min" ps) [a,b] [] pos) (tCl (gMM λi j=>if j<i then j else i) t):=⟨Dl.qN (hc:=hc) (hm:=hm) (ha:=ha.h) (hg:=hg) (he:=he) (hpl:=hpl)⟩
def nQ{ps:Pos}(hm:X.mg "list"=none)(ha:WDA X [a] t)(hg:Gl X "list":=by rfl)(he:zS X a []:=by rfl)(hpl:zP X pos []:=by rfl):WD X (.Call (.Name "list" ps) [a] [] pos) (tCl Pz t):=⟨Dl.nQ (hm:=hm) (ha:=ha.h) (hg:=hg) (he:=he) (hpl:=hpl)⟩
def jo{ps:Pos}(hm:X.mg "tuple"=none)(ha:WDA X [a] t)(hg:Gl X "tuple":=by rfl)(he:zS X a []:=by rfl)(hpl:zP X pos []:=by rfl):WD X (.Call (.Name "tuple" ps) [a] [] pos) (tCl Lj t):=⟨Dl.jo (hm:=hm) (ha:=ha.h) (hg:=hg) (he:=he) (hpl:=hpl)⟩
def rW{ps:Pos}(hm:X.mg "sorted"=none)(ha:WDA X [a] t)(hg:Gl X "sorted":=by rfl)(he:zS X a []:=by rfl)(hpl:zP X pos []:=by rfl):WD X (.Call (.Name "sorted" ps) [a] [] pos) (tCl BX t):=⟨Dl.rW (hm:=hm) (ha:=ha.h) (hg:=hg) (he:=he) (hpl:=hpl)⟩
def nP{ps:Pos}(hm:X.mg "sorted"=none)(ha:WDA X [a] t)(hg:Gl X "sorted":=by rfl)(he:zS X a []:=by rfl)(hpl:zP X pos []:=by rfl):WD X (.Call (.Name "sorted" ps) [a] [] pos) (tCl BW t):=⟨Dl.nP (hm:=hm) (ha:=ha.h) (hg:=hg) (he:=he) (hpl:=hpl)⟩
def rU(hu:X.A.units+64<Ys)(ha:WD X a ta)(hb:WD X b tb)(hm:ZL .In b=false:=by rfl):WDT X (.Compare a [.In] [b] pos) (fu (t2 (gIn false) ta tb)):=⟨Dl.rU (hu:=hu) (ha:=ha.h) (hb:=hb.h) (hm:=hm)⟩
def lO(hu:X.A.units+64<Ys)(ha:WD X a ta)(hb:WD X b tb)(hm:ZL .NotIn b=false:=by rfl):WDT X (.Compare a [.NotIn] [b] pos) (fu (t2 (gIn true) ta tb)):=⟨Dl.lO (hu:=hu) (ha:=ha.h) (hb:=hb.h) (hm:=hm)⟩
def fV :WDO X none Ko:=⟨Dl.fV ⟩
def dX(h:WD X e te):WDO X (some e) (Km te):=⟨Dl.dX (h:=h.h)⟩
def dc{f:ed}(C:Cal X.prog X.w X.K X.mg X.fw k x ps (spD f))(hr:Room j X.A)(ha:WDA X (e::es) t)(hk:k<=j:=by decide)(hg:Gl X x:=by rfl)(hdb:zB x:=by decide)(he:zS X e es:=by rfl)(hpl:zP X pos es:=by rfl):WD X (.Call (.Name x p) (e::es) [] pos) (tFn f t):=⟨Dl.dc (C:=C) (hr:=hr) (ha:=ha.h) (hk:=hk) (hg:=hg) (hdb:=hdb) (he:=he) (hpl:=hpl)⟩
def dcP{C:Pn->Prop}{i:Nat}{f:ed}{y:Str}{a:Pos}(CC:Cal X.prog X.w X.K X.mg X.fw k x ps (spP C f))(hr:Room j X.A)(hi:WV X (.Name y a) i)(ha:WDA X es t)(hk:k<=j:=by decide)(hg:Gl X x:=by rfl)(hdb:zB x:=by decide)(he:Zu (.Name y a::es) X.env=(false,Zv (.Name y a) X.env)::Zu es X.env:=by rfl)(hpl:zP X pos es:=by rfl):WD X (.Call (.Name x p) (.Name y a::es) [] pos) (Nu C f i t):=⟨Dl.dcP (CC:=CC) (hr:=hr) (hi:=hi.h) (ha:=ha.h) (hk:=hk) (hg:=hg) (hdb:=hdb) (he:=he) (hpl:=hpl)⟩
def dv(i:Nat){x:Str}{pos:Pos}(hN:X.N[i]?=some x:=by rfl)(hv:Vis X.env.scope x:=by first|exact Or.inl rfl|exact Or.inr (Or.inl rfl)|exact Or.inr (Or.inr rfl))(hd:zB x:=by decide)(hcd:(x==("__classdict__":Str))=false:=by decide):WD X (.Name x pos) (tV i):=⟨Dl.dv (i:=i) (hN:=hN) (hv:=hv) (hd:=hd) (hcd:=hcd)⟩
def Bg(ha:WD X a ta)(hb:WD X b tb):WD X (.Compare a [.Is] [b] pos) (t2 Ho ta tb):=⟨Dl.Bg (ha:=ha.h) (hb:=hb.h)⟩
def wA(ha:WD X a ta)(hb:WD X b tb):WDT X (.Compare a [.Is] [b] pos) (fu (t2 Ho ta tb)):=⟨Dl.wA (ha:=ha.h) (hb:=hb.h)⟩
def aG(ha:WD X a ta)(hb:WD X b tb)(hs:pI b:=by exact λ_ _=>rfl):WD X (.Subscript a b pos) (t2 gIx ta tb):=⟨Dl.aG (ha:=ha.h) (hb:=hb.h) (hs:=hs)⟩
def bT(ha:WD X a ta)(hb:WD X b tb):WD X (.BinOp a .Add b pos) (t2 Et ta tb):=⟨Dl.bT (ha:=ha.h) (hb:=hb.h)⟩
def nO(ha:WD X a ta)(hb:WD X b tb):WD X (.BinOp a .Mult b pos) (t2 Lk ta tb):=⟨Dl.nO (ha:=ha.h) (hb:=hb.h)⟩
def jr(hu:X.A.units+64<Ys)(ha:WD X a ta)(hb:WD X b tb):WD X (.Compare a [.Eq] [b] pos) (t2 (ni false) ta tb):=⟨Dl.jr (hu:=hu) (ha:=ha.h) (hb:=hb.h)⟩
def Bf(hu:X.A.units+64<Ys)(ha:WD X a ta)(hb:WD X b tb):WD X (.Compare a [.NotEq] [b] pos) (t2 (ni true) ta tb):=⟨Dl.Bf (hu:=hu) (ha:=ha.h) (hb:=hb.h)⟩
def fQ(hu:X.A.units+64<Ys)(ha:WD X a ta)(hb:WD X b tb):WDT X (.Compare a [.Eq] [b] pos) (fu (t2 (ni false) ta tb)):=⟨Dl.fQ (hu:=hu) (ha:=ha.h) (hb:=hb.h)⟩
def gB(hu:X.A.units+64<Ys)(ha:WD X a ta)(hb:WD X b tb):WDT X (.Compare a [.NotEq] [b] pos) (fu (t2 (ni true) ta tb)):=⟨Dl.gB (hu:=hu) (ha:=ha.h) (hb:=hb.h)⟩
def Cp{rest:List ZF}(i:Nat)(h:WDSs X rest t):WDSs X rest (Uy i t):=⟨Dl.Cp (i:=i) (h:=h.h)⟩
def Mg{rest:List ZF}(i:Nat)(b:Bool)(h:WDSs X rest t):WDSs X rest (dSp i b t):=⟨Dl.Mg (i:=i) (b:=b) (h:=h.h)⟩
def aQ{rest:List ZF}(js:ei)(h:WDSs X rest t):WDSs X rest (xg js t):=⟨Dl.aQ (js:=js) (h:=h.h)⟩
def qQ :WD X (.Dict [] [] pos) (λ_ P=>P .new (.dict [])):=⟨Dl.qQ ⟩
def mX{ps b:Pos}(hc:X.calm=true)(hml:X.mg "list"=none)(hmr:X.mg "range"=none)(ha:WDA X [a] t)(hgl:Gl X "list":=by rfl)(hgr:Gl X "range":=by rfl)(he:zS X a []:=by rfl)(hpl:(Zw pos' (Zu [] X.env)).any (·.1)=false:=by rfl)(he2:Zu [.Call (.Name "range" b) [a] [] pos'] X.env=(false,Zv (.Call (.Name "range" b) [a] [] pos') X.env)::Zu [] X.env:=by rfl)(hpl2:zP X pos []:=by rfl):WD X (.Call (.Name "list" ps) [.Call (.Name "range" b) [a] [] pos'] [] pos) (Vt t):=⟨Dl.mX (hc:=hc) (hml:=hml) (hmr:=hmr) (ha:=ha.h) (hgl:=hgl) (hgr:=hgr) (he:=he) (hpl:=hpl) (he2:=he2) (hpl2:=hpl2)⟩
def jW{lo hi:Option Zt}{b a:DO}(he:WD X e te)(hl:WDO X lo b)(hh:WDO X hi a):WD X (.Subscript e (.Slice lo hi none p2) pos) (Rx te b a):=⟨Dl.jW (he:=he.h) (hl:=hl.h) (hh:=hh.h)⟩
def rZ(ha:WD X a ta)(hb:WD X b tb):WD X (.Dict [some a] [b] pos) (tD1 ta tb):=⟨Dl.rZ (ha:=ha.h) (hb:=hb.h)⟩
def jm(hu:X.A.units+64<Ys)(ha:WD X a ta)(hb:WD X b tb)(hm:ZL .NotIn b=false:=by rfl):WDT X (.Compare a [.NotIn] [b] pos) (fu (t2 (PJ true) ta tb)):=⟨Dl.jm (hu:=hu) (ha:=ha.h) (hb:=hb.h) (hm:=hm)⟩
def qR(hu:X.A.units+64<Ys)(ha:WD X a ta)(hb:WD X b tb)(hs:Nh b:=by exact λ_ _=>rfl):WD X (.Subscript a b pos) (t2 Ln ta tb):=⟨Dl.qR (hu:=hu) (ha:=ha.h) (hb:=hb.h) (hs:=hs)⟩
def qM(h:WD X e te)(he:∀whole,ZE e X.env whole=(do let v ←whole;standAt e.pos;holding [v] (ZO v)):=by intro _;rfl):WDT X e (Vj te):=⟨Dl.qM (h:=h.h) (he:=he)⟩
def rY{ps:Pos}(hc:X.calm=true)(hm:X.mg "sorted"=none)(ha:WDA X [a] t)(hg:Gl X "sorted":=by rfl)(he:zS X a []:=by rfl)(hpl:zP X pos []:=by rfl):WD X (.Call (.Name "sorted" ps) [a] [] pos) (tCl BZ t):=⟨Dl.rY (hc:=hc) (hm:=hm) (ha:=ha.h) (hg:=hg) (he:=he) (hpl:=hpl)⟩
def mW(ha:WD X a ta)(hb:WD X b tb):WDT X (.Compare a [.IsNot] [b] pos) (fu (t2 Eu ta tb)):=⟨Dl.mW (ha:=ha.h) (hb:=hb.h)⟩
end
section
def bH[Gr]{T:String}{x:Str}{e:Zt}{b:DE}{ps a pos:Pos}(hk:∀t:Value,(t=.type "NoneType"\/t=.type "bool"\/t=.type "int"\/t=.type "str"\/t=.type "list"\/t=.type "tuple"\/t=.type "dict")->∃n,t=.type n/\W.kitOne X.K t (.type T)=some (n==T || (T=="int"&&n=="bool")))(hm:X.mg "isinstance"=none)(he:WD X e b)(c:WC X (.Name x a) (.ty T))(hg:Gl X "isinstance":=by rfl)(h1:Zu [e,.Name x a] X.env=(false,Zv e X.env)::Zu [.Name x a] X.env:=by rfl)(h2:Zu [.Name x a] X.env=(false,Zv (.Name x a) X.env)::Zu [] X.env:=by rfl)(hpl:(Zw pos (Zu [.Name x a] X.env)).any (·.1)=false:=by rfl) :
  WD X (.Call (.Name "isinstance" ps) [e,.Name x a] [] pos) (tIs T b):=⟨Dl.bH hk hm he.h c.h hg h1 h2 hpl⟩
def nR[Gr]{x y:Str}{ps b a c pos:Pos}{kk:Nat}{e:Zt}{f:DE}(hm:X.mg "isinstance"=none)(he:WD X e f)(j:WC X (.Name x b) (.ty "list"))(d:WC X (.Name y a) (.ty "tuple"))(hg:Gl X "isinstance":=by rfl)(h1:Zu [e,.Tuple [.Name x b,.Name y a] kk c] X.env=(false,Zv e X.env)::Zu [.Tuple [.Name x b,.Name y a] kk c] X.env:=by rfl)(h2:Zu [.Tuple [.Name x b,.Name y a] kk c] X.env=(false,Zv (.Tuple [.Name x b,.Name y a] kk c) X.env)::Zu [] X.env:=by rfl)(g:Zu [.Name x b,.Name y a] X.env=(false,Zv (.Name x b) X.env)::Zu [.Name y a] X.env:=by rfl)(i:Zu [.Name y a] X.env=(false,Zv (.Name y a) X.env)::Zu [] X.env:=by rfl)(hpl:(Zw pos (Zu [.Tuple [.Name x b,.Name y a] kk c] X.env)).any (·.1)=false:=by rfl) :
  WD X (.Call (.Name "isinstance" ps) [e,.Tuple [.Name x b,.Name y a] kk c] [] pos) (Vu f):=⟨Dl.nR hm he.h j.h d.h hg h1 h2 g i hpl⟩
end
end Wr
set_option autoImplicit false
set_option autoImplicit true
namespace Wr
open L2 Dl
section
variable [Gr] {X:Cx}{tj te:DE}
def ux{elts:List Zt}{kk:Nat}{b pos:Pos}{a:Zt}{ps:Pos}(hm:X.mg "enumerate"=none)(ha:WDA X [a] ta)(hg:Gl X "enumerate":=by rfl)(hs:Zu [a] X.env=[(false,Zv a X.env)]:=by rfl):WDI X (.Tuple elts kk b) (.Call (.Name "enumerate" ps) [a] [] pos) (Wn ta):=⟨Dl.ux hm ha.h hg hs⟩
end
section
variable [Gr] {X:Cx}{tj te te1 te2 ta:DE}{t:DS}
end
end Wr
namespace Dl
open L2
variable{X:Cx}
section
variable{pins:ee}{σ:L2.St}{H:Hp}{s:Shared}{ok ok':Addr->Prop}
mutual
theorem Rp.mQ(f:∀a o,ok a->((∀xs,o≠.tup xs)/\¬Fxd o)->H a=some o->ok' a):∀{v:V}{d:D},Rp ok H v d->Rp ok' H v d
 |_,_,.non=>.non
 |_,_,.bl b=>.bl b
 |_,_,.int i=>.int i
 |_,_,.str x=>.str x
 |_,_,.lst o h r=>.lst (f _ _ o ⟨(λ_ z=>by cases z),λ⟨_,_,z⟩=>by cases z⟩ h) h (Rps.mQ f r)
 |_,_,.tup h r=>.tup h (Rps.mQ f r)
 |_,_,.dct o h r=>.dct (f _ _ o ⟨(λ_ z=>by cases z),λ⟨_,_,z⟩=>by cases z⟩ h) h (Rkv.mQ f r)
theorem Rps.mQ(f:∀a o,ok a->((∀xs,o≠.tup xs)/\¬Fxd o)->H a=some o->ok' a):∀{v:List V}{d:ez},Rps ok H v d->Rps ok' H v d
 |_,_,.nil=>.nil
 |_,_,.cons h r=>.cons (Rp.mQ f h) (Rps.mQ f r)
theorem Rkv.mQ(f:∀a o,ok a->((∀xs,o≠.tup xs)/\¬Fxd o)->H a=some o->ok' a):∀{v:List (Key×V)}{d:List (D×D)},Rkv ok H v d->Rkv ok' H v d
 |_,_,.nil=>.nil
 |_,_,.cons h r=>.cons (Rp.mQ f h) (Rkv.mQ f r)
end
end
section
variable{pos:Pos}{a e:Zt}{te:DE}{t:DA} [Gr]
end
def spR(f:ed):Sp:=λvs H Q _=>∃ok ds P,Rps ok H vs ds/\f ds P/\∀d v H',P d->Same H H'->Rp (λa=>ok a\/H a=none) H' v d->Q v H'
def Eh{f:ed}{n:Nat}(hn:∀ds P,f ds P->⇑ds=n:=by intro _ _ h;repeat (first|(let⟨rfl,_⟩:=h;rfl)|let⟨_,h⟩:=h)):∀vs H Q E,spR f vs H Q E->⇑vs=n:=λvs H Q E h=>by
 let⟨ok,ds,P,r,t,_⟩:=h;rw[⇑r];exact hn ds P t
section
variable [Gr]
abbrev DR:=(D->Prop)->List Sl->Prop
structure WishR(p:Pn)(own:Addr->Option Nat)(H:Hp)(P:D->Prop)(Q:Ends):Prop where
 rt:∀d v H',P d->p.PI H'->(∀b o,H b=some o->¬p.fp b->own b=none->H' b=some o)->Rp (λa=>¬p.fp a) H' v d->Q.rt v H'
def QX(t:DR):TS:=λQ σ H=>∃p H0 own ρ P,EnvD p H0 own σ H ρ/\t P ρ/\WishR p own H P Q
structure WR(X:Cx)(ss:List ZF)(t:DR):Prop where
 h:PSs X ss (QX t)
def Xv(a:DE):DR:=λP ρ=>a ρ λ_ d=>P d
variable{pos:Pos}{e:Zt}{te:DE}{st:ZF}{rest:List ZF}{t:DS}{u:DR}
def Je(he:Wr.WD X e te):WR X [.Return (some e) pos] (Xv te):=⟨PSs.wk' (iG (jQ he.h)) (by
 rintro Q σ H ⟨p,H0,own,ρ,P,E,t,w⟩;exact⟨p,H0,own,ρ,_,E,t,λk d v H' h A r=>w.rt d v H' h A.pen (λb o e n _=>A.kp b o e n) (r.mono (λa o=>jt A o) (λ_ _ _ e=>e) λ_ _ e=>e)⟩)⟩
def Ma{f:ed}{T:DR}{N:List Str}{vs:List V}{H:Hp}{Q:VK}{E:XK}(h:spR f vs H Q E)(j:∀ds P,f ds P->∃ρ,ds.map dO++List.replicate (⇑N - ⇑ds) .any=ρ/\T P ρ)(g:∀p,Gr.G p H:=by intro _;trivial):QX T { nx:=λ_ H'=>Q .non H',rt:=Q } (L2.start N vs) H:=by
 let⟨ok,ds,P,r,t,q⟩:=h;let⟨ρ,e,b⟩:=j ds P t
 let p:Pn:=⟨λa=>¬ok a/\∃o,H a=some o/\(∀xs,o≠.tup xs)/\¬Fxd o,λH'=>∀b o,¬ok b->H b=some o->((∀xs,o≠.tup xs)/\¬Fxd o)->H' b=some o,.non,
  λH1 H2 h1 h2 b o n i c=>h2 b o (.inl ⟨n,o,i,c⟩) (h1 b o n i c),λH1 b h1 ⟨n,o,i,c⟩=>⟨o,h1 b o n i c,c⟩⟩
 have E:=lX (p:=p) (N:=N) (g p) (λb o _ e _=>e) (r.mono (ok':=λa=>¬p.fp a) (λa o z=>z.1 o) (λ_ _ _ e=>e) λ_ _ e=>e);rw[⇑r]at E;rw[e]at E;refine⟨p,H,λ_=>none,_,_,E,b,⟨λd v H' hP hI hk rp=>?_⟩⟩;have m:Same H H':=λb o e=>by
  by_cases k:p.fp b
  ·let⟨n,o',i,c⟩:=k;rw[e]at i;cases i;exact hI b o n e c
  ·exact hk b o e k rfl
 refine q d v H' hP m (rp.mQ λa o n1 n2 i=>?_);cases l:H a with
 |none=>exact .inr rfl
 |some o' =>
  have c:=m a o' l;rw[i]at c;cases c;exact .inl (Classical.byContradiction λz=>n1 ⟨z,o,l,n2⟩)
variable{k j:Nat}{x:Str}{ps:List Str}{es:List Zt}{ta:DA}{p:Pos}
end
end Dl
namespace Wr
open L2 Dl
variable [Gr] {X:Cx}{pos:Pos}{a:Zt}{t:DA}
end Wr
namespace Dl
open L2
variable [Gr]
section
variable{X:Cx}{pos:Pos}{st:ZF}{rest:List ZF}{t u:DS}{te tj t1 t2:DE}
end
end Dl
namespace Wr
open L2 Dl
section
variable [Gr] {X:Cx}{tj te t1 t2:DE}{t u:DS}
end
end Wr
set_option autoImplicit false
namespace L2
open PySem.Spec
section
variable{X:Cx}{k:Nat}{f CF:Addr}{fd:Yt}{ps:List Str}{sp:Sp}{E:XK}{x hx n:Str}{p np cpos epos hpos pos:Pos}{e:Zt}{es:List Zt}{t:TA}{b₀:ZF}{suite:List ZF}{ts:TS}{j:Nat}
end
end L2
namespace Dl
open L2
section
variable [Gr] {X:Cx}{pos:Pos}{a:Zt}{t:DA}
def boot_str:Zq "str"=some (.type "str"):=⋯
end
end Dl
namespace Wr
open L2 Dl
section
variable [Gr] {X:Cx}{pos:Pos}{a:Zt}{t:DA}
end
end Wr
namespace Dl
open L2
structure Ext(p q:Pn):Prop where
 pv:q.pv=p.pv
 fp:∀a,p.fp a->q.fp a
 pi:∀H,q.PI H->p.PI H
 go:∀H H',q.PI H->Kp p H H'->p.PI H'->q.PI H'
def CE(C:Pn->Prop)(q:Pn):Prop:=∃p,C p/\Ext p q
section
variable [Gr]
variable{X:Cx}{pos:Pos}{c:Zt}{a rest:List ZF}{tc:DT}{t u:DR}
variable{k j i:Nat}{x y:Str}{ps:List Str}{es:List Zt}{ta:DA}{pp py:Pos}
end
end Dl
namespace L2
open PySem.Spec Builtin
section
variable{X:Cx}
end
end L2
namespace Dl
open L2
section
variable [Gr]
variable{X:Cx}{pos:Pos}{a b e:Zt}{ta tb te:DE}{p1 p2 p3:Pos}
end
end Dl
namespace Wr
open L2 Dl
section
variable [Gr] {X:Cx}{pos:Pos}{a b e:Zt}{ta tb te:DE}{p1 p2 p3:Pos}
end
end Wr
namespace L2
open PySem.Spec Builtin
section
variable{X:Cx}
end
end L2
namespace Dl
open L2
section
variable [Gr] {X:Cx}{pos p2:Pos}{a b e:Zt}{t:DA}{ta tb te:DE}
end
end Dl
namespace Wr
open L2 Dl
section
variable [Gr] {X:Cx}{pos p2:Pos}{a b e:Zt}{t:DA}{ta tb te:DE}
end
end Wr
namespace Dl
open L2
variable{X:Cx}
variable [Gr]
section
variable{st st2:ZF}{rest:List ZF}{te1 te2:DE}{tt:DT}{tr:TS}{t:DS}
end
section
variable{own:List Str}{scope:Zs}{tg iter elt:Zt}{ifs:List Zt}{pos:Pos}{g:DG}{tt:DT}{te:DE}
end
end Dl
namespace Wr
open L2 Dl
variable [Gr]
section
variable{X:Cx}{te1 te2:DE}{tt:DT}{tr:TS}{t:DS}
end
end Wr
namespace PySem
open PySem.W PySem.Spec
section
variable{prog:Za}{w:Zb}{A:Zr}{E:d6}{s:Shared}{it l:Addr}{items:el}
end
end PySem
namespace L2
open PySem.Spec
section
variable{X:Cx}
end
end L2
namespace Dl
open L2
section
variable [Gr] {X:Cx}{a:Zt}{t:DA}
end
end Dl
namespace Wr
open L2 Dl
section
variable [Gr] {X:Cx}{a:Zt}{t:DA}
end
end Wr
namespace L2
section
variable{X:Cx}{pins:ee}{σ:List (Option V)}{H:Hp}{s:Shared}
end
end L2
namespace Dl
open L2
variable [Gr]
section
variable{X:Cx}{pos pos':Pos}{a:Zt}{t:DA}
end
end Dl
namespace Wr
open L2 Dl
section
variable [Gr] {X:Cx}{pos pos':Pos}{a:Zt}{t:DA}
end
end Wr
namespace L2
open PySem.Spec
open PySem.AutoSeq1 (wpAny_loadPart')
open PySem.MeetsSeq PySem.MeetsSeq3
section
variable{prog:Za}{w:Zb}{A:Zr}{E:d6}{s:Shared}
end
section
variable{X:Cx}
end
end L2
namespace Dl
open L2
section
variable{X:Cx}{pos:Pos}{a:Zt}{t:DA} [Gr]
end
end Dl
namespace L2
open PySem.Spec
section
variable{prog:Za}{w:Zb}{A:Zr}{E:d6}{s:Shared}
end
section
variable{X:Cx}
end
end L2
namespace Dl
open L2
section
variable{X:Cx}{pos:Pos}{a e:Zt}{t:DA} [Gr]
end
end Dl
namespace L2
open PySem.Spec
open AutoSeq1 in
section
variable{X:Cx}
end
end L2
namespace Dl
open L2
variable [Gr]
section
variable{X:Cx}{st:ZF}{te:DE}{pos:Pos}{ta:DA}
end
end Dl
namespace Wr
open L2 Dl
section
variable [Gr] {X:Cx}{pos:Pos}{a:Zt}{ta t:DA}{te:DE}
end
end Wr
namespace Dl
open L2
variable [Gr]
section
variable{X:Cx}{st st2:ZF}{rest:List ZF}{tj te1 te2:DE}{tt:DT}{t:DS}{K:W.Frag}
end
end Dl
namespace Wr
open L2 Dl
section
variable [Gr] {X:Cx}{tj te1 te2:DE}
end
end Wr
namespace L2
open PySem.Spec
variable{X:Cx}
structure LamScope(ps ys:List Str)(sc:Zs)(cl:List (Str×Addr)):Prop where
 kind:sc.kind=.function
 co:sc.isCoroutine=false
 gen:sc.isGenerator=false
 nd:(ps++ys).Nodup
 par:∀x∈ps,sc.names.lookup x=some .local
 fre:∀y∈ys,sc.names.lookup y=some .free
 nocell:∀x∈sc.names,x.2≠.cell
 all:∀x,sc.names.lookup x=some .free->∃c,cl.lookup x=some c
 inj:∀x y c,cl.lookup x=some c->cl.lookup y=some c->x=y
def cxL(CX:CXT)(P:Za)(w:Zb)(K:W.Frag)(mg:Str->ew)(fw:Heap)(N:List Str)(qual:Str)(scope:Zs)(f:Addr)(cd:Value)(cl:List (Str×Addr))(A:Zr)(outer:List Env)(s:Shared)(H:Hp)(E:XK):Cx where
 prog:=P
 w:=w
 K:=K
 mg:=mg
 fw:=fw
 A:=A.deeper (W.envX qual scope ↥s f cd cl)
 N:=N
 s₀:=s
 H₀:=H
 env:=W.envX qual scope ↥s f cd cl
 outer:=outer
 stack:=W.envX qual scope ↥s f cd cl::outer
 ex:=[]
 calm:=true
 fn:=λ_=>false
 pn:=[]
 xe:=λe s'=>wpAny (model P w) (A.deeper (W.envX qual scope ↥s f cd cl)) (leaving (W.envX qual scope ↥s f cd cl) e) (λ_ s''=>CX outer H s E e s'') (λe' s''=>CX outer H s E e' s'') s'
structure Caps(fw:Heap)(cl:List (Str×Addr))(ys:List Str)(cvs:List V):Prop where
 len:⇑cvs=⇑ys
 cells:∀x c,cl.lookup x=some c->∃v,fw.IsCell c v
 val:∀(j:Nat)(y:Str)(v:V),ys[j]?=some y->cvs[j]?=some v->∃c u,cl.lookup y=some c/\fw.IsCell c (some u)/\RelV v u
def BJ{F:CXT}{P:Za}{w:Zb}{K:W.Frag}{mg:Str->ew}{fw:Heap}{ps ys:List Str}{qual:Str}{d:Zs}{f:Addr}{I:Value}{cl:List (Str×Addr)}{A:Zr}{g:List Env}{s:Shared}{h1:Heap}{tk:Nat}{H:Hp}{E:XK}{us:eo}{vs cvs:List V}(S:LamScope ps ys d cl)(hd:A.handled=none)(j:Env0 P w K mg fw A g s H)(hl:⇑vs=⇑ps)(r:Vals vs us)(C:Caps fw cl ys cvs)(hn:h1.Ns ↥s (λx=>(ps.zip us).reverse.lookup x))(hk:∀b o,s.heap.get? b=some o->h1.get? b=some o) :
  Inv (cxL F P w K mg fw (ps++ys) qual d f I cl A g s H E) [] (start (ps++ys) (vs++cvs)) H { s with heap:=h1,toks:=tk }:=by
 have m:∀b:Addr,b∉(cxL F P w K mg fw (ps++ys) qual d f I cl A g s H E).ex:=λb z=>dS (show b∈([]:List Addr)from z) (by simp);have G:∀b o,fw.get? b=some o->h1.get? b=some o:=λb o e=>hk b o (j.bs b o e).1;have n:∀x c,cl.lookup x=some c->H c=none:=λx c e=>by
  let⟨v,o,J,_⟩:=C.cells x c e;exact(j.bs c o J).2
 refine⟨⟨j.mod,S.kind,rfl,rfl,Nat.le_refl _,S.inj,λy k=>?_,(λy c z _=>(nomatch z)),λ_=>hd,Around.frames_deeper j.frames,.inr ⟨rfl,rfl⟩,λb z=>dS z (m b),j.bs,j.bsz,λb _ _=>m b,λb z=>dS z (m b),j.mF,j.frf,λq z=>nomatch (show q∈([]:List (Addr×Obj×HO))from z)⟩,
  rfl,j.bare,Un.kept hk,⟨_,hn,λi y v h1 h2 h3=>?_⟩,λy c h=>?_,j.hok.fresh (Nat.le_refl _),λy c h=>n y c h,λp hp=>dS (show p∈([]:ee)from hp) (by simp),j.hok.kept hk,?_⟩
 ·have k:d.names.lookup y=some .cell\/d.names.lookup y=some .free:=k;rcases k with k|k
  ·exact dS rfl (S.nocell _ (PySem.mem_of_lookup k))
  ·exact S.all y k
 ·have ha:(vs++cvs)[i]?=some v:=by
   unfold start at h2;by_cases hi:i<⇑(vs++cvs)
   ·rw[List.getElem?_append_left ↑hi,List.getElem?_map]at h2;cases e:(vs++cvs)[i]? with
    |none=>rw[e]at h2;cases h2
    |some a=>rw[e]at h2;cases h2;rfl
   ·rw[List.getElem?_append_right ↑hi]at h2;rw[List.getElem?_replicate]at h2;split at h2 <;> cases h2
  have h1:(ps++ys)[i]?=some y:=h1;by_cases hi:i<⇑ps
  ·rw[List.getElem?_append_left ()]at h1 ha;let⟨u,hu,D⟩:=r.get ha;have B:ps.Nodup:=(List.nodup_append.mp S.nd).1;refine⟨u,D,.inl ⟨S.par y (List.mem_of_getElem? h1),?_⟩⟩;have rl:∀(l:List (Str×Value))(x:Str)(u:Value),(l.map (·.1)).Nodup->(x,u)∈l->l.lookup x=some u:=λl x u=>by
    induction l with
    |nil=>intro _ z;cases z
    |cons p l ih =>
     intro t z;let⟨a,b⟩:=p;rw[List.map_cons,List.nodup_cons]at t;rcases List.mem_cons.mp z with z|z
     ·cases z;rw[List.lookup_cons];simp
     ·have:x≠a:=λe=>t.1 (by rw[←e];exact List.mem_map.mpr ⟨(x,u),z,rfl⟩);rw[List.lookup_cons,show(x==a)=false by simpa using this];exact ih t.2 z
   refine rl _ _ _ ?_ (List.mem_reverse.mpr ?_)
   ·rw[List.map_reverse,List.map_fst_zip (by rw[←⇑r,hl];exact Nat.le_refl _)];exact List.pairwise_reverse.mpr (B.imp λh e=>h e.symm)
   ·exact List.mem_of_getElem? (i:=i) (by rw[List.getElem?_zip_eq_some];exact⟨h1,hu⟩)
  ·rw[List.getElem?_append_right ()]at h1 ha;rw[hl]at ha;let⟨c,u,e,hc,D⟩:=C.val _ _ _ h1 ha;exact⟨u,D,.inr ⟨.inr (S.fre y (List.mem_of_getElem? h1)),c,e,hc.keeps G⟩⟩
 ·let⟨v,hc⟩:=C.cells y c h;exact⟨v,hc.keeps G⟩
 ·unfold start;show _=⇑(ps++ys);rw[List.length_append,List.length_map,List.length_replicate,List.length_append,List.length_append,C.len,hl];lia
def W7(x:Obj)(qual:Str):Prop:=∃vs t,x.data=.fields vs/\vs[1]?=some (.str qual t)
def uM(H:Hp)(a:Addr)(qual:Str):Prop:=∃x φ,H a=some (.frz x (.ext φ))/\W7 x qual
def Ui{B:CXT}{P:Za}{w:Zb}{K:W.Frag}{mg:Str->ew}{fw:Heap}{k:Nat}{f i:Addr}{name qual:Str}{g:YA}{d:Zt}{a:Zs}{G l:Value}{cl:List (Str×Addr)}{ps ys:List Str}{cvs:List V}{sp:Sp}(M:fw.get? f=some (W.kla_obj name qual g d a cl G i l))(hcd:∀vs H Q E,sp vs H Q E->uM H i qual)(S:LamScope ps ys a cl)(C:Caps fw cl ys cvs)(z:∀vs H Q E,sp vs H Q E->⇑vs=⇑ps)(j:∀(A:Zr)(c:List Env)(s:Shared)(H:Hp)(vs:List V)(Q:VK)(E:XK),Room k (A.deeper (W.envX qual a ↥s f (.ref i) cl))->sp vs H Q E ->
   ∃t,PE (cxL B P w K mg fw (ps++ys) qual a f (.ref i) cl A c s H E) d t/\t (start (ps++ys) (vs++cvs)) H Q) :
  FnOk P w K mg fw B (k+1) f (W.kla_fn name qual g d a cl G (.ref i) l) ps sp:=by
 refine⟨z,λA c s H args us vs Q E hr e0 hb r hsp=>?_⟩;have hl:=z _ _ _ _ hsp;have F:∀b o,fw.get? b=some o->s.heap.get? b=some o:=λb o e=>(e0.bs b o e).1;have D:s.heap.NoLimit:=e0.mod.nolimit.keeps F;have m:s.heap.CodeRec (.ref i) qual:=by
  let⟨x,φ,e,vs,t,h1,h2⟩:=hcd _ _ _ _ hsp;exact⟨i,x,vs,t,rfl,(e0.hok _ _ e).1,h1,h2⟩
 refine W.kla_callFunE hr.depth (F _ _ M) rfl S.co S.gen rfl m (hb _ _ _ _ ?_);have p:∀y∈ps.zip us,a.names.lookup y.1=some .local:=λ⟨n,v⟩ hy=>S.par n (List.of_mem_zip hy).1;refine wpAny_newFunctionEnv S.nocell p (λh₁ hns hsb=>?_) S.kind;have h:∀b o,s.heap.get? b=some o->h₁.get? b=some o:=λb o e=>hsb.extBut b o (Nat.ne_of_lt (Heap.lt_size e)) (Heap.get?_push_of_some _ e);refine⟨D.keeps h,?_⟩;show Yo _ _ (.expr d (W.envX qual a ↥s f (.ref i) cl)) _ _;let⟨t,ht,L⟩:=j A c s H vs Q E (hr.deeper _) hsp;have I:Inv (cxL B P w K mg fw (ps++ys) qual a f (.ref i) cl A c s H E) [] (start (ps++ys) (vs++cvs)) H { s with heap:=h₁,toks:=s.toks+⇑(ps.zip us) }:=BJ S hr.hd e0 hl r C hns h;refine W.kla_codeExpr (ZG (ht [] _ _ H _ I L) (λu s' hs=>?_) λe s' hs=>hs);let⟨v,H',J,N,q⟩:=hs;exact⟨v,H',J.os,J.bare,J.fw,J.hok,N,q⟩
def reb(fw h:Heap)(L:List Addr):Heap:=W.hideAll h ((List.range h.objs.size).filter λb=>(fw.get? b).isNone&&!decide (b∈L))
def wg{fw h:Heap}{L:List Addr}{b:Addr}:b∉((List.range h.objs.size).filter λb=>(fw.get? b).isNone&&!decide (b∈L))↔(h.objs.size<=b\/(∃o,fw.get? b=some o)\/b∈L):=by
 rw[List.mem_filter,List.mem_range,Bool.and_eq_true,Option.isNone_iff_eq_none,Bool.not_eq_true',decide_eq_false_iff_not];constructor
 ·intro z;by_cases h1:b<h.objs.size
  ·cases e:fw.get? b with
   |some o=>exact .inr (.inl ⟨o,rfl⟩)
   |none =>
    by_cases h2:b∈L
    ·exact .inr (.inr h2)
    ·exact dS ⟨h1,e,h2⟩ z
  ·exact .inl (Nat.le_of_not_lt h1)
 ·rintro(z|⟨o,z⟩|z) ⟨a,b,c⟩
  ·exact dS a (Nat.not_lt.mpr z)
  ·rw[z]at b;cases b
  ·exact c z
def Ji{fw h:Heap}{L:List Addr}{b:Addr}{o:Obj}(e:h.get? b=some o)(m:b∈L):(reb fw h L).get? b=some o:=W.hideAll_get _ e (wg.mpr (.inr (.inr m)))
def Jj{fw h:Heap}{L:List Addr}(a:∀b o,fw.get? b=some o->h.get? b=some o):∀b o,fw.get? b=some o->(reb fw h L).get? b=some o:=λb o e=>W.hideAll_get _ (a b o e) (wg.mpr (.inr (.inl ⟨o,e⟩)))
def Kl{fw h:Heap}{L:List Addr}{b:Addr}{o:Obj}(e:(reb fw h L).get? b=some o):h.get? b=some o/\((∃o,fw.get? b=some o)\/b∈L):=by
 have a:=W.of_hideAll _ e;refine⟨a,?_⟩;have n:b∉((List.range h.objs.size).filter λb=>(fw.get? b).isNone&&!decide (b∈L)):=λz=>by
  have:=W.hideAll_none (h:=h) _ z;rw[show(W.hideAll h ((List.range h.objs.size).filter λb=>(fw.get? b).isNone&&!decide (b∈L))).get? b=some o from e]at this;cases this
 exact(wg.mp n).resolve_left (λz=>dS (Heap.lt_size a) (Nat.not_lt.mpr z))
def Mod.reb{K:W.Frag}{mg:Str->ew}{fw h:Heap}{L:List Addr}(m:Mod K mg fw)(a:∀b o,fw.get? b=some o->h.get? b=some o):Mod K mg (reb fw h L):=by
 have k:=Jj (L:=L) a;let⟨d,hb,c⟩:=m.blt;exact⟨m.kin.keeps k,m.glob.keeps k,⟨d,hb.keeps k,c⟩,m.nolimit.keeps k⟩
def Env0.reb{P:Za}{w:Zb}{K:W.Frag}{mg:Str->ew}{fw:Heap}{A:Zr}{a:List Env}{s:Shared}{H:Hp}{L:List Addr}(e:Env0 P w K mg fw A a s H)(g:∀b∈L,H b=none)(c:∀b∈L,b∉frs a):Env0 P w K mg (reb fw s.heap L) A a s H:=by
 have f:∀b o,fw.get? b=some o->s.heap.get? b=some o:=λb o z=>(e.bs b o z).1;refine⟨e.frames,e.mod.reb f,λb o z=>?_,?_,?_,e.frf,e.hok,e.bare⟩
 ·let⟨h1,h2⟩:=Kl z;refine⟨h1,?_⟩;rcases h2 with⟨o',h2⟩|h2
  ·exact(e.bs b o' h2).2
  ·exact g b h2
 ·unfold L2.reb;rw[W.hideAll_size];exact Nat.le_refl _
 ·have d:∀l:List Env,(∀b∈L,b∉frs l)->s.heap.FunFrames fw l->s.heap.FunFrames (L2.reb fw s.heap L) l:=by
   intro l;induction l with
   |nil=>intro _ _;trivial
   |cons env r ih =>
    intro hs hl;let⟨hk,⟨F,o,c,hn,h,hd⟩,hr⟩:=hl;refine⟨hk,⟨F,o,c,?_,h,hd⟩,ih (λb hb z=>hs b hb ?_) hr⟩
    ·cases q:(L2.reb fw s.heap L).get? F with
     |none=>rfl
     |some u =>
      let⟨_,h2⟩:=Kl q;rcases h2 with⟨o',h2⟩|h2
      ·rw[hn]at h2;cases h2
      ·exact dS (by unfold frs;rw[List.filterMap_cons,c];exact List.mem_cons_self) (hs F h2)
    ·unfold frs at z ⊢;rw[List.filterMap_cons,c];exact List.mem_cons_of_mem _ z
  exact d a c e.mF
section
variable{CX:CXT}{k i:Nat}{f:Addr}{fd:Yt}{ps:List Str}{sp:Sp}{E:XK}{x:Str}{p pos:Pos}{e:Zt}{es:List Zt}{t:TA}
end
def uK(P:Addr)(pos:Pos)(qual:Str)(H:Hp):Prop:=∃ps,H P=some (.tbl ps)/\(ps=#[]\/∃c',ps=#[Z4 pos.line,Z4 pos.col,.ref c']/\uM H c' qual)
def W8{h h':Heap}{L:Addr}{m:Str->ew}(x:h.Ns L m)(k:∀o,h.get? L=some o->h'.get? L=some o):h'.Ns L m:=by
 let⟨o,es,ep,a,r⟩:=x;exact⟨o,es,ep,k o a,r⟩
section
variable{pins:ee}{σ:St}{H:Hp}{s:Shared}{c P:Addr}{pos:Pos}{qual:Str}{params:YA}{body:Zt}{scope:Zs}{cl:List (Str×Addr)}{Q:d6}{E:d6}
def GR(I:Inv X pins σ H s)(hq:X.env.qual++"<lambda>"=qual)(G:defaultsOf params X.env=([],[]))(F:YY scope X.env=pure cl)(i:X.env.code=.ref c)(N:X.K.In X.fw->W.CodeHd X.fw c P)(O:X.K.In X.fw->X.fw.BuiltinsAt X.mg P)(T:uK P pos qual H)(h:∀f c' ctv pm s' H',Inv X pins σ H' s'->uK P pos qual H'->uM H' c' qual->H' f=none->s'.heap.get? f=some (W.kla_obj "<lambda>" qual params body scope cl pm c' ctv)->f∉frs X.stack->(∀b o,H b=some o->b≠P->H' b=some o) ->
   (∀b o,s.heap.get? b=some o->H b=none->s'.heap.get? b=some o/\H' b=none)->Q (.ref f) s') :
  wpAny (model X.prog X.w) X.A (Zv (.Lambda params body scope pos) X.env) Q E s:=by
 have N:=N I.ok.mod.kin;have O:=O I.ok.mod.kin;let⟨ps,k,V⟩:=T;have v:s.heap.get? P=some (W.tabObj ps):=I.hok P _ k;have g:∀b,H b=none->b≠P:=λb e z=>by rw[z,k]at e;cases e
 have L:s.heap.Ns mainGlobals X.mg:=I.mod.glob.keeps I.bk;have R:mainGlobals≠P:=by
  let⟨o,_,_,S,_⟩:=I.mod.glob;exact g _ (I.bs _ _ S).2
 have C:s.heap.BuiltinsAt X.mg P:=by
  let⟨bm,o,h1,h2,h3,h4,h5,r⟩:=O;exact⟨bm,o,h1,h2,h3,h4,I.bk _ _ h5,r⟩
 have B:∀b,↥s<=b->b∉frs X.stack:=λb hb z=>by
  let⟨_,o,S,_⟩:=I.stack.mem z;exact dS (Heap.lt_size S) (Nat.not_lt.mpr hb)
 refine W.kla_eval G ?_;rw[hq];rcases V with rfl|⟨c',rfl,M⟩
 ·refine W.kla_makeFunction (mg:=X.mg) F I.ok.glob L i (N.keeps I.bk) v (by trivial) (by rfl) R C λc' ctv h' tk hx hge hlt hrec htb=>?_;let⟨c₂,Y,vs,t,e2,U,hd,hv⟩:=hrec;cases e2;have d:∀b o,b≠P->s.heap.get? b=some o->(h'.push (W.kla_obj "<lambda>" qual params body scope cl ((X.mg "__name__").getD .none) c' ctv)).get? b=some o:=λb o n e=>Heap.get?_push_of_some _ (hx b o n e);have D:H c'=none:=I.hok.fresh hge;have cP:c'≠P:=g c' D;have cS:∀b o,s.heap.get? b=some o->b≠c':=λb o e z=>by subst z;exact dS (Heap.lt_size e) (Nat.not_lt.mpr hge)
  have p:(h'.push (W.kla_obj "<lambda>" qual params body scope cl ((X.mg "__name__").getD .none) c' ctv)).get? P=some (W.tabObj (#[]++#[Z4 pos.line,Z4 pos.col,.ref c'])):=Heap.get?_push_of_some _ htb;have l:=Heap.get?_push_of_some (W.kla_obj "<lambda>" qual params body scope cl ((X.mg "__name__").getD .none) c' ctv) U
  let H':Hp:=upd (upd H P (.tbl #[Z4 pos.line,Z4 pos.col,.ref c'])) c' (.frz Y (.ext λ_=>True))
  have j:∀b,b≠P->b≠c'->H' b=H b:=λb h1 h2=>by show upd _ _ _ b=_;rw[ao h2,ao h1]
  have Z:H' P=some (.tbl #[Z4 pos.line,Z4 pos.col,.ref c']):=by show upd _ _ _ P=_;rw[ao (Ne.symm cP),aB]
  have uc:H' c'=some (.frz Y (.ext λ_=>True)):=aB;have x:∀b o,H b=some o->b≠c':=λb o e z=>by rw[z,D]at e;cases e
  have M:uM H' c' qual:=⟨Y,_,uc,vs,t,hd,hv⟩
  have J:Inv X pins σ H' { s with heap:=h'.push (W.kla_obj "<lambda>" qual params body scope cl ((X.mg "__name__").getD .none) c' ctv),toks:=tk }:=by
   refine I.step (g':=s.gens) (d':=s.drawn) (ch:=[]) (λ_ z=>nomatch z) (λb o _ _ _ e n=>d b o (g b n) e) (λb o _ _ _ e n=>⟨o.slots,d b o (g b n) e⟩) (λb o _ e n=>by rw[j b (g b n) (cS b o e)];exact n) (λb o _ e=>?_) (λb xs e=>?_) (λb o u e=>?_) (λb ps e=>?_) (λm hm=>W8 hm λo e=>d _ o (g _ I.free) e) (λa o e=>?_) I.bare
   ·by_cases z:b=P
    ·subst z;exact⟨_,p⟩
    ·exact⟨o,d b o z e⟩
   ·rw[j b (λz=>by rw[z,k]at e;cases e) (x b _ e)];exact e
   ·rw[j b (λz=>by rw[z,k]at e;cases e) (x b _ e)];exact e
   ·by_cases z:b=P
    ·subst z;rw[k]at e;cases e;exact⟨#[Z4 pos.line,Z4 pos.col,.ref c'],by rw[Z];simp⟩
    ·exact⟨#[],by rw[j b z (x b _ e),e];simp⟩
   ·by_cases z:a=c'
    ·subst z;rw[uc]at e;cases e;exact⟨l,trivial,⟨_,l⟩,λ_ _ _ _=>trivial⟩
    ·by_cases z2:a=P
     ·subst z2;rw[Z]at e;cases e;exact p
     ·rw[j a z2 z]at e;have ow:∀b,H b=some (.own a)->b≠P:=λb q y=>by rw[y,k]at q;cases q
      exact(I.hok a o e).stay (λb u hb q=>d b u (hb.elim (λy=>y ▸ z2) (ow b)) q) (λb q=>by rw[j b (ow b q) (x b _ q)];exact q) λb xs q=>by rw[j b (λy=>by rw[y,k]at q;cases q) (x b _ q)];exact q
  have hsz:↥s<=h'.objs.size:=Nat.le_of_lt (Nat.lt_of_le_of_lt hge hlt);have fP:h'.objs.size≠P:=λz=>dS (Heap.lt_size v) (Nat.not_lt.mpr (z ▸ hsz));refine h h'.objs.size c' ctv _ _ H' J ⟨_,Z,.inr ⟨c',rfl,M⟩⟩ M (by rw[j _ fP (Nat.ne_of_gt hlt)];exact I.hok.fresh hsz) (Heap.get?_push_size _ rfl) (B _ hsz) (λb o e n=>by rw[j b n (x b _ e)];exact e) λb o e n=>⟨d b o (g b n) e,by rw[j b (g b n) (cS b o e)];exact n⟩
 ·refine W.kla_makeFunctionHit (mg:=X.mg) (cv:=.ref c') F I.ok.glob L i (N.keeps I.bk) v (by trivial) (codeAmong_snoc (pos:=pos) (c:=.ref c') [] trivial rfl) C λctv h' tk hk hsz=>?_;have d:∀b o,s.heap.get? b=some o->(h'.push { cls:=.type "function",data:=.func (W.kla_fn "<lambda>" qual params body scope cl ((X.mg "__name__").getD .none) (.ref c') ctv)}).get? b=some o:=λb o e=>Heap.get?_push_of_some _ (hk b o e);exact h h'.objs.size c' ctv _ _ H (I.kept (t':=tk) d) ⟨_,k,.inr ⟨c',rfl,M⟩⟩ M (I.hok.fresh hsz) (Heap.get?_push_size _ rfl) (B _ hsz) (λb o e _=>e) λb o e n=>⟨d b o e,n⟩
end
structure LamAt(fw:Heap)(f c':Addr)(qual:Str)(params:YA)(body:Zt)(scope:Zs)(cl:List (Str×Addr))(ys:List Str)(cvs:List V)(H:Hp):Prop where
 fn:∃pm ctv,fw.get? f=some (W.kla_obj "<lambda>" qual params body scope cl pm c' ctv)
 caps:Caps fw cl ys cvs
 kn:uM H c' qual
section
variable{k:Nat}{fh c P:Addr}{fdh:Yt}{ps ys:List Str}{sp:Heap->Sp}{x:Str}{p pos lpos:Pos}{e:Zt}{te:TE}{qual:Str}{params:YA}{body:Zt}{scope:Zs}{cl:List (Str×Addr)}
end
end L2
namespace Dl
open L2
def yp(P:Addr)(pos:Pos)(qual:Str):Pn where
 fp:=λb=>b=P
 PI:=uK P pos qual
 pv:=.non
 mono:=λH H' ⟨ps,h,r⟩ k=>⟨ps,k _ _ (.inl rfl) h,r.imp id λ⟨c',e,x,φ,hc,cx⟩=>⟨c',e,x,φ,k _ _ (.inr ⟨x,φ,rfl⟩) hc,cx⟩⟩
 is:=λH b ⟨ps,h,_⟩ hb=>by
  subst hb;exact⟨_,h,(λxs z=>(nomatch z)),λ⟨_,_,z⟩=>(nomatch z)⟩
def spT(T:Pn)(f:ed):Sp:=λvs H Q _=>∃ds P,T.PI H/\Rps (λa=>¬T.fp a) H vs ds/\f ds P/\∀d v H',P d->Kp T H H'->T.PI H'->Rp (λa=>H a=none) H' v d->Q v H'
def Pa{T:Pn}{f:ed}{n:Nat}(hn:∀ds P,f ds P->⇑ds=n:=by intro _ _ h;repeat (first|(let⟨rfl,_⟩:=h;rfl)|let⟨_,h⟩:=h)):∀vs H Q E,spT T f vs H Q E->⇑vs=n:=λvs H Q E ⟨ds,P,_,r,t,_⟩=>by
 rw[⇑r];exact hn ds P t
def Pn.plus(p T:Pn):Pn where
 fp:=λb=>p.fp b\/T.fp b
 PI:=λH=>p.PI H/\T.PI H
 pv:=p.pv
 mono:=λH H' h k=>⟨p.mono H H' h.1 λb o z e=>k b o (z.imp .inl id) e,T.mono H H' h.2 λb o z e=>k b o (z.imp .inr id) e⟩
 is:=λH b h z=>z.elim (p.is H b h.1) (T.is H b h.2)
def Apart(p T:Pn):Prop:=∀H,p.PI H->T.PI H->∀b,p.fp b->¬T.fp b
def CT(C:Pn->Prop)(T:Pn):Pn->Prop:=λq=>∃p,C p/\Apart p T/\q=p.plus T
def Bm{p:Pn}{H:Hp}{b:Addr}{o:HO}(h:p.PI H)(e:H b=some o)(c:Fxd o):¬p.fp b:=λz=>by
 let⟨o',a,n⟩:=p.is H b h z;rw[e]at a;cases a;exact n.2 c
def Iw{C:Pn->Prop}{T:Pn}{f:ed}:∀vs H Q E,spP (CT C T) f vs H Q E->spP C f vs H Q E:=by
 rintro vs H Q E ⟨q,vs',ds,P,⟨p,c,h,rfl⟩,rfl,g,r,t,k⟩;refine⟨p,vs',ds,P,c,rfl,g.1,r.mono (λa o z=>o (.inl z)) (λ_ _ _ e=>e) (λ_ _ e=>e),t,λd v H' hP kp pi' rp=>k d v H' hP (λb o e n=>kp b o e λz=>n (.inl z)) ⟨pi',T.mono H H' g.2 λb o z e=>kp b o e λy=>?_⟩ rp⟩;rcases z with z|z
 ·exact h H g.1 g.2 b y z
 ·exact Bm g.1 e z y
def Cal.plus{P:Za}{w:Zb}{K:W.Frag}{mg:Str->ew}{fw:Heap}{k:Nat}{x:Str}{ps:List Str}{C:Pn->Prop}{T:Pn}{f:ed}(c:Cal P w K mg fw k x ps (spP C f)):Cal P w K mg fw k x ps (spP (CT C T) f):=by
 let⟨g,a,F,r⟩:=c.ex;exact⟨g,a,F.imp Iw,r⟩
section
variable [Gr] {X:Cx}{k j:Nat}{x:Str}{ps:List Str}{e:Zt}{es:List Zt}{t:DA}{p pos:Pos}{C:Pn->Prop}{T:Pn}{i:Nat}{f:ed}
end
section
variable{X:Cx}{k j:Nat}{x:Str}{ps:List Str}{e:Zt}{es:List Zt}{t:DA}{p pos:Pos}{Z:Hp->Prop}{i:Nat}{f:Addr}{fd:Yt}{g:ed}
end
end Dl
namespace Wr
open L2 Dl
variable{X:Cx}{k j:Nat}{x:Str}{ps:List Str}{e:Zt}{es:List Zt}{t:DA}{p pos:Pos}{Z:Hp->Prop}{i:Nat}{f:Addr}{fd:Yt}{g:ed}
end Wr
namespace Dl
open L2
section
variable [Gr] {X:Cx}{st:ZF}{i k a b:Nat}{f:ed}
end
end Dl
namespace Wr
open L2 Dl
section
variable [Gr] {X:Cx}{i k a b lv j:Nat}{f:ed}{x g y z1 z2:Str}{ps:List Str}{apos cpos np pos gp gpos py px pa pb:Pos}
end
end Wr
namespace L2
open PySem.Spec
def G5{P:Za}{w:Zb}{K:W.Frag}{mg mb:Str->ew}{k:Nat}{X a:Addr}{g:List Addr}{fd:Yt}{x:Str}{sp:Sp}{f:Shared}{vs:eo}{ns:eg}(KX:K.In f.heap)(hKP:∀PT∈g,K.lookup PT=none)(hC:∀PT∈g,∃c,W.CodeHd f.heap c PT)(j:∀PT∈g,f.heap.get? PT=some (W.tabObj #[]))(M:f.heap.Ns mainGlobals mg)(hb:f.heap.Ns Zp mb)(hbb:∀x:Str,x≠"__name__"->mb x=Zq x)(L:f.heap.NoLimit)(Z:∀PT∈g,f.heap.BuiltinsAt mg PT)(hg:f.gens=#[])(ha:f.heap.get? a=some { cls:=.type "list",data:=.seq vs.toArray })(hi:IntsAre vs ns)(hl:⇑ns<=sizeLine)(hr:Room k callerA)(F:∀fw:Heap,K.In fw->fw.Ns mainGlobals mg->(∀PT∈g,fw.BuiltinsAt mg PT)->(∀(b:Addr)(m:Str->ew),f.heap.Ns b m->fw.Ns b m)->FnOk P w K mg fw CX0 k X fd [x] sp)(C:∀(s:Shared)(u:Value),Yu s fd ⟨[u],[]⟩ [(x,u)])(hsp:∀H:Hp,SqL K H a (ns.map V.int)->(∀PT∈g,H PT=some (.tbl #[]))->sp [.ref a] H (λv _=>v=.bl true) λ_ _ _=>False) :
  Yo (model P w) callerA (.call (.ref X) ⟨[.ref a],[]⟩) (λr s'=>r=.ok (.ret (.bool true))/\OldK f.heap s'.heap/\s'.os=f.os/\ZB s'.gens) f:=by
 have rv:=lH hi;have O:=⇑hi;have aP:a∉g:=λz=>by rw[j a z]at ha;cases ha
 have p:∀H:Hp,SqL K H a (ns.map V.int)->HOk P w H f.heap->(∀PT∈g,H PT=some (.tbl #[]))->(∀b u,H b=some u->b∉g->b=a/\K.lookup a=none/\∃o u',u=.frz o u') ->
   Yo (model P w) callerA (.call (.ref X) ⟨[.ref a],[]⟩) (λr s'=>r=.ok (.ret (.bool true))/\OldK f.heap s'.heap/\s'.os=f.os/\ZB s'.gens) f:=by
  intro H hS N hT T;have nD:∀{b:Addr}{o:Obj}{es:Array Ze}{ep:Nat},f.heap.get? b=some o->o.data=.dict es ep->H b=none:=λ{b o es ep} e d=>by
   cases q:H b with
   |none=>rfl
   |some u =>
    by_cases z:b∈g
    ·rw[j b z]at e;cases e;cases d
    ·have:=(T b u q z).1;subst this;rw[ha]at e;cases e;cases d
  have n:∀{b:Addr}{m:Str->ew},f.heap.Ns b m->(wR f.heap H).Ns b m:=λ{b m} ⟨o,es,ep,e,d,r⟩=>⟨o,es,ep,tW e (nD e d),d,r⟩
  have G:K.In (wR f.heap H):=λb o e=>tW (KX b o e) (by
   cases q:H b with
   |none=>rfl
   |some u =>
    by_cases z:b∈g
    ·rw[hKP b z]at e;cases e
    ·let⟨z1,z2,_⟩:=T b u q z;rw[z1,z2]at e;cases e)
  have hM:Mod K mg (wR f.heap H):=⟨G,n M,⟨mb,n hb,hbb⟩,let⟨mc,h1,h2⟩:=L;⟨mc,n h1,h2⟩⟩
  have e0:Env0 P w K mg (wR f.heap H) callerA [] f H:=⟨rfl,hM,λb o e=>OJ e,Nat.le_of_eq (Hj _ _),trivial,λb hb=>dS (show b∈([]:List Addr)from hb) (by simp),N,.of_eq hg⟩
  have Y:∀PT∈g,(wR f.heap H).BuiltinsAt mg PT:=λPT hP=>by
   let⟨R,o,h1,h2,h3,h4,S,A,h7⟩:=Z PT hP;refine⟨R,o,h1,h2,h3,h4,tW S ?_,A,h7⟩;cases q:H R with
   |none=>rfl
   |some u =>
    have:=(T R u q λz=>by
     have e5:=S;rw[j R z]at e5;cases e5;have A:Value.none=Value.type "module":=A;cases A).1
    subst this;rw[ha]at S;cases S;have A:Value.type "list"=Value.type "module":=A;exact dS A ∅
  refine Yw ((F _ G (n M) Y λb m z=>n z).run callerA [] f H ⟨[.ref a],[]⟩ [.ref a] [.ref a] _ _ hr e0 (C f (.ref a)) (.cons rfl .nil) (hsp H hS hT)) λr s' h=>?_;cases r with
  |error e=>exact h.elim
  |ok fl =>
   cases fl with
   |next=>exact False.elim h
   |brk=>exact False.elim h
   |cont=>exact False.elim h
   |ret u =>
    let⟨v,H',os,D,un,t,r',q⟩:=h;have q':v=.bl true:=q;subst q';obtain rfl:u=Value.bool true:=r';have E:∀PT∈g,∃i,s'.heap.get? PT=some { cls:=.none,data:=.fields (#[]++i)}:=λPT hP=>by
     let⟨i,hT'⟩:=un.tbls PT _ (hT PT hP);exact⟨i,t PT _ hT'⟩
    have y:∀b o,f.heap.get? b=some o->b∉g->s'.heap.get? b=some o:=λb o e nb=>by
     cases q:H b with
     |none=>exact un.keep b o e q (by intro z;exact dS (show b∈([]:List Addr)from z) (by simp)) (by simp)
     |some u =>
      let⟨_,_,ob,u',rfl⟩:=T b u q nb;have e1:=(N b _ q).1;rw[e]at e1;cases e1;exact(t b _ (un.frzs b _ _ q)).1
    refine⟨rfl,⟨λb o e=>?_,λb o e=>?_⟩,os,D⟩
    ·by_cases z:b∈g
     ·let⟨i,U⟩:=E b z;let⟨c,hc⟩:=hC b z;rw[j b z]at e;cases e;exact .inr (.inl ⟨(hc.tab (j b z)).isCodeTable,rfl,#[],i,rfl,U⟩)
     ·exact .inl (y b o e z)
    ·by_cases z:b∈g
     ·let⟨i,U⟩:=E b z;exact⟨_,U⟩
     ·exact⟨o,y b o e z⟩
 cases hk:K.lookup a with
 |some o =>
  have e:=KX a o hk;rw[ha]at e;cases e;refine p (λb=>if b∈g then some (.tbl #[])else none) (.inr ⟨_,vs.toArray,_,hk,rfl,rfl,rfl,by rw[List.size_toArray,O];exact hl,↑rv⟩) (λb u z=>?_) (λPT hP=>dP hP) λb u z nb=>?_
  ·by_cases hb:b∈g
   ·have Q:=(dP hb).symm.trans z;cases Q;exact j b hb
   ·have Q:=(dQ hb).symm.trans z;cases Q
  ·have Q:=(dQ nb).symm.trans z;cases Q
 |none =>
  let H:Hp:=λb=>if b∈g then some (.tbl #[])else if b=a then some (.frz { cls:=.type "list",data:=.seq vs.toArray } (.lst (ns.map V.int)))else none
  have J:∀PT∈g,H PT=some (.tbl #[]):=λPT hP=>dP hP;have B:H a=some (.frz { cls:=.type "list",data:=.seq vs.toArray } (.lst (ns.map V.int))):=(dQ aP).trans (dP rfl);have I:∀b,b∉g->b≠a->H b=none:=λb h1 h2=>(dQ h1).trans (dQ h2);refine p H (.inl (.inr ⟨_,B⟩)) (λb u z=>?_) J λb u z nb=>?_
  ·by_cases hb:b∈g
   ·rw[J b hb]at z;cases z;exact j b hb
   ·by_cases l:b=a
    ·subst l;rw[B]at z;cases z;exact⟨ha,by rw[List.length_map];exact hl,vs,_,rv,ha⟩
    ·rw[I b hb l]at z;cases z
  ·by_cases l:b=a
   ·subst l;rw[B]at z;cases z;exact⟨rfl,hk,_,_,rfl⟩
   ·rw[I b nb l]at z;cases z
def Ig{l:W.OpenLaw}{n k:Nat}{q:Za}{loose:List Str}{XP:(Str->ew)->Heap->Prop}{YP:Zb->Heap->Prop}{d:DefRec}{K:Zd->W.Frag}{x:Str}(hi:importsNone q=true)(hn:l.most=some n)(A:n<=sizeLine)(y:d.params.defaults=[])(hr:Room k callerA)(E:∀(w:Zb)(h:Heap),YP w h->(K w.params).In h)(F:∀(w:Zb)(mg:Str->ew)(m:Addr)(h:Heap),(K w.params).In h->h.Ns mainGlobals mg->mg d.name=some (.ref m) ->
   ∃(j:W.Frag)(i:List Addr)(r:Yt)(sp:Sp),j.In h/\(∀PT∈i,j.lookup PT=none)/\(∀PT∈i,∃c,W.CodeHd h c PT)/\(∀PT∈i,h.get? PT=some (W.tabObj #[]))/\(∀(s:Shared)(u:Value),Yu s r ⟨[u],[]⟩ [(x,u)]) /\
    (∀fw:Heap,j.In fw->fw.Ns mainGlobals mg->(∀PT∈i,fw.BuiltinsAt mg PT)->(∃o,fw.get? Zn=some o)->FnOk l.prog w j mg fw CX0 k m r [x] sp)/\∀(H:Hp)(a:Addr)(ns:eg),SqL j H a (ns.map V.int)->(∀PT∈i,H PT=some (.tbl #[]))->sp [.ref a] H (λv _=>v=.bl true) λ_ _ _=>False) :
  W.WalkO q loose XP YP l.row.toRowW d [] (λf vs=>PySem.call f vs):=by
 refine Att.Ae hn y λw s₀ s₁ mg mb m o pm cd doc a vs ns G Y ho hd hcd hmg hobj hints hlen hg=>?_;let⟨j,i,r,sp,I,J,L,C,hb,D,B⟩:=F w mg m _ (E w _ Y) G.T.g hmg;have t:∀PT∈i,s₁.heap.BuiltinsAt mg PT:=λPT hP=>by
  let⟨p,O,b1,b2,b3,b4,b5,b6⟩:=G.T.bmain;have M:p≠PT:=λz=>by rw[z,C PT hP]at b3;cases b3;cases b4
  have N:p≠mainGlobals:=λz=>by
   let⟨o,es,ep,e,hd,_⟩:=G.T.g;rw[z,e]at b3;cases b3;rw[hd]at b6;cases b6
  exact⟨p,O,b1,b2,N,M,b3,b4,b5,b6⟩
 let⟨P,hm,_⟩:=(G.T.seer hi).mods;exact G5 I J L C G.T.g G.T.b G.T.builtins G.T.nolimit t hg hobj hints (Nat.le_trans hlen A) hr (λfw h1 h2 h3 h4=>D fw h1 h2 h3 (let⟨o,_,_,e,_⟩:=h4 _ _ hm;⟨o,e⟩)) hb λH hS hT=>B H a ns hS hT
def Nq{K:W.Frag}{b:List Addr}{h:Heap}(X:W.Frag.In ((b.map λa=>(a,W.tabObj #[]))++K) h)(n:∀PT∈b,K.lookup PT=none):K.In h/\∀PT∈b,h.get? PT=some (W.tabObj #[]):=by
 have d:∀(b:List Addr)(a:Addr),a∉b->List.lookup a ((b.map λa=>(a,W.tabObj #[]))++K)=K.lookup a:=λb a h=>by
  induction b with
  |nil=>rfl
  |cons p b ih =>
   rw[List.map_cons,List.cons_append,List.lookup_cons,show(a==p)=false by simpa using λz:a=p=>h (by rw[z];exact List.mem_cons_self)];exact ih λz=>h (List.mem_cons_of_mem _ z)
 have c:∀(b:List Addr)(a:Addr),a∈b->List.lookup a ((b.map λa=>(a,W.tabObj #[]))++K)=some (W.tabObj #[]):=λb a h=>by
  induction b with
  |nil=>cases h
  |cons p b ih =>
   rw[List.map_cons,List.cons_append,List.lookup_cons];by_cases z:a=p
   ·rw[z,d4]
   ·rw[show(a==p)=false by simpa using z];exact ih ((List.mem_cons.mp h).resolve_left z)
 refine⟨λa o e=>X a o ?_,λPT hP=>X PT _ (c b PT hP)⟩;rw[d b a λz=>by rw[n a z]at e;cases e];exact e
end L2
set_option autoImplicit true
namespace Wr
open L2 Dl
variable [Gr] {X:Cx}{pos:Pos}{a b:Zt}{ta tb:DE}
end Wr
namespace Dl
open L2
structure Spo(ok:Addr->Prop)(H H':Hp):Prop where
 keep:∀b o,H b=some o->¬ok b->H' b=some o
 tup:∀b xs,H b=some (.tup xs)->H' b=some (.tup xs)
 al:∀b,H b≠none->H' b≠none
 fx:∀b o,Fxd o->H b=some o->H' b=some o
def LiI(ok:Addr->Prop)(H:Hp)(k:Nat)(a:Addr):Prop:=ok a/\∃ns:eg,H a=some (.lst (ns.map V.int))/\⇑ns<=k
inductive Part(ok:Addr->Prop)(H:Hp)(k:Nat):V->Prop
 |int (i:Int):Part ok H k (.int i)
 |lst {a:Addr} (h:LiI ok H k a):Part ok H k (.ref a)
 |two {t a b:Addr} (h:H t=some (.tup [.ref a,.ref b])) (ha:LiI ok H k a) (hb:LiI ok H k b):Part ok H k (.ref t)
section
variable [Gr] {p:Pn}{H0 H:Hp}{own:Addr->Option Nat}{σ:L2.St}{ρ:List Sl}
def EnvD.many{r:Nat}{H':Hp}(E:EnvD p H0 own σ H ρ)(S:Spo (λa=>own a=some r) H H'):EnvD p H0 own σ H' (forget r ρ):=by
 have k:=S.tup;refine⟨λb o e n=>?_,p.mono H _ E.pen λb o f e=>?_,λa q e=>?_,λj s e=>?_,by unfold forget;rw[List.length_map];exact E.len,E.gr⟩
 ·exact S.keep b o (E.k0 b o e n) λz=>by
   rw[(E.ow b r z).1]at e;cases e
 ·exact f.elim (λf=>S.keep b o e λz=>(E.ow b r z).2.1 f) λc=>S.fx b o c e
 ·let⟨x,y,z⟩:=E.ow a q e;exact⟨x,y,S.al a z⟩
 ·unfold forget at e;rw[List.getElem?_map]at e;cases hr:ρ[j]? with
  |none=>rw[hr]at e;cases e
  |some s0 =>
   rw[hr]at e;have e:=Option.some.inj e;have q:=E.slot j s0 hr;cases s0 with
   |any=>simp only[Sl.region]at e;subst e;trivial
   |im d =>
    have e:Sl.im d=s:=e;subst e;exact let⟨v,a,b⟩:=q;⟨v,a,b.mono (λ_ o=>o) (λ_ _ o=>o.elim) k⟩
   |sh d =>
    have e:Sl.sh d=s:=e;subst e;exact let⟨v,a,b⟩:=q;⟨v,a,b.mono (λ_ o=>o) (λc o n e=>S.keep _ _ e (by rw[n.2];exact λz=>nomatch z)) k⟩
   |sn d =>
    have e:Sl.sn d=s:=e;subst e;exact let⟨v,a,b⟩:=q;⟨v,a,b.mono (λ_ o=>o) (λc o n e=>S.keep _ _ e (by rw[n.2.2];exact λz=>nomatch z)) k⟩
   |dw r' d =>
    by_cases i:r'=r
    ·subst i;have e:(if(some r':Option Nat)=some r' then Sl.any else Sl.dw r' d)=s:=e;rw[dP rfl]at e;subst e;trivial
    ·have e:(if(some r':Option Nat)=some r then Sl.any else Sl.dw r' d)=s:=e;rw[dQ ↑i]at e;subst e;exact let⟨v,a,b⟩:=q;⟨v,a,b.mono (λ_ o=>o) (λc o n e=>S.keep _ _ e (by rw[n];simpa using i)) k⟩
   |pen C =>
    have e:Sl.pen C=s:=e;subst e;exact q
   |scr v b =>
    have e:Sl.scr v b=s:=e;subst e;exact q
   |sp r' b ds =>
    by_cases i:r'=r
    ·subst i;have e:(if(some r':Option Nat)=some r' then Sl.any else Sl.sp r' b ds)=s:=e;rw[dP rfl]at e;subst e;trivial
    ·have e:(if(some r':Option Nat)=some r then Sl.any else Sl.sp r' b ds)=s:=e;rw[dQ ↑i]at e;subst e;exact let⟨l',vs,a,o,h,y⟩:=q;⟨l',vs,a,o,S.keep _ _ h (by rw[o];simpa using i),y.mono (λ_ o=>o) (λc o n e=>S.keep _ _ e (by rw[n.2.2];exact λz=>nomatch z)) k⟩
   |rw r' L =>
    by_cases i:r'=r
    ·subst i;have e:(if(some r':Option Nat)=some r' then Sl.any else Sl.rw r' L)=s:=e;rw[dP rfl]at e;subst e;trivial
    ·have e:(if(some r':Option Nat)=some r then Sl.any else Sl.rw r' L)=s:=e;rw[dQ ↑i]at e;subst e;exact let⟨st,as,a,b⟩:=q;⟨st,as,a,b.mono (λc o n e=>⟨n,S.keep _ _ e (by rw[n];simpa using i)⟩) k⟩
   |tw r' L =>
    by_cases i:r'=r
    ·subst i;have e:(if(some r':Option Nat)=some r' then Sl.any else Sl.tw r' L)=s:=e;rw[dP rfl]at e;subst e;trivial
    ·have e:(if(some r':Option Nat)=some r then Sl.any else Sl.tw r' L)=s:=e;rw[dQ ↑i]at e;subst e;exact let⟨st,as,a,b⟩:=q;⟨st,as,a,b.mono (λc o n e=>⟨n,S.keep _ _ e (by rw[n];simpa using i)⟩) k⟩
   |gn r' g =>
    by_cases i:r'=r
    ·subst i;have e:(if(some r':Option Nat)=some r' then Sl.any else Sl.gn r' g)=s:=e;rw[dP rfl]at e;subst e;trivial
    ·have e:(if(some r':Option Nat)=some r then Sl.any else Sl.gn r' g)=s:=e;rw[dQ ↑i]at e;subst e;exact let⟨v,a,b⟩:=q;⟨v,a,g.mono (λc o n e=>⟨n,S.keep _ _ e (by rw[n];simpa using i)⟩) (λc o n e _ _=>⟨n,S.keep _ _ e (by rw[n.2];exact λz=>nomatch z)⟩) k b⟩
end
end Dl
namespace Wr
open L2 Dl
variable [Gr] {X:Cx}{pos p1 p2 p3:Pos}
end Wr
namespace Dl
open L2
variable{X:Cx}
inductive FD where
 |nb (d:D)
 |ls (l:Addr) (ds:ez)
abbrev FS:=List (Str×FD)
def CQ(ok nb:Addr->Prop)(H:Hp)(v:V):FD->Prop
 |.nb d=>Rp nb H v d
 |.ls l ds=>v=.ref l/\ok l/\∃ws,H l=some (.lst ws)/\Rps nb H ws ds
inductive FsOk(ok nb:Addr->Prop)(H:Hp):List (Str×V)->FS->Prop
 |nil:FsOk ok nb H [] []
 |cons {f:Str}{v:V}{d:FD}{fv:List (Str×V)}{fs:FS} (h:CQ ok nb H v d) (t:FsOk ok nb H fv fs):FsOk ok nb H ((f,v)::fv) ((f,d)::fs)
def iV:FS->List Addr
 |[]=>[]
 |(_,.nb _)::r=>iV r
 |(_,.ls l _)::r=>l::iV r
def adr(x:Addr)(fs:FS):List Addr:=x::iV fs
def aZ(f:Str)(d:FD):FS->FS
 |[]=>[(f,d)]
 |(g,y)::r=>if g=f then(g,d)::r else(g,y)::aZ f d r
def NT(o:HO):Prop:=(∀xs,o≠.tup xs)/\¬Fxd o
def sZ{vs:List V}:NT (.lst vs):=⟨(λxs z=>nomatch z),(λ⟨_,_,z⟩=>nomatch z)⟩
section
variable{ok ok' nb nb':Addr->Prop}{H H':Hp}
mutual
theorem Rp.nt(f:∀a o,nb a->H a=some o->NT o->nb' a/\H' a=some o)(t:∀a xs,H a=some (.tup xs)->H' a=some (.tup xs)):∀{v:V}{d:D},Rp nb H v d->Rp nb' H' v d
 |_,_,.non=>.non
 |_,_,.bl b=>.bl b
 |_,_,.int i=>.int i
 |_,_,.str x=>.str x
 |_,_,.lst o h r=>.lst (f _ _ o h sZ).1 (f _ _ o h sZ).2 (Rps.nt f t r)
 |_,_,.tup h r=>.tup (t _ _ h) (Rps.nt f t r)
 |_,_,.dct o h r=>.dct (f _ _ o h ⟨(λxs z=>nomatch z),(λ⟨_,_,z⟩=>nomatch z)⟩).1 (f _ _ o h ⟨(λxs z=>nomatch z),(λ⟨_,_,z⟩=>nomatch z)⟩).2 (Rkv.nt f t r)
theorem Rps.nt(f:∀a o,nb a->H a=some o->NT o->nb' a/\H' a=some o)(t:∀a xs,H a=some (.tup xs)->H' a=some (.tup xs)):∀{v:List V}{d:ez},Rps nb H v d->Rps nb' H' v d
 |_,_,.nil=>.nil
 |_,_,.cons h r=>.cons (Rp.nt f t h) (Rps.nt f t r)
theorem Rkv.nt(f:∀a o,nb a->H a=some o->NT o->nb' a/\H' a=some o)(t:∀a xs,H a=some (.tup xs)->H' a=some (.tup xs)):∀{v:List (Key×V)}{d:List (D×D)},Rkv nb H v d->Rkv nb' H' v d
 |_,_,.nil=>.nil
 |_,_,.cons h r=>.cons (Rp.nt f t h) (Rkv.nt f t r)
end
theorem CQ.go{v:V}:∀{d:FD},CQ ok nb H v d->(∀l ws,ok l->H l=some (.lst ws)->ok' l/\H' l=some (.lst ws))->(∀a o,nb a->H a=some o->NT o->nb' a/\H' a=some o)->(∀a xs,H a=some (.tup xs)->H' a=some (.tup xs))->CQ ok' nb' H' v d
 |.nb d,h,_,b,t=>Rp.nt b t h
 |.ls l ds,⟨e,o,ws,hl,r⟩,a,b,t=>⟨e,(a l ws o hl).1,ws,(a l ws o hl).2,Rps.nt b t r⟩
def FsOk.go{c:List (Str×V)}{fs:FS}(h:FsOk ok nb H c fs)(a:∀l ws,ok l->H l=some (.lst ws)->ok' l/\H' l=some (.lst ws))(b:∀a o,nb a->H a=some o->NT o->nb' a/\H' a=some o)(t:∀a xs,H a=some (.tup xs)->H' a=some (.tup xs)):FsOk ok' nb' H' c fs:=by
 induction h with
 |nil=>exact .nil
 |cons h _ d=>exact .cons (h.go a b t) d
def FsOk.get{a:List (Str×V)}{fs:FS}(h:FsOk ok nb H a fs){f:Str}{d:FD}(e:fs.lookup f=some d):∃v,a.lookup f=some v/\CQ ok nb H v d:=by
 induction h with
 |nil=>cases e
 |cons h _ ih =>
  rename_i g v d' a fs _;by_cases z:(f==g)=true
  ·simp only[List.lookup,z]at e ⊢;cases e;exact⟨v,rfl,h⟩
  ·simp only[List.lookup,z]at e ⊢;exact ih e
def FsOk.not{a:List (Str×V)}{fs:FS}(h:FsOk ok nb H a fs){f:Str}(e:fs.lookup f=none):a.lookup f=none:=by
 induction h with
 |nil=>rfl
 |cons h _ ih =>
  rename_i g v d' a fs _;by_cases z:(f==g)=true
  ·simp only[List.lookup,z]at e;cases e
  ·simp only[List.lookup,z]at e ⊢;exact ih e
def FsOk.length{a:List (Str×V)}{fs:FS}(h:FsOk ok nb H a fs):⇑a=⇑fs:=by
 induction h with
 |nil=>rfl
 |cons h _ b=>rw[List.length_cons,List.length_cons,b]
def FsOk.put{a:List (Str×V)}{fs:FS}(h:FsOk ok nb H a fs){f:Str}{v:V}{d:FD}(q:CQ ok nb H v d):FsOk ok nb H (eG f v a) (aZ f d fs):=by
 induction h with
 |nil=>exact .cons q .nil
 |cons h t ih =>
  rename_i g w e a fs;unfold eG aZ;by_cases z:g=f
  ·rw[dP z,dP z];exact .cons q t
  ·rw[dQ z,dQ z];exact .cons h ih
def FsOk.Wd{a:List (Str×V)}{fs:FS}(h:FsOk ok nb H a fs):∀l∈iV fs,ok l/\∃ws,H l=some (.lst ws):=by
 induction h with
 |nil=>exact λl hl=>(nomatch hl)
 |cons h t ih =>
  rename_i g w e a fs;cases e with
  |nb d=>exact ih
  |ls l ds =>
   intro b hb;rcases List.mem_cons.mp hb with z|z
   ·subst z;let⟨_,o,ws,e,_⟩:=h;exact⟨o,ws,e⟩
   ·exact ih b z
def FsOk.only{c:List (Str×V)}{fs:FS}(h:FsOk ok nb H c fs):FsOk (λa=>ok a/\a∈iV fs) nb H c fs:=by
 have b:∀S:List Addr,(∀a∈iV fs,a∈S)->FsOk (λa=>ok a/\a∈S) nb H c fs:=by
  intro S;induction h with
  |nil=>exact λ_=>.nil
  |cons h t ih =>
   rename_i g w e c fs;cases e with
   |nb d=>exact λs=>.cons h (ih s)
   |ls l ds =>
    intro s;let⟨e,o,r⟩:=h;exact .cons ⟨e,⟨o,s l List.mem_cons_self⟩,r⟩ (ih λa ha=>s a (List.mem_cons_of_mem _ ha))
 exact b _ λ_ h=>h
def FsOk.wr{i:List (Str×V)}{fs:FS}{f:Str}{l:Addr}{ds ds':ez}{ws':List V}(h:FsOk ok nb H i fs)(e:fs.lookup f=some (.ls l ds))(c:iV fs=[l])(hl:ok l)(b:∀a o,nb a->H a=some o->NT o->nb a/\H' a=some o)(t:∀a xs,H a=some (.tup xs)->H' a=some (.tup xs))(s:H' l=some (.lst ws'))(r:Rps nb H' ws' ds'):FsOk ok nb H' i (aZ f (.ls l ds') fs):=by
 induction h with
 |nil=>cases e
 |cons h tl ih =>
  rename_i g w d i fs;unfold aZ;by_cases z:g=f
  ·have j:(f==g)=true:=beq_iff_eq.mpr z.symm;simp only[List.lookup,j]at e;cases e;rw[dP z];let⟨n,_,_⟩:=h;have none:iV fs=[]:=by
    have:l::iV fs=[l]:=c;injection this
   exact .cons ⟨n,hl,ws',s,r⟩ (tl.only.go (ok':=ok) (λa ws o _=>by rw[none]at o;exact nomatch o.2) b t)
  ·have j:(f==g)=false:=beq_eq_false_iff_ne.mpr λy=>z y.symm;simp only[List.lookup,j]at e;rw[dQ z];cases d with
   |nb d=>exact .cons (Rp.nt b t h) (ih e c)
   |ls l2 ds2 =>
    have:l2::iV fs=[l]:=c;injection this with e1 e2
    have hm:∀{fs:FS},fs.lookup f=some (.ls l ds)->l∈iV fs:=by
     intro fs;induction fs with
     |nil=>exact λq=>nomatch q
     |cons y r ih2 =>
      let⟨p,m⟩:=y;intro q;by_cases k:(f==p)=true
      ·simp only[List.lookup,k]at q;cases q;exact List.mem_cons_self
      ·simp only[List.lookup,k]at q;cases m with
       |nb d=>exact ih2 q
       |ls v u=>exact List.mem_cons_of_mem _ (ih2 q)
    have:=hm e;rw[e2]at this;exact nomatch this
end
def iC(C:et)(H:Hp)(x:Addr)(a:List (Str×V)):Prop:=match C with
 |some C=>∃dx,H x=some (.ins C dx a)
 |none=>H x=some (.dK (a.map λp=>(Sum.inr p.1,p.2)))
def iC.is{C:et}{H:Hp}{x:Addr}{a:List (Str×V)}(h:iC C H x a):∃o,H x=some o/\NT o/\∀vs,o≠.lst vs:=by
 cases C with
 |some C=>exact let⟨dx,e⟩:=h;⟨_,e,⟨(λxs z=>nomatch z),(λ⟨_,_,z⟩=>nomatch z)⟩,(λvs z=>nomatch z)⟩
 |none=>exact⟨_,h,⟨(λxs z=>nomatch z),(λ⟨_,_,z⟩=>nomatch z)⟩,(λvs z=>nomatch z)⟩
def iC.go{C:et}{H H':Hp}{x:Addr}{a:List (Str×V)}(h:iC C H x a)(e:∀o,H x=some o->H' x=some o):iC C H' x a:=by
 cases C with
 |some C=>exact let⟨dx,q⟩:=h;⟨dx,e _ q⟩
 |none=>exact e _ h
def aM(C:et)(x:Addr)(fs:FS):GS where
 Φ:=λok nb H v=>v=.ref x/\ok x/\∃fv,iC C H x fv/\FsOk ok nb H fv fs
 mono:=λa b t ⟨e,o,fv,h,f⟩=>by
  let⟨u,hu,_⟩:=h.is;exact⟨e,(a x u o hu).1,fv,h.go λu' hu'=>(a x u' o hu').2,f.go (λl ws o h=>a l _ o h) (λc u n h q=>b c u n h q.1 q.2) t⟩
def shG(C:et)(x:Addr)(fs:FS):GS where
 Φ:=λok nb H v=>v=.ref x/\nb x/\∃fv,iC C H x fv/\FsOk nb nb H fv fs
 mono:=λa b t ⟨e,o,fv,h,f⟩=>by
  let⟨u,hu,n,_⟩:=h.is;exact⟨e,(b x u o hu n.1 n.2).1,fv,h.go λu' hu'=>(b x u' o hu' (by rw[hu]at hu';cases hu';exact n.1) (by rw[hu]at hu';cases hu';exact n.2)).2,f.go (λl ws o h=>b l _ o h sZ.1 sZ.2) (λc u n h q=>b c u n h q.1 q.2) t⟩
section
variable{C:et}{x:Addr}{fs:FS}{ok nb:Addr->Prop}{H:Hp}{v:V}
def uI(h:(aM C x fs).Φ ok nb H v):(aM C x fs).Φ (λa=>ok a/\a∈adr x fs) nb H v:=by
 let⟨e,o,c,b,f⟩:=h;exact⟨e,⟨o,List.mem_cons_self⟩,c,b,f.only.go (λl ws o h=>⟨⟨o.1,List.mem_cons_of_mem _ o.2⟩,h⟩) (λa o n h _=>⟨n,h⟩) λ_ _ e=>e⟩
def pF(h:(aM C x fs).Φ ok nb H v):∀a∈adr x fs,ok a/\∃o,H a=some o/\NT o:=by
 let⟨e,o,c,b,f⟩:=h;intro a ha;rcases List.mem_cons.mp ha with z|z
 ·subst z;let⟨u,hu,n,_⟩:=b.is;exact⟨o,u,hu,n⟩
 ·let⟨o,d,e⟩:=f.Wd a z;exact⟨o,_,e,sZ⟩
end
def Af(ρ:List Sl)(i:Nat)(C:et)(fs:FS):Prop:=∃r x,ρ[i]?=some (.gn r (aM C x fs))\/ρ[i]?=some (.gn r (shG C x fs))
section
variable [Gr] {p:Pn}{H0 H:Hp}{own:Addr->Option Nat}{σ:L2.St}{ρ:List Sl}{i:Nat}{C:et}{fs:FS}
def EnvD.box(E:EnvD p H0 own σ H ρ)(h:Af ρ i C fs):∃x fv,σ[i]?=some (some (.ref x))/\iC C H x fv/\FsOk (λa=>¬p.fp a) (λa=>¬p.fp a/\own a=none) H fv fs:=by
 obtain⟨r,x,h|h⟩:=h
 ·let⟨v,hv,rfl,o,fv,b,f⟩:=E.slot i _ h;exact⟨x,fv,hv,b,f.go (λl ws o h=>⟨(E.ow l r o).2.1,h⟩) (λ_ _ n h _=>⟨n,h⟩) λ_ _ e=>e⟩
 ·let⟨v,hv,rfl,o,fv,b,f⟩:=E.slot i _ h;exact⟨x,fv,hv,b,f.go (λl ws o h=>⟨o.1,h⟩) (λ_ _ n h _=>⟨n,h⟩) λ_ _ e=>e⟩
def Gh(C:et)(i:Nat)(f:Str):TE:=λσ H Q=>∃x fv v,σ[i]?=some (some (.ref x))/\iC C H x fv/\fv.lookup f=some v/\Q v H
def tFd(C:et)(i:Nat)(f:Str):DE:=λρ P=>∃fs fd,Af ρ i C fs/\fs.lookup f=some fd/\match fd with
 |.nb d=>P (norm .shr d) d
 |.ls _ ds=>P .wk (.list ds)
variable{e:Zt}{f:Str}
theorem bU(h:PE X e (Gh C i f)):Wr.WD X e (tFd C i f):=⟨PE.wk h (by
 rintro σ H Q ⟨p,H0,own,ρ,P,E,⟨fs,c,hb,hl,t⟩,q⟩;let⟨x,j,hv,b,g⟩:=E.box hb;let⟨v,m,o⟩:=g.get hl;refine⟨x,j,v,hv,b,m,?_⟩;cases c with
 |nb d=>exact q _ _ _ _ t E.at (aO (k:=.shr) o)
 |ls l ds =>
  let⟨rfl,r,u,hl,s⟩:=o;exact q _ _ _ _ t E.at (.lst r hl (s.mono (λa n=>n.1) (λ_ _ _ e=>e) λ_ _ e=>e)))⟩
end
def cL{X:Cx}{C:Addr}{i:Nat}{o:Zt}{f:Str}{pos:Pos}(cl:Cls X.K C)(e:fH X.K C f)(h:Wr.WV X o i)(hb:Yp o f X.env (Zv o X.env)=Zv o X.env:=by rfl):PE X (.Attribute o f pos) (Gh (some C) i f):=PE.wk (SN h.h hb) (by
 rintro σ H Q ⟨x,b,v,hv,⟨a,d⟩,c,q⟩;exact⟨.ref x,hv,x,C,a,b,v,rfl,d,cl,e,c,q⟩)
def tL[Gr]{t:DE}{σ:L2.St}{H:Hp}{Q e:VK}(h:bJ t σ H Q)(w:∀v H',Q v H'->e v H'):bJ t σ H e :=
 let⟨p,H0,own,ρ,P,E,x,q⟩:=h;⟨p,H0,own,ρ,P,E,x,λk d v H' a b c=>w v H' (q k d v H' a b c)⟩
def Jc(C:et)(i:Nat)(f:Str)(a:TE):TS:=λD σ H=>a σ H λy H1=>∃x fv,σ[i]?=some (some (.ref x))/\iC C H1 x fv/\⇑fv<900/\(C=none->(fv.map (·.1)).Nodup)/\∀o',iC C (upd H1 x o') x (eG f y fv)->D.nx σ (upd H1 x o')
def gR[Gr]{X:Cx}{C:Addr}{i:Nat}{o e:Zt}{f:Str}{pos a:Pos}{c:DE}(cl:Cls X.K C)(j:fH X.K C f)(hv:Wr.WV X o i)(he:Wr.WD X e c)(hs:ZQ e (some (.Attribute o f a)) pos.line X.env=pure false:=by rfl):PS X (.Assign [.Attribute o f a] e pos) (Jc (some C) i f (bJ c)):=PS.wk' (JD hv.h he.h hs) (by
 rintro D σ H h;refine tL h ?_;rintro y k ⟨x,d,hv,⟨b,g⟩,hl,_,q⟩;exact⟨.ref x,hv,x,C,b,d,rfl,g,cl,j,(),q _ ⟨b,aB⟩⟩)
def Vx:TE:=λ_ H Q=>∀l,H l=none->Q (.ref l) (upd H l (.lst []))
def JB{X:Cx}{C:Addr}{i:Nat}{o:Zt}{f:Str}{pos a c:Pos}(cl:Cls X.K C)(g:fH X.K C f)(hv:Wr.WV X o i)(hs:ZQ (.List [] c) (some (.Attribute o f a)) pos.line X.env=pure false:=by rfl):PS X (.Assign [.Attribute o f a] (.List [] c) pos) (Jc (some C) i f Vx):=PS.wk' (JD hv.h (rQ dG) hs) (by
 rintro D σ H h;refine⟨∅,λl hl=>?_⟩;let⟨x,d,hv,⟨b,e⟩,hn,_,q⟩:=h l hl;exact⟨.ref x,hv,x,C,b,d,rfl,e,cl,g,(),q _ ⟨b,aB⟩⟩)
section
variable [Gr] {p:Pn}{H0 H H1:Hp}{own own':Addr->Option Nat}{σ:L2.St}{ρ:List Sl}{i:Nat}{C:et}{fs:FS}
def EnvD.uJ(E:EnvD p H0 own σ H ρ)(A:At p H0 own H H1)(f:∀a o,H a=some o->own' a=own a)(new:∀a q,H a=none->own' a=some q->H1 a≠none):EnvD p H0 own' σ H1 ρ:=by
 have m:=jx E.at A.kp;refine⟨λb o e n=>A.kp b o (E.k0 b o e n) n,A.pen,λa q e=>?_,λj s e=>?_,E.len,E.gr⟩
 ·cases h:H a with
  |some o =>
   rw[f a o h]at e;let⟨x,y,z⟩:=E.ow a q e;refine⟨x,y,by rw[A.kp a o h y];exact λz=>nomatch z⟩
  |none=>exact⟨E.at.h0 h,E.at.nfb h,new a q h e⟩
 ·have q:=E.slot j s e;cases s with
  |any=>trivial
  |im d=>exact let⟨v,a,b⟩:=q;⟨v,a,b.mono (λ_ o=>o) (λ_ _ o=>o.elim) m⟩
  |sh d=>exact let⟨v,a,b⟩:=q;⟨v,a,b.bI (λc o n h=>⟨⟨n.1,by rw[f c o h];exact n.2⟩,A.kp c o h n.1⟩) m⟩
  |sn d=>exact let⟨v,a,b⟩:=q;⟨v,a,b.bI (λc o n h=>⟨⟨n.1,n.2.1,by rw[f c o h];exact n.2.2⟩,A.kp c o h n.2.1⟩) m⟩
  |dw k d=>exact let⟨v,a,b⟩:=q;⟨v,a,b.bI (λc o n h=>⟨by rw[f c o h];exact n,A.kp c o h (E.ow c k n).2.1⟩) m⟩
  |pen C=>exact q
  |rw k L=>exact let⟨st,as,a,b⟩:=q;⟨st,as,a,b.mono (λc o n h=>⟨by rw[f c o h];exact n,A.kp c o h (E.ow c k n).2.1⟩) m⟩
  |tw k L=>exact let⟨st,as,a,b⟩:=q;⟨st,as,a,b.mono (λc o n h=>⟨by rw[f c o h];exact n,A.kp c o h (E.ow c k n).2.1⟩) m⟩
  |scr v b=>exact q
  |sp k b ds=>exact let⟨l,vs,a,o,h,z⟩:=q;⟨l,vs,a,by rw[f l _ h];exact o,A.kp l _ h (E.ow l k o).2.1,z.bI (λc u n e=>⟨⟨n.1,n.2.1,by rw[f c u e];exact n.2.2⟩,A.kp c u e n.2.1⟩) m⟩
  |gn k g=>exact let⟨v,a,b⟩:=q;⟨v,a,g.mono (λc o n h=>⟨by rw[f c o h];exact n,A.kp c o h (E.ow c k n).2.1⟩) (λc o n h _ _=>⟨⟨n.1,by rw[f c o h];exact n.2⟩,A.kp c o h n.1⟩) m b⟩
def EnvD.fld{r:Nat}{x:Addr}{f:Str}{g:List (Str×V)}{v:V}{d:FD}{o':HO}(E:EnvD p H0 own σ H ρ)(hv:σ[i]?=some (some (.ref x)))(c:own x=some r)(s:iC C H x g)(q:FsOk (λa=>own a=some r) (λa=>¬p.fp a/\own a=none) H g fs)(hd:CQ (λa=>own a=some r) (λa=>¬p.fp a/\own a=none) H v d)(hb:iC C (upd H x o') x (eG f v g)) :
  EnvD p H0 own σ (upd H x o') ((forget r ρ).set i (.gn r (aM C x (aZ f d fs))))/\FrS p own H own (upd H x o'):=by
 let⟨u,hu,b,t⟩:=s.is;have m:=E.write (o':=o') c hu b.1 b.2;have k:∀a xs,H a=some (.tup xs)->upd H x o' a=some (.tup xs):=λa xs e=>by
  rw[ao];exact e;rintro rfl;rw[hu]at e;exact b.1 xs (Option.some.inj e)
 have h:∀l ws,own l=some r->H l=some (.lst ws)->own l=some r/\upd H x o' l=some (.lst ws):=λl ws o e=>⟨o,by rw[ao];exact e;rintro rfl;rw[hu]at e;exact t ws (Option.some.inj e)⟩
 have j:∀a o,(¬p.fp a/\own a=none)->H a=some o->NT o->(¬p.fp a/\own a=none)/\upd H x o' a=some o:=λa o n e _=>⟨n,by rw[ao];exact e;rintro rfl;rw[c]at n;cases n.2⟩
 exact⟨m.put (i:=i) (v:=.ref x) ⟨.ref x,hv,rfl,c,_,hb,(q.go h j k).put (hd.go h j k)⟩,gG c hu b.1⟩
def X7(C:et)(i:Nat)(f:Str)(a:DE):DS:=λP ρ=>a ρ λk d=>∃r x fs,ρ[i]?=some (.gn r (aM C x fs))/\(norm k d).le .shr=true/\⇑fs<900/\(C=none->(fs.map (·.1)).Nodup)/\P.nx ((forget r ρ).set i (.gn r (aM C x (aZ f (.nb d) fs))))
def FsOk.names{ok nb:Addr->Prop}{H:Hp}{a:List (Str×V)}{fs:FS}(h:FsOk ok nb H a fs):a.map (·.1)=fs.map (·.1):=by
 induction h with
 |nil=>rfl
 |cons h _ b=>rw[List.map_cons,List.map_cons,b]
section
variable [Gr] {X:Cx}{st:ZF}{C:et}{i:Nat}{f:Str}{te:DE}
def iW(h:PS X st (Jc C i f (bJ te))):Wr.WDS X st (X7 C i f te):=⟨PS.wk' h (by
 rintro Q σ H ⟨p,H0,own,ρ,P,E,t,w⟩;refine⟨p,H0,own,ρ,_,E,t,λk d v H1 h A rv=>?_⟩;let⟨r,x,fs,hr,hk,hl,m,hn⟩:=h;have b:=E.go A.kp A.pen;let⟨_,hv,rfl,n,l,c,a⟩:=b.slot i _ hr;refine⟨x,l,hv,c,by rw[⇑a];exact hl,λe=>by rw[a.names];exact m e,λo' hb=>?_⟩;let⟨g,j⟩:=b.fld (d:=.nb d) hv n c a (dR A hk (aO rv)) hb;exact w.nx own σ _ _ g (A.frs.trans j) hn)⟩
def W5(C:et)(i:Nat)(f:Str):DS:=λP ρ=>∃r x fs,ρ[i]?=some (.gn r (aM C x fs))/\⇑fs<900/\(C=none->(fs.map (·.1)).Nodup)/\∀l,l∉adr x fs->P.nx ((forget r ρ).set i (.gn r (aM C x (aZ f (.ls l []) fs))))
def Qf(h:PS X st (Jc C i f Vx)):Wr.WDS X st (W5 C i f):=⟨PS.wk' h (by
 rintro Q σ H ⟨p,H0,own,ρ,P,E,⟨r,x,fs,hr,hl,K,hn⟩,w⟩ l c;let⟨t,J,R⟩:=E.at.new c (.lst []);have A:At p H0 own H (upd H l (.lst [])):=E.at.go t J;have O:own l=none:=E.at.yx c
 let own':Addr->Option Nat:=λa=>if a=l then some r else own a
 have L:own' l=some r:=dP rfl;have v:∀a o,H a=some o->own' a=own a:=λa o e=>dQ (au e c);have m:EnvD p H0 own' σ (upd H l (.lst [])) ρ:=E.uJ A v λa q e e2=>by
  by_cases z:a=l
  ·rw[z,aB];exact λz=>nomatch z
  ·exact dS e (E.ow a q (by rw[←e2];exact(dQ z).symm)).2.2
 have B:FrS p own H own' (upd H l (.lst [])):=⟨λb o e n z=>⟨t b o e n,by rw[v b o e];exact z⟩,A.tups⟩
 let⟨_,I,rfl,N,G,k,j⟩:=E.slot i _ hr;let⟨_,hv,e,M,F,s,g⟩:=m.slot i _ hr;subst e;refine⟨x,F,hv,s,by rw[⇑g];exact hl,λe=>by rw[g.names];exact K e,λo' hb=>?_⟩;let⟨y,D⟩:=m.fld (d:=.ls l []) hv M s g ⟨rfl,L,[],aB,.nil⟩ hb;refine w.nx own' σ _ _ y (B.trans D) (hn l λhm=>?_);rcases List.mem_cons.mp hm with z|z
 ·subst z;let⟨u,hu,_⟩:=k.is;rw[c]at hu;cases hu
 ·let⟨_,S,hu⟩:=j.Wd l z;rw[c]at hu;cases hu)⟩
def W6(C:et)(i:Nat)(f:Str)(te:DE):DS:=λP ρ=>∃r x fs l ds,ρ[i]?=some (.gn r (aM C x fs))/\fs.lookup f=some (.ls l ds)/\iV fs=[l]/\te ρ λk d=>(norm k d).le .shr=true/\⇑ds<1000/\P.nx ((forget r ρ).set i (.gn r (aM C x (aZ f (.ls l (ds++[d])) fs))))
end
def EnvD.Uk{r:Nat}{x l:Addr}{f:Str}{g:List (Str×V)}{ds ds':ez}{m ws':List V}(E:EnvD p H0 own σ H ρ)(hv:σ[i]?=some (some (.ref x)))(w:own x=some r)(h:iC C H x g)(s:FsOk (λa=>own a=some r) (λa=>¬p.fp a/\own a=none) H g fs)(hl:fs.lookup f=some (.ls l ds))(d:iV fs=[l])(c:own l=some r)(b:H l=some (.lst m))(hr:Rps (λa=>¬p.fp a/\own a=none) H ws' ds') :
  EnvD p H0 own σ (upd H l (.lst ws')) ((forget r ρ).set i (.gn r (aM C x (aZ f (.ls l ds') fs))))/\FrS p own H own (upd H l (.lst ws')):=by
 let⟨u,hu,A,t⟩:=h.is;have q:=E.write (o':=.lst ws') c b (λxs z=>nomatch z);have y:x≠l:=by rintro rfl;rw[hu]at b;exact t m (Option.some.inj b)
 have k:∀a xs,H a=some (.tup xs)->upd H l (.lst ws') a=some (.tup xs):=λa xs e=>by
  rw[ao];exact e;rintro rfl;rw[b]at e;cases e
 have j:∀a o,(¬p.fp a/\own a=none)->H a=some o->NT o->(¬p.fp a/\own a=none)/\upd H l (.lst ws') a=some o:=λa o n e _=>⟨n,by rw[ao];exact e;rintro rfl;rw[c]at n;cases n.2⟩
 exact⟨q.put (i:=i) (v:=.ref x) ⟨.ref x,hv,rfl,w,_,h.go λo e=>by rw[ao y];exact e,s.wr hl d c j k aB (Rps.nt j k hr)⟩,gG c b λxs z=>nomatch z⟩
variable{st:ZF}{f:Str}{te:DE}
def wX(h:PS X st (vf (tBM X.K "list" nG (Gh C i f) (kh (iz te nj))))):Wr.WDS X st (W6 C i f te):=⟨PS.wk' h (by
 rintro Q σ H ⟨p,H0,own,ρ,P,E,⟨r,x,fs,l,ds,hr,hl,m,t⟩,w⟩;let⟨_,hv,rfl,V,I,O,G⟩:=E.slot i _ hr;let⟨v,M,rfl,z,c,u,B⟩:=G.get hl;refine⟨x,I,_,hv,O,M,.inl ⟨rfl,c,SqL.of u⟩,p,H0,own,ρ,_,E,wF t,?_⟩;rintro ks us H1 ⟨k,d,rfl,hk,s,hn⟩ A R;let⟨y,rfl,S⟩:=jd R;have q:=E.go A.kp A.pen;have b:H1 l=some (.lst c):=A.kp l _ u (E.ow l r z).2.1;let⟨_,N,T,n,J,g,e⟩:=q.slot i _ hr;have U:=⇑B;have L:=Ym;refine⟨l,c,y,rfl,rfl,b,(),?_⟩;have o:Rps (λa=>¬p.fp a/\own a=none) H1 c ds:=cU (j:=.shr) E.at A.kp B;let⟨D,F⟩:=q.Uk (ws':=c++[y]) (ds':=ds++[d]) hv n g e hl m z b (o.snoc (dR A hk (aO S)));exact w.nx own σ _ _ D (A.frs.trans F) hn)⟩
def W4(C:et)(i:Nat)(f:Str)(j:Nat):DS:=λP ρ=>∃r x fs l ds d,ρ[i]?=some (.gn r (aM C x fs))/\fs.lookup f=some (.ls l (ds++[d]))/\iV fs=[l]/\i≠j/\P.nx (((forget r ρ).set i (.gn r (aM C x (aZ f (.ls l ds) fs)))).set j (dO d))
def Qe{j:Nat}(h:PS X st (rF (RG X.K "list" R6 (Gh C i f)) (jC j))):Wr.WDS X st (W4 C i f j):=⟨PS.wk' h (by
 rintro Q σ H ⟨p,H0,own,ρ,P,E,⟨r,x,fs,l,ds,d,hr,hl,k,I,hn⟩,w⟩;let⟨_,hv,rfl,L,F,u,t⟩:=E.slot i _ hr;let⟨v,G,rfl,z,b,g,m⟩:=t.get hl;have D:=⇑m;rw[List.length_append,List.length_singleton]at D;let⟨y,J,M⟩:=m.getD (i:=⇑b - 1) (d:=d) (by rw[show ⇑b - 1=⇑ds by lia,List.getElem?_append_right (Nat.le_refl _)];simp);refine⟨x,F,_,hv,u,G,.inl ⟨rfl,b,SqL.of g⟩,l,b,y,rfl,rfl,g,J,?_⟩;have q:Rps (λa=>¬p.fp a/\own a=none) H b.dropLast ds:=by
  have:=m.take ⇑ds;rw[List.take_left]at this;rw[List.dropLast_eq_take,show ⇑b - 1=⇑ds by lia];exact this
 let⟨A,B⟩:=E.Uk (ws':=b.dropLast) (ds':=ds) hv L u t hl k z g q;have c:Rp (λa=>¬p.fp a/\own a=none) (upd H l (.lst b.dropLast)) y d:=M.bI (λa o n e=>⟨n,by rw[ao];exact e;rintro rfl;rw[z]at n;cases n.2⟩) λa xs e=>by
  rw[ao];exact e;rintro rfl;rw[g]at e;cases e
 refine w.nx own _ _ _ (A.set (i:=j) (v:=y) (s:=dO d) λhj=>?_) B hn;unfold dO;by_cases hi:eV d=true
 ·rw[dP hi];exact⟨y,List.getElem?_set_self hj,c.imm hi⟩
 ·rw[dQ hi];exact⟨y,List.getElem?_set_self hj,c⟩)⟩
end
structure Sub(T p:Pn):Prop where
 fp:∀a,T.fp a->p.fp a
 pi:∀H,p.PI H->T.PI H
 go:∀H H',p.PI H->Kp T H H'->T.PI H'->p.PI H'
def Sub.refl{T:Pn}:Sub T T:=⟨λ_ h=>h,λ_ h=>h,λ_ _ _ _ h=>h⟩
class Tt where
 T:Pn
instance grTt[Tt]:Gr:=⟨λp _=>Sub Tt.T p⟩
structure JEnds where
 nx:List Sl->Prop
 rt:List Sl->D->Prop
 rs:List Sl->D->Prop:=λ_ _=>False
abbrev DJ:=JEnds->List Sl->Prop
structure WishJ[Gr](p:Pn)(H0:Hp)(own:Addr->Option Nat)(H:Hp)(P:JEnds)(Q:Ends):Prop where
 nx:∀own' σ' H' ρ',EnvD p H0 own' σ' H' ρ'->FrS p own H own' H'->P.nx ρ'->Q.nx σ' H'
 rt:∀own' σ' H' ρ' d v,EnvD p H0 own' σ' H' ρ'->FrS p own H own' H'->P.rt ρ' d->Rp (λa=>own' a=some 99) H' v d->Q.rt v H'
 rs:∀own' σ' H' ρ' d v,EnvD p H0 own' σ' H' ρ'->FrS p own H own' H'->P.rs ρ' d->Rp (λa=>H0 a=none/\¬p.fp a/\own' a=none) H' v d->Q.rt v H'
def WishJ.go[Gr]{p:Pn}{H0 H H':Hp}{own own':Addr->Option Nat}{P:JEnds}{Q:Ends}(w:WishJ p H0 own H P Q)(f:FrS p own H own' H'):WishJ p H0 own' H' P Q :=
 ⟨λo s h r e g n=>w.nx o s h r e (f.trans g) n,λo s h r d v e g n y=>w.rt o s h r d v e (f.trans g) n y,λo s h r d v e g n y=>w.rs o s h r d v e (f.trans g) n y⟩
def Ed[Gr](t:DJ):TS:=λQ σ H=>∃p H0 own ρ P,EnvD p H0 own σ H ρ/\t P ρ/\WishJ p H0 own H P Q
structure WJ[Gr](X:Cx)(s:ZF)(t:DJ):Prop where
 h:PS X s (Ed t)
structure WJs[Gr](X:Cx)(s:List ZF)(t:DJ):Prop where
 h:PSs X s (Ed t)
abbrev DY:=List Sl->(List Sl->Kd->D->Prop)->Prop
def yW[Gr](t:DY):TE:=λσ H Q=>∃p H0 own ρ P,EnvD p H0 own σ H ρ/\t ρ P/\∀own' ρ' k d v H',P ρ' k d->EnvD p H0 own' σ H' ρ'->FrS p own H own' H'->Rp (okK p H0 own' H' k) H' v d->Q v H'
abbrev DYT:=List Sl->(List Sl->Bool->Prop)->Prop
def KR[Gr](t:DYT):TT:=λσ H Q=>∃p H0 own ρ P,EnvD p H0 own σ H ρ/\t ρ P/\∀own' ρ' b H',P ρ' b->EnvD p H0 own' σ H' ρ'->FrS p own H own' H'->Q b H'
structure WY[Gr](X:Cx)(e:Zt)(t:DY):Prop where
 h:PE X e (yW t)
structure WYT[Gr](X:Cx)(e:Zt)(t:DYT):Prop where
 h:PT X e (KR t)
section
variable [Gr] {X:Cx}{pos:Pos}{s:ZF}{ss a b:List ZF}{t:DS}{u u2:DJ}{te:DE}{tc:DT}{e c:Zt}{y:DY}{yt:DYT}
def jOf(t:DS):DJ:=λP ρ=>t { nx:=P.nx,rt:=λ_=>False } ρ
def dN(h:Wr.WDS X s t):WJ X s (jOf t):=⟨PS.wk' h.h (by
 rintro Q σ H ⟨p,H0,own,ρ,P,E,t,w⟩;exact⟨p,H0,own,ρ,_,E,t,⟨w.nx,λ_ _ _ n=>n.elim,λ_ _ _ _ _ _ n=>n.elim,λ_ _ _ _ _ _ n=>n.elim⟩⟩)⟩
def Q6:DJ:=λP ρ=>P.nx ρ
def kO(t u:DJ):DJ:=λP ρ=>t { nx:=u P,rt:=P.rt,rs:=P.rs } ρ
def La:WJs X [] Q6:=⟨PSs.wk' nJ (by
 rintro Q σ H ⟨p,H0,own,ρ,P,E,t,w⟩;exact w.nx own σ H ρ E FrS.refl t)⟩
def bf(h1:WJ X s u)(h2:WJs X ss u2):WJs X (s::ss) (kO u u2):=⟨PSs.wk' (cA h1.h h2.h) (by
 rintro Q σ H ⟨p,H0,own,ρ,P,E,t,w⟩;exact⟨p,H0,own,ρ,_,E,t,⟨λo s h r e g n=>⟨p,H0,o,r,P,e,n,w.go g⟩,w.rt,w.rs⟩⟩)⟩
def oU(h1:WJ X s u):WJs X [s] u:=⟨iG h1.h⟩
def Px(te:DE):DJ:=λP ρ=>te ρ λk d=>((norm k d).le .new=true/\P.rt ρ d)\/(norm k d=.reg 99/\P.rt ρ d)\/((norm k d).le .snw=true/\P.rs ρ d)
def Eo(he:Wr.WD X e te):WJ X (.Return (some e) pos) (Px te):=⟨PS.wk' (jQ he.h) (by
 rintro Q σ H ⟨p,H0,own,ρ,P,E,t,w⟩;refine⟨p,H0,own,ρ,_,E,t,λk d v H' h A r=>?_⟩;have r:=aO r;rcases h with⟨hk,h⟩|⟨hk,h⟩|⟨hk,h⟩
 ·have f:=E.adopt 99 A;exact w.rt _ σ H' ρ d v f (fG A) h (pH hk A r)
 ·rw[hk]at r;exact w.rt own σ H' ρ d v (E.go A.kp A.pen) A.frs h r
 ·exact w.rs own σ H' ρ d v (E.go A.kp A.pen) A.frs h (dR A hk r))⟩
def jIf(tc:DT)(t u:DJ):DJ:=λP ρ=>tc ρ λb=>if b=true then t P ρ else u P ρ
theorem T7(hc:Wr.WDT X c tc)(ha:WJs X a u)(hb:WJs X b u2):WJ X (.If c a b pos) (jIf tc u u2):=⟨PS.wk' (vq hc.h ha.h hb.h) (by
 rintro Q σ H ⟨p,H0,own,ρ,P,E,t,w⟩;refine⟨p,H0,own,ρ,_,E,t,λb H' h A=>?_⟩;cases b with
 |true=>exact bC ⟨p,H0,own,ρ,P,E.go A.kp A.pen,↑h,w.go A.frs⟩
 |false=>exact bw ⟨p,H0,own,ρ,P,E.go A.kp A.pen,↑h,w.go A.frs⟩)⟩
def zq(y:DY):DJ:=λP ρ=>y ρ λρ' k d=>((norm k d=.reg 99\/norm k d=.imm)/\P.rt ρ' d)\/((norm k d).le .snw=true/\norm k d≠.new/\P.rs ρ' d)
def Bw(he:WY X e y):WJ X (.Return (some e) pos) (zq y):=⟨PS.wk' (jQ he.h) (by
 rintro Q σ H ⟨p,H0,own,ρ,P,E,t,w⟩;refine⟨p,H0,own,ρ,_,E,t,λown' ρ' k d v H' h E' F r=>?_⟩;have r:=aO r;rcases h with⟨hk|hk,h⟩|⟨hk,hn,h⟩
 ·rw[hk]at r;exact w.rt own' σ H' ρ' d v E' F h r
 ·rw[hk]at r;exact w.rt own' σ H' ρ' d v E' F h (r.mono (λ_ o=>o.elim) (λ_ _ o=>o.elim) λ_ _ e=>e)
 ·exact w.rs own' σ H' ρ' d v E' F h (dR E'.at hk r))⟩
def X6(tc:DYT)(t u:DS):DS:=λP ρ=>tc ρ λρ' b=>if b=true then t P ρ' else u P ρ'
theorem Uu{d t2:DS}(hc:WYT X c yt)(ha:Wr.WDSs X a d)(hb:Wr.WDSs X b t2):Wr.WDS X (.If c a b pos) (X6 yt d t2):=⟨PS.wk' (vq hc.h ha.h hb.h) (by
 rintro Q σ H ⟨p,H0,own,ρ,P,E,t,w⟩;refine⟨p,H0,own,ρ,_,E,t,λown' ρ' b H' h E' F=>?_⟩;cases b with
 |true=>exact bC ⟨p,H0,own',ρ',P,E',↑h,w.go F⟩
 |false=>exact bw ⟨p,H0,own',ρ',P,E',↑h,w.go F⟩)⟩
def UG(y:DY):DS:=λP ρ=>y ρ λρ' _ _=>P.nx ρ'
def zN(he:WY X e y)(hs:ZQ e none pos.line X.env=pure false:=by rfl):Wr.WDS X (.Expr e pos) (UG y):=⟨PS.wk' (gA he.h hs) (by
 rintro Q σ H ⟨p,H0,own,ρ,P,E,t,w⟩;exact⟨p,H0,own,ρ,_,E,t,λown' ρ' k d v H' h E' F r=>w.nx own' σ H' ρ' E' F h⟩)⟩
end
section
variable [Gr] {X:Cx}{pos p1:Pos}{e e2:Zt}{es:List Zt}{y:DY}{yt:DYT}{te:DE}{ta:DA}{tt:DT}
def yFn(f:ed)(y:DY)(ta:DA):DY:=λρ P=>y ρ λρ' _ d=>ta ρ' λks=>f (d::ks.map (·.2)) λd'=>P ρ' .snw d'
def Xe{f:ed}{x:Str}{k j:Nat}{ps:List Str}(C:Cal X.prog X.w X.K X.mg X.fw k x ps (spD f))(hr:Room j X.A)(h1:WY X e y)(ha:Wr.WDA X es ta)(hk:k<=j:=by decide)(hg:Gl X x:=by rfl)(hdb:zB x:=by decide)(he:zS X e es:=by rfl)(hpl:zP X pos es:=by rfl) :
  WY X (.Call (.Name x p1) (e::es) [] pos) (yFn f y ta):=⟨PE.wk (pcS C hr (bV h1.h ha.h he) hk hg hdb he hpl) (by
 rintro σ H Q ⟨p,H0,own,ρ,P,E,t,q⟩;refine⟨p,H0,own,ρ,_,E,t,λown' ρ' k d v H1 h E1 F1 r1=>⟨p,H0,own',ρ',_,E1,h,λks vs H2 h2 A2 r2=>?_⟩⟩;show spD f ((v::vs)++[]) H2 Q E0;rw[List.append_nil];refine⟨_,_,.cons ((jB E1.at A2.kp r1).mono (λ_ _=>trivial) (λ_ _ _ e=>e) λ_ _ e=>e) ((RpK.rps A2 r2).mono (λ_ _=>trivial) (λ_ _ _ e=>e) λ_ _ e=>e),h2,λd' v' H3 hP s3 r3=>?_⟩;have i:Kp p H2 H3:=Kp.of s3;have c:=A2.go i (p.mono H2 H3 A2.pen λb o _ e=>s3 b o e);refine q own' ρ' .snw d' v' H3 hP (E1.go c.kp c.pen) (F1.trans c.frs) (r3.mono (λa n=>?_) (λ_ _ _ e=>e) λ_ _ e=>e);have g:=A2.free n;exact⟨E1.at.h0 g,E1.at.nfb g,E1.at.yx g⟩)⟩
def yOp(g:G2)(y:DY)(te:DE):DY:=λρ P=>y ρ λρ' k1 d1=>te ρ' λk2 d2=>g k1 d1 k2 d2 λk d=>k≠.new/\P ρ' k d
def KC{g:G2}{r:R2}(ok:Ok2 g r):∀σ H Q,yW (yOp g y te) σ H Q->tOp r (yW y) (bJ te) σ H Q:=by
 rintro σ H Q ⟨p,H0,own,ρ,P,E,t,q⟩;refine⟨p,H0,own,ρ,_,E,t,λown' ρ' k d v H1 h E1 F1 r1=>⟨p,H0,own',ρ',_,E1,h,λk2 d2 v2 H2 h2 A2 r2=>?_⟩⟩;refine ok p H0 own' H1 H2 v v2 k d k2 d2 _ Q A2 (jB E1.at A2.kp r1) r2 h2 λk3 d3 v3 H3 hP K3 I3 r3=>?_;have a:=A2.go K3 I3;refine q own' ρ' k3 d3 v3 H3 hP.2 (E1.go a.kp a.pen) (F1.trans a.frs) ?_;have hn:=hP.1;cases k3 <;> first|exact r3|exact dS rfl hn
def Vf(y:DY):DYT:=λρ P=>y ρ λρ' _ d=>match d with
 |.bool b=>P ρ' b
 |_=>False
def G4:∀σ H Q,KR (Vf y) σ H Q->(yW y) σ H (λx H'=>∃k,x=.bl k/\Q k H'):=by
 rintro σ H Q ⟨p,H0,own,ρ,P,E,t,q⟩;refine⟨p,H0,own,ρ,_,E,t,λown' ρ' k d v H' h E' F r=>?_⟩;cases d with
 |bool b=>exact⟨b,r.bl',q own' ρ' b H' h E' F⟩
 |_=>exact h.elim
def Qs{o:ZJ}{r:R2}{g:G2}(a:OpR X (ZK o) r)(ok:Ok2 g r)(ha:WY X e y)(hb:Wr.WD X e2 te)(hm:ZL o e2=false):WY X (.Compare e [o] [e2] pos) (yOp g y te) :=
 ⟨PE.wk (DN a ha.h hb.h hm) (KC ok)⟩
def Rm(h:WY X e y)(he:∀whole,ZE e X.env whole=(do let v ←whole;standAt e.pos;holding [v] (ZO v)):=by intro _;rfl):WYT X e (Vf y):=⟨PT.wk (Ju h.h he) G4⟩
def Xf(t:DYT):DYT:=λρ P=>t ρ λρ' b=>P ρ' (!b)
def Ro(h:WYT X e yt):WYT X (.UnaryOp .Not e pos) (Xf yt):=⟨PT.wk (Jw h.h) (by
 rintro σ H Q ⟨p,H0,own,ρ,P,E,t,q⟩;exact⟨p,H0,own,ρ,_,E,t,λown' ρ' b H' h E' F=>q own' ρ' _ H' h E' F⟩)⟩
def yOr(t:DT)(u:DYT):DYT:=λρ P=>t ρ λb=>if b=true then P ρ true else u ρ P
theorem Vc(ha:Wr.WDT X e tt)(hb:WYT X e2 yt):WYT X (.BoolOp .Or [e,e2] pos) (yOr tt yt):=⟨PT.wk (PW.pt (QC ha.h (Jq hb.h))) (by
 rintro σ H Q ⟨p,H0,own,ρ,P,E,t,q⟩;refine⟨p,H0,own,ρ,_,E,t,λb H' h A=>?_⟩;cases b with
 |true=>exact bC (q own ρ true H' ↑h (E.go A.kp A.pen) A.frs)
 |false=>exact bw ⟨p,H0,own,ρ,P,E.go A.kp A.pen,↑h,λo r b H2 h2 E2 F2=>q o r b H2 h2 E2 (A.frs.trans F2)⟩)⟩
end
def spQ[Tt](C:Addr)(f:FS->ed):Sp:=λvs H Q _=>∃x vs' fs ds P,vs=.ref x::vs'/\Tt.T.PI H/\¬Tt.T.fp x/\(∃fv,iC (some C) H x fv/\FsOk (λa=>¬Tt.T.fp a) (λa=>¬Tt.T.fp a) H fv fs)/\Rps (λa=>¬Tt.T.fp a) H vs' ds/\f fs ds P/\∀d v H',P d->Kp Tt.T H H'->Tt.T.PI H'->Rp (λa=>H a=none) H' v d->Q v H'
def spM[Tt](C:Addr)(f:Addr->FS->ez->(FS->D->Prop)->Prop):Sp:=λvs H Q _=>∃x vs' nb fs ds P,vs=.ref x::vs'/\Tt.T.PI H/\(aM (some C) x fs).Φ (λa=>a∈adr x fs) nb H (.ref x)/\(∀a∈adr x fs,¬nb a/\¬Tt.T.fp a)/\(∀a,nb a->¬Tt.T.fp a)/\Rps nb H vs' ds/\f x fs ds P /\
 ∀fs' d v H' (T:Addr->Prop),P fs' d->Spo (λa=>a∈adr x fs\/Tt.T.fp a) H H'->Tt.T.PI H'->(∀a∈iV fs,a∈iV fs')->(∀a∈adr x fs',a∈adr x fs\/H a=none)->(∀a,T a->H a=none/\H' a≠none/\a∉adr x fs') ->
  (aM (some C) x fs').Φ (λa=>a∈adr x fs') (λa=>a∉adr x fs'/\¬T a/\(nb a\/H a=none)) H' (.ref x)->Rp T H' v d->Q v H'
section
variable [Tt] {C:Addr}{n:Nat}
def qU{f:FS->ed}(hn:∀fs ds P,f fs ds P->⇑ds=n:=by intro _ _ _ h;repeat (first|(let⟨rfl,_⟩:=h;rfl)|let⟨_,h⟩:=h)):∀vs H Q E,spQ C f vs H Q E->⇑vs=n+1:=λvs H Q E h=>by
 let⟨x,vs',fs,ds,P,rfl,_,_,_,r,t,_⟩:=h;rw[List.length_cons,⇑r,hn fs ds P t]
def oM{f:Addr->FS->ez->(FS->D->Prop)->Prop}(hn:∀x fs ds P,f x fs ds P->⇑ds=n:=by intro _ _ _ _ h;repeat (first|(let⟨rfl,_⟩:=h;rfl)|let⟨_,h⟩:=h)):∀vs H Q E,spM C f vs H Q E->⇑vs=n+1:=λvs H Q E h=>by
 let⟨x,vs',nb,fs,ds,P,rfl,_,_,_,_,r,t,_⟩:=h;rw[List.length_cons,⇑r,hn x fs ds P t]
end
section
variable [Gr] {p:Pn}{H0 H:Hp}{own:Addr->Option Nat}{N:List Str}{vs:List V}{ρ:List Sl}
def uf(d:∀b o,H0 b=some o->¬p.fp b->H b=some o)(i:p.PI H)(f:∀a r,own a=some r->H0 a=none/\¬p.fp a/\H a≠none)(g:Gr.G p H0)(hl:⇑ρ=⇑vs)(h:∀j s,ρ[j]?=some s->gj p H0 own (L2.start N vs) H j s):EnvD p H0 own (L2.start N vs) H (ρ++List.replicate (⇑N - ⇑vs) .any):=by
 refine⟨d,i,f,λj s e=>?_,by unfold L2.start;simp[hl],g⟩;by_cases c:j<⇑ρ
 ·rw[List.getElem?_append_left c]at e;exact h j s e
 ·rw[List.getElem?_append_right ↑c,List.getElem?_replicate]at e;split at e
  ·cases e;trivial
  ·cases e
def gH{j:Nat}{v:V}(h:vs[j]?=some v):(L2.start N vs)[j]?=some (some v):=by
 unfold L2.start;rw[List.getElem?_append_left (by rw[List.length_map];exact(List.getElem?_eq_some_iff.mp h).1),List.getElem?_map,h];rfl
def xV{j:Nat}{v:V}{d:D}(h:vs[j]?=some v)(r:Rp (λa=>¬p.fp a/\own a=none) H v d):gj p H0 own (L2.start N vs) H j (dO d):=by
 unfold dO;by_cases hi:eV d=true
 ·rw[dP hi];exact⟨v,gH h,r.imm hi⟩
 ·rw[dQ hi];exact⟨v,gH h,r⟩
def rG{b:Sl}{c:V}{ds:ez}(f:gj p H0 own (L2.start N (c::vs)) H 0 b)(r:Rps (λa=>¬p.fp a/\own a=none) H vs ds):∀j s,(b::ds.map dO)[j]?=some s->gj p H0 own (L2.start N (c::vs)) H j s:=by
 intro j s e;cases j with
 |zero=>cases e;exact f
 |succ j =>
  rw[List.getElem?_cons_succ,List.getElem?_map]at e;cases hd:ds[j]? with
  |none=>rw[hd]at e;cases e
  |some d =>
   rw[hd]at e;cases e;let⟨v,hv,g⟩:=r.getD hd;exact xV (by rw[List.getElem?_cons_succ];exact hv) g
end
section
variable [Tt] {C:Addr}{N:List Str}{vs:List V}{H:Hp}{Q:VK}{E:XK}
def rm{f:FS->ed}{T:DS}(h:spQ C f vs H Q E)(a:∀x fs ds P,f fs ds P->∃ρ,ds.map dO++List.replicate (⇑N - (⇑ds+1)) .any=ρ/\T { nx:=λ_=>P .none,rt:=P } (.gn 77 (shG (some C) x fs)::ρ)):j9 T { nx:=λ_ H'=>Q .non H',rt:=Q } (L2.start N vs) H:=by
 let⟨x,vs',fs,ds,P,rfl,k,nx,⟨j,hb,i⟩,r,t,q⟩:=h;have E:=uf (p:=Tt.T) (H0:=H) (own:=λ_=>none) (N:=N) (vs:=.ref x::vs') (ρ:=.gn 77 (shG (some C) x fs)::ds.map dO) (λ_ _ e _=>e) k (λ_ _ e=>nomatch e) Sub.refl (by simp[⇑r])
  (rG ⟨.ref x,gH rfl,rfl,⟨nx,rfl⟩,j,hb,i.go (λl ws n h=>⟨⟨n,rfl⟩,h⟩) (λ_ _ n h _=>⟨⟨n,rfl⟩,h⟩) λ_ _ e=>e⟩ (r.mono (λ_ n=>⟨n,rfl⟩) (λ_ _ _ e=>e) λ_ _ e=>e))
 let⟨ρ,c,g⟩:=a x fs ds P t;rw[List.length_cons,⇑r,List.cons_append,c]at E;exact⟨Tt.T,H,λ_=>none,_,_,E,g,⟨λo s h' r' e' _ n=>q _ _ h' n (λb o e nf=>e'.k0 b o e nf) e'.pen .non,λd v h' n w=>q d v h' n w.k0 w.pen (w.rp.mono (λ_ o=>o.1) (λ_ _ _ e=>e) λ_ _ e=>e),λ_ _ _ _ _ _ n=>n.elim,λ_ _ _ _ _ _ n=>n.elim⟩⟩
def Nj(C:Addr)(x:Addr)(fs:FS)(P:FS->Prop)(ρ:List Sl):Prop:=∃fs',ρ[0]?=some (.gn 0 (aM (some C) x fs'))/\(∀a∈iV fs,a∈iV fs')/\P fs'
def ug{f:Addr->FS->ez->(FS->D->Prop)->Prop}{T:DJ}(h:spM C f vs H Q E)(L:∀x fs ds P,f x fs ds P->∃ρ,ds.map dO++List.replicate (⇑N - (⇑ds+1)) .any=ρ/\T { nx:=Nj C x fs (P · .none),rt:=λρ d=>Nj C x fs (P · d) ρ } (.gn 0 (aM (some C) x fs)::ρ)):Ed T { nx:=λ_ H'=>Q .non H',rt:=Q } (L2.start N vs) H:=by
 let⟨x,vs',nb,fs,ds,P,rfl,U,hb,hn,Y,r,t,q⟩:=h;have ha:=pF hb
 let p:Pn:=⟨λa=>Tt.T.fp a\/(¬Tt.T.fp a/\a∉adr x fs/\¬nb a/\∃o,H a=some o/\NT o),λH'=>Tt.T.PI H'/\∀b o,¬Tt.T.fp b->b∉adr x fs->¬nb b->H b=some o->NT o->H' b=some o,.non,
  λH1 H2 h1 h2=>⟨Tt.T.mono H1 H2 h1.1 λb o z e=>h2 b o (z.imp .inl id) e,λb o u n m k l=>h2 b o (.inl (.inr ⟨u,n,m,o,k,l⟩)) (h1.2 b o u n m k l)⟩,
  λH1 b h1 z=>z.elim (λz=>Tt.T.is H1 b h1.1 z) λ⟨u,n,m,o,k,l⟩=>⟨o,h1.2 b o u n m k l,l⟩⟩
 have sub:Sub Tt.T p:=⟨λ_ z=>.inl z,λ_ z=>z.1,λH1 H2 h1 kp h2=>⟨h2,λb o u n m k l=>kp b o (h1.2 b o u n m k l) u⟩⟩
 let own:Addr->Option Nat:=λa=>if a∈adr x fs then some 0 else none
 have S:∀a,a∈adr x fs->own a=some 0:=λa h=>dP h;have yx:∀a,own a=none->a∉adr x fs:=λa h z=>by rw[S a z]at h;cases h
 have nf:∀a,a∈adr x fs->¬p.fp a:=λa h z=>z.elim (hn a h).2 λz=>z.2.1 h;have nn:∀a,nb a->¬p.fp a/\own a=none:=λa h=>⟨λz=>z.elim (Y a h) λz=>z.2.2.1 h,dQ λz=>(hn a z).1 h⟩
 let H0:Hp:=λa=>if a∈adr x fs then none else H a
 have O:∀a,H0 a=none->a∈adr x fs\/H a=none:=λa e=>by
  by_cases z:a∈adr x fs
  ·exact .inl z
  ·exact .inr (by rw[←e];exact(dQ z).symm)
 have Z:∀b o,H0 b=some o->b∉adr x fs/\H b=some o:=λb o e=>by
  by_cases z:b∈adr x fs
  ·have:H0 b=none:=dP z;rw[this]at e;cases e
  ·exact⟨z,by rw[←e];exact(dQ z).symm⟩
 have E:=uf (p:=p) (H0:=H0) (own:=own) (N:=N) (vs:=.ref x::vs') (ρ:=.gn 0 (aM (some C) x fs)::ds.map dO) (λb o e _=>(Z b o e).2) ⟨U,λ_ _ _ _ _ e _=>e⟩
  (λa r e=>by
   have hm:a∈adr x fs:=Classical.byContradiction λz=>by
    have:own a=none:=dQ z;rw[this]at e;cases e
   let⟨_,o,K,_⟩:=ha a hm;exact⟨dP hm,nf a hm,by rw[K];exact λz=>nomatch z⟩) sub (by simp[⇑r])
  (rG ⟨.ref x,gH rfl,(aM (some C) x fs).mono (λa o m e=>⟨S a m,e⟩) (λa o n e _ _=>⟨nn a n,e⟩) (λ_ _ e=>e) hb⟩ (r.mono (λa n=>nn a n) (λ_ _ _ e=>e) λ_ _ e=>e))
 let⟨ρ,X,bd⟩:=L x fs ds P t;rw[List.length_cons,⇑r,List.cons_append,X]at E;have B:∀own' V H' I d v (T:Addr->Prop),EnvD p H0 own' V H' I->FrS p own H own' H'->Nj C x fs (P · d) I->(∀a,T a->own' a=some 99)->Rp T H' v d->Q v H':=by
  intro own' V H' I d v T J F ⟨i,hs,A,hP⟩ hT rv;let⟨v0,_,G⟩:=J.slot 0 _ hs;obtain rfl:v0=.ref x:=G.1;have j:=pF G;have g:∀b o,H b=some o->b∉adr x fs->¬Tt.T.fp b->H' b=some o:=λb o e n W=>by
   by_cases z:p.fp b
   ·rcases z with z|⟨u,n1,n2,o',k,l⟩
    ·exact(W z).elim
    rw[e]at k;cases k;exact J.pen.2 b o u n1 n2 e l
   ·exact(F.keep b o e z (dQ n)).1
  refine q i d v H' T hP ⟨λb o e n=>g b o e (λz=>n (.inl z)) λz=>n (.inr z),F.tup,λb e=>?_,λb o c e=>?_⟩ J.pen.1 A (λa hm=>O a (J.ow a 0 (j a hm).1).1) (λa ht=>?_) ?_ rv
  ·by_cases z:b∈adr x fs
   ·have:b∈adr x i:=by
     rcases List.mem_cons.mp z with z|z
     ·rw[z];exact List.mem_cons_self
     ·exact List.mem_cons_of_mem _ (A b z)
    let⟨_,o,K,_⟩:=j b this;rw[K];exact λz=>nomatch z
   ·cases hh:H b with
    |none=>exact dS hh e
    |some o =>
     by_cases zt:Tt.T.fp b
     ·let⟨o',M,_⟩:=Tt.T.is H' b J.pen.1 zt;rw[M];exact λz=>nomatch z
     ·rw[g b o hh z zt];exact λz=>nomatch z
  ·refine g b o e (λz=>?_) (Bm U e c);let⟨_,o',K,n⟩:=ha b z;rw[e]at K;cases K;exact n.2 c
  ·have o9:=hT a ht;have R:a∉adr x i:=λz=>by rw[(j a z).1]at o9;cases o9
   have w:=J.ow a 99 o9;refine⟨(O a w.1).elim (λz=>?_) id,w.2.2,R⟩;refine dS ?_ R;rcases List.mem_cons.mp z with z|z
   ·rw[z];exact List.mem_cons_self
   ·exact List.mem_cons_of_mem _ (A a z)
  ·refine(aM (some C) x i).mono (λa o m e=>⟨m.2,e⟩) (λa o n e n1 n2=>?_) (λ_ _ e=>e) (uI G);refine⟨⟨(λz=>by rw[(j a z).1]at n;cases n.2),(λz=>by rw[hT a z]at n;cases n.2),?_⟩,e⟩;cases hh:H a with
   |none=>exact .inr rfl
   |some o2 =>
    have ny:a∉adr x fs:=λy=>by
     have:a∈adr x i:=by
      rcases List.mem_cons.mp y with y|y
      ·rw[y];exact List.mem_cons_self
      ·exact List.mem_cons_of_mem _ (A a y)
     rw[(j a this).1]at n;cases n.2
    have W:¬Tt.T.fp a:=λz=>n.1 (.inl z);refine .inl (Classical.byContradiction λz=>n.1 (.inr ⟨W,ny,z,o2,hh,?_⟩));rw[g a o2 hh ny W]at e;cases e;exact⟨n1,n2⟩
 refine⟨p,H0,own,_,_,E,bd,⟨λo s h' r' M f n=>B o s h' r' .none .non (λ_=>False) M f n (λ_ z=>z.elim) .non,λo s h' r' d v M f n rp=>B o s h' r' d v _ M f n (λ_ z=>z) rp,λ_ _ _ _ _ _ _ _ n=>n.elim⟩⟩
end
structure CalM(P:Za)(w:Zb)(K:W.Frag)(mg:Str->ew)(fw:Heap)(C:Addr)(k:Nat)(m:Str)(ps:List Str)(sp:Sp):Prop where
 ex:∃f fd,k∩ps∩sp/\Binds K fd ps []/\Meth K C m f
 cl:Cls K C
section
variable [Tt] {X:Cx}{C:Addr}{k j i:Nat}{m y:Str}{ps:List Str}{e:Zt}{es:List Zt}{t:DA}{pos py apos:Pos}
def tQm(C:Addr)(i:Nat)(m:Str)(f:FS->ed)(t:DA):DE:=λρ P=>∃fs,Af ρ i (some C) fs/\fs.lookup m=none/\t ρ λks=>f fs (ks.map (·.2)) λd=>P (norm .new d) d
def KJ{f:FS->ed}:∀σ H Q,bJ (tQm C i m f t) σ H Q->Df C m (spQ C f) [] E0 (jJ i) (kh t) σ H Q:=by
 rintro σ H Q ⟨p,H0,own,ρ,P,E,⟨fs,hb,hm,t⟩,q⟩;let⟨x,F,hv,⟨A,G⟩,B⟩:=E.box hb;refine⟨.ref x,hv,x,A,F,rfl,G,B.not hm,p,H0,own,ρ,_,E,t,λks vs H2 h2 A2 r2=>?_⟩;show spQ C f (.ref x::(vs++[])) H2 Q E0;rw[List.append_nil];let⟨K,w,l,b2,u⟩:=(E.go A2.kp A2.pen).box hb;rw[hv]at l;cases l;have c:Sub Tt.T p:=E.gr;have J:¬p.fp x:=by
  obtain⟨r,K,h|h⟩:=hb
  ·let⟨_,g,e,o,_⟩:=E.slot i _ h;rw[hv]at g;cases g;cases e;exact(E.ow x r o).2.1
  ·let⟨_,g,e,o,_⟩:=E.slot i _ h;rw[hv]at g;cases g;cases e;exact o.1
 refine⟨x,vs,fs,_,_,rfl,c.pi _ A2.pen,λz=>J (c.fp x z),⟨w,b2,u.go (λ_ _ n h=>⟨λz=>n (c.fp _ z),h⟩) (λ_ _ n h _=>⟨λz=>n.1 (c.fp _ z),h⟩) λ_ _ e=>e⟩,(RpK.rps A2 r2).mono (λ_ n z=>n (c.fp _ z)) (λ_ _ _ e=>e) (λ_ _ e=>e),h2,λd v H' hP s pi' r3=>?_⟩;have I:Kp p H2 H':=λb o e n=>s b o e λz=>n (c.fp b z);exact q _ d v H' hP (A2.go I (c.go H2 H' A2.pen s pi')) (aO (r3.mono (λa o=>A2.free o) (λ_ _ _ e=>e) λ_ _ e=>e))
def d_q{f:FS->ed}(F:CalM X.prog X.w X.K X.mg X.fw C k m ps (spQ C f))(hr:Room j X.A)(hv:Wr.WV X (.Name y py) i)(ha:Wr.WDA X (e::es) t)(hk:k<=j:=by decide)(hst:zS X e es:=by rfl)(hpl:zP X pos es:=by rfl){pl:Sem Bool}(ht:Zv (.Call (.Attribute (.Name y py) m apos) (e::es) [] pos) X.env=(do
   let ov ←Zv (.Name y py) X.env
   standAt apos.atName
   let(f,first) ←holding [ov] (Yn ov m pl)
   Yq pos f first (Zw pos (Zu (e::es) X.env)) (Zy pos (Zz [] X.env))):=by rfl) :
  Wr.WD X (.Call (.Attribute (.Name y py) m apos) (e::es) [] pos) (tQm C i m f t):=⟨by
 let⟨g,d,a,b,c⟩:=F.ex;exact PE.wk (Dy (pl:=pl) hv.h F.cl c a (hr.mono hk) b .nil vB ha.h hst hpl ht) KJ⟩
def uX{f:FS->ed}(F:CalM X.prog X.w X.K X.mg X.fw C k m ps (spQ C f))(hr:Room j X.A)(hv:Wr.WV X (.Name y py) i)(hk:k<=j:=by decide){pl:Sem Bool}(ht:Zv (.Call (.Attribute (.Name y py) m apos) [] [] pos) X.env=(do
   let ov ←Zv (.Name y py) X.env
   standAt apos.atName
   let(f,first) ←holding [ov] (Yn ov m pl)
   Yq pos f first (Zw pos (Zu [] X.env)) (Zy pos (Zz [] X.env))):=by rfl) :
  Wr.WD X (.Call (.Attribute (.Name y py) m apos) [] [] pos) (tQm C i m f nj):=⟨by
 let⟨g,u,c,b,s⟩:=F.ex;refine PE.wk (yw (pl:=pl) hv.h F.cl s c (hr.mono hk) b .nil vB ht) λσ H Q h=>?_;have h:=KJ σ H Q h;let⟨x,r,a,d,fs,l,n,o,p,H0,own,ρ,P,E,t,q⟩:=h;exact⟨x,r,a,d,fs,l,n,o,q [] [] H t E.at .nil⟩⟩
def yMe(C:Addr)(i:Nat)(m:Str)(f:Addr->FS->ez->(FS->D->Prop)->Prop)(t:DA):DY:=λρ P=>∃r x fs,ρ[i]?=some (.gn r (aM (some C) x fs))/\r≠99/\fs.lookup m=none/\t ρ λks=>(∀kd∈ks,(norm kd.1 kd.2).le .shr=true)/\f x fs (ks.map (·.2)) λfs' d=>(∀a∈iV fs',a∈iV fs)/\P ((forget r ρ).set i (.gn r (aM (some C) x fs'))) (norm (.reg 99) d) d
def EnvD.mark{p:Pn}{H0 H H':Hp}{own own':Addr->Option Nat}{σ:L2.St}{ρ:List Sl}{r:Nat}(ok:Addr->Prop)(E:EnvD p H0 own σ H ρ)(g:∀a,ok a->own a=some r)(S:Spo (λa=>ok a\/Tt.T.fp a) H H')(x:Tt.T.PI H')(K:∀a o,ok a->H' a=some o->¬Fxd o)(s:∀a o,H a=some o->own' a=own a)(new:∀a q,H a=none->own' a=some q->H' a≠none)(L:∀a,H a=none->own' a≠some r):EnvD p H0 own' σ H' (forget r ρ)/\FrS p own H own' H':=by
 classical
 have l:Sub Tt.T p:=E.gr
 let f:Hp:=λa=>if ok a then H a else H' a
 have F:∀a,ok a->f a=H a:=λa h=>dP h;have u:∀a,¬ok a->f a=H' a:=λa h=>dQ h;have w:∀a,ok a->¬Tt.T.fp a:=λa h z=>(E.ow a r (g a h)).2.1 (l.fp a z);have D:Kp Tt.T H f:=λb o e n=>by
  by_cases z:ok b
  ·rw[F b z];exact e
  ·rw[u b z];exact S.keep b o e λy=>y.elim z n
 have B:Tt.T.PI f:=Tt.T.mono H' f x λb o z e=>by
  rw[u b λy=>?_];exact e;rcases z with z|z
  ·exact w b y z
  ·exact K b o y e z
 have J:Kp p H f:=λb o e n=>D b o e λz=>n (l.fp b z);have A:At p H0 own H f:=E.at.go J (l.go H f E.pen D B);have v:∀a,H a=none->¬ok a:=λa e z=>(E.ow a r (g a z)).2.2 e;have G:EnvD p H0 own' σ f ρ:=E.uJ A s λa q e e2=>by rw[u a (v a e)];exact new a q e e2
 have I:Spo (λa=>own' a=some r) f H':=by
  have d:∀b o,f b=some o->(ok b/\H b=some o)\/H' b=some o:=λb o e=>by
   by_cases z:ok b
   ·exact .inl ⟨z,by rw[←F b z];exact e⟩
   ·exact .inr (by rw[←u b z];exact e)
  refine⟨λb o e n=>?_,λb xs e=>?_,λb e=>?_,λb o c e=>?_⟩
  ·rcases d b o e with⟨z,y⟩|y
   ·exact dS (by rw[s b o y];exact g b z) n
   ·exact y
  ·rcases d b _ e with⟨z,y⟩|y
   ·exact S.tup b xs y
   ·exact y
  ·cases hm:f b with
   |none=>exact dS hm e
   |some o =>
    rcases d b o hm with⟨z,y⟩|y
    ·exact S.al b (by rw[y];exact λz=>nomatch z)
    ·rw[y];exact λz=>nomatch z
  ·rcases d b _ e with⟨z,y⟩|y
   ·exact S.fx b o c y
   ·exact y
 refine⟨G.many I,λb o e n z=>⟨S.keep b o e λy=>y.elim (λy=>by rw[g b y]at z;cases z) λy=>n (l.fp b y),by rw[s b o e];exact z⟩,S.tup⟩
def KD{f:Addr->FS->ez->(FS->D->Prop)->Prop}:∀σ H Q,yW (yMe C i m f t) σ H Q->Df C m (spM C f) [] E0 (jJ i) (kh t) σ H Q:=by
 rintro σ H Q ⟨p,H0,own,ρ,P,E,⟨r,x,fs,hb,r9,hm,t⟩,q⟩;let⟨_,hv,rfl,ox,Z,⟨W,hx⟩,Y⟩:=E.slot i _ hb;refine⟨.ref x,hv,x,W,Z,rfl,hx,Y.not hm,p,H0,own,ρ,_,E,t,λks vs H2 h2 A2 r2=>?_⟩;show spM C f (.ref x::(vs++[])) H2 Q E0;rw[List.append_nil];have A:=E.go A2.kp A2.pen;let⟨_,hv2,b,G⟩:=A.slot i _ hb;subst b;have G:(aM (some C) x fs).Φ (λa=>own a=some r) (λa=>¬p.fp a/\own a=none) H2 (.ref x):=⟨rfl,G⟩
 have ha:=pF G;have V:=uI G;have rs:Rps (λa=>¬p.fp a/\own a=none) H2 vs (ks.map (·.2)):=by
  have hk:=h2.1;clear h2;induction r2 with
  |nil=>exact .nil
  |cons h tl ih=>exact .cons (dR A2 (hk _ List.mem_cons_self) (aO h)) (ih λkd hm=>hk kd (List.mem_cons_of_mem _ hm))
 have w:Sub Tt.T p:=A.gr;refine⟨x,vs,λa=>¬p.fp a/\own a=none,fs,_,_,rfl,w.pi _ A2.pen,(aM (some C) x fs).mono (λa o n e=>⟨n.2,e⟩) (λa o n e _ _=>⟨n,e⟩) (λ_ _ e=>e) V,λa hm=>⟨λn=>?_,λz=>(A.ow a r (ha a hm).1).2.1 (w.fp a z)⟩,λa n z=>n.1 (w.fp a z),rs,h2.2,λfs' d v H' T J S piT hls hadr hT bx' rv=>?_⟩
 ·have M:own a=none:=n.2;rw[(ha a hm).1]at M;cases M
 ·let⟨K,J⟩:=J;have B:∀a,a∈adr x fs'->a∈adr x fs:=λa h=>by
   rcases List.mem_cons.mp h with z|z
   ·rw[z];exact List.mem_cons_self
   ·exact List.mem_cons_of_mem _ (K a z)
  have g:∀a,a∈adr x fs->a∈adr x fs':=λa h=>by
   rcases List.mem_cons.mp h with z|z
   ·rw[z];exact List.mem_cons_self
   ·exact List.mem_cons_of_mem _ (hls a z)
  let own':Addr->Option Nat:=by classical exact λa=>if T a then some 99 else own a
  have N:∀a,T a->own' a=some 99:=λa h=>dP h;have I:∀a,¬T a->own' a=own a:=λa h=>dQ h;have F:∀a o,H2 a=some o->own' a=own a:=λa o e=>I a λz=>by rw[(hT a z).1]at e;cases e
  have l:∀a,H2 a=none->own a=none:=λa e=>A.at.yx e;let⟨O,U⟩:=A.mark (r:=r) (own':=own') (λa=>a∈adr x fs) (λa h=>(ha a h).1) S piT (λa o h e c=>by
   let⟨_,o',L,n⟩:=pF bx' a (g a h);rw[e]at L;cases L;exact n.2 c) F (λa q e b=>by
   by_cases z:T a
   ·exact(hT a z).2.1
   ·rw[I a z,l a e]at b;cases b) (λa e b=>by
   by_cases z:T a
   ·rw[N a z]at b;exact r9 (Option.some.inj b).symm
   ·rw[I a z,l a e]at b;cases b)
  have R:=O.put (i:=i) (v:=.ref x) (s:=.gn r (aM (some C) x fs')) ⟨.ref x,hv,(aM (some C) x fs').mono (λa o m e=>?_) (λa o n e _ _=>?_) (λ_ _ e=>e) bx'⟩
  ·exact q own' _ (norm (.reg 99) d) d v H' J R (A2.frs.trans U) (aO (k:=.reg 99) (rv.mono (λa h=>N a h) (λ_ _ _ e=>e) λ_ _ e=>e))
  ·let⟨o1,u,hu,_⟩:=ha a (B a m);exact⟨by rw[F a u hu];exact o1,e⟩
  ·refine⟨?_,e⟩;rw[I a n.2.1];exact n.2.2.elim id λz=>⟨A.at.nfb z,l a z⟩
def Nm{f:Addr->FS->ez->(FS->D->Prop)->Prop}(F:CalM X.prog X.w X.K X.mg X.fw C k m ps (spM C f))(hr:Room j X.A)(hv:Wr.WV X (.Name y py) i)(ha:Wr.WDA X (e::es) t)(hk:k<=j:=by decide)(hst:zS X e es:=by rfl)(hpl:zP X pos es:=by rfl){pl:Sem Bool}(ht:Zv (.Call (.Attribute (.Name y py) m apos) (e::es) [] pos) X.env=(do
   let ov ←Zv (.Name y py) X.env
   standAt apos.atName
   let(f,first) ←holding [ov] (Yn ov m pl)
   Yq pos f first (Zw pos (Zu (e::es) X.env)) (Zy pos (Zz [] X.env))):=by rfl) :
  WY X (.Call (.Attribute (.Name y py) m apos) (e::es) [] pos) (yMe C i m f t):=⟨by
 let⟨g,d,a,b,c⟩:=F.ex;exact PE.wk (Dy (pl:=pl) hv.h F.cl c a (hr.mono hk) b .nil vB ha.h hst hpl ht) KD⟩
def Vd{f:Addr->FS->ez->(FS->D->Prop)->Prop}(F:CalM X.prog X.w X.K X.mg X.fw C k m ps (spM C f))(hr:Room j X.A)(hv:Wr.WV X (.Name y py) i)(hk:k<=j:=by decide){pl:Sem Bool}(ht:Zv (.Call (.Attribute (.Name y py) m apos) [] [] pos) X.env=(do
   let ov ←Zv (.Name y py) X.env
   standAt apos.atName
   let(f,first) ←holding [ov] (Yn ov m pl)
   Yq pos f first (Zw pos (Zu [] X.env)) (Zy pos (Zz [] X.env))):=by rfl) :
  WY X (.Call (.Attribute (.Name y py) m apos) [] [] pos) (yMe C i m f nj):=⟨by
 let⟨g,u,c,b,s⟩:=F.ex;refine PE.wk (yw (pl:=pl) hv.h F.cl s c (hr.mono hk) b .nil vB ht) λσ H Q h=>?_;have h:=KD σ H Q h;let⟨x,r,a,d,fs,l,n,o,p,H0,own,ρ,P,E,t,q⟩:=h;exact⟨x,r,a,d,fs,l,n,o,q [] [] H t E.at .nil⟩⟩
end
end Dl
namespace Wr
open L2 Dl
section
variable [Tt] {X:Cx}{k j:Nat}{x:Str}{ps:List Str}{e:Zt}{es:List Zt}{t:DA}{p pos:Pos}{f:ed}
def dcS(CC:Cal X.prog X.w X.K X.mg X.fw k x ps (spT Tt.T f))(hr:Room j X.A)(ha:WDA X (e::es) t)(hk:k<=j:=by decide)(hg:Gl X x:=by rfl)(hdb:zB x:=by decide)(he:zS X e es:=by rfl)(hpl:zP X pos es:=by rfl) :
  WD X (.Call (.Name x p) (e::es) [] pos) (tFn f t):=⟨PE.wk (pcS CC hr ha.h hk hg hdb he hpl) (by
 rintro σ H Q ⟨q,H0,own,ρ,P,E,t,k⟩;have c:Sub Tt.T q:=E.gr;refine⟨_,H0,own,ρ,_,E,t,λks vs H1 h A r=>?_⟩;show spT Tt.T f (vs++[]) H1 Q E0;rw[List.append_nil];refine⟨ks.map (·.2),_,c.pi _ A.pen,(RpK.rps A r).mono (λ_ o z=>o (c.fp _ z)) (λ_ _ _ e=>e) (λ_ _ e=>e),h,λd v H' h2 kp pi' r2=>?_⟩;have g:Kp q H1 H':=λb o e n=>kp b o e λz=>n (c.fp b z);exact k _ d v H' h2 (A.go g (c.go H1 H' A.pen kp pi')) (aO (r2.mono (λa o=>A.free o) (λ_ _ _ e=>e) λ_ _ e=>e)))⟩
end
end Wr
namespace Dl
open L2
variable{X:Cx}
inductive AO where
 |d (d:D)
 |b (r:Nat) (C:et) (x:Addr) (fs:FS)
 |p
def aoS(C:Pn->Prop):AO->Sl
 |.d d=>dO d
 |.b r c x fs=>.gn r (aM c x fs)
 |.p=>.pen C
def Rk(p:Pn)(own:Addr->Option Nat)(H:Hp)(v:V):AO->Prop
 |.d d=>Rp (λa=>¬p.fp a/\own a=none) H v d
 |.b r c x fs=>(aM c x fs).Φ (λa=>own a=some r) (λa=>¬p.fp a/\own a=none) H v
 |.p=>v=p.pv
inductive ArgsOk(p:Pn)(own:Addr->Option Nat)(H:Hp):List V->List AO->Prop
 |nil:ArgsOk p own H [] []
 |cons {v:V}{a:AO}{vs:List V}{as:List AO} (h:Rk p own H v a) (t:ArgsOk p own H vs as):ArgsOk p own H (v::vs) (a::as)
def ArgsOk.length{p:Pn}{own:Addr->Option Nat}{H:Hp}{vs:List V}{a:List AO}(h:ArgsOk p own H vs a):⇑vs=⇑a:=by
 induction h with
 |nil=>rfl
 |cons _ _ b=>rw[List.length_cons,List.length_cons,b]
def ArgsOk.get{p:Pn}{own:Addr->Option Nat}{H:Hp}{vs:List V}{b:List AO}(h:ArgsOk p own H vs b):∀{j:Nat}{a:AO},b[j]?=some a->∃v,vs[j]?=some v/\Rk p own H v a:=by
 induction h with
 |nil=>exact λe=>by simp at e
 |cons h _ ih =>
  intro j a e;cases j with
  |zero=>cases e;exact⟨_,rfl,h⟩
  |succ j =>
   rw[List.getElem?_cons_succ]at e;let⟨v,hv,r⟩:=ih e;exact⟨v,by rw[List.getElem?_cons_succ];exact hv,r⟩
def lF(p:Pn)(own:Addr->Option Nat)(H:Hp):List AO->List FS->Prop
 |[],[]=>True
 |[],_::_=>False
 |.b r c x fs::as,fs'::t=>(aM c x fs').Φ (λa=>own a=some r) (λa=>¬p.fp a/\own a=none) H (.ref x)/\lF p own H as t
 |.b _ _ _ _::_,[]=>False
 |.d _::as,t=>lF p own H as t
 |.p::as,t=>lF p own H as t
def CV(ρ:List Sl):Nat->List AO->List FS->Prop
 |_,[],[]=>True
 |_,[],_::_=>False
 |j,.b r c x fs::as,fs'::t=>ρ[j]?=some (.gn r (aM c x fs'))/\CV ρ (j+1) as t
 |_,.b _ _ _ _::_,[]=>False
 |j,.d _::as,t=>CV ρ (j+1) as t
 |j,.p::as,t=>CV ρ (j+1) as t
def spO[Tt](C:Pn->Prop)(f:List AO->(List FS->D->Prop)->Prop):Sp:=λvs H Q _=>∃p own as P,Sub Tt.T p/\(AO.p∈as->C p)/\p.PI H/\(∀a r,own a=some r->¬p.fp a/\H a≠none)/\ArgsOk p own H vs as/\f as P /\
 ∀fss own' d v H',P fss d->FrS p own H own' H'->(∀a r,own' a=some r->¬p.fp a/\H' a≠none/\(H a=none\/own a≠none))->p.PI H'->lF p own' H' as fss->Rp (λa=>(H a=none\/own a≠none)/\¬p.fp a/\own' a=none) H' v d->Q v H'
def Pb[Tt]{C:Pn->Prop}{f:List AO->(List FS->D->Prop)->Prop}{n:Nat}(hn:∀as P,f as P->⇑as=n:=by intro _ _ h;repeat (first|(let⟨rfl,_⟩:=h;rfl)|let⟨_,h⟩:=h)):∀vs H Q E,spO C f vs H Q E->⇑vs=n:=λvs H Q E h=>by
 let⟨p,own,as,P,_,_,_,_,r,t,_⟩:=h;rw[⇑r,hn as P t]
section
def vI[Gr]{p:Pn}{H0 H:Hp}{own:Addr->Option Nat}{σ:L2.St}{ρ:List Sl}(E:EnvD p H0 own σ H ρ):∀{e:List AO}{fss:List FS}{j:Nat},CV ρ j e fss->lF p own H e fss:=by
 intro e;induction e with
 |nil=>intro fss j h;cases fss <;> exact h
 |cons a e ih =>
  intro fss j h;cases a with
  |d d=>exact ih (fss:=fss) (j:=j+1) h
  |p=>exact ih (fss:=fss) (j:=j+1) h
  |b r c x fs =>
   cases fss with
   |nil=>exact h
   |cons fs' t =>
    let⟨h1,h2⟩:=h;let⟨v,_,b⟩:=E.slot j _ h1;have:v=.ref x:=b.1;subst this;exact⟨b,ih h2⟩
def Ur[Tt]{C:Pn->Prop}{f:List AO->(List FS->D->Prop)->Prop}{T:DJ}{N:List Str}{vs:List V}{H:Hp}{Q:VK}{E:XK}(h:spO C f vs H Q E)(g:∀as P,f as P->∃ρ,as.map (aoS C)++List.replicate (⇑N - ⇑as) .any=ρ/\T { nx:=λρ=>∃fss,CV ρ 0 as fss/\P fss .none,rt:=λ_ _=>False,rs:=λρ d=>∃fss,CV ρ 0 as fss/\P fss d } ρ):Ed T { nx:=λ_ H'=>Q .non H',rt:=Q } (L2.start N vs) H:=by
 let⟨p,own,as,P,l,c,A,m,r,t,q⟩:=h
 let H0:Hp:=λa=>if own a=none then H a else none
 have y:∀a o,H0 a=some o->own a=none/\H a=some o:=λa o e=>by
  by_cases z:own a=none
  ·exact⟨z,by rw[←e];exact(dP z).symm⟩
  ·have:H0 a=none:=dQ z;rw[this]at e;cases e
 have h1:∀a,H0 a=none->H a=none\/own a≠none:=λa e=>by
  by_cases z:own a=none
  ·exact .inl (by rw[←e];exact(dP z).symm)
  ·exact .inr z
 have E:=uf (p:=p) (H0:=H0) (own:=own) (N:=N) (vs:=vs) (ρ:=as.map (aoS C)) (λb o e _=>(y b o e).2) A (λa r e=>⟨dQ (by rw[e];exact λz=>nomatch z),(m a r e).1,(m a r e).2⟩) l (by rw[List.length_map,⇑r]) (λj s e=>by
  rw[List.getElem?_map]at e;cases ha:as[j]? with
  |none=>rw[ha]at e;cases e
  |some a =>
   rw[ha]at e;cases e;let⟨v,hv,i⟩:=r.get ha;cases a with
   |d d=>exact xV hv i
   |b u B x fs=>exact⟨v,gH hv,i⟩
   |p =>
    have:v=p.pv:=i;subst this;exact⟨gH hv,c (List.mem_of_getElem? ha)⟩)
 let⟨ρ,k,w⟩:=g as P t;rw[⇑r,k]at E;refine⟨p,H0,own,_,_,E,w,⟨λo s h' u e' F ⟨fss,n,hP⟩=>q fss o .none .non h' hP F (λa r e=>⟨(e'.ow a r e).2.1,(e'.ow a r e).2.2,h1 a (e'.ow a r e).1⟩) e'.pen (vI e' n) .non,λ_ _ _ _ _ _ _ _ n=>n.elim,λo s h' u d v e' F ⟨fss,n,hP⟩ rp=>q fss o d v h' hP F (λa r e=>⟨(e'.ow a r e).2.1,(e'.ow a r e).2.2,h1 a (e'.ow a r e).1⟩) e'.pen (vI e' n) (rp.mono (λa n=>⟨h1 a n.1,n.2⟩) (λ_ _ _ e=>e) λ_ _ e=>e)⟩⟩
end
inductive AX where
 |d (kd:Kd×D)
 |n (i:Nat)
inductive ArX(p:Pn)(H0:Hp)(own:Addr->Option Nat)(Hb H:Hp)(σ:L2.St):List V->List AX->Prop
 |nil:ArX p H0 own Hb H σ [] []
 |d {v:V}{kd:Kd×D}{vs:List V}{as:List AX} (h:Rp (okK p H0 own Hb kd.1) H v kd.2) (t:ArX p H0 own Hb H σ vs as):ArX p H0 own Hb H σ (v::vs) (.d kd::as)
 |n {v:V}{i:Nat}{vs:List V}{as:List AX} (h:σ[i]?=some (some v)) (t:ArX p H0 own Hb H σ vs as):ArX p H0 own Hb H σ (v::vs) (.n i::as)
def ArX.fw{p:Pn}{H0 b H H':Hp}{own:Addr->Option Nat}{σ:L2.St}{vs:List V}{c:List AX}(A:At p H0 own b H)(h:ArX p H0 own H H' σ vs c):ArX p H0 own b H' σ vs c:=by
 induction h with
 |nil=>exact .nil
 |d h _ a=>exact .d (lK A h) a
 |n h _ a=>exact .n h a
abbrev DX:=List Sl->(List AX->Prop)->Prop
def TJ[Gr](t:DX):TA:=λσ H Q=>∃p H0 own ρ P,EnvD p H0 own σ H ρ/\t ρ P/\∀as vs H',P as->At p H0 own H H'->ArX p H0 own H H' σ vs as->Q vs H'
structure WAX[Gr](X:Cx)(es:List Zt)(t:DX):Prop where
 h:PA X es (TJ t)
section
variable [Gr] {X:Cx}{e:Zt}{es:List Zt}{te:DE}{t:DX}{i:Nat}
def Xh:DX:=λ_ P=>P []
def xD(te:DE)(t:DX):DX:=λρ P=>te ρ λk d=>t ρ λas=>P (.d (k,d)::as)
def xN(i:Nat)(t:DX):DX:=λρ P=>((∃r g,ρ[i]?=some (.gn r g))\/∃C,ρ[i]?=some (.pen C))/\t ρ λas=>P (.n i::as)
def Vg:WAX X [] Xh:=⟨PA.wk dG (by
 rintro σ H Q ⟨p,H0,own,ρ,P,E,t,q⟩;exact q [] [] H t E.at .nil)⟩
def x_d(he:Wr.WD X e te)(hr:WAX X es t)(hs:zS X e es:=by rfl):WAX X (e::es) (xD te t):=⟨PA.wk (bV he.h hr.h hs) (by
 rintro σ H Q ⟨p,H0,own,ρ,P,E,t,q⟩;refine⟨p,H0,own,ρ,_,E,t,λk d v H1 h A r=>⟨p,H0,own,ρ,_,E.go A.kp A.pen,h,λas vs H2 h2 A2 r2=>?_⟩⟩;exact q _ _ H2 h2 (A.fw A2) (.d (jB A A2.kp r) (r2.fw A)))⟩
def x_n(hv:Wr.WV X e i)(hr:WAX X es t)(hs:zS X e es:=by rfl):WAX X (e::es) (xN i t):=⟨PA.wk (bV hv.h hr.h hs) (by
 rintro σ H Q ⟨p,H0,own,ρ,P,E,⟨hi,t⟩,q⟩;have:∃v,σ[i]?=some (some v):=by
  rcases hi with⟨r,g,h⟩|⟨C,h⟩
  ·let⟨v,hv,_⟩:=E.slot i _ h;exact⟨v,hv⟩
  ·exact⟨_,(E.slot i _ h).1⟩
 let⟨v,hv⟩:=this;exact⟨v,hv,p,H0,own,ρ,_,E,t,λas vs H2 h2 A2 r2=>q _ _ H2 h2 A2 (.n hv r2)⟩)⟩
end
inductive ToA(C:Pn->Prop)(ρ:List Sl):List AX->List AO->Prop
 |nil:ToA C ρ [] []
 |d {k:Kd}{d:D}{xs:List AX}{as:List AO} (h:(norm k d).le .shr=true) (t:ToA C ρ xs as):ToA C ρ (.d (k,d)::xs) (.d d::as)
 |b {i r:Nat}{c:et}{x:Addr}{fs:FS}{xs:List AX}{as:List AO} (h:ρ[i]?=some (.gn r (aM c x fs))) (t:ToA C ρ xs as):ToA C ρ (.n i::xs) (.b r c x fs::as)
 |p {i:Nat}{xs:List AX}{as:List AO} (h:ρ[i]?=some (.pen C)) (t:ToA C ρ xs as):ToA C ρ (.n i::xs) (.p::as)
def wipe(ρ:List Sl):List Sl:=ρ.map λs=>if s.region=none then s else .any
def NP(ρ:List Sl):List AX->List AO->List FS->List Sl
 |.n i::xs,.b r c x _::as,fs::t=>NP (ρ.set i (.gn r (aM c x fs))) xs as t
 |_::xs,_::as,t=>NP ρ xs as t
 |_,_,_=>ρ
def adO:List AO->List FS->List Addr
 |.b _ _ x _::as,fs::t=>adr x fs++adO as t
 |.b _ _ _ _::_,[]=>[]
 |.d _::as,t=>adO as t
 |.p::as,t=>adO as t
 |[],_=>[]
section
variable [Gr] {p:Pn}{H0 Hb H:Hp}{own:Addr->Option Nat}{σ:L2.St}{C:Pn->Prop}
def Qm{ρ:List Sl}{vs:List V}{xs:List AX}{a:List AO}(E:EnvD p H0 own σ H ρ)(A:At p H0 own Hb H)(h:ToA C ρ xs a):ArX p H0 own Hb H σ vs xs->ArgsOk p own H vs a:=by
 intro r;induction h generalizing vs with
 |nil=>cases r;exact .nil
 |d h _ ih =>
  cases r with
  |d r t=>exact .cons (dR A h (aO r)) (ih t)
 |b h _ ih =>
  cases r with
  |n hv t =>
   let⟨v,e,b⟩:=E.slot _ _ h;rw[hv]at e;cases e;exact .cons b (ih t)
 |p h _ ih =>
  cases r with
  |n hv t =>
   let⟨e,_⟩:=E.slot _ _ h;rw[hv]at e;cases e;exact .cons rfl (ih t)
def Sw{ρ:List Sl}{xs:List AX}{c:List AO}(E:EnvD p H0 own σ H ρ)(h:ToA C ρ xs c):AO.p∈c->C p:=by
 induction h with
 |nil=>exact λh=>nomatch h
 |d _ _ a=>exact λh=>(List.mem_cons.mp h).elim (λz=>nomatch z) a
 |b _ _ a=>exact λh=>(List.mem_cons.mp h).elim (λz=>nomatch z) a
 |p h _ _=>exact λ_=>(E.slot _ _ h).2
def Gk{xs:List AX}{j:List AO}:∀{ρ a:List Sl}{fss:List FS},EnvD p H0 own σ H ρ->ToA C a xs j->(∀(i r:Nat)(g:GS),a[i]?=some (Sl.gn r g)->∃v,σ[i]?=some (some v)/\∀c x fs,g=aM c x fs->v=V.ref x)->lF p own H j fss->EnvD p H0 own σ H (NP ρ xs j fss):=by
 intro ρ a fss E h hv b;induction h generalizing ρ fss with
 |nil=>cases fss <;> exact E
 |d _ _ f=>cases fss <;> exact f E b
 |p _ _ f=>cases fss <;> exact f E b
 |b h _ f =>
  cases fss with
  |nil=>exact b.elim
  |cons fs' t =>
   let⟨v,e,k⟩:=hv _ _ _ h;have:=k _ _ _ rfl;subst this;exact f (E.put (v:=V.non) ⟨_,e,b.1⟩) b.2
def M6{own':Addr->Option Nat}{f:List AO}:∀{fss:List FS}{S:List Addr},lF p own H f fss->(∀a∈adO f fss,a∈S)->(∀a∈S,own' a=own a)->(∀a,own a=none->own' a=none)->lF p own' H f fss:=by
 induction f with
 |nil=>intro fss S b _ _ _;cases fss <;> exact b
 |cons y f ih =>
  intro fss S b s e n;cases y with
  |d _=>cases fss <;> exact ih b s e n
  |p=>cases fss <;> exact ih b s e n
  |b r c x fs =>
   cases fss with
   |nil=>exact b
   |cons g t=>exact⟨(aM c x g).mono (λa o m q=>⟨by rw[e a (s a (List.mem_append_left _ m.2))];exact m.1,q⟩) (λa o m q _ _=>⟨⟨m.1,n a m.2⟩,q⟩) (λ_ _ q=>q) (uI b.1),ih b.2 (λa h=>s a (List.mem_append_right _ h)) e n⟩
end
section
variable [Tt] {X:Cx}{pos p1:Pos}{e:Zt}{es:List Zt}{C:Pn->Prop}{t:DX}{j k:Nat}{x:Str}{ps:List Str}
def yO(C:Pn->Prop)(f:List AO->(List FS->D->Prop)->Prop)(t:DX):DY:=λρ P=>t ρ λxs=>∃as,ToA C ρ xs as/\f as λfss d=>P (NP (wipe ρ) xs as fss) .snw d
def y_o{f:List AO->(List FS->D->Prop)->Prop}(CC:Cal X.prog X.w X.K X.mg X.fw k x ps (spO C f))(hr:Room j X.A)(ha:WAX X (e::es) t)(hk:k<=j:=by decide)(hg:Gl X x:=by rfl)(hdb:zB x:=by decide)(he:zS X e es:=by rfl)(hpl:zP X pos es:=by rfl) :
  WY X (.Call (.Name x p1) (e::es) [] pos) (yO C f t):=⟨PE.wk (pcS CC hr ha.h hk hg hdb he hpl) (by
 rintro σ H Q ⟨p,H0,own,ρ,P,E,t,q⟩;refine⟨p,H0,own,ρ,_,E,t,λxs vs H2 h2 A2 r2=>?_⟩;show spO C f (vs++[]) H2 Q E0;rw[List.append_nil];let⟨G,B,R⟩:=h2;have m:=E.go A2.kp A2.pen;refine⟨p,own,G,_,m.gr,?_,A2.pen,λa r e=>⟨(m.ow a r e).2.1,(m.ow a r e).2.2⟩,Qm m A2 B r2,R,λfss own' d v H' hP F ow' pi' hb rv=>?_⟩
 ·exact Sw m B
 ·let l:Addr->Option Nat:=λa=>if a∈adO G fss then own' a else none
  have M:∀a∈adO G fss,l a=own' a:=λa h=>dP h;have J:∀a,own' a=none->l a=none:=λa h=>by
   show(if a∈adO G fss then own' a else none)=none;rw[h];exact ite_self _
  have S:∀a r,l a=some r->own' a=some r:=λa r h=>by
   by_cases z:a∈adO G fss
   ·rw[←M a z];exact h
   ·have:l a=none:=dQ z;rw[this]at h;cases h
  have L:=M6 hb (λa h=>h) M J;have y:∀a,H2 a=none\/own a≠none->H0 a=none:=λa h=>h.elim (λz=>m.at.h0 z) λz=>by
   cases e:own a with
   |none=>exact dS e z
   |some r=>exact(m.ow a r e).1
  have N:EnvD p H0 l σ H' (wipe ρ):=by
   refine⟨λb o e n=>?_,pi',λa r e=>?_,λj s e=>?_,by unfold wipe;rw[List.length_map];exact m.len,m.gr⟩
   ·refine(F.keep b o (m.k0 b o e n) n ?_).1;cases z:own b with
    |none=>rfl
    |some r=>rw[(m.ow b r z).1]at e;cases e
   ·have w:=ow' a r (S a r e);exact⟨y a w.2.2,w.1,w.2.1⟩
   ·unfold wipe at e;rw[List.getElem?_map]at e;cases hr:ρ[j]? with
    |none=>rw[hr]at e;cases e
    |some s0 =>
     rw[hr]at e;have e:=Option.some.inj e;have q:=m.slot j s0 hr;have I:∀c u,¬p.fp c->own c=none->H2 c=some u->l c=none/\H' c=some u:=λc u n z e=>⟨J c (F.keep c u e n z).2,(F.keep c u e n z).1⟩
     cases s0 with
     |any=>simp only[Sl.region]at e;subst e;trivial
     |im d =>
      have e:Sl.im d=s:=e;subst e;exact let⟨v,a,b⟩:=q;⟨v,a,b.mono (λ_ o=>o) (λ_ _ o=>o.elim) F.tup⟩
     |sh d =>
      have e:Sl.sh d=s:=e;subst e;exact let⟨v,a,b⟩:=q;⟨v,a,b.bI (λc o n h=>⟨⟨n.1,(I c o n.1 n.2 h).1⟩,(I c o n.1 n.2 h).2⟩) F.tup⟩
     |sn d =>
      have e:Sl.sn d=s:=e;subst e;exact let⟨v,a,b⟩:=q;⟨v,a,b.bI (λc o n h=>⟨⟨n.1,n.2.1,(I c o n.2.1 n.2.2 h).1⟩,(I c o n.2.1 n.2.2 h).2⟩) F.tup⟩
     |pen C =>
      have e:Sl.pen C=s:=e;subst e;exact q
     |scr v b =>
      have e:Sl.scr v b=s:=e;subst e;exact q
     |dw r d=>simp only[Sl.region]at e;subst e;trivial
     |rw r d=>simp only[Sl.region]at e;subst e;trivial
     |tw r d=>simp only[Sl.region]at e;subst e;trivial
     |sp r b d=>simp only[Sl.region]at e;subst e;trivial
     |gn r g=>simp only[Sl.region]at e;subst e;trivial
  have O:=Gk N B (λi r g h=>by
   let⟨v,hv,b⟩:=m.slot i _ h;exact⟨v,hv,λc x fs z=>by subst z;exact b.1⟩) L
  exact q l _ .snw d v H' hP O (A2.frs.trans ⟨λb o e n z=>⟨(F.keep b o e n z).1,J b (F.keep b o e n z).2⟩,F.tup⟩) (rv.mono (λa n=>⟨y a n.1,n.2.1,J a n.2.2⟩) (λ_ _ _ e=>e) λ_ _ e=>e))⟩
end
structure CalC[Tt](P:Za)(w:Zb)(K:W.Frag)(mg:Str->ew)(fw:Heap)(C:Addr)(k:Nat)(x:Str)(ps:List Str)(f:Addr->FS->ez->(FS->D->Prop)->Prop):Prop where
 ex:∃g fd,Mk K C g/\FnOk P w K mg fw CX0 k g fd ps (spM C f)/\Binds K fd ps []/\mg x=some (.ref C)
section
variable [Tt] {X:Cx}{pos p1 pos' spos:Pos}{e e2:Zt}{es:List Zt}{C:Addr}{t:DA}{i j k:Nat}{x y:Str}{ps:List Str}{f:Addr->FS->ez->(FS->D->Prop)->Prop}
def W2(C:Addr)(i r:Nat)(f:Addr->FS->ez->(FS->D->Prop)->Prop)(t:DA):DS:=λP ρ=>t ρ λks=>(∀kd∈ks,(norm kd.1 kd.2).le .shr=true)/\o7 r ρ i=true/\∀x,f x [] (ks.map (·.2)) λfs' d=>d=.none/\P.nx (ρ.set i (.gn r (aM (some C) x fs')))
def Qd{r:Nat}(F:CalC X.prog X.w X.K X.mg X.fw C k x ps f)(hr:Room (j+1) X.A)(hN:X.N.Nodup)(hi:X.N[i]?=some y)(hx:Loc X.env.scope y)(ha:Wr.WDA X (e::es) t)(hk:k<=j:=by decide)(hg:Gl X x:=by rfl)(hdb:zB x:=by decide)(he:zS X e es:=by rfl)(hpl:zP X pos es:=by rfl)(hs:ZQ (.Call (.Name x p1) (e::es) [] pos) (some (.Name y pos')) spos.line X.env=pure false:=by rfl)(I:zL X y:=by first|exact .inl rfl|exact .inr rfl) :
  Wr.WDS X (.Assign [.Name y pos'] (.Call (.Name x p1) (e::es) [] pos) spos) (W2 C i r f t):=by
 let⟨g,fd,M,F1,b,mx⟩:=F.ex;refine⟨PS.wk' (eN hN hi hx (Om M F1 (hr.mono (Nat.succ_le_succ hk)) hg mx b .nil vB ha.h hdb he hpl) hs I) ?_⟩;rintro Q σ H ⟨p,H0,own,ρ,P,E,t,w⟩;refine⟨p,H0,own,ρ,_,E,t,λks vs H1 h A r2 x dx hx0 hd0 hne=>?_⟩;let⟨hk,U,I⟩:=h;have u:=E.go A.kp A.pen;have J:EnvD p H0 (aX r own) σ H1 (ρ.set i .any):=(u.drop (i:=i)).clear U;have rs:Rps (λa=>¬p.fp a/\own a=none) H1 vs (ks.map (·.2)):=by
  clear I;induction r2 with
  |nil=>exact .nil
  |cons h tl ih=>exact .cons (dR A (hk _ List.mem_cons_self) (aO h)) (ih λkd hm=>hk kd (List.mem_cons_of_mem _ hm))
 have c0:∀a,own a=none->aX r own a=none:=λa n=>by unfold aX;rw[n];simp
 have c:∀a o,H1 a=some o->a≠x/\a≠dx:=λa o e=>⟨au e hx0,au e hd0⟩
 have B:∀a o,H1 a=some o->upd (upd H1 dx (.own x)) x (.ins C dx []) a=some o:=λa o e=>by rw[ao (c a o e).1,ao (c a o e).2];exact e
 have L:∀a,upd (upd H1 dx (.own x)) x (.ins C dx []) a=none->H1 a=none:=λa e=>by
  cases h:H1 a with
  |none=>rfl
  |some o=>rw[B a o h]at e;cases e
 show spM C f (.ref x::(vs++[])) _ _ E0;rw[List.append_nil];have l:Sub Tt.T p:=u.gr;have kT2:Kp Tt.T H1 (upd (upd H1 dx (.own x)) x (.ins C dx [])):=λa o e _=>B a o e;have Y:Tt.T.PI (upd (upd H1 dx (.own x)) x (.ins C dx [])):=Tt.T.mono H1 _ (l.pi _ u.pen) λa o _ e=>B a o e;have xT:¬Tt.T.fp x:=λz=>u.at.nfb hx0 (l.fp x z);refine⟨x,vs,λa=>¬p.fp a/\own a=none/\a≠x,[],_,_,rfl,Y,⟨rfl,List.mem_cons_self,[],⟨dx,aB⟩,.nil⟩,λa hm=>?_,λa n z=>n.1 (l.fp a z),rs.bI (λa o n e=>⟨⟨n.1,n.2,(c a o e).1⟩,B a o e⟩) (λa xs e=>B a _ e),I x,λfs' d v H' T O S piT _ hadr hT bx rv=>?_⟩
 ·rcases List.mem_cons.mp hm with z|z
  ·subst z;exact⟨λn=>n.2.2 rfl,xT⟩
  ·exact nomatch z
 ·let⟨rfl,O⟩:=O;have ev:=Rp.XD rv;subst ev;refine⟨rfl,?_⟩;have R:=pF bx;have k1:Kp p H1 H':=λa o e n=>S.keep a o (B a o e) λz=>by
   rcases z with z|z
   ·rcases List.mem_cons.mp z with y|y
    ·exact(c a o e).1 y
    ·exact nomatch y
   ·exact n (l.fp a z)
  have V:Kp Tt.T H1 H':=λa o e n=>S.keep a o (B a o e) λz=>by
   rcases z with z|z
   ·rcases List.mem_cons.mp z with y|y
    ·exact(c a o e).1 y
    ·exact nomatch y
   ·exact n z
  have D:∀a,a∈adr x fs'->H1 a=none:=λa h=>by
   rcases hadr a h with z|z
   ·rcases List.mem_cons.mp z with y|y
    ·rw[y];exact hx0
    ·exact nomatch y
   ·exact L a z
  have Z:At p H0 (aX r own) H1 H':=J.at.go k1 (l.go H1 H' u.pen V piT)
  let own':Addr->Option Nat:=by classical exact λa=>if a∈adr x fs' then some r else aX r own a
  have o1:∀a,a∈adr x fs'->own' a=some r:=λa h=>dP h;have W:∀a,a∉adr x fs'->own' a=aX r own a:=λa h=>dQ h;have G:∀a o,H1 a=some o->own' a=aX r own a:=λa o e=>W a λz=>by rw[D a z]at e;cases e
  have E3:=J.uJ (own':=own') Z G λa q e e2=>by
   by_cases z:a∈adr x fs'
   ·let⟨_,o,ho,_⟩:=R a z;rw[ho];exact λz=>nomatch z
   ·rw[W a z]at e2;exact dS e (J.ow a q e2).2.2
  have E4:=E3.set (i:=i) (v:=.ref x) (s:=.gn r (aM (some C) x fs')) λhl=>⟨.ref x,List.getElem?_set_self hl,(aM (some C) x fs').mono (λa o m e=>⟨o1 a m,e⟩) (λa o n e _ _=>⟨?_,e⟩) (λ_ _ e=>e) bx⟩
  ·rw[List.set_set]at E4;exact w.nx own' _ H' _ E4 (A.frs.trans (gO.trans ⟨λb o e n z=>⟨k1 b o e n,by rw[G b o e];exact z⟩,Z.tups⟩)) O
  ·rw[W a n.1];rcases n.2.2 with z|z
   ·exact⟨z.1,c0 a z.2.1⟩
   ·exact⟨u.at.nfb (L a z),c0 a (u.at.yx (L a z))⟩
def X4(c:Int)(y:DY):DY:=λρ P=>y ρ λρ' k d=>match d with
 |.list ds=>∃d',atI ds c=some d'/\k≠.new/\P ρ' (norm k d') d'
 |.tuple ds=>∃d',atI ds c=some d'/\k≠.new/\P ρ' (norm k d') d'
 |_=>False
def Xd{c:Int}{n:Nat}{s:DY}(ha:WY X e s)(hs:pI (.Constant (.int c) n p1):=by exact λ_ _=>rfl):WY X (.Subscript e (.Constant (.int c) n p1) pos) (X4 c s):=⟨PE.wk (Dz (IxR.or qZ Lb) ha.h cV hs) (by
 rintro σ H Q ⟨p,H0,own,ρ,P,E,t,q⟩;refine⟨p,H0,own,ρ,_,E,t,λown' ρ' k d v H' h E' F r=>?_⟩;have u:∀{d'},k≠.new->norm k d'≠.new:=λ{d'} h z=>by
  by_cases i:eV d'=true
  ·rw[eU i]at z;cases z
  ·rw[nZ i]at z;exact h z
 cases d with
 |list ds =>
  let⟨d',hd,hk,g⟩:=h;let⟨b,vs,rfl,o,hc,l⟩:=r.dh;let⟨a,hv,m⟩:=l.atI hd;exact .inl ⟨b,vs,_,a,rfl,rfl,SqL.of hc,hv,q own' ρ' _ d' a H' g E' F (aO m)⟩
 |tuple ds =>
  let⟨d',hd,hk,g⟩:=h;let⟨b,vs,rfl,hc,l⟩:=r.dU;let⟨a,hv,m⟩:=l.atI hd;exact .inr ⟨b,vs,_,a,rfl,rfl,SqT.of hc,hv,q own' ρ' _ d' a H' g E' F (aO m)⟩
 |_=>exact h.elim)⟩
end
def gK(p:Str×V):Key×V:=(Sum.inr p.1,p.2)
theorem rB(f:Str):∀fv:List (Str×V),gw (fv.map gK) (Sum.inr f)=fv.lookup f
 |[]=>rfl
 |(g,v)::r=>by
  rw[List.map_cons];by_cases h:g=f
  ·subst h;refine(jF (p:=gK (g,v)) (k:=Sum.inr g) rfl).trans ?_;simp[List.lookup,gK]
  ·rw[nu (p:=gK (g,v)) (λz=>h (by injection z)),rB f r];have:(f==g)=false:=beq_eq_false_iff_ne.mpr λz=>h z.symm;simp[List.lookup,this]
theorem vp{f:Str}{v:V}:∀{a:List (Str×V)},a.lookup f=none->eG f v a=a++[(f,v)]
 |[],_=>rfl
 |(g,w)::r,h=>by
  by_cases z:(f==g)=true
  ·simp[List.lookup,z]at h
  ·simp only[List.lookup,z]at h;unfold eG;rw[dQ (λy=>z (beq_iff_eq.mpr y.symm)),vp h];rfl
theorem yj{f:Str}{v:V}:∀{a:List (Str×V)},(a.map (·.1)).Nodup->(a.lookup f).isSome=true->(a.map gK).map (λkv=>if kv.1=Sum.inr f then(kv.1,v)else kv)=(eG f v a).map gK
 |[],_,h=>by cases h
 |(g,w)::r,nd,h=>by
  unfold eG;rw[List.map_cons,List.nodup_cons]at nd;by_cases z:g=f
  ·subst z;rw[dP rfl,List.map_cons,List.map_cons,List.map_cons];have b:(if(gK (g,w)).1=Sum.inr g then((gK (g,w)).1,v)else gK (g,w))=gK (g,v):=dP rfl;rw[b];congr 1;rw[List.map_map];refine List.map_congr_left λp hp=>?_;refine dQ λz=>nd.1 ?_;have z:(Sum.inr p.1:Key)=Sum.inr g:=z;injection z with z
   exact List.mem_map.mpr ⟨p,hp,z⟩
  ·rw[dQ z,List.map_cons,List.map_cons,List.map_cons];have b:(if(gK (g,w)).1=Sum.inr f then((gK (g,w)).1,v)else gK (g,w))=gK (g,w):=dQ λy=>z (by have y:(Sum.inr g:Key)=Sum.inr f:=y;injection y);rw[b];have h2:(r.lookup f).isSome=true:=by
    have:(f==g)=false:=beq_eq_false_iff_ne.mpr λy=>z y.symm;simp only[List.lookup,this]at h;exact h
   rw[yj nd.2 h2]
def rK{f:Str}{v:V}{a:List (Str×V)}(b:(a.map (·.1)).Nodup):putK (a.map gK) (Sum.inr f) v=(eG f v a).map gK:=by
 unfold putK;rw[jG,rB];cases h:a.lookup f with
 |none =>
  rw[dQ (by simp),vp h,List.map_append];rfl
 |some w =>
  refine(dP rfl).trans ?_;rw[yj b (by rw[h];rfl)]
section
variable{i:Nat}{o e:Zt}{f:Str}{k n m:Nat}{pos pos' kp lp:Pos}
def dI(hu:X.A.units+1<Ys)(h:Wr.WV X o i)(hs:Nh (.Constant (.str f) n kp):=by exact λ_ _=>rfl):PE X (.Subscript o (.Constant (.str f) n kp) pos) (Gh none i f):=PE.wk (fK hu h.h cG hs) (by
 rintro σ H Q ⟨x,b,v,hv,a,c,q⟩;have a:H x=some (.dK (b.map gK)):=a;have g:=mK.k (k:=Sum.inr f) a;rw[rB,c]at g;exact⟨.ref x,hv,x,v,rfl,g,q⟩)
def rM[Gr]{b:DE}(hu:X.A.units+1<Ys)(hv:Wr.WV X o i)(he:Wr.WD X e b)(hs:ZQ e (some (.Subscript o (.Constant (.str f) n kp) pos')) pos.line X.env=pure false:=by rfl):PS X (.Assign [.Subscript o (.Constant (.str f) n kp) pos'] e pos) (Jc none i f (bJ b)):=PS.wk' (nM hu hv.h cG he.h hs) (by
 rintro D σ H h;refine tL h ?_;rintro y c ⟨x,d,hv,a,hl,g,q⟩;have a:c x=some (.dK (d.map gK)):=a;refine⟨.ref x,hv,x,_,rfl,qm.k (k:=Sum.inr f) a (by rw[List.length_map];have:=Ym;lia),?_⟩;rw[rK (g rfl)];exact q _ aB)
end
section
variable [Gr] {X:Cx}{e1 e2:Zt}{t1 t2:DE}{k1 k2 k3 x:Str}{i n1 n2 n3:Nat}{p1 p2 p3 lp pos pos' spos:Pos}
def UJ(i r:Nat)(k1 k2 k3:Str)(t1 t2:DE):DS:=λP ρ=>o7 r ρ i=true/\(k1≠k2/\k1≠k3/\k2≠k3)/\t1 (ρ.set i .any) λc1 d1=>(norm c1 d1).le .shr=true/\t2 (ρ.set i .any) λc2 d2=>(norm c2 d2).le .shr=true/\
 ∀x l,x≠l->P.nx (ρ.set i (.gn r (aM none x [(k1,.nb d1),(k2,.nb d2),(k3,.ls l [])])))
def Mi(r:Nat)(hN:X.N.Nodup)(hi:X.N[i]?=some x)(hx:Loc X.env.scope x)(h1:Wr.WD X e1 t1)(h2:Wr.WD X e2 t2)(hs:ZQ (.Dict [some (.Constant (.str k1) n1 p1),some (.Constant (.str k2) n2 p2),some (.Constant (.str k3) n3 p3)] [e1,e2,.List [] lp] pos) (some (.Name x pos')) spos.line X.env=pure false:=by rfl)(hf:zL X x:=by first|exact .inl rfl|exact .inr rfl) :
  Wr.WDS X (.Assign [.Name x pos'] (.Dict [some (.Constant (.str k1) n1 p1),some (.Constant (.str k2) n2 p2),some (.Constant (.str k3) n3 p3)] [e1,e2,.List [] lp] pos) spos) (UJ i r k1 k2 k3 t1 t2):=⟨PS.wk' (eN hN hi hx (wz (gU cG h1.h (gU cG h2.h (gU cG (rQ dG) wu))) rfl rfl (by intro z;cases z) (by show 3<=15;decide)) hs hf) (by
 rintro Q σ H ⟨p,H0,own,ρ,P,E,⟨u,⟨J,K,L⟩,t⟩,w⟩ a ha;let⟨ka,ia,_⟩:=E.at.new ha (.dK []);have F:EnvD p H0 (aX r own) σ H (ρ.set i .any):=(E.drop (i:=i)).clear u;have Y:=F.at.go ka ia;have y:¬p.fp a:=E.at.nfb ha;have k:∀l:Addr,∃own':Addr->Option Nat,(∀b,b=l->own' b=some r)/\∀b,b≠l->own' b=aX r own b:=λl=>by
  classical
  exact⟨λb=>if b=l then some r else aX r own b,λb h=>dP h,λb h=>dQ h⟩
 let⟨c,T,M⟩:=k a;have G:EnvD p H0 c σ (upd H a (.dK [])) (ρ.set i .any):=F.uJ Y (λb o e=>M b (au e ha)) λb q e e2=>by
  by_cases z:b=a
  ·rw[z,aB];exact λz=>nomatch z
  ·rw[M b z]at e2;exact dS e (F.ow b q e2).2.2
 refine⟨p,H0,c,_,_,G,t,λc1 d1 v1 H1 g1 A1 r1=>⟨p,H0,c,_,_,G.go A1.kp A1.pen,g1.2,λc2 d2 v2 H2 g2 A2 r2=>⟨∅,λl hl=>?_⟩⟩⟩;have C:=(G.go A1.kp A1.pen).go A2.kp A2.pen;have g:H2 a=some (.dK []):=A2.kp a _ (A1.kp a _ aB y) y;have D:a≠l:=au g hl;have m:upd H2 l (.lst []) a=some (.dK []):=by rw[ao D];exact g
 have hm:ju [] [gK (k1,v1),gK (k2,v2),gK (k3,.ref l)]=[(k1,v1),(k2,v2),(k3,V.ref l)].map gK:=by
  have h1:¬(Sum.inr k1:Key)=Sum.inr k2:=λz=>J (by injection z);have h2:¬(Sum.inr k1:Key)=Sum.inr k3:=λz=>K (by injection z);have h3:¬(Sum.inr k2:Key)=Sum.inr k3:=λz=>L (by injection z);simp[ju,putK,gK,h1,h2,h3]
 refine⟨m,[gK (k1,v1),gK (k2,v2),gK (k3,.ref l)],rfl,(by show 3<=15;decide),?_⟩;rw[hm];show Q.nx (σ.set i (some (.ref a))) _;let⟨I,i3,_⟩:=C.at.new hl (.lst []);have W:=C.at.go I i3;obtain⟨d,q1,A⟩:∃own':Addr->Option Nat,(own' l=some r)/\∀b,b≠l->own' b=c b:=by
  classical
  exact⟨λb=>if b=l then some r else c b,dP rfl,λb h=>dQ h⟩
 have Z:EnvD p H0 d σ (upd H2 l (.lst [])) (ρ.set i .any):=C.uJ W (λb o e=>A b (au e hl)) λb q e e2=>by
  by_cases z:b=l
  ·rw[z,aB];exact λz=>nomatch z
  ·rw[A b z]at e2;exact dS e (C.ow b q e2).2.2
 have U:d a=some r:=by rw[A a D,T a rfl]
 have R:=Z.write (o':=.dK ([(k1,v1),(k2,v2),(k3,V.ref l)].map gK)) U m (λxs z=>nomatch z);have fe:forget r (ρ.set i .any)=ρ.set i .any:=by
  unfold forget;refine(List.map_congr_left λs hs=>?_).trans (List.map_id _);have:=List.all_eq_true.mp u s hs;rw[dQ ↑this];rfl
 rw[fe]at R;have B:∀b o,(¬p.fp b/\c b=none)->H2 b=some o->NT o->(¬p.fp b/\d b=none)/\upd (upd H2 l (.lst [])) a (.dK ([(k1,v1),(k2,v2),(k3,V.ref l)].map gK)) b=some o:=λb o n e _=>by
  have bl:=au e hl;have f:b≠a:=λz=>by rw[z,T a rfl]at n;cases n.2
  exact⟨⟨n.1,by rw[A b bl];exact n.2⟩,by rw[ao f,ao bl];exact e⟩
 have O:∀b xs,H2 b=some (.tup xs)->upd (upd H2 l (.lst [])) a (.dK ([(k1,v1),(k2,v2),(k3,V.ref l)].map gK)) b=some (.tup xs):=λb xs e=>by
  rw[ao (λz=>by subst z;rw[g]at e;cases e),ao (au e hl)];exact e
 have w1:Rp (λb=>¬p.fp b/\c b=none) H2 v1 d1:=jB (j:=.shr) A1 A2.kp (dR A1 g1.1 (aO r1));have w2:Rp (λb=>¬p.fp b/\c b=none) H2 v2 d2:=dR A2 g2.1 (aO r2);have S:=R.set (i:=i) (v:=.ref a) (s:=.gn r (aM none a [(k1,.nb d1),(k2,.nb d2),(k3,.ls l [])])) λhli=>⟨.ref a,List.getElem?_set_self hli,rfl,U,_,aB,.cons (Rp.nt B O w1) (.cons (Rp.nt B O w2) (.cons ⟨rfl,q1,[],by rw[ao (Ne.symm D)];exact aB,.nil⟩ .nil))⟩
 rw[List.set_set]at S;refine w.nx d _ _ _ S ⟨λb o e n z=>?_,λb xs e=>?_⟩ (g2.2 a l D)
 ·have f:=au e ha;have e1:upd H a (.dK []) b=some o:=by rw[ao f];exact e
  have e2:=A2.kp b o (A1.kp b o e1 n) n;have bl:=au e2 hl;exact⟨by rw[ao f,ao bl];exact e2,by rw[A b bl,M b f];unfold aX;rw[z];simp⟩
 ·have f:=au e ha;have e1:upd H a (.dK []) b=some (.tup xs):=by rw[ao f];exact e
  exact O b xs (A2.tups b xs (A1.tups b xs e1)))⟩
end
def psD:Qo:=λo i v H Q=>∃a H',o=.ref a/\qm H a i v H'/\Q H'
def Jy{X:Cx}(hu:X.A.units+1<Ys):Xa X psD:=by
 intro b s σ H o i v c j u Q I f d h ⟨a,H',e,g,q⟩;subst e;obtain rfl:c=Value.ref a:=f;exact vJ hu I g d h λs' I'=>⟨H',I',q⟩
section
variable [Gr] {X:Cx}{i:Nat}{o o1 o2:Zt}{f f1 f2:Str}
def Ux(i:Nat)(f f1 f2:Str):DS:=λP ρ=>∃r x fs l ds d1 d2,ρ[i]?=some (.gn r (aM none x fs))/\fs.lookup f=some (.ls l (ds++[.tuple [d1,d2]]))/\iV fs=[l]/\(fs.map (·.1)).Nodup/\⇑fs<900/\(f1∈fs.map (·.1)/\f2∈fs.map (·.1))/\P.nx ((forget r ρ).set i (.gn r (aM none x (aZ f2 (.nb d2) (aZ f1 (.nb d1) (aZ f (.ls l ds) fs))))))
theorem mV(f:Str)(d:FD):∀{fs:FS},f∈fs.map (·.1)->(aZ f d fs).map (·.1)=fs.map (·.1)
 |[],h=>nomatch h
 |(g,y)::r,h=>by
  unfold aZ;by_cases z:g=f
  ·rw[dP z];rfl
  ·rw[dQ z,List.map_cons,List.map_cons];rcases List.mem_cons.mp h with y|y
   ·exact(z y.symm).elim
   ·rw[mV f d y]
theorem lookup_mem{f:Str}{d:FD}:∀{fs:FS},fs.lookup f=some d->f∈fs.map (·.1)
 |[],h=>nomatch h
 |(g,y)::r,h=>by
  by_cases z:(f==g)=true
  ·rw[List.map_cons,beq_iff_eq.mp z];exact List.mem_cons_self
  ·simp only[List.lookup,z]at h;exact List.mem_cons_of_mem _ (lookup_mem h)
def ud(r:Nat)(ρ:List Sl)(i:Nat)(g:GS)(s:Sl):(forget r ((forget r ρ).set i (.gn r g))).set i s=(forget r ρ).set i s:=by
 have h:=Ca r ρ;unfold forget at h ⊢;rw[List.map_set,h,List.set_set]
def Mh{K:W.Frag}{st:ZF}(h:PS X st (rF (RG K "list" R6 (Gh none i f)) (Wo K 2 (Lp (Uc (jJ i) (tC (.str f1)) psD) (Lp (Uc (jJ i) (tC (.str f2)) psD) Wq))))):Wr.WDS X st (Ux i f f1 f2):=⟨PS.wk' h (by
 rintro Q σ H ⟨p,H0,own,ρ,P,E,⟨r,x,fs,l,ds,q,L,hr,hl,Y,nd,len,⟨m1,m2⟩,hn⟩,w⟩;let⟨_,hv,rfl,ox,fv,hx,fo⟩:=E.slot i _ hr;let⟨v,hf,rfl,ol,j,M,rs⟩:=fo.get hl;have e2:=⇑rs;rw[List.length_append,List.length_singleton]at e2;let⟨y,hy,ry⟩:=rs.getD (i:=⇑j - 1) (d:=.tuple [q,L]) (by rw[show ⇑j - 1=⇑ds by lia,List.getElem?_append_right (Nat.le_refl _)];simp);refine⟨x,fv,_,hv,hx,hf,.inl ⟨rfl,j,SqL.of M⟩,l,j,y,rfl,rfl,M,hy,?_⟩;have rs':Rps (λa=>¬p.fp a/\own a=none) H j.dropLast ds:=by
  have:=rs.take ⇑ds;rw[List.take_left]at this;rw[List.dropLast_eq_take,show ⇑j - 1=⇑ds by lia];exact this
 let⟨N,F2⟩:=E.Uk (ws':=j.dropLast) (ds':=ds) hv ox hx fo hl Y ol M rs';have ry2:Rp (λa=>¬p.fp a/\own a=none) (upd H l (.lst j.dropLast)) y (.tuple [q,L]):=ry.bI (λa o n e=>⟨n,by rw[ao];exact e;rintro rfl;rw[ol]at n;cases n.2⟩) λa xs e=>by
  rw[ao];exact e;rintro rfl;rw[M]at e;cases e
 let⟨t,vs,rfl,ht,rv⟩:=ry2.dU;let⟨B,C,rfl,r1,r2⟩:=rv.two;generalize upd H l (.lst j.dropLast)=Hp at N F2 ht r1 r2;have mf:=lookup_mem hl;have g:=mV f (.ls l ds) mf;have z:⇑(aZ f (.ls l ds) fs)=⇑fs:=by have:=dV List.length g;rwa [List.length_map,List.length_map]at this
 have g2:((forget r ρ).set i (.gn r (aM none x (aZ f (.ls l ds) fs))))[i]?=some (.gn r (aM none x (aZ f (.ls l ds) fs))):=List.getElem?_set_self (by unfold forget;rw[List.length_map];exact(List.getElem?_eq_some_iff.mp hr).1);let⟨_,S,R,J,b,D,s⟩:=N.slot i _ g2;subst R;have m:Hp x=some (.dK (b.map gK)):=D;have U:(b.map (·.1)).Nodup:=by rw[s.names,g];exact nd
 have l2:⇑b=⇑fs:=by rw[⇑s,z]
 have h24:=Ym;refine⟨t,[B,C],rfl,SqT.of ht,rfl,B,[C],rfl,.ref x,hv,x,_,rfl,qm.k (k:=Sum.inr f1) m (by rw[List.length_map];lia),?_⟩;rw[rK U];let⟨O,F3⟩:=N.fld (f:=f1) (v:=B) (d:=.nb q) (o':=.dK ((eG f1 B b).map gK)) S J D s r1 aB;rw[ud]at O;have I:=mV f1 (.nb q) (fs:=aZ f (.ls l ds) fs) (by rw[g];exact m1);have A:⇑(aZ f1 (.nb q) (aZ f (.ls l ds) fs))=⇑fs:=by have:=dV List.length I;rw[List.length_map,List.length_map]at this;lia
 have g3:((forget r ρ).set i (.gn r (aM none x (aZ f1 (.nb q) (aZ f (.ls l ds) fs)))))[i]?=some (.gn r (aM none x (aZ f1 (.nb q) (aZ f (.ls l ds) fs)))):=List.getElem?_set_self (by unfold forget;rw[List.length_map];exact(List.getElem?_eq_some_iff.mp hr).1);let⟨_,T,R,Z,c,F,u⟩:=O.slot i _ g3;subst R;have G:upd Hp x (.dK ((eG f1 B b).map gK)) x=some (.dK (c.map gK)):=F;have V:(c.map (·.1)).Nodup:=by rw[u.names,I,g];exact nd
 have l3:⇑c=⇑fs:=by rw[⇑u,A]
 refine⟨C,[],rfl,.ref x,hv,x,_,rfl,qm.k (k:=Sum.inr f2) G (by rw[List.length_map];lia),rfl,?_⟩;rw[rK V];have r2':Rp (λa=>¬p.fp a/\own a=none) (upd Hp x (.dK ((eG f1 B b).map gK))) C L:=r2.bI (λa o n e=>⟨n,by rw[ao];exact e;rintro rfl;rw[J]at n;cases n.2⟩) λa xs e=>by
  rw[ao];exact e;rintro rfl;rw[m]at e;cases e
 let⟨E4,F4⟩:=O.fld (f:=f2) (v:=C) (d:=.nb L) (o':=.dK ((eG f2 C c).map gK)) T Z F u r2' aB;rw[ud]at E4;exact w.nx own σ _ _ E4 (F2.trans (F3.trans F4)) hn)⟩
end
def Xg(y:DY):DY:=λρ P=>y ρ λρ' _ d=>match d with
 |.list ds=>P ρ' .imm (.int (⇑ds:Nat))
 |.tuple ds=>P ρ' .imm (.int (⇑ds:Nat))
 |_=>False
def Ve[Gr]{X:Cx}{e:Zt}{y:DY}{c pos:Pos}(hm:X.mg "len"=none)(h:WY X e y)(hg:Gl X "len":=by rfl)(he:zS X e []:=by rfl)(hpl:zP X pos []:=by rfl):WY X (.Call (.Name "len" c) [e] [] pos) (Xg y):=⟨PE.wk (eO gF hg hm PySem.boot_len (bV h.h dG he) ∅ ∅ he hpl) (by
 rintro σ H Q ⟨p,H0,own,ρ,P,E,t,q⟩;refine⟨p,H0,own,ρ,_,E,t,λown' ρ' k d v H' h E' F r=>?_⟩;cases d with
 |list ds =>
  let⟨a,vs,rfl,_,ha,b⟩:=r.dh;refine⟨a,vs,rfl,.inl (SqL.of ha),?_⟩;rw[⇑b];exact q own' ρ' .imm _ _ H' h E' F (.int _)
 |tuple ds =>
  let⟨a,vs,rfl,ha,b⟩:=r.dU;refine⟨a,vs,rfl,.inr (SqT.of ha),?_⟩;rw[⇑b];exact q own' ρ' .imm _ _ H' h E' F (.int _)
 |_=>exact h.elim)⟩
variable [Gr] {X:Cx}{k j i:Nat}{x y:Str}{ps:List Str}{e:Zt}{es:List Zt}{ta:DA}{te:DE}{p pos pos' spos:Pos}{f:ed}
def Vw(f:ed)(t:DA):DE:=λρ P=>t ρ λks=>f (ks.map (·.2)) λd=>P (norm ((joins ks).join .new) d) d
def X5(C:Cal X.prog X.w X.K X.mg X.fw k x ps (spR f))(hr:Room j X.A)(ha:Wr.WDA X (e::es) ta)(hk:k<=j:=by decide)(hg:Gl X x:=by rfl)(hdb:zB x:=by decide)(he:zS X e es:=by rfl)(hpl:zP X pos es:=by rfl) :
  Wr.WD X (.Call (.Name x p) (e::es) [] pos) (Vw f ta):=⟨PE.wk (pcS C hr ha.h hk hg hdb he hpl) (by
 rintro σ H Q ⟨p,H0,own,ρ,P,E,t,q⟩;refine⟨p,H0,own,ρ,_,E,t,λks vs H1 h A r=>?_⟩;show spR f (vs++[]) H1 Q E0;rw[List.append_nil];have c:=dM (joins ks) .new;refine⟨okK p H0 own H (joins ks),ks.map (·.2),_,RpK.all A (Kd.le_refl _) r,h,λd v H' hP s rv=>?_⟩;have g:Kp p H1 H':=Kp.of s;refine q _ d v H' hP (A.go g (p.mono H1 H' A.pen λb o _ e=>s b o e)) (aO (rv.mono (λa o=>?_) (λ_ _ _ e=>e) λ_ _ e=>e));rcases o with o|o
 ·exact dH A c.1 o
 ·exact dH A c.2 (A.free o))⟩
def WX(i q:Nat)(te:DE):DS:=λP ρ=>te ρ λk d=>(norm k d).le .new=true/\P.nx (ρ.set i (.dw q d))
def Qc(q:Nat)(hN:X.N.Nodup)(hi:X.N[i]?=some x)(c:Loc X.env.scope x)(he:Wr.WD X e te)(hs:ZQ e (some (.Name x pos')) spos.line X.env=pure false:=by rfl)(b:zL X x:=by first|exact .inl rfl|exact .inr rfl) :
  Wr.WDS X (.Assign [.Name x pos'] e spos) (WX i q te):=⟨PS.wk' (eN hN hi c he.h hs b) (by
 rintro Q σ H ⟨p,H0,own,ρ,P,E,t,w⟩;refine⟨p,H0,own,ρ,_,E,t,λk d v H1 h A r=>?_⟩;show Q.nx (σ.set i (some v)) H1;have a:=E.adopt q A;exact w.nx _ _ H1 _ (a.set (s:=.dw q d) λhl=>⟨v,List.getElem?_set_self hl,pH h.1 A (aO r)⟩) (fG A) h.2)⟩
def Uv(i q:Nat)(f:ed)(t:DA):DS:=λP ρ=>t ρ λks=>(∀kd∈ks,(norm kd.1 kd.2).le .new=true\/norm kd.1 kd.2=.reg q)/\f (ks.map (·.2)) λd=>P.nx (ρ.set i (.dw q d))
def uq(q:Nat)(hN:X.N.Nodup)(hi:X.N[i]?=some y)(D:Loc X.env.scope y)(C:Cal X.prog X.w X.K X.mg X.fw k x ps (spR f))(hr:Room j X.A)(ha:Wr.WDA X (e::es) ta)(hk:k<=j:=by decide)(hg:Gl X x:=by rfl)(hdb:zB x:=by decide)(he:zS X e es:=by rfl)(hpl:zP X pos es:=by rfl)(hs:ZQ (.Call (.Name x p) (e::es) [] pos) (some (.Name y pos')) spos.line X.env=pure false:=by rfl)(B:zL X y:=by first|exact .inl rfl|exact .inr rfl) :
  Wr.WDS X (.Assign [.Name y pos'] (.Call (.Name x p) (e::es) [] pos) spos) (Uv i q f ta):=⟨PS.wk' (eN hN hi D (pcS C hr ha.h hk hg hdb he hpl) hs B) (by
 rintro Q σ H ⟨p,H0,own,ρ,P,E,t,w⟩;refine⟨p,H0,own,ρ,_,E,t,λks vs H1 h A r=>?_⟩;show spR f (vs++[]) H1 _ E0;rw[List.append_nil];have c:=E.adopt q A;have G:Rps (λa=>dz q H H1 own a=some q) H1 vs (ks.map (·.2)):=by
  have hk:=h.1;clear h;induction r with
  |nil=>exact .nil
  |cons h tl ih =>
   refine .cons ?_ (ih λkd hm=>hk kd (List.mem_cons_of_mem _ hm));rcases hk _ List.mem_cons_self with z|z
   ·exact pH z A (aO h)
   ·have h2:=aO h;rw[z]at h2;exact h2.bI (λa o n e=>⟨by
     have g:=(E.ow a q n).2.2;cases hh:H a with
     |none=>exact dS hh g
     |some u=>rw[bK hh];exact n,e⟩) λ_ _ e=>e
 refine⟨λa=>dz q H H1 own a=some q,ks.map (·.2),_,G,h.2,λd v H' hP s rv=>?_⟩;show Q.nx (σ.set i (some v)) H';have F:Kp p H1 H':=Kp.of s;have l:At p H0 (dz q H H1 own) H1 H':=c.at.go F (p.mono H1 H' c.pen λb o _ e=>s b o e);have m:=c.adopt q l;refine w.nx _ _ H' _ (m.set (s:=.dw q d) λhl=>⟨v,List.getElem?_set_self hl,rv.bI (λa o n e=>⟨?_,e⟩) λ_ _ e=>e⟩) ((fG A).trans (fG l)) hP;rcases n with n|n
 ·have g:=(c.ow a q n).2.2;cases hh:H1 a with
  |none=>exact dS hh g
  |some u=>rw[bK hh];exact n
 ·exact jk n e)⟩
def grU(T:Pn):Gr:=⟨λp _=>p=T⟩
section
variable{k j:Nat}{x:Str}{ps:List Str}{e:Zt}{es:List Zt}{t:DA}{p pos:Pos}{T:Pn}{f:ed}
def Uo{Tm:DS}{N:List Str}{vs:List V}{H:Hp}{Q:VK}{E:XK}(h:spT T f vs H Q E)(a:∀ds P,f ds P->∃ρ,ds.map dO++List.replicate (⇑N - ⇑ds) .any=ρ/\Tm { nx:=λ_=>P .none,rt:=P } ρ):@j9 (grU T) Tm { nx:=λ_ H'=>Q .non H',rt:=Q } (L2.start N vs) H:=by
 letI:=grU T;let⟨ds,P,c,r,t,q⟩:=h;let⟨ρ,e,b⟩:=a ds P t;have E:=lX (p:=T) (N:=N) rfl c r;rw[⇑r,e]at E;exact⟨T,H,λ_=>none,_,_,E,b,⟨λo s h' r' e' _ n=>q _ _ h' n e'.k0 e'.pen .non,λd v h' n w=>q d v h' n w.k0 w.pen (w.rp.mono (λ_ o=>o.1) (λ_ _ _ e=>e) λ_ _ e=>e),λ_ _ _ _ _ _ n=>n.elim,λ_ _ _ _ _ _ n=>n.elim⟩⟩
end
end Dl
namespace Wr
open L2 Dl
variable{X:Cx}{k j:Nat}{x:Str}{ps:List Str}{e:Zt}{es:List Zt}{t:DA}{p pos:Pos}{T:Pn}{f:ed}
end Wr
set_option maxHeartbeats 4000000
namespace L2
open PySem.Spec
section
variable{M:ZD}{A:Zr}{E:d6}{s:Shared}
def Lts(M:ZD)(A:Zr)(E:d6)(s:Shared)(κ:XB)(a:Keyed->Prop)(key:Keyed->Int):Prop:=∀(x y:Keyed)(st:XE)(Q:Option Bool->XE->Prop),a x->a y->kindOf st=κ->Q (some (decide (key x<key y))) st->wpS M A E s (lt' x y) Q st
variable{κ:XB}{mem:Keyed->Prop}{key:Keyed->Int}
def xO{a:Array Keyed}{i:Nat}{p:Keyed}{Q:Keyed->XE->Prop}{st:XE}(e:a[i]?=some p)(h:Q p st):wpS M A E s (elem' a i) Q st:=by
 rw[elem'_eq,e];exact UM h
end
section
variable{key:Keyed->Int}
def U7(key:Keyed->Int)(l:List Keyed):Prop:=l.Pairwise λx y=>key x<=key y
def Lel(key:Keyed->Int)(l r:List Keyed):Prop:=∀x∈l,∀y∈r,key x<=key y
structure MI(key:Keyed->Int)(T out R S:List Keyed):Prop where
 pm:(out++(R++S)).Perm T
 so:U7 key out
 sr:U7 key R
 ss:U7 key S
 le:Lel key out (R++S)
structure Alk(st st':XE):Prop where
 a:XG st'=XG st
 k:kindOf st'=kindOf st
 p:XW st'=XW st
 f:XI st'=XI st
section
variable{key:Keyed->Int}{a b out:Array Keyed}{ia ib k:Nat}
end
section
variable{M:ZD}{A:Zr}{E:d6}{s:Shared}{κ:XB}{mem:Keyed->Prop}{key:Keyed->Int}
def fJ{α:Type}{c:Prop}[Decidable c]{t u:StateT XE Sem α}{Q:α->XE->Prop}{st:XE}(h1:c->wpS M A E s t Q st)(h2:¬c->wpS M A E s u Q st):wpS M A E s (if c then t else u) Q st:=by
 by_cases h:c
 ·rw[dP h];exact h1 h
 ·rw[dQ h];exact h2 h
def ga(xs:Array Keyed)(i:Nat):Keyed:=(xs[i]?).getD (.none,.none)
def Es{xs:Array Keyed}{i:Nat}(h:i<xs.size):ga xs i=xs[i]:=by
 unfold ga;rw[getElem?_pos xs i h];rfl
def Li{xs:Array Keyed}{i:Nat}(h:i<xs.size):xs[i]?=some (ga xs i):=by
 rw[Es h,getElem?_pos xs i h]
section
variable{key:Keyed->Int}{a b out:Array Keyed}{na nb k:Nat}
def tk(a:Array Keyed)(n:Nat):List Keyed:=(a.toList.take n).reverse
end
end
section
variable{key:Keyed->Int}{xs ys l:Array Keyed}{off i j:Nat}
def Seg(key:Keyed->Int)(xs:Array Keyed)(i j:Nat):Prop:=∀u v,i<=u->u<=v->v<j->key (ga xs u)<=key (ga xs v)
end
end
structure Kep(a₀:Array Keyed)(κ:XB)(st:XE):Prop where
 perm:(XG st).toList.Perm a₀.toList
 kind:kindOf st=κ
 fail:XI st=none
def Kep.size{a₀:Array Keyed}{κ:XB}{st:XE}(h:Kep a₀ κ st):(XG st).size=a₀.size:=by
 have:=h.perm.length_eq;simpa using this
section
variable{M:ZD}{A:Zr}{E:d6}{s:Shared}{κ:XB}{key:Keyed->Int}{a₀:Array Keyed}
def zA{xs ys:Array Keyed}{i j:Nat}(h:xs[i]?=ys[j]?):ga xs i=ga ys j:=by
 unfold ga;rw[h]
def wW{xs:Array Keyed}{i j:Nat}(a:j<=xs.size)(k:Nat):ga (UN xs i j ((j - i) / 2)) k=if i<=k/\k<j then ga xs (i+j - 1 - k)else ga xs k:=by
 have e:=Y8 (i:=i) a k;by_cases c:i<=k/\k<j
 ·rw[dP c]at e ⊢;exact zA e
 ·rw[dQ c]at e ⊢;exact zA e
def BP{xs:Array Keyed}{src d:Nat}(hs:src<xs.size)(hd:d<=src)(k:Nat):ga (Y7 xs src d) k=if k=src - d then ga xs src else if src - d<k/\k<=src then ga xs (k - 1)else ga xs k:=by
 have e:=Y9 hs d hd k;by_cases c:k=src - d
 ·rw[dP c]at e ⊢;exact zA e
 ·rw[dQ c]at e ⊢;by_cases a:src - d<k/\k<=src
  ·rw[dP a]at e ⊢;exact zA e
  ·rw[dQ a]at e ⊢;exact zA e
structure Rn(a₀:Array Keyed)(κ:XB)(P:Array (Nat×Nat×Nat))(X:Array Keyed)(lo hi:Nat)(st:XE):Prop where
 k:Kep a₀ κ st
 p:XW st=P
 o:∀j,j<lo\/hi<=j->ga (XG st) j=ga X j
section
variable{M:ZD}{A:Zr}{E:d6}{s:Shared}{κ:XB}{key:Keyed->Int}{a₀ X:Array Keyed}{P:Array (Nat×Nat×Nat)}{lo hi:Nat}
def Rn.mir{st:XE}(h:Rn a₀ κ P X lo hi st){i j:Nat}(h1:lo<=i)(h2:j<=hi)(a:hi<=a₀.size):Rn a₀ κ P X lo hi (setArr st (UN (XG st) i j ((j - i) / 2))) :=
 ⟨⟨(Array.perm_iff_toList_perm.mp (mirror_perm _ _ _ _)).trans h.k.perm,h.k.kind,h.k.fail⟩,h.p,λt ht=>by
  show ga (UN (XG st) i j ((j - i) / 2)) t=_;rw[wW (by rw[h.k.size];lia),dQ ()];exact h.o t ht⟩
def Rn.bub{st:XE}(h:Rn a₀ κ P X lo hi st){src d:Nat}(h1:lo<=src - d)(h2:src<hi)(b:hi<=a₀.size)(a:d<=src):Rn a₀ κ P X lo hi (setArr st (Y7 (XG st) src d)) :=
 ⟨⟨(Array.perm_iff_toList_perm.mp (bubble_perm _ _ _)).trans h.k.perm,h.k.kind,h.k.fail⟩,h.p,λt ht=>by
  show ga (Y7 (XG st) src d) t=_;rw[BP (by rw[h.k.size];lia) a,dQ (),dQ ()];exact h.o t ht⟩
def lG(L:Lts M A E s κ (·∈a₀.toList) key){st:XE}(K:Kep a₀ κ st){i j:Nat}(hi:i<a₀.size)(a:j<a₀.size){Q:Option Bool->XE->Prop}(h:Q (some (decide (key (ga (XG st) i)<key (ga (XG st) j)))) st):wpS M A E s (ltAt' i j) Q st:=by
 have c:=K.size;have b:∀j,j<a₀.size->ga (XG st) j∈a₀.toList:=λj a=>K.perm.mem_iff.mp (by rw[Es ()];simp);refine wpS_bind (UO ?_);refine wpS_bind (xO (Li (xs:=XG st) ()) (wpS_bind (xO (Li (xs:=XG st) ()) ?_)));exact L _ _ _ _ (b i hi) (b j a) K.kind h
def Ga(L:Lts M A E s κ (·∈a₀.toList) key){n ok:Nat}{Q:Bool->XE->Prop}{st:XE}(R:Rn a₀ κ P X lo hi st)(hh:lo+n<=hi)(hn:hi<=a₀.size)(D:ok<=n)(hs:Seg key (XG st) lo (lo+ok))(h:∀st',Rn a₀ κ P X lo hi st'->Seg key (XG st') lo (lo+n)->Q true st'):wpS M A E s (binarySort' lo n ok) Q st:=by
 refine wpS_bind (UP (UQ (I:=λk c st'=>c=(none,PUnit.unit)/\Rn a₀ κ P X lo hi st'/\Seg key (XG st') lo (lo+min k n)) (Q:=λc st'=>c=(none,PUnit.unit)/\Rn a₀ κ P X lo hi st'/\Seg key (XG st') lo (lo+n)) ?step ?fin ⟨rfl,R,?init⟩) ?post)
 case init =>
  intro u v h1 h2 q;by_cases c:ok=0
  ·have:u=v:=()
   subst this;exact Int.le_refl _
  ·exact hs u v h1 h2 ()
 case fin =>
  rintro c st' ⟨rfl,R',g⟩;exact⟨rfl,R',λu v h1 h2 q=>g u v h1 h2 ()⟩
 case post =>
  rintro c st' ⟨rfl,R',g⟩;exact UM (h st' R' g)
 case step =>
  rintro k c st' B C ⟨rfl,R',g⟩;dsimp only;have g:Seg key (XG st') lo (lo+k):=λu v h1 h2 q=>g u v h1 h2 ();have J:=R'.k.size;refine wpS_bind (UP (UQ (I:=λy c a=>a=st'/\∃l r,c=(none,l,r)/\l<=r/\r<=k/\r - l<=k - y/\(∀i,i<l->key (ga (XG st') (lo+i))<=key (ga (XG st') (lo+k)))/\∀i,r<=i->i<k->key (ga (XG st') (lo+k))<key (ga (XG st') (lo+i))) (Q:=λc a=>a=st'/\∃l r,c=(none,l,r)/\l<=k/\(∀i,i<l->key (ga (XG st') (lo+i))<=key (ga (XG st') (lo+k)))/\∀i,l<=i->i<k->key (ga (XG st') (lo+k))<key (ga (XG st') (lo+i))) ?istep ?ifin ⟨rfl,0,k,rfl,(),(),(),(λi hi=>()),(λi h1 h2=>())⟩) ?ipost)
  case ifin =>
   rintro c a ⟨rfl,l,r,rfl,F,p,G,b,f⟩;have e:l=r:=()
   subst e;exact⟨rfl,l,l,rfl,p,b,f⟩
  case istep =>
   rintro y c a _ H ⟨rfl,l,r,rfl,F,p,G,b,f⟩;dsimp only;refine fJ (λc=>?_) (λc=>?_)
   ·have e:l=r:=()
    subst e;exact UM ⟨rfl,l,l,rfl,p,b,f⟩
   ·refine wpS_bind (lG L R'.k () () ?_);dsimp only;by_cases z:key (ga (XG a) (lo+k))<key (ga (XG a) (lo+(l+r) / 2))
    ·rw[dP (fy z)];exact UM ⟨rfl,l,(l+r) / 2,rfl,(),(),(),b,λi h1 h2=>Int.lt_of_lt_of_le z (g _ _ () () ())⟩
    ·rw[dQ ↑z];exact UM ⟨rfl,(l+r) / 2+1,r,rfl,(),(),(),λi h1=>Int.le_trans (g _ (lo+(l+r) / 2) () () ()) (Int.not_lt.mp z),f⟩
  case ipost =>
   rintro c a ⟨rfl,l,r,rfl,p,b,f⟩;dsimp only;refine wpS_bind (UR (UM ⟨rfl,R'.bub (src:=lo+k) (d:=lo+k - (lo+l)) () () hn (),λu v h1 h2 q=>?_⟩));show key (ga (Y7 (XG a) (lo+k) (lo+k - (lo+l))) u)<=key (ga (Y7 (XG a) (lo+k) (lo+k - (lo+l))) v);have t:∀j,lo<=j->j<lo+l->key (ga (XG a) j)<=key (ga (XG a) (lo+k)):=λj h1 h2=>by
    have:=b (j - lo) ()
    rwa [show lo+(j - lo)=j by lia]at this
   have w:∀j,lo+l<=j->j<lo+k->key (ga (XG a) (lo+k))<key (ga (XG a) j):=λj h1 h2=>by
    have:=f (j - lo) () ()
    rwa [show lo+(j - lo)=j by lia]at this
   rw[BP () (),BP () (),show lo+k - (lo+k - (lo+l))=lo+l by lia];by_cases x:u=lo+l
   ·rw[dP x];by_cases cv:v=lo+l
    ·rw[dP cv];exact Int.le_refl _
    ·rw[dQ cv,dP ()];exact Int.le_of_lt (w _ () ())
   ·rw[dQ x];by_cases m:lo+l<u/\u<=lo+k
    ·rw[dP m,dQ (),dP ()];exact g _ _ () () ()
    ·rw[dQ m];by_cases cv:v=lo+l
     ·rw[dP cv];exact t u h1 ()
     ·rw[dQ cv];by_cases o:lo+l<v/\v<=lo+k
      ·rw[dP o];exact g _ _ h1 () ()
      ·rw[dQ o];exact g _ _ h1 h2 ()
def Fal(key:Keyed->Int)(xs:Array Keyed)(i j:Nat):Prop:=∀u v,i<=u->u<=v->v<j->key (ga xs v)<=key (ga xs u)
def xX{xs:Array Keyed}{i j:Nat}(h:Seg key xs i j)(b:i<j)(c:key (ga xs (j - 1))<=key (ga xs j)):Seg key xs i (j+1):=λu v h1 h2 h3=>by
 by_cases e:v=j
 ·subst e;by_cases a:u=v
  ·subst a;exact Int.le_refl _
  ·exact Int.le_trans (h u (v - 1) h1 () ()) c
 ·exact h u v h1 h2 ()
def zJ{xs:Array Keyed}{i j:Nat}(h:Fal key xs i j)(b:i<j)(c:key (ga xs j)<=key (ga xs (j - 1))):Fal key xs i (j+1):=λu v h1 h2 h3=>by
 by_cases e:v=j
 ·subst e;by_cases a:u=v
  ·subst a;exact Int.le_refl _
  ·exact Int.le_trans c (h u (v - 1) h1 () ())
 ·exact h u v h1 h2 ()
def PL{xs:Array Keyed}{i j:Nat}(h:Fal key xs i j)(a:j<=xs.size):Seg key (UN xs i j ((j - i) / 2)) i j:=λu v h1 h2 h3=>by
 rw[wW a,wW a,dP (),dP ()];exact h _ _ () () ()
def Ck{xs:Array Keyed}{i j:Nat}(a:j<=xs.size)(h:∀k,i<=k->k<j->key (ga xs k)=key (ga xs (j - 1)))(k:Nat):key (ga (UN xs i j ((j - i) / 2)) k)=key (ga xs k):=by
 rw[wW a];by_cases c:i<=k/\k<j
 ·rw[dP c,h _ () (),h k c.1 c.2]
 ·rw[dQ c]
def Dc{α:Type}{b c:StateT XE Sem α}{Pr:XE->Prop}{Q:α->XE->Prop}{st:XE}(d:∀st1,Pr st1->wpS M A E s c Q st1)(a:(∀st1,Pr st1->wpS M A E s c Q st1)->wpS M A E s b Q st):wpS M A E s b Q st:=a d
def Np(hr:∀(t:String)(Q:Unit->Shared->Prop),Q .unit s->wpAny M A (rule t) Q E s)(L:Lts M A E s κ (·∈a₀.toList) key){nrem:Nat}{Q:Option Nat->XE->Prop}{st:XE}(R:Rn a₀ κ P X lo (lo+nrem) st)(hn:lo+nrem<=a₀.size)(h1:1<=nrem)(h:∀n st',1<=n->n<=nrem->Rn a₀ κ P X lo (lo+nrem) st'->Seg key (XG st') lo (lo+n)->Q (some n) st'):wpS M A E s (countRun' lo nrem) Q st:=by
 have hz:=R.k.size;have H:∀xs:Array Keyed,Seg key xs lo (lo+1):=λxs u v h1 h2 h3=>by
  have:u=v:=()
  subst this;exact Int.le_refl _
 refine wpS_bind (UP (UQ (I:=λy c st'=>st'=st/\c=(none,y)/\Seg key (XG st) lo (lo+y)) (Q:=λc st'=>st'=st/\∃n,c=(none,n)/\1<=n/\n<=nrem/\Seg key (XG st) lo (lo+n)/\(n<nrem->key (ga (XG st) (lo+n))<key (ga (XG st) (lo+n - 1)))) ?step ?fin ⟨rfl,rfl,H _⟩) ?post)
 case fin =>
  rintro c st' ⟨rfl,rfl,g⟩;exact⟨rfl,_,rfl,(),(),g,λz=>()⟩
 case step =>
  rintro y c st' N F ⟨rfl,rfl,g⟩;dsimp only;refine wpS_bind (lG L R.k () () ?_);dsimp only;by_cases z:key (ga (XG st') (lo+y))<key (ga (XG st') (lo+y - 1))
  ·rw[dP (fy z)];exact UM ⟨rfl,y,rfl,N,(),g,λ_=>z⟩
  ·rw[dQ ↑z];exact UM ⟨rfl,rfl,show Seg key _ lo (lo+y+1)from xX g () (Int.not_lt.mp z)⟩
 case post =>
  rintro c st' ⟨rfl,n,rfl,O,S,g,C⟩;dsimp only;refine fJ (λc=>UM (h n _ O S R g)) (λc=>?_);have c:¬n=nrem:=↑c
  have C:=C ();apply Dc (Pr:=λd=>Rn a₀ κ P X lo (lo+nrem) d/\Fal key (XG d) lo (lo+n+1))
  case a =>
   intro tail;refine fJ (λc2=>?_) (λc2=>?_)
   ·refine wpS_bind (lG L R.k () () ?_);dsimp only;by_cases z:key (ga (XG st') lo)<key (ga (XG st') (lo+n - 1))
    ·rw[dP (fy z)];exact UM (h n _ O S R g)
    ·rw[dQ ↑z];have z:=Int.not_lt.mp z;have B:∀k,lo<=k->k<lo+n->key (ga (XG st') k)=key (ga (XG st') (lo+n - 1)):=λk h1 h2=>by
      have Z:=g k (lo+n - 1) h1 () ();have a2:=g lo k (Nat.le_refl _) h1 h2;lia
     have o:=Ck (xs:=XG st') (i:=lo) (j:=lo+n) () B;refine wpS_bind (UR (tail _ ⟨R.mir (i:=lo) (j:=lo+n) (Nat.le_refl _) () hn,λu v h1 h2 h3=>?_⟩));show key (ga (UN (XG st') lo (lo+n) ((lo+n - lo) / 2)) v)<=key (ga (UN (XG st') lo (lo+n) ((lo+n - lo) / 2)) u);rw[o,o];by_cases e:v=lo+n
     ·subst e;by_cases f:u=lo+n
      ·subst f;exact Int.le_refl _
      ·have:=B u h1 ();lia
     ·have Z:=B u h1 ();have a2:=B v () ();lia
   ·refine tail _ ⟨R,λu v h1 h2 h3=>?_⟩;have e:n=1:=()
    subst e;rw[show lo+1 - 1=lo by lia]at C;by_cases e:u=v
    ·subst e;exact Int.le_refl _
    ·have e1:u=lo:=()
     have f:v=lo+1:=()
     rw[e1,f];exact Int.le_of_lt C
  case d =>
   rintro d ⟨V,U⟩;refine wpS_bind (US (hr _ _ ⟨rfl,?_⟩));refine wpS_bind (UP (UQ (I:=λy c a=>Rn a₀ κ P X lo (lo+nrem) a/\∃q,c=(none,y,q)/\q+1<=y/\Fal key (XG a) lo (lo+y)/\∀k,lo+y - (q+1)<=k->k<lo+y->key (ga (XG a) k)=key (ga (XG a) (lo+y - 1))) (Q:=λc a=>Rn a₀ κ P X lo (lo+nrem) a/\∃y q,c=(none,y,q)/\1<=y/\y<=nrem/\q+1<=y/\Fal key (XG a) lo (lo+y)/\∀k,lo+y - (q+1)<=k->k<lo+y->key (ga (XG a) k)=key (ga (XG a) (lo+y - 1))) ?dstep ?dfin ⟨V,0,rfl,(),U,λk h1 h2=>?dinit⟩) ?dpost)
   case dinit =>
    have e:k=lo+(n+1) - 1:=()
    rw[e]
   case dfin =>
    rintro c a ⟨R2,q,rfl,D,l,f⟩;exact⟨R2,_,q,rfl,(),(),D,l,f⟩
   case dstep =>
    rintro y c a N F ⟨R2,q,rfl,D,l,f⟩;dsimp only;have G:=R2.k.size;refine wpS_bind (lG L R2.k () () ?_);dsimp only;by_cases z:key (ga (XG a) (lo+y))<key (ga (XG a) (lo+y - 1))
    ·rw[dP (fy z)];have p:Fal key (XG a) lo (lo+y+1):=zJ l () (Int.le_of_lt z);refine fJ (λc3=>?_) (λc3=>?_)
     ·have o:=Ck (xs:=XG a) (i:=lo+y - (q+1)) (j:=lo+y) () f;refine wpS_bind (UR (UM ⟨R2.mir (i:=lo+y - (q+1)) (j:=lo+y) () () hn,0,rfl,(),λu v h1 h2 h3=>?_,λk h1 h2=>?_⟩))
      ·show key (ga (UN (XG a) _ _ _) v)<=key (ga (UN (XG a) _ _ _) u);rw[o,o];exact p u v h1 h2 h3
      ·have e:k=lo+(y+1) - 1:=()
       rw[e]
     ·refine UM ⟨R2,0,rfl,(),p,λk h1 h2=>?_⟩;have e:k=lo+(y+1) - 1:=()
      rw[e]
    ·rw[dQ ↑z];refine wpS_bind (lG L R2.k () () ?_);dsimp only;by_cases T:key (ga (XG a) (lo+y - 1))<key (ga (XG a) (lo+y))
     ·rw[dP (fy T)];exact UM ⟨R2,y,q,rfl,(),(),D,l,f⟩
     ·rw[dQ ↑T];have J:key (ga (XG a) (lo+y))=key (ga (XG a) (lo+y - 1)):=()
      have p:Fal key (XG a) lo (lo+y+1):=zJ l () (Int.le_of_eq J);refine UM ⟨R2,q+1,rfl,(),p,λk h1 h2=>?_⟩;rw[show lo+(y+1) - 1=lo+y by lia,J];by_cases e:k=lo+y
      ·rw[e,J]
      ·exact f k () ()
   case dpost =>
    rintro c a ⟨R2,y,q,rfl,y1,y2,D,l,f⟩;dsimp only;have G:=R2.k.size;apply Dc (Pr:=λd=>Rn a₀ κ P X lo (lo+nrem) d/\Fal key (XG d) lo (lo+y))
    case a =>
     intro tail;refine fJ (λc3=>?_) (λc3=>tail _ ⟨R2,l⟩);have o:=Ck (xs:=XG a) (i:=lo+y - (q+1)) (j:=lo+y) () f;refine wpS_bind (UR (tail _ ⟨R2.mir (i:=lo+y - (q+1)) (j:=lo+y) () () hn,λu v h1 h2 h3=>?_⟩));show key (ga (UN (XG a) _ _ _) v)<=key (ga (UN (XG a) _ _ _) u);rw[o,o];exact l u v h1 h2 h3
    case d =>
     rintro w ⟨K,p⟩;have hz3:=K.k.size;refine wpS_bind (UR ?_);have W:=K.mir (i:=lo) (j:=lo+y) (Nat.le_refl _) () hn;have Y:Seg key (XG (setArr w (UN (XG w) lo (lo+y) ((lo+y - lo) / 2)))) lo (lo+y):=PL p ();refine wpS_bind (UP (UQ (I:=λx c b=>Rn a₀ κ P X lo (lo+nrem) b/\c=(none,x)/\Seg key (XG b) lo (lo+x)) (Q:=λc b=>Rn a₀ κ P X lo (lo+nrem) b/\∃x,c=(none,x)/\1<=x/\x<=nrem/\Seg key (XG b) lo (lo+x)) ?estep ?efin ⟨W,rfl,Y⟩) ?epost)
     case efin =>
      rintro c b ⟨m,rfl,r⟩;exact⟨m,_,rfl,(),(),r⟩
     case estep =>
      rintro x c b hx hx2 ⟨m,rfl,r⟩;dsimp only;have hz4:=m.k.size;refine wpS_bind (lG L m.k () () ?_);dsimp only;by_cases z:key (ga (XG b) (lo+x))<key (ga (XG b) (lo+x - 1))
      ·rw[dP (fy z)];exact UM ⟨m,x,rfl,(),(),r⟩
      ·rw[dQ ↑z];exact UM ⟨m,rfl,show Seg key _ lo (lo+x+1)from xX r () (Int.not_lt.mp z)⟩
     case epost =>
      rintro c b ⟨m,x,rfl,x1,x2,r⟩;exact UM (h x b x1 x2 m r)
end
section
variable{key:Keyed->Int}{xs ys:Array Keyed}
def rl(p:Array (Nat×Nat×Nat)):List (Nat×Nat):=p.toList.map λt=>(t.1,t.2.1)
end
end
open Classical in
section
variable{prog:Za}{w:Zb}{A:Zr}{s:Shared}{E:d6}
end
section
variable{X:Cx}
end
end L2
namespace Dl
open L2
variable [Gr]
section
variable{X:Cx}{pos:Pos}{a b c e:Zt}{es:List Zt}{ta tb tc te:DE}{t:DA}
end
end Dl
namespace Wr
open L2 Dl
section
variable [Gr]
variable{X:Cx}{pos:Pos}{a b c e:Zt}{es:List Zt}{ta tb tc te:DE}{t:DA}
end
end Wr
namespace L2
open PySem.Spec
variable{X:Cx}
section
variable{pins:ee}{σ:St}{H:Hp}{s:Shared}{it:Addr}
structure Mine(X:Cx)(pins:ee)(H:Hp)(it:Addr):Prop where
 h0:H it=none
 h1:it≠X.env.locals
 h2:X.s₀.heap.objs.size<=it
 h3:∀x c,X.env.cells.lookup x=some c->c≠it
 h4:∀p∈X.pn++pins,p.1≠it
 h5:it∉frs X.stack
def Inv.mine(I:Inv X pins σ H s)(h:↥s<=it):Mine X pins H it :=
 have b:∀o,s.heap.get? it≠some o:=λo e=>dS (Heap.lt_size e) (Nat.not_lt.mpr h)
 ⟨I.hok.fresh h,Nat.ne_of_gt (Nat.lt_of_lt_of_le I.lt h),Nat.le_trans I.sz h,λx c e z=>by
  let⟨v,o,a,_⟩:=I.cell x c e;exact b o (z ▸ a),λp hp z=>b p.2 (z ▸ (I.pin p hp).1),λz=>by
  let⟨_,o,a,_⟩:=I.stack.mem z;exact b o a⟩
def Inv.Eb{h':Heap}{t':Nat}(I:Inv X pins σ H s)(m:Mine X pins H it)(k:∀b o,b≠it->s.heap.get? b=some o->h'.get? b=some o):Inv X pins σ H { s with heap:=h',toks:=t' }:=I.turned k m.h0 m.h1 (.inr m.h2) m.h3 m.h4
structure Gro(X:Cx)(ex:List Addr)(H:Hp)(h:Heap)(H1:Hp)(h1:Heap):Prop where
 sm:∀b o,H b=some o->H1 b=some o
 kp:∀b o,h.get? b=some o->H b=none->b≠X.env.locals->b∉frs X.stack->b∉ex->h1.get? b=some o/\H1 b=none
def Gro.refl{a:List Addr}{h:Heap}:Gro X a H h H h:=⟨λ_ _ e=>e,λ_ _ e n _ _ _=>⟨e,n⟩⟩
def Gro.trans{d:List Addr}{g i:Hp}{h h1 h2:Heap}(a:Gro X d H h g h1)(b:Gro X d g h1 i h2):Gro X d H h i h2 :=
 ⟨λc o e=>b.sm c o (a.sm c o e),λc o e n l f x=>by
  let⟨j,k⟩:=a.kp c o e n l f x;exact b.kp c o j k l f x⟩
def Gro.more{i d:List Addr}{g:Hp}{h h1:Heap}(a:Gro X i H h g h1)(k:∀b∈i,b∈d):Gro X d H h g h1:=⟨a.sm,λc o e n l f x=>a.kp c o e n l f λz=>x (k c z)⟩
def Gro.mine{b:Hp}{h h1:Heap}{o:Obj}(a:Gro X [] H h b h1)(m:Mine X pins H it)(e:h.get? it=some o):Mine X pins b it/\h1.get? it=some o:=by
 let⟨c,d⟩:=a.kp it o e m.h0 m.h1 m.h5 (λz=>nomatch z);exact⟨⟨d,m.h1,m.h2,m.h3,m.h4,m.h5⟩,c⟩
end
section
variable{pins:ee}{σ:St}{H:Hp}{s:Shared}{A:Zr}{a kS:Addr}{its:eo}{vs:List V}{kz:eg}{e e1:Nat}{P:PySem.Fin->Shared->Prop}{E:d6}{keys:el}
def Gro.own{d:Hp}{h h1 h2:Heap}{b:Addr}(g:Gro X [a,kS] H h d h1)(hb:b=a\/b=kS)(k:∀c o,c≠b->h1.get? c=some o->h2.get? c=some o):Gro X [a,kS] H h d h2:=⟨g.sm,λc o e n l f x=>by
 let⟨e1,i⟩:=g.kp c o e n l f x;refine⟨k c o (λz=>x ?_) e1,i⟩;rcases hb with rfl|rfl
 ·rw[z];exact List.mem_cons_self
 ·rw[z];exact List.mem_cons_of_mem _ (List.mem_singleton.mpr rfl)⟩
def je{h:Heap}{o u:Obj}{b:Addr}(e:h.get? b=some u):(h.push o).get? b=some u:=Heap.get?_push_of_some _ e
def Inv.Rv{xs:List V}{out:eo}{c:Nat}(I:Inv X pins σ H s)(m:Mine X pins H a)(r:Vals xs out)(d:⇑xs<=sizeLine)(e:s.heap.get? a=some (XZ "list" out.toArray c)):Inv X pins σ (upd H a (.lst xs)) s:=by
 have nb:∀b u,H b=some u->b≠a:=λb u e z=>by rw[z,m.h0]at e;cases e
 have:=I.step (h':=s.heap) (H':=upd H a (.lst xs)) (g':=s.gens) (d':=s.drawn) (t':=s.toks) (ch:=[a]) (λb hb=>by
  rw[List.mem_singleton.mp hb];exact⟨.inr m.h2,m.h1,m.h3,m.h4⟩) (λb o _ _ _ e _=>e) (λb o _ _ _ e _=>⟨o.slots,e⟩) (λb o hc _ n=>by
  rw[ao (λz=>hc (List.mem_singleton.mpr z))];exact n) (λb o _ e=>⟨o,e⟩) (λb xs e=>by rw[ao (nb b _ e)];exact e) (λb o u e=>by rw[ao (nb b _ e)];exact e) (λb ps e=>⟨#[],by rw[ao (nb b _ e),e];simp⟩) (λ_ z=>z) (λb u eb=>by
  by_cases z:b=a
  ·subst z;rw[aB]at eb;cases eb;exact⟨d,out,c,r,e⟩
  ·rw[ao z]at eb;exact(I.hok b u eb).stay (λc v _ q=>q) (λc q=>by rw[ao (nb c _ q)];exact q) λc xs q=>by rw[ao (nb c _ q)];exact q) I.bare
 exact this
def Paired.perm{α β:Type}{F:α->β->Prop}{xs:List α}{ys b:List β}(hp:ys.Perm b)(h:Paired F xs ys):∃xs',xs'.Perm xs/\Paired F xs' b:=by
 induction hp generalizing xs with
 |nil=>exact⟨xs,.refl _,h⟩
 |cons y _ ih =>
  cases h with
  |cons h1 t =>
   let⟨xs',p,q⟩:=ih t;exact⟨_::xs',p.cons _,.cons h1 q⟩
 |swap y z l =>
  cases h with
  |cons h1 t =>
   cases t with
   |cons h2 t=>exact⟨_,.swap _ _ _,.cons h2 (.cons h1 t)⟩
 |trans _ _ i1 i2 =>
  let⟨j,c,f⟩:=i1 h;let⟨i,d,g⟩:=i2 f;exact⟨i,d.trans c,g⟩
theorem rA:∀{kz:eg}{vs:List V}{its:eo},Vals vs its->Paired (λ(p:Int×V) (q:Int×Value)=>p.1=q.1/\RelV p.2 q.2) (kz.zip vs) (kz.zip its)
 |[],_,_,_=>by rw[List.zip_nil_left,List.zip_nil_left];exact .nil
 |_::_,_,_,.nil=>.nil
 |_::_,_,_,.cons h t=>.cons ⟨rfl,h⟩ (rA t)
theorem sO:∀{ps:List (Int×V)}{c:List (Int×Value)},Paired (λ(p:Int×V) (q:Int×Value)=>p.1=q.1/\RelV p.2 q.2) ps c->ps.map (·.1)=c.map (·.1)/\Vals (ps.map (·.2)) (c.map (·.2))
 |_,_,.nil=>⟨rfl,.nil⟩
 |_,_,.cons h t=>by
  let⟨a,b⟩:=sO t;exact⟨by rw[List.map_cons,List.map_cons,a,h.1],.cons h.2 b⟩
def RN{out:eo}(g:Vals vs its)(k:UT false kz its out):∃ps:List (Int×V),ps.Perm (kz.zip vs)/\ps.Pairwise (λp q=>p.1<=q.1)/\Vals (ps.map (·.2)) out:=by
 let⟨f,hp,rfl,b⟩:=k;let⟨ps,c,d⟩:=Paired.perm hp.symm (rA (kz:=kz) g);let⟨e,r⟩:=sO d;refine⟨ps,c,?_,r⟩;have h1:(f.map (·.1)).Pairwise (·<=·):=by
  rw[List.pairwise_map];exact b.imp λh=>↑h
 rw[←e,List.pairwise_map]at h1;exact h1
end
def G7(f:Addr)(cl:List (Str×Addr)):List Addr:=f::cl.filterMap λq=>cl.lookup q.1
section
variable{pins:ee}{σ:St}{H:Hp}{s:Shared}{f c':Addr}{qual:Str}{params:YA}{body:Zt}{scope:Zs}{cl:List (Str×Addr)}{ys:List Str}{cvs:List V}{pm ctv:Value}
def Pj(J:Inv X pins σ H s)(r:s.heap.get? f=some (W.kla_obj "<lambda>" qual params body scope cl pm c' ctv))(G:H f=none)(C:f∉frs X.stack)(q:∀x,X.fn x=true)(d:∀x c,cl.lookup x=some c->X.env.cells.lookup x=some c)(u:∀y∈ys,X.env.scope.names.lookup y=some .cell/\∃c,cl.lookup y=some c)(n:⇑cvs=⇑ys)(p:∀(j:Nat)(y:Str)(v:V),ys[j]?=some y->cvs[j]?=some v->∃i:Nat,X.N[i]?=some y/\σ[i]?=some (some v)) :
  Env0 X.prog X.w X.K X.mg (reb X.fw s.heap (G7 f cl)) X.A X.stack s H/\(reb X.fw s.heap (G7 f cl)).get? f=some (W.kla_obj "<lambda>" qual params body scope cl pm c' ctv)/\Caps (reb X.fw s.heap (G7 f cl)) cl ys cvs:=by
 have g:∀y c,X.env.cells.lookup y=some c->c∉frs X.stack:=λy c e z=>by
  rcases List.mem_cons.mp (J.vY c z)with z|z
  ·exact J.cne y c e z
  ·let⟨_,o,t,_⟩:=J.ok.mF.mem z;exact dS (Heap.lt_size t) (Nat.not_lt.mpr (J.ok.cab y c (q y) e))
 have B:∀y c,cl.lookup y=some c->c∈G7 f cl:=λy c e=>List.mem_cons_of_mem _ (List.mem_filterMap.mpr ⟨(y,c),PySem.mem_of_lookup e,e⟩);have D:∀b∈G7 f cl,(H b=none/\b∉frs X.stack):=λb hb=>by
  rcases List.mem_cons.mp hb with rfl|hb
  ·exact⟨G,C⟩
  ·let⟨⟨y,Q⟩,_,F⟩:=List.mem_filterMap.mp hb;have h:=d y b F;exact⟨J.freeC y b h,g y b h⟩
 have a:∀y c w,cl.lookup y=some c->s.heap.IsCell c w->(reb X.fw s.heap (G7 f cl)).IsCell c w:=λy c w e ⟨o,t,hd⟩=>⟨o,Ji t (B y c e),hd⟩
 refine⟨J.env0.reb (λb hb=>(D b hb).1) λb hb=>(D b hb).2,Ji r List.mem_cons_self,⟨n,λy c e=>?_,λj y w h1 h2=>?_⟩⟩
 ·let⟨w,I⟩:=J.cell y c (d y c e);exact⟨w,a y c w e I⟩
 ·let⟨i,L,M⟩:=p j y w h1 h2;let⟨E,c,e⟩:=u y (List.mem_of_getElem? h1);let⟨m,_,hl⟩:=J.loc;let⟨P,O,l⟩:=hl i y w L M (.inr (.inl E));rcases l with⟨k,_⟩|⟨_,R,h,hc⟩
  ·have k:X.env.scope.names.lookup y=some .local:=k;rw[E]at k;cases k
  ·rw[d y c e]at h;cases h;exact⟨c,P,e,a y c _ e hc,O⟩
end
section
variable{k:Nat}{c P:Addr}{ps ys:List Str}{spL:List V->Addr->Sp}{p pos lpos kp:Pos}{e:Zt}{te:TE}{qual:Str}{params:YA}{body:Zt}{scope:Zs}{cl:List (Str×Addr)}
end
end L2
namespace Dl
open L2
theorem CW{ok:Addr->Prop}{H:Hp}:∀{kz:eg}{vs:List V}{ds:ez},Rps ok H vs ds->Paired (λ(p:Int×D) (q:Int×V)=>p.1=q.1/\Rp ok H q.2 p.2) (kz.zip ds) (kz.zip vs)
 |[],_,_,_=>by rw[List.zip_nil_left,List.zip_nil_left];exact .nil
 |_::_,_,_,.nil=>.nil
 |_::_,_,_,.cons h t=>.cons ⟨rfl,h⟩ (CW t)
theorem sJ{ok:Addr->Prop}{H:Hp}:∀{ps:List (Int×D)}{c:List (Int×V)},Paired (λ(p:Int×D) (q:Int×V)=>p.1=q.1/\Rp ok H q.2 p.2) ps c->ps.map (·.1)=c.map (·.1)/\Rps ok H (c.map (·.2)) (ps.map (·.2))
 |_,_,.nil=>⟨rfl,.nil⟩
 |_,_,.cons h t=>by
  let⟨a,b⟩:=sJ t;exact⟨by rw[List.map_cons,List.map_cons,a,h.1],.cons h.2 b⟩
section
variable{K:W.Frag}{N:List Str}{P:Addr}{lpos:Pos}{qual y:Str}{i:Nat}{gk:D->D->Int->Prop}{te:DE}
end
end Dl
namespace L2
open PySem.Spec
variable{X:Cx}
section
variable{M:ZD}{A:Zr}{E:d6}{s:Shared}{κ:XB}{key:Keyed->Int}{a₀:Array Keyed}
def Ag(hr:∀(t:String)(Q:Unit->Shared->Prop),Q .unit s->wpAny M A (rule t) Q E s)(L:Lts M A E s κ (·∈a₀.toList) key){Q:Unit->XE->Prop}{st:XE}(K:Kep a₀ κ st)(hp:XW st=#[])(h2:1<=a₀.size)(u:a₀.size<64)(h:∀st',Kep a₀ κ st'->Seg key (XG st') 0 a₀.size->Q .unit st'):wpS M A E s XN Q st:=by
 refine wpS_bind (UO ?_);have l:=K.size;have hm:minRun' a₀.size a₀.size 0=a₀.size:=by
  obtain⟨n,hn⟩:∃n,a₀.size=n+1:=⟨a₀.size - 1,()⟩
  rw[hn,minRun'_succ,dP ()]
 refine wpS_bind (UP (UQ (I:=λx c st'=>Kep a₀ κ st'/\((x=0/\c=(none,0)/\XW st'=#[])\/(c=(none,a₀.size)/\(XW st').size<=1/\Seg key (XG st') 0 a₀.size))) (Q:=λc st'=>Kep a₀ κ st'/\c=(none,a₀.size)/\(XW st').size<=1/\Seg key (XG st') 0 a₀.size) ?step ?fin ⟨K,.inl ⟨rfl,rfl,hp⟩⟩) ?post)
 case fin =>
  rintro c st' ⟨g,⟨q,_⟩|z⟩
  ·have q:max 0 (XG st).size=0:=q;lia
  ·exact⟨g,z⟩
 case step =>
  rintro x c st' v w ⟨g,⟨_,rfl,m⟩|⟨rfl,o,S⟩⟩
  ·dsimp only;simp only[l];refine fJ (λc=>dS (show a₀.size<=0 from c) ()) (λc=>?_);refine wpS_bind (Np hr L (lo:=0) (nrem:=a₀.size - 0) (P:=XW st') (X:=XG st') ⟨g,rfl,λ_ _=>rfl⟩ () () λn b n1 n2 R2 S2=>?_);dsimp only;have f:∀{N:Nat}{a:XE},N=a₀.size->Rn a₀ κ (XW st') (XG st') 0 (0+(a₀.size - 0)) a->Seg key (XG a) 0 (0+N)->Kep a₀ κ (XY a ((XW a).push (0,N,0)))/\(XW (XY a ((XW a).push (0,N,0)))).size<=1/\Seg key (XG (XY a ((XW a).push (0,N,0)))) 0 a₀.size:=by
    rintro N a rfl d i;refine⟨⟨d.k.perm,d.k.kind,d.k.fail⟩,?_,by rw[Nat.zero_add]at i;exact i⟩;show((XW a).push _).size<=1;rw[d.p,m];exact Nat.le_refl _
   refine fJ (λj=>?_) (λj=>?_)
   ·refine wpS_bind (US (hr _ _ ⟨rfl,?_⟩));refine wpS_bind (Ga L (n:=min (a₀.size - 0) (minRun' a₀.size a₀.size 0)) (ok:=n) R2 () () () S2 λa d i=>?_);refine fJ (λc4=>dS c4 ∅) (λ_=>?_);refine wpS_bind (UO ?_);have F:=f () d i;have e:(0+min (a₀.size - 0) (minRun' a₀.size a₀.size 0))=a₀.size:=()
    split
    ·rename_i z;exact dS (show(XW a).back?=some _ from z) (by rw[d.p,m];simp)
    ·exact wpS_bind (UR (UM ⟨F.1,.inr ⟨dV (Prod.mk none) e,F.2⟩⟩))
   ·refine wpS_bind (UO ?_);have r:n=a₀.size:=by
     have j:¬n<minRun' a₀.size a₀.size 0:=j;lia
    have F:=f r R2 S2;split
    ·rename_i z;exact dS (show(XW b).back?=some _ from z) (by rw[R2.p,m];simp)
    ·exact wpS_bind (UR (UM ⟨F.1,.inr ⟨dV (Prod.mk none) (show 0+n=a₀.size by lia),F.2⟩⟩))
  ·dsimp only;simp only[l];exact fJ (λ_=>UM ⟨g,rfl,o,S⟩) (λc=>dS (Nat.le_refl _) c)
 case post =>
  rintro c st' ⟨g,rfl,o,S⟩;dsimp only;simp only[l];refine wpS_bind (UP (UQ (I:=λx c b=>c=(none,PUnit.unit)/\b=st') (Q:=λc b=>c=(none,PUnit.unit)/\b=st') ?pstep (λc b z=>z) ⟨rfl,rfl⟩) ?ppost)
  case pstep =>
   rintro x c b _ v ⟨rfl,rfl⟩;refine wpS_bind (UO ?_);exact fJ (λc=>UM ⟨rfl,rfl⟩) (λc=>dS o c)
  case ppost =>
   rintro c b ⟨rfl,rfl⟩;exact UM (h _ g S)
end
abbrev T3:=Int×Int×Int
def cJ(t:T3):Int:=(64 * t.1+t.2.1) * 4096+t.2.2
def iR(t:T3):Prop:=(0<=t.2.1/\t.2.1<64)/\0<=t.2.2/\t.2.2<4096
def iB(h:Heap)(u:Value)(t:T3):Prop:=∃a o t1 t2 t3 n,u=.ref a/\h.get? a=some o/\o.cls=.type "tuple"/\o.data=.seq #[.int t.1 t1,.int t.2.1 t2,.int t.2.2 t3] n
def vW(H:Hp)(u:Value)(t:T3):Prop:=∃a,u=.ref a/\H a=some (.tup [.int t.1,.int t.2.1,.int t.2.2])
section
variable{pins:ee}{σ:St}{H:Hp}{s:Shared}
theorem Inv.trips(I:Inv X pins σ H s){us:eo}{c:List T3}(h:Paired (vW H) us c):Paired (iB s.heap) us c:=Paired.Bq h λu t ⟨a,e,h⟩=>by
 let⟨_,its,b,⟨o,d,hc,n,hd⟩⟩:=I.hok a _ h;cases b with
 |cons r1 b =>
  cases b with
  |cons r2 b =>
   cases b with
   |cons r3 b =>
    cases b;let⟨f,rfl⟩:=r1;let⟨t2,rfl⟩:=r2;let⟨g,rfl⟩:=r3;exact⟨a,o,f,t2,g,n,e,d,hc,hd⟩
end
section
variable{prog:Za}{w:Zb}{A:Zr}{E:d6}{s:Shared}
def Ky{x y:Value}{a b:T3}{Q:Bool->Shared->Prop}(t:iB s.heap x a)(u:iB s.heap y b)(m:iR a)(nb:iR b)(h:Q (decide (cJ a<cJ b)) s):wpAny (model prog w) A (keyLt' (XA true) x y) Q E s:=by
 let⟨p,o,F,t2,G,n,rfl,r,hc,hd⟩:=t;let⟨D,o',v,z,B,C,rfl,i,q,g⟩:=u;let⟨c,d,f⟩:=a;let⟨b1,b2,b3⟩:=b;unfold iR at m nb;simp only at m nb;refine W.kat_lt r hd i g ?_;refine W.kat_cons (Zm ?_);by_cases j:c=b1
 ·subst j;rw[d4];refine W.kat_yes (W.kat_cons (Zm ?_));by_cases k:d=b2
  ·subst k;rw[d4];refine W.kat_yes (W.kat_cons (Zm ?_));by_cases l:f=b3
   ·subst l;rw[d4];refine W.kat_yes (W.kat_nil ?_);have e:decide (cJ (c,d,f)<cJ (c,d,f))=false:=dC (Int.lt_irrefl _);rw[e]at h;exact h
   ·rw[beq_eq_false_iff_ne.mpr l];refine W.kat_no (W.kat_one _ _ (Z9 ?_));have e:decide (cJ (c,d,f)<cJ (c,d,b3))=decide (f<b3):=by
     apply decide_eq_decide.mpr;unfold cJ;simp only;lia
    rw[e]at h;exact h
  ·rw[beq_eq_false_iff_ne.mpr k];refine W.kat_no (W.kat_one _ _ (Z9 ?_));have e:decide (cJ (c,d,f)<cJ (c,b2,b3))=decide (d<b2):=by
    apply decide_eq_decide.mpr;unfold cJ;simp only;constructor <;> (intro h;lia)
   rw[e]at h;exact h
 ·rw[beq_eq_false_iff_ne.mpr j];refine W.kat_no (oneLt_int ?_);have e:decide (cJ (c,d,f)<cJ (b1,b2,b3))=decide (c<b1):=by
   apply decide_eq_decide.mpr;unfold cJ;simp only;constructor <;> (intro h;lia)
  rw[e]at h;exact h
theorem En:∀{us:eo}{d:List T3},Paired (iB s.heap) us d->∃fs,W.KatTups s.heap us fs/\⇑fs=⇑us/\∀v∈fs,∃i t,v=Value.int i t
 |_,_,.nil=>⟨[],.nil,rfl,λ_ h=>nomatch h⟩
 |_,_,.cons p q=>by
  let⟨a,o,c,t2,e,n,rfl,b,hc,hd⟩:=p;let⟨fs,k,hl,hv⟩:=En q;refine⟨_::fs,.cons b hc hd (f:=Value.int _ c) rfl k,by simp[hl],λv hv'=>?_⟩;rcases List.mem_cons.mp hv' with rfl|h
  ·exact⟨_,_,rfl⟩
  ·exact hv v h
def Rr{h:Heap}{u:Value}{t t':T3}(x:iB h u t)(y:iB h u t'):t=t':=by
 let⟨a,o,q,t2,r,n,e,i,hc,hd⟩:=x;let⟨m,o',j,k,l,p,f,c,g,b⟩:=y;rw[e]at f;cases f;rw[i]at c;cases c;rw[hd]at b;injection b with d _;have d:=dV Array.toList d;injection d with h1 h2;injection h2 with h2 h3;injection h3 with h3 _;injection h1 with h1 _;injection h2 with h2 _;injection h3 with h3 _;exact Prod.ext h1 (Prod.ext h2 h3)
open Classical in
def tkey(h:Heap)(p:Keyed):Int:=if hh:∃t,iB h p.1 t then cJ (Classical.choose hh)else 0
def vX{h:Heap}{p:Keyed}{t:T3}(x:iB h p.1 t):tkey h p=cJ t:=by
 unfold tkey;have hh:∃t,iB h p.1 t:=⟨t,x⟩
 rw[dif_pos hh,Rr (Classical.choose_spec hh) x]
def GZ{a₀:Array Keyed}(c:∀p∈a₀.toList,∃t,iB s.heap p.1 t/\iR t):Lts (model prog w) A E s (XA true) (·∈a₀.toList) (tkey s.heap):=λx y st Q mx my hk h=>by
 let⟨a,d,f⟩:=c x mx;let⟨b,e,nb⟩:=c y my;rw[vX d,vX e]at h;rw[lt'_eq];refine wpS_bind (UO ?_);rw[hk];exact wpS_bind (US (VU (Ky d e f nb ⟨rfl,UM h⟩)))
theorem u6{h:Heap}:∀{us:eo}{a:List T3}{its:eo},Paired (iB h) us a->⇑us=⇑its->(us.zip its).map (λp=>(tkey h p,p.2))=(a.map cJ).zip its
 |_,_,[],_,_=>by simp
 |_,_,_::_,.nil,e=>by cases e
 |_,_,_::its,.cons x t,e=>by
  rw[List.zip_cons_cons,List.map_cons,List.map_cons,List.zip_cons_cons,u6 t ↑e];rw[vX (p:=(_,_)) x]
theorem yR{h:Heap}:∀{us:eo}{a:List T3}{its:eo},Paired (iB h) us a->(∀t∈a,iR t)->∀p∈us.zip its,∃t,iB h p.1 t/\iR t
 |_,_,_,.nil,_,_,hp=>by simp at hp
 |_,_,[],.cons _ _,_,_,hp=>by simp at hp
 |_,_,_::_,.cons x t,n,p,hp=>by
  rw[List.zip_cons_cons]at hp;rcases List.mem_cons.mp hp with z|z
  ·rw[z];exact⟨_,x,n _ List.mem_cons_self⟩
  ·exact yR t (λt h=>n t (List.mem_cons_of_mem _ h)) p z
def Xy{h:Heap}{us its:eo}{c:List T3}{st:Array Keyed}(x:Paired (iB h) us c)(hl:⇑us=⇑its)(hp:st.toList.Perm (us.zip its))(hs:Seg (tkey h) st 0 st.size):UT false (c.map cJ) its (st.map (·.2)).toList:=by
 refine⟨st.toList.map λp=>(tkey h p,p.2),?_,?_,?_⟩
 ·rw[←u6 x hl];exact hp.map _
 ·rw[Array.toList_map,List.map_map];rfl
 ·rw[List.pairwise_map,List.pairwise_iff_getElem];intro i j hi e d;have a:j<st.size:=↑e
  have b:i<st.size:=()
  have q:=hs i j (Nat.zero_le _) () a;rw[Es b,Es a]at q;rw[dQ Bool.false_ne_true];simpa using q
end
section
variable{pins:ee}{σ:St}{H:Hp}{s:Shared}{A:Zr}{a kS:Addr}{its:eo}{vs:List V}{ts:List T3}{e e1:Nat}{P:PySem.Fin->Shared->Prop}{E:d6}{keys:el}
def Nz(I:Inv X pins σ H s)(Y:Mine X pins H a)(mk:Mine X pins H kS)(y:kS≠a)(hk:s.heap.get? kS=some (XZ "list" keys e))(ha:s.heap.get? a=some (XZ "list" #[] e1))(hi:Paired (iB s.heap) keys.toList ts)(p:∀t∈ts,iR t)(m:⇑ts=⇑its)(U:⇑its<=63)(h:∀h' tk out c,Inv X pins σ H { s with heap:=h',toks:=tk }->Gro X [a,kS] H s.heap H h'->h'.get? a=some (XZ "list" out c)->UT false (ts.map cJ) its out.toList->P (.done (.ret .none)) { s with heap:=h',toks:=tk }) :
  wpAny (model X.prog X.w) A (ksk_end a false its.toArray e1 (.ref kS) keys) P E s:=by
 have R:=Ym;have hsz:keys.size=⇑its:=by
  have:=⇑hi;rw[Array.length_toList]at this;lia
 have C:(keys.zip its.toArray).size=⇑its:=by
  rw[Array.size_zip,hsz,List.size_toArray];lia
 have k:∀st:XE,(XG st).Perm (keys.zip its.toArray)->Seg (tkey s.heap) (XG st) 0 (XG st).size->XI st=none->wpAny (model X.prog X.w) A (ksk_tail a false e1 (.ref kS) st) P E s:=λst hp hs q=>by
  have z:(XG st).size=⇑its:=hp.size_eq.trans C;have D:=Heap.SameBut.update s.heap kS (Obj.mapSeq λ_=>(#[]:el));have g:=(D.2 a y.symm).trans ha;have L:=Heap.SameBut.update (s.heap.update kS (Obj.mapSeq λ_=>(#[]:el))) a (Obj.mapSeq λ_=>(XG st).map (·.2));unfold ksk_tail;dsimp only;refine wpAny_bind (X1 hk rfl (wpAny_bind (UU ?_)) () (Nat.zero_le _));refine wpAny_bind (We g rfl (wpAny_bind (X1 g rfl ?_ (Nat.zero_le _) (by show((XG st).map (·.2)).size<=_;rw[Array.size_map];lia))));rw[q];simp only[bne_self_eq_false,Bool.false_eq_true,if_false];have V:∀b o,b≠kS->b≠a->s.heap.get? b=some o->((s.heap.update kS (Obj.mapSeq λ_=>(#[]:el))).update a (Obj.mapSeq λ_=>(XG st).map (·.2))).get? b=some o:=λb o n1 n2 e=>(L.2 b n2).trans ((D.2 b n1).trans e);have M:=I.Eb (t':=s.toks) mk λb o n e=>(D.2 b n).trans e;have N:=M.Eb (t':=s.toks) Y λb o n e=>(L.2 b n).trans e;obtain⟨c,hc⟩:∃c,((s.heap.update kS (Obj.mapSeq λ_=>(#[]:el))).update a (Obj.mapSeq λ_=>(XG st).map (·.2))).get? a=some (XZ "list" ((XG st).map (·.2)) c):=⟨_,X9 g λ_=>(XG st).map (·.2)⟩
  refine Z2 (h _ s.toks _ c N ⟨λ_ _ e=>e,λb o e n l f x=>⟨V b o (λz=>x ?_) (λz=>x ?_) e,n⟩⟩ hc (Xy hi (by have:=⇑hi;lia) (by have:=Array.perm_iff_toList_perm.mp hp;rwa [Array.toList_zip]at this) hs))
  ·rw[z];exact List.mem_cons_of_mem _ (List.mem_singleton.mpr rfl)
  ·rw[z];exact List.mem_cons_self
 unfold ksk_end;dsimp only;rw[dQ Bool.false_ne_true,dQ Bool.false_ne_true];by_cases h2:its.toArray.size<2
 ·rw[dP h2,dP h2];refine wpAny_bind (Z2 ?_);rw[StateT.run_pure];refine wpAny_bind (Z2 (k _ (Array.Perm.refl _) (λi j _ hij J=>?_) rfl));have J:j<(keys.zip its.toArray).size:=J;rw[List.size_toArray]at h2;have e:i=j:=()
  subst e;exact Int.le_refl _
 ·rw[dQ h2,dQ h2];rw[List.size_toArray]at h2;let⟨fs,B,u,r⟩:=En hi;have G:⇑fs=⇑its:=by rw[u,⇑hi,m]
  have F:keys=keys.toList.toArray:=rfl;rw[F];refine wpAny_bind (W.kat_kind (T:=.type "int") B () (λv hv=>by let⟨i,t,rfl⟩:=r v hv;exact W.Looks.of_pure rfl) rfl ?_);have O:XA (Value.type "int" != Value.type "tuple")=XA true:=rfl;rw[O,←F];refine wpAny_bind (ZG (Ag (a₀:=keys.zip its.toArray) (κ:=XA true) (st:=SortSt.mk' (XA true) (keys.zip its.toArray) #[] 7 none) (key:=tkey s.heap) (Q:=λ_ d=>(XG d).Perm (keys.zip its.toArray)/\XI d=none/\Seg (tkey s.heap) (XG d) 0 (XG d).size) (λt Q h=>VO h) (GZ (by rw[Array.toList_zip];exact yR hi p)) ⟨List.Perm.refl _,rfl,rfl⟩ rfl () () λd K S=>⟨Array.perm_iff_toList_perm.mpr K.perm,K.fail,by rw[K.size];exact S⟩) ?_ λ_ _ e=>e);rintro⟨⟨⟩,d⟩ Z ⟨rfl,hp,q,hs⟩;exact k d hp hs q
theorem qu{α β:Type}{F:α->β->Prop}{x:α}{y:β}:∀{xs:List α}{ys:List β},Paired F xs ys->F x y->Paired F (xs++[x]) (ys++[y])
 |_,_,.nil,h=>.cons h .nil
 |_,_,.cons a t,h=>.cons a (qu t h)
def I9{f:Value}(Z:Vals vs its)(I:Inv X pins σ H s)(ma:Mine X pins H a)(mk:Mine X pins H kS)(B:kS≠a)(hk:s.heap.get? kS=some (XZ "list" #[] 0))(ha:s.heap.get? a=some (XZ "list" #[] e1))(W:⇑ts=⇑vs)(G:∀t∈ts,iR t)(h64:⇑vs<=63)(J:∀(i:Nat)(v:V)(u:Value)(k:T3)(N:Hp)(M:Shared),vs[i]?=some v->ts[i]?=some k->RelV v u->Inv X pins σ N M->Gro X [a,kS] H s.heap N M.heap->wpAny (model X.prog X.w) A (Z6 f [u]) (λr s2=>∃H2,vW H2 r k/\Inv X pins σ H2 s2/\Gro X [] N M.heap H2 s2.heap) (λ_ _=>False) M)(h:∀H2 s2 out c,Inv X pins σ H2 s2->Gro X [a,kS] H s.heap H2 s2.heap->Mine X pins H2 a->s2.heap.get? a=some (XZ "list" out c)->UT false (ts.map cJ) its out.toList->P (.done (.ret .none)) s2) :
  wpAny (model X.prog X.w) A (UV a f false its.toArray e1 (.ref kS)) P E s:=by
 have hl2:⇑its=⇑vs:=Z.length.symm;unfold UV;refine wpAny_bind (VO ?_);rw[List.forIn_toArray];refine wpAny_bind (ksk_fold (λi q=>∃H' g e,Inv X pins σ H' q/\Gro X [a,kS] H s.heap H' q.heap/\Mine X pins H' a/\Mine X pins H' kS/\q.heap.get? kS=some (XZ "list" g e)/\q.heap.get? a=some (XZ "list" #[] e1)/\Paired (vW H') g.toList (ts.take i)) its 0 s ⟨H,#[],0,I,Gro.refl,ma,mk,hk,ha,↑Paired.nil⟩ ?step ?done)
 case step =>
  rintro j x q Y ⟨H',g,e,K,g',l,p,d,m,hi⟩;simp only[Nat.zero_add]at hi ⊢;have hj:j<⇑its:=(List.getElem?_eq_some_iff.mp Y).1;have C:ts[j]?=some ts[j]:=List.getElem?_eq_getElem ();have D:vs[j]?=some vs[j]:=List.getElem?_eq_getElem ();let⟨x',U,rx⟩:=Z.get D;rw[Y]at U;cases U;have hz:g.size<=63:=by
   have h1:=⇑hi;rw[Array.length_toList,List.length_take]at h1;lia
  have h24:=Ym;refine wpAny_bind (VU (ZG (J j _ x _ H' q D C rx K g') (λr s2 he=>?_) λ_ _ hF=>hF.elim));let⟨H2,tr,I2,L⟩:=he;dsimp only;let⟨S,O⟩:=L.mine l m;let⟨F,y⟩:=L.mine p d;have T:=Heap.SameBut.update s2.heap kS (Obj.mapSeq (·.push r));have R:=X9 y (·.push r);refine wpAny_bind (X1 y rfl ?_ () (Nat.le_trans (Nat.le_of_eq (Array.size_push ..)) ()));refine Z2 ⟨rfl,H2,g.push r,_,I2.Eb (t':=s2.toks) F (λb o n e=>(T.2 b n).trans e),((g'.trans (L.more λb z=>nomatch z)).own (.inr rfl) λb o n e=>(T.2 b n).trans e),S,F,R,(T.2 a B.symm).trans O,?_⟩;have ek:ts.take (j+1)=ts.take j++[ts[j]]:=by rw[List.take_add_one,C];rfl
  have ea:(g.push r).toList=g.toList++[r]:=by simp
  rw[ea,ek];exact qu (Paired.Bq hi λu t ⟨b,e1,e2⟩=>⟨b,e1,L.sm b _ e2⟩) tr
 case done =>
  rintro q ⟨H',g,e,K,g',l,p,d,m,hi⟩;have Q:Paired (vW H') g.toList ts:=by
   have e3:ts.take (0+⇑its)=ts:=List.take_of_length_le ();rw[e3]at hi;exact hi
  refine wpAny_bind (X0 d rfl ?_);exact Nz K l p B d m (K.trips Q) G () () λh' tk out c I3 g3 h3 k3=>h H' _ out c I3 (g'.trans g3) l h3 k3
def IW{f:Value}{n:Nat}(J:Vals vs its)(I:Inv X pins σ H s)(G:Mine X pins H a)(ha:s.heap.get? a=some (XZ "list" its.toArray n))(m:⇑ts=⇑vs)(p:∀t∈ts,iR t)(y:⇑vs<=63)(q:∀(kS:Addr)(i:Nat)(v:V)(u:Value)(k:T3)(g:Hp)(d:Shared),↥s<=kS->vs[i]?=some v->ts[i]?=some k->RelV v u->Inv X pins σ g d->Gro X [a,kS] H s.heap g d.heap->wpAny (model X.prog X.w) A (Z6 f [u]) (λr s2=>∃H2,vW H2 r k/\Inv X pins σ H2 s2/\Gro X [] g d.heap H2 s2.heap) (λ_ _=>False) d)(h:∀kS H2 s2 out c,↥s<=kS->Inv X pins σ H2 s2->Gro X [a,kS] H s.heap H2 s2.heap->Mine X pins H2 a->s2.heap.get? a=some (XZ "list" out c)->UT false (ts.map cJ) its out.toList->P (.done (.ret .none)) s2) :
  wpAny (model X.prog X.w) A (ksk_tree a f false) P E s:=by
 have M:⇑its=⇑vs:=J.length.symm;have L:=Ym;have N:=Heap.SameBut.update s.heap a (Obj.mapSeq λ_=>(#[]:el));have j:=X9 ha λ_=>(#[]:el)
 have hsz:(s.heap.update a (Obj.mapSeq λ_=>(#[]:el))).objs.size=↥s:=Heap.size_update ..;have C:a<↥s:=Heap.lt_size ha;unfold ksk_tree;refine wpAny_bind (X0 ha rfl ?_);refine wpAny_bind (X1 ha rfl ?_ (by rw[List.size_toArray];lia) (Nat.zero_le _));refine wpAny_bind (We j rfl ?_);refine wpAny_bind (Wl ?_ (by show ⇑its<=_;lia));refine wpAny_bind (Wp ?_ (Nat.zero_le _));refine ZW ?_;have l:((s.heap.update a (Obj.mapSeq λ_=>(#[]:el))).push (XZ "tuple" its.toArray 0)).objs.size=↥s+1:=by rw[WA,hsz]
 have F:∀b o,b≠a->s.heap.get? b=some o->(((s.heap.update a (Obj.mapSeq λ_=>(#[]:el))).push (XZ "tuple" its.toArray 0)).push (XZ "list" #[] 0)).get? b=some o:=λb o n e=>je (je ((N.2 b n).trans e));have K:Inv X pins σ H { s with heap:=((s.heap.update a (Obj.mapSeq λ_=>(#[]:el))).push (XZ "tuple" its.toArray 0)).push (XZ "list" #[] 0)}:=I.Eb (t':=s.toks) G F;have mk:Mine X pins H (↥s+1):=I.mine (Nat.le_succ _);have B:(((s.heap.update a (Obj.mapSeq λ_=>(#[]:el))).push (XZ "tuple" its.toArray 0)).push (XZ "list" #[] 0)).get? (↥s+1)=some (XZ "list" #[] 0):=by
  rw[←l];exact Heap.get?_push_size _ rfl
 have D:∀kS,Gro X [a,kS] H s.heap H (((s.heap.update a (Obj.mapSeq λ_=>(#[]:el))).push (XZ "tuple" its.toArray 0)).push (XZ "list" #[] 0)):=λkS=>⟨λ_ _ e=>e,λb o e n _ _ x=>⟨F b o (λz=>x (by rw[z];exact List.mem_cons_self)) e,n⟩⟩
 show wpAny (model X.prog X.w) A (UV a f false its.toArray _ (.ref ((s.heap.update a (Obj.mapSeq λ_=>(#[]:el))).push (XZ "tuple" its.toArray 0)).objs.size)) P E { s with heap:=((s.heap.update a (Obj.mapSeq λ_=>(#[]:el))).push (XZ "tuple" its.toArray 0)).push (XZ "list" #[] 0)};rw[l];exact I9 J K G mk (Nat.ne_of_gt (Nat.lt_succ_of_lt C)) B (je (je j)) m p y (λi v u k g d a1 a2 a3 a4 a5=>q _ i v u k g d (Nat.le_succ _) a1 a2 a3 a4 ((D _).trans a5)) λH2 s2 out c a1 a2 a3 a4 a5=>h _ H2 s2 out c (Nat.le_succ _) a1 ((D _).trans a2) a3 a4 a5
def Aw{l:Addr}{f:Addr}{Q:d6}(G:Vals vs its)(I:Inv X pins σ H s)(hl:s.heap.IsList l its.toArray)(q:⇑ts=⇑vs)(y:∀t∈ts,iR t)(B:⇑vs<=63)(z:∀(d:List Addr)(i:Nat)(v:V)(u:Value)(k:T3)(j:Hp)(g:Shared),(∀b∈d,↥s<=b)->vs[i]?=some v->ts[i]?=some k->RelV v u->Inv X pins σ j g->Gro X d H s.heap j g.heap->wpAny (model X.prog X.w) A.in1.in1 (Z6 (.ref f) [u]) (λr s2=>∃H2,vW H2 r k/\Inv X pins σ H2 s2/\Gro X [] j g.heap H2 s2.heap) (λ_ _=>False) g)(h:∀d a H2 s2 out c,(∀b∈d,↥s<=b)->↥s<=a->Inv X pins σ H2 s2->Gro X d H s.heap H2 s2.heap->Mine X pins H2 a->s2.heap.get? a=some (XZ "list" out c)->UT false (ts.map cJ) its out.toList->Q (.ref a) s2) :
  wpAny (model X.prog X.w) A (Z6 (.builtin "sorted") [.ref l] [(Str.ofString "key",.ref f)]) Q E s:=by
 have L:⇑its=⇑vs:=G.length.symm;have K:=Ym;refine call_function_entry_kw WI WN WO (ksk_s1 _ _) ?_;unfold Builtin.«sorted»;refine wpAny_bind (m:=WP "sorted" 1 1 _) (Z2 ?_);refine wpAny_bind (collect_list hl ?_ ());refine wpAny_bind (Wp ?_ ());have hsz:((s.heap.push (XZ "list" #[] 0)).update ↥s (Obj.mapSeq (·++its.toArray))).objs.size=↥s+1:=by rw[Heap.size_update,WA]
 have ha:(((s.heap.push (XZ "list" #[] 0)).update ↥s (Obj.mapSeq (·++its.toArray))).push (XZ "list" its.toArray 0)).get? (↥s+1)=some (XZ "list" its.toArray 0):=by
  rw[←hsz];exact Heap.get?_push_size _ rfl
 have F:∀b o,s.heap.get? b=some o->(((s.heap.push (XZ "list" #[] 0)).update ↥s (Obj.mapSeq (·++its.toArray))).push (XZ "list" its.toArray 0)).get? b=some o:=λb o e=>by
  have C:b<↥s:=Heap.lt_size e;refine je ?_;rw[Heap.get?_update_ne _ _ _ _ (Nat.ne_of_lt C)];exact je e
 have J:Inv X pins σ H { s with heap:=((s.heap.push (XZ "list" #[] 0)).update ↥s (Obj.mapSeq (·++its.toArray))).push (XZ "list" its.toArray 0)}:=I.kept (t':=s.toks) F;have M:Mine X pins H (↥s+1):=I.mine (Nat.le_succ _);have D:∀d,Gro X d H s.heap H (((s.heap.push (XZ "list" #[] 0)).update ↥s (Obj.mapSeq (·++its.toArray))).push (XZ "list" its.toArray 0)):=λd=>⟨λ_ _ e=>e,λb o e n _ _ _=>⟨F b o e,n⟩⟩
 have x:↥s<=(((s.heap.push (XZ "list" #[] 0)).update ↥s (Obj.mapSeq (·++its.toArray))).push (XZ "list" its.toArray 0)).objs.size:=by rw[WA,hsz];lia
 show wpAny _ _ _ _ _ { s with heap:=((s.heap.push (XZ "list" #[] 0)).update ↥s (Obj.mapSeq (·++its.toArray))).push (XZ "list" its.toArray 0)};rw[hsz];have p:∀kS,↥s<=kS->∀b∈[↥s+1,kS],↥s<=b:=λkS hk b hb=>by
  rcases List.mem_cons.mp hb with rfl|hb
  ·exact Nat.le_succ _
  ·rw[List.mem_singleton.mp hb];exact hk
 refine wpAny_bind (ZW (wpAny_call_entry_kw WS ⟨_,ha,rfl⟩ WU ?body (ksk_l1 _ _)))
 case body =>
  show wpAny (model X.prog X.w) A.in1.in1 (Builtin.«list.sort» ⟨[.ref (↥s+1)],[(Str.ofString "key",.ref f)]⟩) _ _ _;rw[ksk_t1];exact IW G J M ha q y B (λkS i v u k j g a0 a1 a2 a3 a4 a5=>z _ i v u k j g (p kS (Nat.le_trans x a0)) a1 a2 a3 a4 ((D _).trans a5)) λkS H2 s2 out c a0 a1 a2 a3 a4 a5=>⟨_,rfl,Z2 ⟨_,rfl,h _ _ H2 s2 out c (p kS (Nat.le_trans x a0)) (Nat.le_succ _) a1 ((D _).trans a2) a3 a4 a5⟩⟩
end
def vd(K:W.Frag)(N:List Str)(P:Addr)(c:Pos)(qual:Str)(ys:List Str)(spL:List V->Addr->Sp)(d:TE):TE:=λσ H Q=>d σ H λv H1=>uK P c qual H1 /\
 ∃(l:Addr)(vs:List V)(ts:List T3)(cvs:List V),v=.ref l/\SqL K H1 l vs/\(∀t∈ts,iR t)/\⇑ts=⇑vs/\⇑vs<=63/\⇑cvs=⇑ys/\(∀(j:Nat)(y:Str)(v:V),ys[j]?=some y->cvs[j]?=some v->∃i:Nat,N[i]?=some y/\σ[i]?=some (some v)) /\
  ∀c' H2,uK P c qual H2->uM H2 c' qual->(∀b o,H1 b=some o->b≠P->H2 b=some o) ->
   (∀(i:Nat)(v:V)(k:T3)(H3:Hp),vs[i]?=some v->ts[i]?=some k->(∀b o,H2 b=some o->H3 b=some o)->spL cvs c' [v] H3 (λr H4=>(∃a,r=.ref a/\H4 a=some (.tup [.int k.1,.int k.2.1,.int k.2.2]))/\∀b o,H3 b=some o->H4 b=some o) E0) /\
   ∀(a:Addr)(ps:List (Int×V))(H3:Hp),ps.Perm ((ts.map cJ).zip vs)->ps.Pairwise (λp q=>p.1<=q.1)->H3 a=none->(∀b o,H2 b=some o->H3 b=some o)->Q (.ref a) (upd H3 a (.lst (ps.map (·.2))))
section
variable{k:Nat}{c P:Addr}{ps ys:List Str}{spL:List V->Addr->Sp}{p pos lpos kp:Pos}{e:Zt}{te:TE}{qual:Str}{params:YA}{body:Zt}{scope:Zs}{cl:List (Str×Addr)}
def yu(FL:∀(cvs:List V)(j:Heap)(f E:Addr)(pm q:Value),⇑cvs=⇑ys->j.get? f=some (W.kla_obj "<lambda>" qual params body scope cl pm E q)->Caps j cl ys cvs->∃fd,FnOk X.prog X.w X.K X.mg j CX0 k f fd ps (spL cvs E)/\Binds X.K fd ps [])(hr:Room k X.A.in1.in1)(hg:Gl X "sorted")(hm:X.mg "sorted"=none)(ha:PE X e te)(B:X.env.qual++"<lambda>"=qual)(F:defaultsOf params X.env=([],[]))(S:YY scope X.env=pure cl)(t:X.env.code=.ref c)(hC:X.K.In X.fw->W.CodeHd X.fw c P)(hB:X.K.In X.fw->X.fw.BuiltinsAt X.mg P)(T:∀x,X.fn x=true)(L:∀x c,cl.lookup x=some c->X.env.cells.lookup x=some c)(hys:∀y∈ys,X.env.scope.names.lookup y=some .cell/\∃c,cl.lookup y=some c)(he:zS X e []:=by rfl) :
  PE X (.Call (.Name "sorted" p) [e] [⟨some "key",.Lambda params body scope lpos,kp⟩] pos) (vd X.K X.N P lpos qual ys spL te):=by
 intro M s σ H Q I h;have hv:Zq "sorted"=some (.builtin "sorted"):=UH;refine wpAny_Call_Name_kw (kI I hg hm hv ?_ ∅ ∅);refine callWith_kw ?_ (by rw[he];rfl) (by rw[he];rfl);rw[he];show wpAny _ _ (spliced [(false,Zv e X.env)]) _ _ s;refine Calls.spliced_cons (thn (ha M s σ H _ I h) λu s1 ⟨v,H1,I1,r1,T1,l,vs,ts,cvs,ev,hl,nice,hlen,h64,cl1,hcv,q1⟩=>Calls.spliced_nil ?_);subst ev;cases r1;refine kws_cons (GR I1 B F S t hC hB T1 λf E q pm s2 H2 J T2 kn fn hfo nfs kp kb=>kws_nil ?_);have Q2:=q1 E H2 T2 kn kp;have fL:f≠X.env.locals:=λz=>by
  let⟨m,⟨o,es,ep,O,hd,_⟩,_⟩:=J.loc;rw[←z,hfo]at O;cases O;cases hd
 have U:f<↥s2:=Heap.lt_size hfo;have Z:SqL X.K H2 l vs:=by
  let⟨ps,hP,_⟩:=T1;rcases hl with(hl|⟨o,hl⟩)|hl
  ·exact .inl (.inl (kp l _ hl λz=>by rw[z,hP]at hl;cases hl))
  ·exact .inl (.inr ⟨o,kp l _ hl λz=>by rw[z,hP]at hl;cases hl⟩)
  ·exact .inr hl
 let⟨its,rv,pl,hz⟩:=J.list Z;refine Aw rv J pl.isList hlen nice h64 (λex i v u k H3 s3 hex hv hk ru J3 g=>?_) λex a H3 s3 out c hex ha J3 g ma O ko=>?_
 ·let⟨ho3,n3⟩:=g.kp f _ hfo fn fL nfs λz=>dS (hex f z) (Nat.not_le.mpr U);let⟨e0,lkf,C⟩:=Pj J3 ho3 n3 nfs T L hys cl1 hcv;let⟨fd,FF,hb⟩:=FL cvs _ f E pm q cl1 lkf C;have G:=Q2.1 i v k H3 hv hk g.sm;have Y:[u].length=⇑ps:=FF.len _ _ _ _ G;refine Yv (Yw (FF.run X.A.in1.in1 X.stack s3 H3 ⟨[u],[]⟩ [u] [v] _ E0 hr e0.in1.in1 ?_ (.cons ru .nil) G) λr s' B=>?_)
  ·have:=hb s3 [u] J3.kIn (by rw[List.append_nil];exact Y);rw[List.append_nil]at this;exact this
  ·cases r with
   |error e=>exact B.elim
   |ok fl =>
    cases fl with
    |ret u =>
     let⟨v',H4,os,D,un,hok,rv',R,sm⟩:=B;let⟨a,rfl,R⟩:=R;obtain rfl:u=Value.ref a:=rv';let⟨hh,g',d,t',os'⟩:=s';obtain rfl:os'=s3.os:=os;exact⟨H4,⟨a,rfl,R⟩,J3.call (h':=hh) (g':=g') (d':=d) (t':=t') (ch:=[]) un hok D (λb z=>dS z (by simp)),⟨sm,λb o e n _ nf _=>⟨un.keep b o e n nf (by simp),un.free b o e n (by simp)⟩⟩⟩
    |next=>exact False.elim B
    |brk=>exact False.elim B
    |cont=>exact False.elim B
 ·let⟨qs,p1,p2,p3⟩:=RN rv ko;have hz2:⇑(qs.map (·.2))<=sizeLine:=by
   have:=p1.length_eq;rw[List.length_zip]at this;rw[List.length_map];lia
  exact⟨.ref a,_,J3.Rv ma p3 hz2 O,rfl,Q2.2 a qs H3 p1 p2 ma.h0 g.sm⟩
end
end L2
namespace Dl
open L2
def RK(qual:Str)(c:D->T3->Prop):List V->Addr->Sp:=λcvs c' vs H Q _=>uM H c' qual/\∃(v1:V)(dx:D)(k:T3),cvs=[]/\vs=[v1]/\Rp (λ_=>True) H v1 dx/\c dx k/\∀a H',(∀b o,H b=some o->H' b=some o)->H' a=some (.tup [.int k.1,.int k.2.1,.int k.2.2])->Q (.ref a) H'
def Vn(a:D->T3->Prop)(b:DE):DE:=λρ P=>b ρ λk d=>∃(ds:ez)(ts:List T3),d=.list ds/\(∀t∈ts,iR t)/\⇑ts=⇑ds/\⇑ds<=63 /\
 (∀(j:Nat)(x:D)(c:T3),ds[j]?=some x->ts[j]?=some c->a x c)/\∀ps:List (Int×D),ps.Perm ((ts.map cJ).zip ds)->ps.Pairwise (λp q=>p.1<=q.1)->P (if cH ds=true then .new else k.join .new) (.list (ps.map (·.2)))
section
variable{K:W.Frag}{N:List Str}{P:Addr}{lpos:Pos}{qual:Str}{gk:D->T3->Prop}{te:DE}
theorem lV:∀{ds:ez},(∀d∈ds,eV d=true)->cH ds=true
 |[],_=>rfl
 |d::ds,h=>by simp only[cH,h d List.mem_cons_self,lV λe he=>h e (List.mem_cons_of_mem _ he),Bool.and_self]
theorem vV:∀{ds:ez},cH ds=true->∀d∈ds,eV d=true
 |d::ds,h,e,he=>by
  simp only[cH,Bool.and_eq_true]at h;rcases List.mem_cons.mp he with rfl|he
  ·exact h.1
  ·exact vV h.2 e he
def KH:∀σ H Q,@bJ (grU (yp P lpos qual)) (Vn gk te) σ H Q->vd K N P lpos qual [] (RK qual gk) (@bJ (grU (yp P lpos qual)) te) σ H Q:=by
 letI:=grU (yp P lpos qual);rintro σ H Q ⟨q,H0,own,ρ,P',E,t,V⟩;have M:q=yp P lpos qual:=E.gr;subst M;refine⟨_,H0,own,ρ,_,E,t,λk d v H1 hd A r=>?_⟩;let⟨ds,J,rfl,h,D,O,hk,R⟩:=hd;let⟨c,vs,rfl,o,hc,w⟩:=r.dh;have y:uK P lpos qual H1:=A.pen;have i:∀{H:Hp},uK P lpos qual H->∀a xs,H a=some (.tup xs)->a≠P:=λ{H} T a xs e z=>by
  let⟨ps,hp,_⟩:=T;rw[z,hp]at e;cases e
 have X:=⇑w;refine⟨y,c,vs,J,[],rfl,SqL.of hc,h,(),(),rfl,(λj y' v h1 h2=>by simp at h1),λc' H2 T2 kn kp=>⟨λj v k' H3 hv hkz sm=>?_,λa ps H3 hp hw fr sm=>?_⟩⟩
 ·let⟨x,φ,W,L⟩:=kn;have C:j<⇑ds:=by rw[←X];exact(List.getElem?_eq_some_iff.mp hv).1
  let⟨v1,B,Z⟩:=w.getD (List.getElem?_eq_getElem C);rw[hv]at B;cases B;refine⟨⟨x,φ,sm _ _ W,L⟩,v,ds[j],k',rfl,rfl,?_,hk j _ _ (List.getElem?_eq_getElem C) hkz,λa H' sm' h'=>⟨⟨a,rfl,h'⟩,sm'⟩⟩;exact Z.mono (λ_ _=>trivial) (λa o n e=>sm _ _ (kp _ _ e (jt A n))) λa xs e=>sm _ _ (kp _ _ e (i y a xs e))
 ·have g:Kp (yp P lpos qual) H1 H3:=λb o e n=>sm _ _ (kp _ _ e n);have U:(yp P lpos qual).PI H3:=(yp P lpos qual).mono H2 H3 T2 λb o _ e=>sm b o e;have f:=A.go g U;let⟨s,S,F⟩:=f.new fr (.lst (ps.map (·.2)));let⟨u,G,Y⟩:=Paired.perm hp.symm (CW (kz:=J.map cJ) (cU A g w));let⟨e,I⟩:=sJ Y;have l:u.Pairwise (λp q=>p.1<=q.1):=by
   have h1:(ps.map (·.1)).Pairwise (·<=·):=by rw[List.pairwise_map];exact hw
   rw[←e,List.pairwise_map]at h1;exact h1
  have j:=dM k .new;refine V _ _ _ _ (R u G l) (f.go s S) ?_;by_cases im:cH ds=true
  ·rw[dP im];have m:cH (u.map (·.2))=true:=lV λd hd=>by
    let⟨p,hp,rfl⟩:=List.mem_map.mp hd;exact vV im p.2 (List.of_mem_zip (G.mem_iff.mp hp)).2
   exact .lst F aB (((cU f s I).imm m).mono (λ_ o=>o.elim) (λ_ _ o=>o.elim) λ_ _ e=>e)
  ·rw[dQ im];exact .lst (dH f j.2 F) aB ((cU f s I).mono (λa o=>dH f j.1 o) (λ_ _ _ e=>e) λ_ _ e=>e)
end
variable [Gr]
variable{X:Cx}{st:ZF}{te tj:DE}
end Dl
namespace Wr
open L2 Dl
variable [Gr] {X:Cx}
end Wr
namespace Dl
open L2
variable{X:Cx}
variable [Gr]
section
variable{st:ZF}{te tj:DE}
end
section
variable{pos:Pos}{a:Zt}{t:DA}
end
end Dl
namespace Wr
open L2 Dl
variable [Gr] {X:Cx}
end Wr
namespace L2
open PySem.Spec HT
def stepI(n:Nat):ei:=sliceRange (YR (some 1) none (some 2) n).1 (YR (some 1) none (some 2) n).2.1 (YR (some 1) none (some 2) n).2.2
def dW{α:Type}(xs:List α):List α:=(stepI ⇑xs).filterMap λi=>xs[i]?
theorem jT{α β:Type}{F:α->β->Prop}{xs:List α}{ys:List β}(h:∀(i:Nat),(∃x y,xs[i]?=some x/\ys[i]?=some y/\F x y)\/(xs[i]?=none/\ys[i]?=none)):∀l:ei,Paired F (l.filterMap λi=>xs[i]?) (l.filterMap λi=>ys[i]?)
 |[]=>.nil
 |i::l=>by
  rcases h i with⟨x,y,a,b,f⟩|⟨a,b⟩
  ·rw[List.filterMap_cons,a,List.filterMap_cons,b];exact .cons f (jT h l)
  ·rw[List.filterMap_cons,a,List.filterMap_cons,b];exact jT h l
def Vals.pick{xs:List V}{us:eo}(r:Vals xs us):Vals (dW xs) (dW us):=by
 unfold dW;rw[⇑r];refine jT (λi=>?_) _;cases e:xs[i]? with
 |none=>exact .inr ⟨rfl,Vals.none_of r e⟩
 |some x =>
  let⟨u,hu,f⟩:=r.get e;exact .inl ⟨x,u,rfl,hu,f⟩
section
variable{X:Cx}{e:Zt}{te:TE}{p1 p2 p3 pos:Pos}{n1 n2:Nat}
def Vl(K:W.Frag)(te:TE):TE:=λσ H Q=>te σ H λx H1=>∃a xs,x=.ref a/\SqL K H1 a xs/\⇑(dW xs)<=sizeLine/\∀p,H1 p=none->Q (.ref p) (upd H1 p (.lst (dW xs)))
def Ol(he:PE X e te):PE X (.Subscript e (.Slice (some (.Constant (.int 1) n1 p1)) none (some (.Constant (.int 2) n2 p2)) p3) pos) (Vl X.K te):=by
 intro c s σ H Q I h;refine YM (thn (he c s σ H _ I h) λv s1 ⟨x,H1,I1,r1,a,xs,ex,hx,hz2,q⟩=>?_);subst ex;cases r1;refine wpAny_Slice ?_;rw[YL,YK,YL];refine ZI ?_;refine Z2 ?_;refine ZI ?_;have g:Inv X c σ H1 { s1 with toks:=s1.toks+1+1 }:=I1.tok _;have f:Inv X c σ H1 { s1 with heap:=s1.heap.push { cls:=.type "slice",data:=.fields #[.int 1 s1.toks,.none,.int 2 (s1.toks+1)]},toks:=s1.toks+1+1 }:=g.kept λb ob q=>Heap.get?_push_of_some _ q;let⟨its,r,ht,j⟩:=f.list hx;have d:its.toArray.size=⇑xs:=by rw[List.size_toArray];exact r.length.symm
 show wpAny (model X.prog X.w) X.A (YN e _ (.ref a) (.ref ↥s1)) (EP X c σ Q) X.xe { s1 with heap:=s1.heap.push { cls:=.type "slice",data:=.fields #[.int 1 s1.toks,.none,.int 2 (s1.toks+1)]},toks:=s1.toks+1+1 };refine tail_any (ops:=[.ref a,.ref ↥s1]) ht.isList.typeIs slot_list_getitem.lookup ?_ (by with_unfolding_all rfl);refine YT ht.isList (Heap.IsSliceOf.new ..) (.int 1 _) .none (.int 2 _) (by simp) ?_ (by rw[d];exact j);have ep:YS its.toArray (some 1) none (some 2)=(dW its).toArray:=by
  unfold YS dW stepI;rw[List.size_toArray];congr 1;refine congrFun (dV _ (funext λi=>?_)) _;simp
 rw[ep];refine⟨.ref _,_,f.laid (t':=s1.toks+1+1) (o:=.lst (dW xs)) (λb ob q=>Heap.get?_push_of_some _ q) (Nat.le_refl _) ?_,rfl,q _ (f.hok.fresh (Nat.le_refl _))⟩;exact⟨hz2,dW its,0,r.pick,Heap.get?_push_size _ rfl⟩
end
end L2
namespace Dl
open L2
def Rps.pick{ok:Addr->Prop}{H:Hp}{vs:List V}{ds:ez}(r:Rps ok H vs ds):Rps ok H (dW vs) (dW ds):=by
 unfold dW;rw[⇑r];have:∀l:ei,Rps ok H (l.filterMap λi=>vs[i]?) (l.filterMap λi=>ds[i]?):=λl=>by
  induction l with
  |nil=>exact .nil
  |cons i l ih =>
   cases e:vs[i]? with
   |none =>
    have a:ds[i]?=none:=by
     rw[List.getElem?_eq_none_iff]at e ⊢;rw[←⇑r];exact e
    rw[List.filterMap_cons,e,List.filterMap_cons,a];exact ih
   |some v =>
    let⟨d,hd,b⟩:=r.get e;rw[List.filterMap_cons,e,List.filterMap_cons,hd];exact .cons b ih
 exact this _
variable [Gr] {X:Cx}{e:Zt}{te:DE}{p1 p2 p3 pos:Pos}{n1 n2:Nat}
def Vk(te:DE):DE:=λρ P=>te ρ λk d=>match d with
 |.list ds=>⇑(dW ds)<=1000/\newP k (dW ds) λk'=>P k' (.list (dW ds))
 |_=>False
theorem wB(he:PD X e te):PD X (.Subscript e (.Slice (some (.Constant (.int 1) n1 p1)) none (some (.Constant (.int 2) n2 p2)) p3) pos) (Vk te):=PE.wk (Ol he) (by
 rintro σ H Q ⟨p,H0,own,ρ,P,E,t,q⟩;refine⟨p,H0,own,ρ,_,E,t,λk d v H1 h A r=>?_⟩;cases d with
 |list ds =>
  let⟨x,xs,g,o,h1,f⟩:=Rp.dh r;subst g;have i:=Ym;refine⟨x,xs,rfl,SqL.of h1,by have:=⇑f.pick;lia,λl hl=>?_⟩;let⟨c,j,m⟩:=A.new hl (.lst (dW xs));let⟨n,a,b⟩:=oh A (cU A c f.pick) m aB h.2;exact q _ _ _ _ a (A.go c j) b
 |_=>exact h.elim)
end Dl
namespace Wr
open L2 Dl
def wB[Gr]{X:Cx}{e:Zt}{a:DE}{d f g pos:Pos}{b c:Nat}(he:WD X e a):WD X (.Subscript e (.Slice (some (.Constant (.int 1) b d)) none (some (.Constant (.int 2) c f)) g) pos) (Vk a):=⟨Dl.wB he.h⟩
end Wr
namespace L2
open PySem.Spec
def U8(K:W.Frag)(a b:Addr):It :=
 ⟨λi H=>∃xs ys x y,SqL K H a xs/\SqL K H b ys/\xs[i]?=some x/\ys[i]?=some y,λi H v H'=>∃t x y,v=.ref t/\H t=none/\H'=upd H t (.tup [x,y])/\(∀xs,SqL K H a xs->xs[i]?=some x)/\∀ys,SqL K H b ys->ys[i]?=some y,λi H=>∃xs ys,SqL K H a xs/\SqL K H b ys/\(⇑xs<=i\/⇑ys<=i)⟩
def Im{P:Za}{w:Zb}{K:W.Frag}{elts:List Zt}{kk:Nat}{pos:Pos}{a b z TI TO i1 i2:Addr}(D:UX z TI TO i1 i2 a b) :
  Turn P w K (.Tuple elts kk pos) (U8 K a b) [z,TI,TO,i1,i2] z (λi h=>IsZip h z TI TO .none/\IsPair h TI (.ref i1) (.ref i2)/\(∃u v,IsPair h TO u v)/\h.IsListIter i1 a i/\h.IsListIter i2 b i) where
 mem:=by simp
 obj:=λi h st c hc=>by
  let⟨hz,hTI,⟨u,v,hTO⟩,⟨o1,j1,c1,d1⟩,⟨o2,j2,c2,d2⟩⟩:=st;simp only[List.mem_cons,List.not_mem_nil,or_false]at hc;rcases hc with rfl|rfl|rfl|rfl|rfl
  ·exact⟨_,hz,λv z=>nomatch z⟩
  ·exact⟨_,hTI,λv z=>nomatch z⟩
  ·exact⟨_,hTO,λv z=>nomatch z⟩
  ·exact⟨o1,j1,λv z=>by rw[d1]at z;cases z⟩
  ·exact⟨o2,j2,λv z=>by rw[d2]at z;cases z⟩
 keep:=λi h h' st k=>by
  let⟨hz,hTI,⟨u,v,hTO⟩,⟨o1,j1,r1⟩,⟨o2,j2,r2⟩⟩:=st;exact⟨k z (by simp) _ hz,k TI (by simp) _ hTI,⟨u,v,k TO (by simp) _ hTO⟩,⟨o1,k i1 (by simp) _ j1,r1⟩,⟨o2,k i2 (by simp) _ j2,r2⟩⟩
 item:=by
  intro X hP hw hK hc i pins s σ H E I hf st hg;subst hP hw hK;let⟨xs,ys,x,y,hq,hq2,hx,hy⟩:=hg;let⟨its,rv,pl,hz1⟩:=I.list hq;let⟨its2,rv2,pl2,hz2⟩:=I.list hq2;let⟨u,hu,ru⟩:=rv.get hx;let⟨u2,hu2,ru2⟩:=rv2.get hy;let⟨hz,hTI,hTO,h1,h2⟩:=st;have W:=WalksT.zip2 (prog:=X.prog) (w:=X.w) (A:=X.A) (I.ok.hd hc) z TI TO i1 i2 a b D its.toArray its2.toArray;have l1:=(List.getElem?_eq_some_iff.mp hu).1;have l2:=(List.getElem?_eq_some_iff.mp hu2).1;refine W.item i s _ _ (by simp;lia) ⟨hz,hTI,hTO,h1,h2,pl.isList,pl2.isList⟩ λT vals h' tk hP hTs hTup hMid hk=>⟨_,rfl,?_⟩
  let⟨x',y',e1,e2,rfl⟩:=hP;have ex:x'=u:=by
   have:its[i]?=some x':=↑e1
   rw[hu]at this;exact(Option.some.inj this).symm
  have ey:y'=u2:=by
   have:its2[i]?=some y':=↑e2
   rw[hu2]at this;exact(Option.some.inj this).symm
  subst ex ey;have ap:=W.apart i T h' hMid;refine W.go elts kk pos i T _ _ _ hMid λh3 hst3 hk3=>?_;have hTn:H T=none:=I.hok.fresh hTs;have keep2:∀c o,c∉[z,TO,i1,i2]->s.heap.get? c=some o->h3.get? c=some o:=λc o hc q=>hk3 c o hc (hk c o hc q);have fz:∀c∈[z,TO,i1,i2],mJ X pins H c:=λc hc=>hf c (by
   simp only[List.mem_cons,List.not_mem_nil,or_false]at hc ⊢;rcases hc with h|h|h|h <;> simp[h])
  have nT:∀{c:Addr}{y:HO},H c=some y->c∉[z,TO,i1,i2]:=λ{c y} q hc=>by
   have:=(fz c hc).1;rw[this]at q;cases q
  let⟨oT,hT1,hT2,nn,hT3⟩:=hTup;have hTup3:IsTup h3 T #[x',y']:=⟨oT,hk3 T oT ap hT1,hT2,nn,hT3⟩
  have J:Inv X pins σ (upd H T (.tup [x,y])) { s with heap:=h3,toks:=tk }:=by
   refine I.step (g':=s.gens) (d':=s.drawn) (t':=tk) (ch:=[z,TO,i1,i2]) (λc hc=>?_) (λc o _ _ hcb q _=>keep2 c o hcb q)
    (λc o _ _ hcb q _=>⟨o.slots,keep2 c o hcb q⟩) (λc o _ q n=>by rw[ao (Nat.ne_of_lt (Nat.lt_of_lt_of_le (Heap.lt_size q) hTs))];exact n)
    (λc o hcb q=>⟨o,keep2 c o hcb q⟩) (λc ys q=>by rw[ao (au q hTn)];exact q) (λc o y q=>by rw[ao (au q hTn)];exact q)
    (λc ps q=>⟨#[],by rw[ao (au q hTn),q];simp⟩) (λm hm=>?_) ?_ I.bare
   ·let⟨e0,e1,e2,e3,e4,e5⟩:=fz c hc;exact⟨e3,e1,e4,e5⟩
   ·let⟨o,es,ep,ho',r⟩:=hm;refine⟨o,es,ep,keep2 _ o (λhc=>?_) ho',r⟩;exact(fz _ hc).2.1 rfl
   ·intro c u' q;by_cases hb:c=T
    ·subst hb;rw[aB]at q;cases q;exact⟨(by show 2<=sizeLine;decide),[x',y'],.cons ru (.cons ru2 .nil),hTup3⟩
    ·rw[ao hb]at q;refine(I.hok c u' q).stay (λd v hcv y=>keep2 d v ?_ y) (λd y=>by rw[ao (au y hTn)];exact y) λd ys y=>by rw[ao (au y hTn)];exact y
     rcases hcv with rfl|z
     ·exact nT q
     ·exact nT z
  let⟨a1,a2,a3,a4,a5,_,_⟩:=hst3;refine⟨.ref T,_,J,rfl,⟨T,x,y,rfl,hTn,rfl,λxs' hy'=>by rw[I.oK hy' hq];exact hx,λys' hy'=>by rw[I.oK hy' hq2];exact hy⟩,⟨a1,a2,a3,a4,a5⟩,λc hc=>?_⟩;rw[ao]
  ·exact(hf c hc).1
  ·rintro rfl;simp only[List.mem_cons,List.not_mem_nil,or_false]at hc;have lt:∀{d:Addr}{o:Obj},s.heap.get? d=some o->c≠d:=λe=>Nat.ne_of_gt (Nat.lt_of_lt_of_le (Heap.lt_size e) hTs);let⟨w1,w2,hTO'⟩:=hTO;let⟨o1,j1,_⟩:=h1;let⟨o2,j2,_⟩:=h2;rcases hc with h|h|h|h|h
   ·exact lt hz h
   ·exact lt hTI h
   ·exact lt hTO' h
   ·exact lt j1 h
   ·exact lt j2 h
 done:=by
  intro X hP hw hK hc i pins s σ H E I hf st hg;subst hP hw hK;let⟨xs,ys,hq,hq2,he⟩:=hg;let⟨its,rv,pl,hz1⟩:=I.list hq;let⟨its2,rv2,pl2,hz2⟩:=I.list hq2;let⟨hz,hTI,⟨u,v,hTO⟩,h1,h2⟩:=st;have r1:=⇑rv;have r2:=⇑rv2;refine wpAny_pyNext_zip_end (I.ok.hd hc) D hz hTI hTO h1 h2 pl.isList pl2.isList (xs:=its.toArray) (ys:=its2.toArray) ?_ λh' hk=>⟨rfl,?_⟩
  ·rcases he with he|he
   ·left;simp;lia
   ·right;simp;lia
  have fz:∀c∈[z,TO,i1,i2],mJ X pins H c:=λc hc=>hf c (by
   simp only[List.mem_cons,List.not_mem_nil,or_false]at hc ⊢;rcases hc with h|h|h|h <;> simp[h])
  have keep2:∀c o,c∉[z,TO,i1,i2]->s.heap.get? c=some o->h'.get? c=some o:=λc o hc q=>hk c o (λe=>hc (by simp[e])) (λe=>hc (by simp[e])) (λe=>hc (by simp[e])) (λe=>hc (by simp[e])) q;have nT:∀{c:Addr}{y:HO},H c=some y->c∉[z,TO,i1,i2]:=λ{c y} q hc=>by
   have:=(fz c hc).1;rw[this]at q;cases q
  refine I.step (g':=s.gens) (d':=s.drawn) (t':=s.toks) (ch:=[z,TO,i1,i2]) (λc hc=>?_) (λc o _ _ hcb q _=>keep2 c o hcb q)
    (λc o _ _ hcb q _=>⟨o.slots,keep2 c o hcb q⟩) (λc o _ q n=>n)
    (λc o hcb q=>⟨o,keep2 c o hcb q⟩) (λc ys q=>q) (λc o y q=>q)
    (λc ps q=>⟨#[],by rw[q];simp⟩) (λm hm=>?_) ?_ I.bare
  ·let⟨e0,e1,e2,e3,e4,e5⟩:=fz c hc;exact⟨e3,e1,e4,e5⟩
  ·let⟨o,es,ep,ho',r⟩:=hm;refine⟨o,es,ep,keep2 _ o (λhc=>?_) ho',r⟩;exact(fz _ hc).2.1 rfl
  ·intro c u' q;refine(I.hok c u' q).stay (λd v hcv y=>keep2 d v ?_ y) (λd y=>y) λd ys y=>y;rcases hcv with rfl|z
   ·exact nT q
   ·exact nT z
 self:=λA i s Q E st h=>by
  let⟨hz,_⟩:=st;exact UY hz h
end L2
namespace Dl
open L2
variable [Gr]
section
variable{X:Cx}{tg:Zt}{pos:Pos}{ta:DA}
def Ia{K:W.Frag}{ok:Addr->Prop}{a b:Addr}{ds es:ez}:Wlk (λH=>Rp ok H (.ref a) (.list ds)/\Rp ok H (.ref b) (.list es)) (U8 K a b) ((ds.zip es).map prD) ok where
 go:=λi H r hi=>by
  let⟨b,vs,e,_,h,rs⟩:=r.1.dh;cases e;let⟨b2,vs2,e,_,h2,rs2⟩:=r.2.dh;cases e;rw[List.length_map,List.length_zip]at hi;have l1:i<⇑vs:=by rw[⇑rs];lia
  have l2:i<⇑vs2:=by rw[⇑rs2];lia
  exact⟨vs,vs2,vs[i],vs2[i],SqL.of h,SqL.of h2,by simp[l1],by simp[l2]⟩
 stop:=λH r=>by
  let⟨b,vs,e,_,h,rs⟩:=r.1.dh;cases e;let⟨b2,vs2,e,_,h2,rs2⟩:=r.2.dh;cases e;refine⟨vs,vs2,SqL.of h,SqL.of h2,?_⟩;rw[List.length_map,List.length_zip,⇑rs,⇑rs2];lia
 yld:=λi H x H' r y=>by
  let⟨t,v,v2,rfl,ht,rfl,y1,y2⟩:=y;have sm:Same H (upd H t (.tup [v,v2])):=λb u q=>by rw[ao (au q ht)];exact q
  refine⟨sm,λd hd=>?_⟩;let⟨b,vs,e,_,h,rs⟩:=r.1.dh;cases e;let⟨b2,vs2,e,_,h2,rs2⟩:=r.2.dh;cases e;rw[List.getElem?_map]at hd;cases he:(ds.zip es)[i]? with
  |none=>rw[he]at hd;cases hd
  |some pq =>
   rw[he]at hd;have e:=Option.some.inj hd;subst e;let⟨g1,g2⟩:=List.getElem?_zip_eq_some.mp he;let⟨w1,hw1,rw1⟩:=rs.getD g1;let⟨w2,hw2,rw2⟩:=rs2.getD g2;have z1:=y1 vs (SqL.of h);rw[hw1]at z1;cases z1;have z2:=y2 vs2 (SqL.of h2);rw[hw2]at z2;cases z2;exact .tup aB (.cons (rw1.mono (λ_ o=>o) (λa o _ e=>sm a o e) λa xs e=>sm a _ e) (.cons (rw2.mono (λ_ o=>o) (λa o _ e=>sm a o e) λa xs e=>sm a _ e) .nil))
 stab:=λH H' r f t=>⟨r.1.bI (λa o n e=>⟨n,f a o n e⟩) t,r.2.bI (λa o n e=>⟨n,f a o n e⟩) t⟩
end
end Dl
namespace Wr
open L2 Dl
variable [Gr] {X:Cx}{pos:Pos}{ta:DA}
end Wr
namespace L2
open PySem.Spec
section
variable{prog:Za}{w:Zb}{A:Zr}{E:d6}{s:Shared}{z TI TO i1 i2 l1 l2:Addr}{k:Nat}{xs ys:el}{x y:Value}
def iw{h h':Heap}{i l:Addr}{k:Nat}(st:h.IsTupleIter i l k)(f:∀o,h.get? i=some o->h'.get? i=some o):h'.IsTupleIter i l k:=let⟨o,e,r⟩:=st;⟨o,f o e,r⟩
def qb{h h':Heap}{l:Addr}{xs:el}(st:h.IsTuple l xs)(f:∀o,h.get? l=some o->h'.get? l=some o):h'.IsTuple l xs:=let⟨o,e,r⟩:=st;⟨o,f o e,r⟩
def Ng(z TO i1 i2:Addr)(h h':Heap):Prop:=∀c o,c≠z->c≠TO->c≠i1->c≠i2->h.get? c=some o->h'.get? c=some o
structure ZT(z TI TO i1 i2 l1 l2:Addr)(k:Nat)(h:Heap):Prop where
 hz:IsZip h z TI TO .none
 hI:IsPair h TI (.ref i1) (.ref i2)
 hO:∃u v,IsPair h TO u v
 t1:h.IsTupleIter i1 l1 k
 t2:h.IsTupleIter i2 l2 k
def FZ(D:UX z TI TO i1 i2 l1 l2)(Z:ZT z TI TO i1 i2 l1 l2 k s.heap)(M:s.heap.IsTuple l1 xs)(N:s.heap.IsTuple l2 ys)(K:xs[k]?=some x)(L:ys[k]?=some y){Q:ew->Shared->Prop}(J:∀h',IsZip h' z TI TO (Z4 ↥s)->IsPair h' TO x y->h'.IsTupleIter i1 l1 (k+1)->h'.IsTupleIter i2 l2 (k+1)->IsPair h' ↥s x y->Ng z TO i1 i2 s.heap h'->Q (some (.ref ↥s)) { s with heap:=h' }) :
  wpAny (model prog w) A (Z0 (.ref z)) Q E s:=by
 let⟨b,H,⟨u,v,I⟩,O,t2⟩:=Z;have ty:s.TypeIs (.ref z) "zip":=⟨_,b,rfl⟩
 unfold Z0;refine wpAny_bind (VU (YH (name:=Str.ofString "__next__") ty F.slot_zip_next (YI F.slot_zip_next ty F.entry_zip_next ?_ (F.args_zip_next_1 _))));show wpAny _ _ (VE (.ref z) 2 >>=_) _ _ _;refine wpAny_bind (YF b rfl (x:=.bool false) rfl ?_);show wpAny _ _ (VE (.ref z) 3 >>=_) _ _ _;refine wpAny_bind (YF b rfl (x:=.ref TI) rfl (wpAny_bind (VI H rfl ?_)));show wpAny _ _ (Builtin.SmallTypes.ownedTupleIsFree (.ref z) >>=_) _ _ _;refine wpAny_bind ?_;unfold Builtin.SmallTypes.ownedTupleIsFree;refine wpAny_bind (YF b rfl (x:=.none) rfl (Z2 ?_));simp only[if_true];refine wpAny_bind (VO (wpAny_bind (YF b rfl (x:=.ref TO) rfl (wpAny_bind (UZ b (by simp) λha za sa=>wpAny_bind ?_)))));have za:IsZip ha z TI TO .ellipsis:=za;have d:=λc o n=>sa.extBut c o n;simp only[List.zipIdx_cons,List.zipIdx_nil,List.forIn_cons,List.forIn_nil];refine wpAny_bind (wpAny_bind (U1 ?_));show wpAny _ _ (Builtin.SmallTypes.nextOf (.ref i1) >>=_) _ _ _;refine wpAny_bind ((dB (iw O λo=>d _ o D.i1z) (qb M λo=>d _ o D.l1z) K λhb tb sb=>Z2 ?_));have f:=λc o n=>sb.extBut c o n;have q:IsPair hb TO u v:=f _ _ D.TOi1 (d _ _ D.TOz I);refine wpAny_bind (VI q rfl (wpAny_bind (U2 q λhc p sc=>wpAny_bind (UU (Z2 ?_)))));have p:IsPair hc TO x v:=p;have g:=λc o n=>sc.extBut c o n;refine wpAny_bind (wpAny_bind (U1 ?_));show wpAny _ _ (Builtin.SmallTypes.nextOf (.ref i2) >>=_) _ _ _;refine wpAny_bind ((dB (iw t2 λo e=>g _ o (Ne.symm D.TOi2) (f _ o (Ne.symm D.i12) (d _ o D.i2z e))) (qb N λo e=>g _ o D.l2TO (f _ o D.l2i1 (d _ o D.l2z e))) L λhd td sd=>Z2 ?_));have h:=λc o n=>sd.extBut c o n;have r:IsPair hd TO x v:=h _ _ D.TOi2 p;refine wpAny_bind (VI r rfl (wpAny_bind (U2 r λhe j se=>wpAny_bind (UU (Z2 (Z2 ?_))))));have j:IsPair he TO x y:=j;have i:=λc o n=>se.extBut c o n;have a:he.objs.size=↥s:=by rw[se.1,sd.1,sc.1,sb.1,sa.1]
 have t:IsZip he z TI TO .ellipsis:=i _ _ (Ne.symm D.TOz) (h _ _ (Ne.symm D.i2z) (g _ _ (Ne.symm D.TOz) (f _ _ (Ne.symm D.i1z) za)));have C:he.IsTupleIter i1 l1 (k+1):=iw tb λo e=>i _ o (Ne.symm D.TOi1) (h _ o D.i12 (g _ o (Ne.symm D.TOi1) e));have G:he.IsTupleIter i2 l2 (k+1):=iw td λo e=>i _ o (Ne.symm D.TOi2) e;have B:Ng z TO i1 i2 s.heap he:=λc o n1 n2 n3 n4 e=>i _ _ n2 (h _ _ n4 (g _ _ n2 (f _ _ n3 (d _ _ n1 e))));refine wpAny_bind (VI j rfl (wpAny_bind (Wl ?_)));show wpAny _ _ (Builtin.SmallTypes.ownedTupleHandOut (.ref z) (.ref he.objs.size) >>=_) _ _ _;refine wpAny_bind ?_;unfold Builtin.SmallTypes.ownedTupleHandOut;refine wpAny_bind (UZ (Heap.get?_push_of_some _ t) (by simp) λhf zf sf=>UZ zf (by simp) λhg m sg=>Z2 ⟨_,rfl,Z2 ?_⟩);have m:IsZip hg z TI TO (Z4 he.objs.size):=m;have l:∀c o,c≠z->he.get? c=some o->hg.get? c=some o:=λc o n e=>sg.extBut _ _ n (sf.extBut _ _ n (Heap.get?_push_of_some _ e));have new:IsPair hg he.objs.size x y:=by
  have n:=Nat.ne_of_gt (Heap.lt_size t);exact sg.extBut _ _ n (sf.extBut _ _ n (Heap.get?_push_size _ rfl))
 rw[a]at m new;show Q (some (.ref he.objs.size)) _;rw[a];exact J hg m (l _ _ D.TOz j) (iw C λo e=>l _ o D.i1z e) (iw G λo e=>l _ o D.i2z e) new λc o n1 n2 n3 n4 e=>l c o n1 (B c o n1 n2 n3 n4 e)
def HX(hh:A.handled=none)(D:UX z TI TO i1 i2 l1 l2)(Z:ZT z TI TO i1 i2 l1 l2 k s.heap)(B:s.heap.IsTuple l1 xs)(L:s.heap.IsTuple l2 ys)(K:xs[k]?=none\/ys[k]?=none){Q:ew->Shared->Prop}(r:∀h',Ng z TO i1 i2 s.heap h'->Q none { s with heap:=h' }):wpAny (model prog w) A (Z0 (.ref z)) Q E s:=by
 let⟨g,H,⟨u,v,I⟩,C,t2⟩:=Z;have ty:s.TypeIs (.ref z) "zip":=⟨_,g,rfl⟩
 unfold Z0;refine wpAny_bind (VU (YH (name:=Str.ofString "__next__") ty F.slot_zip_next (YI F.slot_zip_next ty F.entry_zip_next ?_ (F.args_zip_next_1 _))));show wpAny _ _ (VE (.ref z) 2 >>=_) _ _ _;refine wpAny_bind (YF g rfl (x:=.bool false) rfl ?_);show wpAny _ _ (VE (.ref z) 3 >>=_) _ _ _;refine wpAny_bind (YF g rfl (x:=.ref TI) rfl (wpAny_bind (VI H rfl ?_)));show wpAny _ _ (Builtin.SmallTypes.ownedTupleIsFree (.ref z) >>=_) _ _ _;refine wpAny_bind ?_;unfold Builtin.SmallTypes.ownedTupleIsFree;refine wpAny_bind (YF g rfl (x:=.none) rfl (Z2 ?_));simp only[if_true];refine wpAny_bind (VO (wpAny_bind (YF g rfl (x:=.ref TO) rfl (wpAny_bind (UZ g (by simp) λha za sa=>wpAny_bind ?_)))));have za:IsZip ha z TI TO .ellipsis:=za;have a:=λc o n=>sa.extBut c o n;simp only[List.zipIdx_cons,List.zipIdx_nil,List.forIn_cons,List.forIn_nil];refine wpAny_bind (wpAny_bind (U1 ?_));show wpAny _ _ (Builtin.SmallTypes.nextOf (.ref i1) >>=_) _ _ _;cases j:xs[k]? with
 |none =>
  refine wpAny_bind (dJ hh (iw C λo=>a _ o D.i1z) (qb B λo=>a _ o D.l1z) j λhb e d he=>?_);let⟨m,f,hc⟩:=he;have G:IsZip hb z TI TO .ellipsis:=d _ _ (Ne.symm D.i1z) za;have l:e≠z:=λy=>by subst y;rw[G]at f;cases f;simp at hc
  refine UZ G (by simp) λhd p sd=>?_;refine wpAny_bind (VW (T:="StopIteration") (b:=true) ⟨m,sd.extBut _ _ l f,hc⟩ VX (Z2 (r _ λc o n1 n2 n3 n4 q=>?_)));exact sd.extBut _ _ n1 (d _ _ n3 (a _ _ n1 q))
 |some x =>
  have J:ys[k]?=none:=K.resolve_left (by rw[j];exact λq=>nomatch q);refine wpAny_bind ((dB (iw C λo=>a _ o D.i1z) (qb B λo=>a _ o D.l1z) j λhb tb sb=>Z2 ?_));have d:=λc o n=>sb.extBut c o n;have t:IsPair hb TO u v:=d _ _ D.TOi1 (a _ _ D.TOz I);refine wpAny_bind (VI t rfl (wpAny_bind (U2 t λhc oc sc=>wpAny_bind (UU (Z2 ?_)))));have i:=λc o n=>sc.extBut c o n;refine wpAny_bind (wpAny_bind (U1 ?_));show wpAny _ _ (Builtin.SmallTypes.nextOf (.ref i2) >>=_) _ _ _;refine wpAny_bind (dJ hh (iw t2 λo e=>i _ o (Ne.symm D.TOi2) (d _ o (Ne.symm D.i12) (a _ o D.i2z e))) (qb L λo e=>i _ o D.l2TO (d _ o D.l2i1 (a _ o D.l2z e))) J λhd e kd he=>?_);let⟨m,f,h⟩:=he;have p:IsZip hd z TI TO .ellipsis:=kd _ _ (Ne.symm D.i2z) (i _ _ (Ne.symm D.TOz) (d _ _ (Ne.symm D.i1z) za));have l:e≠z:=λy=>by subst y;rw[p]at f;cases f;simp at h
  refine UZ p (by simp) λhg zg sg=>?_;refine wpAny_bind (VW (T:="StopIteration") (b:=true) ⟨m,sg.extBut _ _ l f,h⟩ VX (Z2 (r _ λc o n1 n2 n3 n4 q=>?_)));exact sg.extBut _ _ n1 (kd _ _ n4 (i _ _ n2 (d _ _ n3 (a _ _ n1 q))))
end
def HW(a b:Addr)(xs ys:el) :
  Meets (Builtin.«zip.__new__» ⟨[.type "zip",.ref a,.ref b],[]⟩) (λ_ R s=>s.heap.IsTuple a xs/\s.heap.IsTuple b ys /\
   ∀(h1 h2 c f i:Heap),h1=s.heap.push { cls:=.type "tuple_iterator",data:=.fields #[.ref a,.int 0 0]}->h2=h1.push { cls:=.type "tuple_iterator",data:=.fields #[.ref b,.int 0 0]}->c=h2.push { cls:=.type "tuple",data:=.seq #[.ref ↥s,.ref h1.objs.size]} ->
    f=c.push { cls:=.type "tuple",data:=.seq #[.none,.none]}->i=f.push { cls:=.type "zip",data:=.fields #[.none,.bool false,.bool false,.ref h2.objs.size,.ref c.objs.size]}->R (.ok (.ret (.ref f.objs.size))) { s with heap:=i }) :=
 .of_wp λprog w A R s h=>by
  let⟨hp,g,d,tk,j⟩:=s;let⟨m,n,h⟩:=h;have p:=sub_zip;have k:Heap.IsTuple (Shared.heap ⟨hp,g,d,tk,j⟩) a xs:=m;have l:Heap.IsTuple (Shared.heap ⟨hp.push { cls:=.type "tuple_iterator",data:=.fields #[.ref a,.int 0 0]},g,d,tk,j⟩) b ys:=qb n λo e=>Heap.get?_push_of_some _ e
  wp_walk using Y5 k,Y5 l
  exact⟨_,rfl,h _ _ _ _ _ rfl rfl rfl rfl rfl⟩
section
variable{prog:Za}{w:Zb}{A:Zr}{E:d6}{s:Shared}{l1 l2:Addr}{xs ys:el}
def Hv{Q:d6}(C:s.heap.IsTuple l1 xs)(D:s.heap.IsTuple l2 ys)(h:∀h',ZT (↥s+4) (↥s+2) (↥s+3) ↥s (↥s+1) l1 l2 0 h'->(∀c o,s.heap.get? c=some o->h'.get? c=some o)->Q (.ref (↥s+4)) { s with heap:=h' }) :
  wpAny (model prog w) A (Z6 (.type "zip") [.ref l1,.ref l2]) Q E s:=by
 refine callType_new F.called_zip ∅ (F.typeCall_zip_2 _ _) (F.newCall_zip_2 _ _) (λobj=>F.args_object_init_3 obj _ _) F.entry_zip_new (HW l1 l2 xs ys) ⟨C,D,?_⟩;intro h1 h2 y B G j i g b d;have l:h1.objs.size=↥s+1:=by rw[j];exact Heap.size_push ..
 have m:h2.objs.size=↥s+2:=by rw[i,Heap.size_push,l]
 have p:y.objs.size=↥s+3:=by rw[g,Heap.size_push,m]
 have t:B.objs.size=↥s+4:=by rw[b,Heap.size_push,p]
 have a:∀{h h':Heap}{o:Obj}{c:Addr}{q:Obj},h'=h.push o->h.get? c=some q->h'.get? c=some q:=λe q=>by rw[e];exact Heap.get?_push_of_some _ q
 have top:∀{h h':Heap}{o:Obj}{n:Nat},h'=h.push o->h.objs.size=n->o.isFreed=false->h'.get? n=some o:=λe z f=>by rw[e,←z];exact Heap.get?_push_size _ f
 have u:=top j rfl rfl;have v:=top i l rfl;have r:=top g m rfl;have x:=top b p rfl;have k:=top d t rfl;rw[l]at r;rw[m,p]at k;show _/\_;rw[t];refine⟨⟨_,k,rfl⟩,h _ ⟨k,a d (a b r),⟨_,_,a d x⟩,⟨_,a d (a b (a g (a i u))),rfl,rfl⟩,⟨_,a d (a b (a g v)),rfl,rfl⟩⟩ λc o q=>a d (a b (a g (a i (a j q))))⟩
end
def Ni(K:W.Frag)(a b:Addr):It :=
 ⟨λi H=>∃xs ys x y,SqT K H a xs/\SqT K H b ys/\xs[i]?=some x/\ys[i]?=some y,λi H v H'=>∃t x y,v=.ref t/\H t=none/\H'=upd H t (.tup [x,y])/\(∀xs,SqT K H a xs->xs[i]?=some x)/\∀ys,SqT K H b ys->ys[i]?=some y,λi H=>∃xs ys,SqT K H a xs/\SqT K H b ys/\(⇑xs<=i\/⇑ys<=i)⟩
def Ge{P:Za}{w:Zb}{K:W.Frag}{elts:List Zt}{kk:Nat}{pos:Pos}{a b z TI TO i1 i2:Addr}(D:UX z TI TO i1 i2 a b) :
  Turn P w K (.Tuple elts kk pos) (Ni K a b) [z,TI,TO,i1,i2] z (ZT z TI TO i1 i2 a b) where
 mem:=by simp
 obj:=λi h st c hc=>by
  let⟨hz,hTI,⟨u,v,hTO⟩,⟨o1,j1,c1,d1⟩,⟨o2,j2,c2,d2⟩⟩:=st;simp only[List.mem_cons,List.not_mem_nil,or_false]at hc;rcases hc with rfl|rfl|rfl|rfl|rfl
  ·exact⟨_,hz,λv z=>nomatch z⟩
  ·exact⟨_,hTI,λv z=>nomatch z⟩
  ·exact⟨_,hTO,λv z=>nomatch z⟩
  ·exact⟨o1,j1,λv z=>by rw[d1]at z;cases z⟩
  ·exact⟨o2,j2,λv z=>by rw[d2]at z;cases z⟩
 keep:=λi h h' st k=>by
  let⟨hz,hTI,⟨u,v,hTO⟩,⟨o1,j1,r1⟩,⟨o2,j2,r2⟩⟩:=st;exact⟨k z (by simp) _ hz,k TI (by simp) _ hTI,⟨u,v,k TO (by simp) _ hTO⟩,⟨o1,k i1 (by simp) _ j1,r1⟩,⟨o2,k i2 (by simp) _ j2,r2⟩⟩
 item:=by
  intro X hP hw hK hc i pins s σ H E I hf st hg;subst hP hw hK;let⟨xs,ys,x,y,hq,hq2,hx,hy⟩:=hg;let⟨its,rv,pl,hz1⟩:=I.tuple hq;let⟨its2,rv2,pl2,hz2⟩:=I.tuple hq2;let⟨u,hu,ru⟩:=rv.get hx;let⟨u2,hu2,ru2⟩:=rv2.get hy;let⟨hz,hTI,hTO,h1,h2⟩:=st;have ex:its.toArray[i]?=some u:=↑hu
  have ey:its2.toArray[i]?=some u2:=↑hu2
  refine FZ D ⟨hz,hTI,hTO,h1,h2⟩ (show s.heap.IsTuple a its.toArray from pl) (show s.heap.IsTuple b its2.toArray from pl2) ex ey λh' zg og t1 t2 new kp=>⟨_,rfl,wpAny_letOwnedTupleGo_zip zg λh3 z3 s3=>?_⟩
  have k3:∀c o,c≠z->h'.get? c=some o->h3.get? c=some o:=λc o n e=>s3.extBut _ _ n e;generalize hT:↥s=T at new zg;have hTs:↥s<=T:=Nat.le_of_eq hT;have ap:T≠z:=λe=>by have new':h'.get? T=_:=new;rw[e,show h'.get? z=_ from zg]at new';injection new' with new';injection new' with e1;injection e1 with e2;exact dS e2 ∅
  have hTn:H T=none:=I.hok.fresh hTs;have keep2:∀c o,c∉[z,TO,i1,i2]->s.heap.get? c=some o->h3.get? c=some o:=λc o hc q=>by
   simp only[List.mem_cons,List.not_mem_nil,or_false,not_or]at hc;exact k3 c o hc.1 (kp c o hc.1 hc.2.1 hc.2.2.1 hc.2.2.2 q)
  have fz:∀c∈[z,TO,i1,i2],mJ X pins H c:=λc hc=>hf c (by
   simp only[List.mem_cons,List.not_mem_nil,or_false]at hc ⊢;rcases hc with h|h|h|h <;> simp[h])
  have nT:∀{c:Addr}{y:HO},H c=some y->c∉[z,TO,i1,i2]:=λ{c y} q hc=>by
   have:=(fz c hc).1;rw[this]at q;cases q
  have hTup3:IsTup h3 T #[u,u2]:=⟨_,k3 T _ ap new,rfl,_,rfl⟩
  have J:Inv X pins σ (upd H T (.tup [x,y])) { s with heap:=h3,toks:=s.toks }:=by
   refine I.step (g':=s.gens) (d':=s.drawn) (t':=s.toks) (ch:=[z,TO,i1,i2]) (λc hc=>?_) (λc o _ _ hcb q _=>keep2 c o hcb q)
    (λc o _ _ hcb q _=>⟨o.slots,keep2 c o hcb q⟩) (λc o _ q n=>by rw[ao (Nat.ne_of_lt (Nat.lt_of_lt_of_le (Heap.lt_size q) hTs))];exact n)
    (λc o hcb q=>⟨o,keep2 c o hcb q⟩) (λc ys q=>by rw[ao (au q hTn)];exact q) (λc o y q=>by rw[ao (au q hTn)];exact q)
    (λc ps q=>⟨#[],by rw[ao (au q hTn),q];simp⟩) (λm hm=>?_) ?_ I.bare
   ·let⟨e0,e1,e2,e3,e4,e5⟩:=fz c hc;exact⟨e3,e1,e4,e5⟩
   ·let⟨o,es,ep,ho',r⟩:=hm;refine⟨o,es,ep,keep2 _ o (λhc=>?_) ho',r⟩;exact(fz _ hc).2.1 rfl
   ·intro c u' q;by_cases hb:c=T
    ·subst hb;rw[aB]at q;cases q;exact⟨(by show 2<=sizeLine;decide),[u,u2],.cons ru (.cons ru2 .nil),hTup3⟩
    ·rw[ao hb]at q;refine(I.hok c u' q).stay (λd v hcv y=>keep2 d v ?_ y) (λd y=>by rw[ao (au y hTn)];exact y) λd ys y=>by rw[ao (au y hTn)];exact y
     rcases hcv with rfl|z
     ·exact nT q
     ·exact nT z
  refine⟨.ref T,_,J,rfl,⟨T,x,y,rfl,hTn,rfl,λxs' hy'=>by rw[I.lJ hy' hq];exact hx,λys' hy'=>by rw[I.lJ hy' hq2];exact hy⟩,⟨z3,k3 _ _ D.TIz (kp _ _ D.TIz D.TITO D.TIi1 D.TIi2 hTI),⟨_,_,k3 _ _ D.TOz og⟩,iw t1 λo=>k3 _ o D.i1z,iw t2 λo=>k3 _ o D.i2z⟩,λc hc=>?_⟩;rw[ao]
  ·exact(hf c hc).1
  ·rintro rfl;simp only[List.mem_cons,List.not_mem_nil,or_false]at hc;have lt:∀{d:Addr}{o:Obj},s.heap.get? d=some o->c≠d:=λe=>Nat.ne_of_gt (Nat.lt_of_lt_of_le (Heap.lt_size e) hTs);let⟨w1,w2,hTO'⟩:=hTO;let⟨o1,j1,_⟩:=h1;let⟨o2,j2,_⟩:=h2;rcases hc with h|h|h|h|h
   ·exact lt hz h
   ·exact lt hTI h
   ·exact lt hTO' h
   ·exact lt j1 h
   ·exact lt j2 h
 done:=by
  intro X hP hw hK hc i pins s σ H E I hf st hg;subst hP hw hK;let⟨xs,ys,hq,hq2,he⟩:=hg;let⟨its,rv,pl,hz1⟩:=I.tuple hq;let⟨its2,rv2,pl2,hz2⟩:=I.tuple hq2;let⟨hz,hTI,⟨u,v,hTO⟩,h1,h2⟩:=st;have r1:=⇑rv;have r2:=⇑rv2;refine HX (I.ok.hd hc) D ⟨hz,hTI,⟨u,v,hTO⟩,h1,h2⟩ (show s.heap.IsTuple a its.toArray from pl) (show s.heap.IsTuple b its2.toArray from pl2) ?_ λh' hk=>⟨rfl,?_⟩
  ·rcases he with he|he
   ·left;simp;lia
   ·right;simp;lia
  have fz:∀c∈[z,TO,i1,i2],mJ X pins H c:=λc hc=>hf c (by
   simp only[List.mem_cons,List.not_mem_nil,or_false]at hc ⊢;rcases hc with h|h|h|h <;> simp[h])
  have keep2:∀c o,c∉[z,TO,i1,i2]->s.heap.get? c=some o->h'.get? c=some o:=λc o hc q=>hk c o (λe=>hc (by simp[e])) (λe=>hc (by simp[e])) (λe=>hc (by simp[e])) (λe=>hc (by simp[e])) q;have nT:∀{c:Addr}{y:HO},H c=some y->c∉[z,TO,i1,i2]:=λ{c y} q hc=>by
   have:=(fz c hc).1;rw[this]at q;cases q
  refine I.step (g':=s.gens) (d':=s.drawn) (t':=s.toks) (ch:=[z,TO,i1,i2]) (λc hc=>?_) (λc o _ _ hcb q _=>keep2 c o hcb q)
    (λc o _ _ hcb q _=>⟨o.slots,keep2 c o hcb q⟩) (λc o _ q n=>n)
    (λc o hcb q=>⟨o,keep2 c o hcb q⟩) (λc ys q=>q) (λc o y q=>q)
    (λc ps q=>⟨#[],by rw[q];simp⟩) (λm hm=>?_) ?_ I.bare
  ·let⟨e0,e1,e2,e3,e4,e5⟩:=fz c hc;exact⟨e3,e1,e4,e5⟩
  ·let⟨o,es,ep,ho',r⟩:=hm;refine⟨o,es,ep,keep2 _ o (λhc=>?_) ho',r⟩;exact(fz _ hc).2.1 rfl
  ·intro c u' q;refine(I.hok c u' q).stay (λd v hcv y=>keep2 d v ?_ y) (λd y=>y) λd ys y=>y;rcases hcv with rfl|z
   ·exact nT q
   ·exact nT z
 self:=λA i s Q E st h=>by
  let⟨hz,_⟩:=st;exact UY hz h
def Wj(K:W.Frag)(c:TA):TI:=λσ H R=>c σ H λvs H1=>∃a b,vs=[.ref a,.ref b]/\((∃xs ys,SqL K H1 a xs/\SqL K H1 b ys/\R (U8 K a b) H1)\/∃xs ys,SqT K H1 a xs/\SqT K H1 b ys/\R (Ni K a b) H1)
def Oi{X:Cx}{elts:List Zt}{kk:Nat}{f:Pos}{a b:Zt}{v:TA}{p pos:Pos}(hg:Gl X "zip")(hm:X.mg "zip"=none)(ha:PA X [a,b] v)(x:Zu [a,b] X.env=(false,Zv a X.env)::Zu [b] X.env:=by rfl)(y:(Zw pos (Zu [b] X.env)).any (·.1)=false:=by rfl) :
  PI X (.Tuple elts kk f) (.Call (.Name "zip" p) [a,b] [] pos) (Wj X.K v):=by
 intro l s σ H R I h;refine Call_ (kI I hg hm PyProof.Rows.boot_zip (PyProof.Rows.callWith_type1 (thn (ha pos l s σ H _ I h) λus s1 ⟨vs,H1,I1,r1,r⟩=>?_) x y));let⟨a,b,rfl,r⟩:=r;let⟨u,C,rfl,A,B⟩:=vals2 r1;cases A;cases B;have g:∀j,mJ X l H1 (↥s1+j):=λj=>I1.zH (Nat.le_add_right _ _) (I1.hok.fresh (Nat.le_add_right _ _));rcases r with⟨xs,ys,hp,m,k⟩|⟨xs,ys,hp,m,k⟩
 ·let⟨its,z,pl,_⟩:=I1.list hp;let⟨i,t,d,_⟩:=I1.list m;refine call_zip_2 pl.isList d.isList λh' hz hTI hTO hi1 hi2 hsz hk=>?_;have n:a<↥s1:=by let⟨o,e,_⟩:=pl.isList;exact Heap.lt_size e
  have q:b<↥s1:=by let⟨o,e,_⟩:=d.isList;exact Heap.lt_size e
  have T:=Im (P:=X.prog) (w:=X.w) (K:=X.K) (elts:=elts) (kk:=kk) (pos:=f) (zipApart_new n q);refine T.self _ 0 _ _ _ ⟨hz,hTI,⟨_,_,hTO⟩,hi1,hi2⟩ ⟨_,_,_,_,H1,rfl,I1.kept (t':=s1.toks) hk,T,⟨hz,hTI,⟨_,_,hTO⟩,hi1,hi2⟩,λc hc=>?_,k⟩;simp only[List.mem_cons,List.not_mem_nil,or_false]at hc;rcases hc with h|h|h|h|h
  ·rw[h];exact g 4
  ·rw[h];exact g 2
  ·rw[h];exact g 3
  ·rw[h];exact g 0
  ·rw[h];exact g 1
 ·let⟨its,z,pl,_⟩:=I1.tuple hp;let⟨i,t,d,_⟩:=I1.tuple m;refine Hv (show s1.heap.IsTuple a its.toArray from pl) (show s1.heap.IsTuple b i.toArray from d) λh' Z hk=>?_;have n:a<↥s1:=by let⟨o,e,_⟩:=pl;exact Heap.lt_size e
  have q:b<↥s1:=by let⟨o,e,_⟩:=d;exact Heap.lt_size e
  have T:=Ge (P:=X.prog) (w:=X.w) (K:=X.K) (elts:=elts) (kk:=kk) (pos:=f) (zipApart_new n q);refine T.self _ 0 _ _ _ Z ⟨_,_,_,_,H1,rfl,I1.kept (t':=s1.toks) hk,T,Z,λc hc=>?_,k⟩;simp only[List.mem_cons,List.not_mem_nil,or_false]at hc;rcases hc with h|h|h|h|h
  ·rw[h];exact g 4
  ·rw[h];exact g 2
  ·rw[h];exact g 3
  ·rw[h];exact g 0
  ·rw[h];exact g 1
end L2
namespace Dl
open L2
variable [Gr]
section
variable{X:Cx}{tg:Zt}{pos:Pos}{ta:DA}
def Gb{K:W.Frag}{ok:Addr->Prop}{a b:Addr}{ds es:ez}:Wlk (λH=>Rp ok H (.ref a) (.tuple ds)/\Rp ok H (.ref b) (.tuple es)) (Ni K a b) ((ds.zip es).map prD) ok where
 go:=λi H r hi=>by
  let⟨b,vs,e,h,rs⟩:=r.1.dU;cases e;let⟨b2,vs2,e,h2,rs2⟩:=r.2.dU;cases e;rw[List.length_map,List.length_zip]at hi;have l1:i<⇑vs:=by rw[⇑rs];lia
  have l2:i<⇑vs2:=by rw[⇑rs2];lia
  exact⟨vs,vs2,vs[i],vs2[i],SqT.of h,SqT.of h2,by simp[l1],by simp[l2]⟩
 stop:=λH r=>by
  let⟨b,vs,e,h,rs⟩:=r.1.dU;cases e;let⟨b2,vs2,e,h2,rs2⟩:=r.2.dU;cases e;refine⟨vs,vs2,SqT.of h,SqT.of h2,?_⟩;rw[List.length_map,List.length_zip,⇑rs,⇑rs2];lia
 yld:=λi H x H' r y=>by
  let⟨t,v,v2,rfl,ht,rfl,y1,y2⟩:=y;have sm:Same H (upd H t (.tup [v,v2])):=λb u q=>by rw[ao (au q ht)];exact q
  refine⟨sm,λd hd=>?_⟩;let⟨b,vs,e,h,rs⟩:=r.1.dU;cases e;let⟨b2,vs2,e,h2,rs2⟩:=r.2.dU;cases e;rw[List.getElem?_map]at hd;cases he:(ds.zip es)[i]? with
  |none=>rw[he]at hd;cases hd
  |some pq =>
   rw[he]at hd;have e:=Option.some.inj hd;subst e;let⟨g1,g2⟩:=List.getElem?_zip_eq_some.mp he;let⟨w1,hw1,rw1⟩:=rs.getD g1;let⟨w2,hw2,rw2⟩:=rs2.getD g2;have z1:=y1 vs (SqT.of h);rw[hw1]at z1;cases z1;have z2:=y2 vs2 (SqT.of h2);rw[hw2]at z2;cases z2;exact .tup aB (.cons (rw1.mono (λ_ o=>o) (λa o _ e=>sm a o e) λa xs e=>sm a _ e) (.cons (rw2.mono (λ_ o=>o) (λa o _ e=>sm a o e) λa xs e=>sm a _ e) .nil))
 stab:=λH H' r f t=>⟨r.1.bI (λa o n e=>⟨n,f a o n e⟩) t,r.2.bI (λa o n e=>⟨n,f a o n e⟩) t⟩
def Wi(ta:DA):DI:=λρ P=>ta ρ λks=>match ks with
 |[(k1,.list ds),(k2,.list es)]=>P (k1.join k2) ((ds.zip es).map prD)
 |[(k1,.tuple ds),(k2,.tuple es)]=>P (k1.join k2) ((ds.zip es).map prD)
 |_=>False
def wZ{elts:List Zt}{kk:Nat}{j:Pos}{a b:Zt}{ps:Pos}(hm:X.mg "zip"=none)(ha:PDA X [a,b] ta)(hg:Gl X "zip":=by rfl)(l:Zu [a,b] X.env=(false,Zv a X.env)::Zu [b] X.env:=by rfl)(m:(Zw pos (Zu [b] X.env)).any (·.1)=false:=by rfl):PDI X (.Tuple elts kk j) (.Call (.Name "zip" ps) [a,b] [] pos) (Wi ta):=PI.wk (Oi hg hm ha l m) (by
 rintro σ H R ⟨p,H0,own,ρ,P,E,t,q⟩;refine⟨p,H0,own,ρ,_,E,t,λks vs H1 h A r=>?_⟩;split at h
 ·rename_i f ds g es;let⟨o,s,rfl,c,d⟩:=Jf r;have c:=dR A (dM f g).1 c;have d:=dR A (dM f g).2 d;let⟨a,vs,e,_,ha,n⟩:=Rp.dh (id c);subst e;let⟨b,i,e,_,hb,k⟩:=Rp.dh (id d);subst e;exact⟨a,b,rfl,.inl ⟨vs,i,SqL.of ha,SqL.of hb,q (f.join g) _ _ H1 _ h A Ia ⟨rpA c,rpA d⟩⟩⟩
 ·rename_i f ds g es;let⟨o,s,rfl,c,d⟩:=Jf r;have c:=dR A (dM f g).1 c;have d:=dR A (dM f g).2 d;let⟨a,vs,e,ha,n⟩:=Rp.dU (id c);subst e;let⟨b,i,e,hb,k⟩:=Rp.dU (id d);subst e;exact⟨a,b,rfl,.inr ⟨vs,i,SqT.of ha,SqT.of hb,q (f.join g) _ _ H1 _ h A Gb ⟨rpA c,rpA d⟩⟩⟩
 ·exact h.elim)
end
end Dl
namespace Wr
open L2 Dl
variable [Gr] {X:Cx}{pos:Pos}{ta:DA}
def wZ{elts:List Zt}{kk:Nat}{c:Pos}{a b:Zt}{ps:Pos}(hm:X.mg "zip"=none)(ha:WDA X [a,b] ta)(hg:Gl X "zip":=by rfl)(d:Zu [a,b] X.env=(false,Zv a X.env)::Zu [b] X.env:=by rfl)(e:(Zw pos (Zu [b] X.env)).any (·.1)=false:=by rfl):WDI X (.Tuple elts kk c) (.Call (.Name "zip" ps) [a,b] [] pos) (Wi ta):=⟨Dl.wZ hm ha.h hg d e⟩
end Wr
namespace L2
open PySem.Spec PySem.Builtin PySem.Builtin.Str
section
variable{X:Cx}
end
end L2
namespace L2
open PySem.Spec
section
variable{X:Cx}
abbrev FP:=List (Str ⊕ Nat)
inductive FPs(X:Cx):List Zt->FP->Prop
 |nil:FPs X [] []
 |str {c:Str}{k:Nat}{ps:Pos}{es:List Zt}{r:FP} (t:FPs X es r):FPs X (.Constant (.str c) k ps::es) (.inl c::r)
 |val {e:Zt}{i:Nat}{ps:Pos}{es:List Zt}{r:FP} (h:PE X e (jJ i)) (t:FPs X es r):FPs X (.FormattedValue e (-1) none ps::es) (.inr i::r)
end
end L2
namespace Dl
open L2
section
variable [Gr] {X:Cx}{pos:Pos}{a b e o tg l:Zt}{ta tb te tl to:DE}{t:DA}
end
end Dl
namespace Wr
open L2 Dl
section
variable [Gr] {X:Cx}{pos:Pos}{a b tg l:Zt}{ta tb te tl:DE}{t:DA}
end
end Wr
namespace L2
open PySem.Spec
section
variable{K:W.Frag}{PT b f:Addr}{h:Heap}
end
end L2
namespace Nf
open L2 Dl
def okT{P:Za}{w:Zb}{K:PySem.W.Frag}{mg:Str->ew}{fw:Heap}{x q:Str}{st:ZF}{f:Addr}{b:Yt}{N ps:List Str}{k:Nat}{g:ed}{T:DS}(F:Fun K x q st f b)(S:FnScope N ps (aC st))(B:∀{cdv A outer s H E},Room k (A.deeper (Yz q (aC st) ↥s f cdv))->N.Nodup->Wr.WDSs (zU CX0 P w K mg fw N q (aC st) f cdv A outer s H E).nox (bG st) T)(R:∀ds P,g ds P->∃ρ,ds.map dO++List.replicate (⇑N - ⇑ds) .any=ρ/\T { nx:=λ_=>P .none,rt:=P } ρ)(a:∀vs H Q E,spD g vs H Q E->⇑vs=⇑ps:=by exact Ei):FnOk P w K mg fw CX0 (k+1) f b ps (spD g):=F.ok S a λcdv A outer s H vs Q E hr h=>⟨_,(B hr S.nd).h,Us h R⟩
def top(i:Nat):ZF:=PySem.Challenge.pw_nofall_k55_names_of_ties.main.body.getD i (.Pass ⟨0,0,0,0⟩)
def OkT(n:Int)(t:Tie):Prop:=(0<=t.1/\t.1<n)/\(0<=t.2/\t.2<n)/\t.1≠t.2
def OkN(n:Int)(us:eh):Prop:=∀t∈us,OkT n t
def OkN.snoc{n:Int}{us:eh}{t:Tie}(h:OkN n us)(h':OkT n t):OkN n (us++[t]):=λu hu=>(List.mem_append.mp hu).elim (h u) λz=>by rw[List.mem_singleton.mp z];exact h'
def OkW(n:Int)(us:eh):Prop:=∀t∈us,0<=t.1/\t.1<t.2/\t.2<n
def app1(c:eh)(a b:Int):c.map pD++[PyData.tuple [.int a,.int b]]=(c++[((a,b):Tie)]).map pD:=by
 rw[List.map_append];rfl
def Ea(us:eh):okD (.list (us.map pD))=true/\okD (.tuple (us.map pD))=true:=by
 have h1:∀us:eh,PyData.canLayAll0 (us.map pD)=true:=λus=>by
  induction us with
  |nil=>rfl
  |cons t us b=>exact b
 have h2:∀us:eh,PyData.depthAll (us.map pD)<=1:=λus=>by
  induction us with
  |nil=>exact Nat.zero_le _
  |cons t us b =>
   show max (max 0 (max 0 0)+1) (PyData.depthAll (us.map pD))<=1;lia
 have a:PyData.depthAll (us.map pD)+1<=60:=by have:=h2 us;lia
 constructor
 ·show(PyData.canLayAll0 (us.map pD)&&decide (PyData.depthAll (us.map pD)+1<=60))=true;rw[h1,fy a];rfl
 ·show(PyData.canLayAll0 (us.map pD)&&decide (PyData.depthAll (us.map pD)+1<=60))=true;rw[h1,fy a];rfl
def Rq{x y:Int}{out:eg}(p:out.Perm [x,y])(s:out.Pairwise (·<=·))(n:x≠y):∃u v,out=[u,v]/\u<v/\(u=x\/u=y)/\(v=x\/v=y):=by
 have hl:=p.length_eq;match out,hl with
 |[u,v],_ =>
  have hu:u∈[x,y]:=p.mem_iff.mp (by simp);have hv:v∈[x,y]:=p.mem_iff.mp (by simp);have a:x∈[u,v]:=p.mem_iff.mpr (by simp);have b:y∈[u,v]:=p.mem_iff.mpr (by simp);simp at hu hv a b s;exact⟨u,v,rfl,(),hu,hv⟩
def PSs.wk{X:Cx}{a:List ZF}{t t':TS}(h:PSs X a t)(w:∀D σ H,t' D σ H->t D σ H):PSs X a t':=λpins s σ H D I q=>h pins s σ H D I (w D σ H q)
def dD(c:Addr)(a r:Int):List (Key×V):=[(.inr "script",.ref c),(.inr "at",.int a),(.inr "left",.int r)]
def Gu(p sc:Addr)(ns:eg)(b:Bool):Pn where
 fp:=λa=>a=p\/(b=true/\a=sc)
 PI:=λH=>(∃x y:Int,H p=some (.dK (dD sc x y)))/\(b=true->Rd H sc (.lst (ns.map V.int)))
 pv:=.ref p
 mono:=λH H' ⟨⟨x,y,h⟩,r⟩ k=>⟨⟨x,y,k _ _ (.inl (.inl rfl)) h⟩,λe=>(r e).elim (λz=>.inl (k _ _ (.inl (.inr ⟨e,rfl⟩)) z)) λ⟨o,z⟩=>.inr ⟨o,k _ _ (.inl (.inr ⟨e,rfl⟩)) z⟩⟩
 is:=λH a ⟨⟨x,y,h⟩,r⟩ hb=>by
  rcases hb with rfl|⟨e,rfl⟩
  ·exact⟨_,h,(λxs z=>(nomatch z)),λ⟨_,_,z⟩=>(nomatch z)⟩
  ·rcases r e with z|⟨o,z⟩
   ·exact⟨_,z,(λxs z=>(nomatch z)),λ⟨_,_,z⟩=>(nomatch z)⟩
   ·exact⟨_,z,(λxs z=>(nomatch z)),λ⟨_,_,z⟩=>(nomatch z)⟩
def CP(K:W.Frag)(q:Pn):Prop:=∃p sc ns b,(b=true->p≠sc)/\(b=false->∀H,SqL K H sc (ns.map V.int))/\q=Gu p sc ns b
def Sv{K:W.Frag}{H:Hp}{a:Addr}{ns:eg}{b:Bool}(r:b=true->Rd H a (.lst (ns.map V.int)))(hb:b=false->∀H,SqL K H a (ns.map V.int)):SqL K H a (ns.map V.int):=by
 cases b with
 |true=>exact .inl (r rfl)
 |false=>exact hb rfl H
def Jl{H:Hp}{a p:Addr}{u o:HO}(h:Rd H a u)(n:p≠a):Rd (upd H p o) a u:=by
 rcases h with z|⟨o',z⟩
 ·exact .inl (by rw[ao (Ne.symm n)];exact z)
 ·exact .inr ⟨o',by rw[ao (Ne.symm n)];exact z⟩
def Ij(c:Addr)(a r:Int):gw (dD c a r) (.inr "script")=some (.ref c):=by
 unfold dD gw;simp
def Vh(c:Addr)(a r:Int):gw (dD c a r) (.inr "at")=some (.int a):=by
 unfold dD gw;have h1:¬((Sum.inr ("script":Str):Key)=Sum.inr ("at":Str)):=by intro z;injection z with z;exact dS z ⋯
 simp[List.find?_cons,h1]
def v_left(c:Addr)(a r:Int):gw (dD c a r) (.inr "left")=some (.int r):=by
 unfold dD gw;have h1:¬((Sum.inr ("script":Str):Key)=Sum.inr ("left":Str)):=by intro z;injection z with z;exact dS z ⋯
 have h2:¬((Sum.inr ("at":Str):Key)=Sum.inr ("left":Str)):=by intro z;injection z with z;exact dS z ⋯
 simp[List.find?_cons,h1,h2]
def Xx(c:Addr)(a r b:Int):putK (dD c a r) (.inr "at") (.int b)=dD c b r:=by
 unfold putK;rw[dP (by rw[jG,Vh];rfl)];unfold dD;have h1:¬((Sum.inr ("script":Str):Key)=Sum.inr ("at":Str)):=by intro z;injection z with z;exact dS z ⋯
 have h2:¬((Sum.inr ("left":Str):Key)=Sum.inr ("at":Str)):=by intro z;injection z with z;exact dS z ⋯
 simp[h1,h2]
def S7(c:Addr)(a r b:Int):putK (dD c a r) (.inr "left") (.int b)=dD c a b:=by
 unfold putK;rw[dP (by rw[jG,v_left];rfl)];unfold dD;have h1:¬((Sum.inr ("script":Str):Key)=Sum.inr ("left":Str)):=by intro z;injection z with z;exact dS z ⋯
 have h2:¬((Sum.inr ("at":Str):Key)=Sum.inr ("left":Str)):=by intro z;injection z with z;exact dS z ⋯
 simp[h1,h2]
def Fg:FF:=λds P=>∃m:Int,ds=[.int m]/\0<m/\m<1073741824/\∀r:Int,0<=r->r<m->P (.int r)
def qW{C:Pn->Prop}{f:ed}{n:Nat}(hn:∀ds P,f ds P->⇑ds=n:=by intro _ _ h;repeat (first|(let⟨rfl,_⟩:=h;rfl)|let⟨_,h⟩:=h)):∀vs H Q E,spP C f vs H Q E->⇑vs=n+1:=λvs H Q E h=>by
 let⟨p,vs',ds,P,_,rfl,_,r,t,_⟩:=h;rw[List.length_cons,⇑r,hn ds P t]
def Tw{x m:Int}(hm:0<m)(hb:m<=2 ^ 32):-(2 ^ 64)<x % m/\x % m<2 ^ 64:=by
 have h1:=Int.emod_nonneg x (b:=m) ();have h2:=Int.emod_lt_of_pos x hm;lia
def Qa{i:Int}{ns:eg}(h:(0:Int)<(⇑(ns.map V.int):Nat)):∃v:Int,atI (ns.map V.int) (i % (⇑(ns.map V.int):Int))=some (.int v):=by
 rw[List.length_map]at h ⊢;have h1:=Int.emod_nonneg i (b:=(⇑ns:Int)) ();have h2:=Int.emod_lt_of_pos i h;have hk:(i % (⇑ns:Int)).toNat<⇑ns:=()
 have a:i % (⇑ns:Int)=(((i % (⇑ns:Int)).toNat:Nat):Int):=()
 have q:atI (ns.map V.int) (((i % (⇑ns:Int)).toNat:Nat):Int)=some (.int ns[(i % (⇑ns:Int)).toNat]):=fW (by rw[List.getElem?_map,List.getElem?_eq_getElem hk];rfl);rw[←a]at q;exact⟨_,q⟩
def oZ{H:Hp}{p c:Addr}{a r:Int}(h:H p=some (.dK (dD c a r))):mK H p (.str "script") (some (.ref c)):=by
 have q:=mK.k (k:=Sum.inr ("script":Str)) h;rw[Ij]at q;exact q
def X3{H:Hp}{p c:Addr}{a r:Int}(h:H p=some (.dK (dD c a r))):mK H p (.str "at") (some (.int a)):=by
 have q:=mK.k (k:=Sum.inr ("at":Str)) h;rw[Vh]at q;exact q
def BR{H:Hp}{p c:Addr}{a r:Int}(h:H p=some (.dK (dD c a r))):mK H p (.str "left") (some (.int r)):=by
 have q:=mK.k (k:=Sum.inr ("left":Str)) h;rw[v_left]at q;exact q
def Xj{H:Hp}{p c:Addr}{a r:Int}(b:Int)(h:H p=some (.dK (dD c a r))):qm H p (.str "at") (.int b) (upd H p (.dK (dD c b r))):=by
 have q:=qm.k (k:=Sum.inr ("at":Str)) (v:=.int b) h (by show 3<sizeLine;rw[Ym];decide);rw[Xx]at q;exact q
def Ik{H:Hp}{p c:Addr}{a r:Int}(b:Int)(h:H p=some (.dK (dD c a r))):qm H p (.str "left") (.int b) (upd H p (.dK (dD c a b))):=by
 have q:=qm.k (k:=Sum.inr ("left":Str)) (v:=.int b) h (by show 3<sizeLine;rw[Ym];decide);rw[S7]at q;exact q
def eX{k:Nat}{A:Zr}(hr:Room k A):A.units+1<Ys:=by have:=hr.units;lia
def GX(c:Addr):ju [] [(Sum.inr ("script":Str),V.ref c),(Sum.inr ("at":Str),V.int 0),(Sum.inr ("left":Str),V.int 0)]=dD c 0 0:=by
 have h1:¬((Sum.inr ("script":Str):Key)=Sum.inr ("at":Str)):=by intro z;injection z with z;exact dS z ⋯
 have h2:¬((Sum.inr ("script":Str):Key)=Sum.inr ("left":Str)):=by intro z;injection z with z;exact dS z ⋯
 have a:¬((Sum.inr ("at":Str):Key)=Sum.inr ("left":Str)):=by intro z;injection z with z;exact dS z ⋯
 simp[ju,putK,dD,h1,h2,a]
def Ar:Sp:=λvs H Q _=>∃sc,vs=[.ref sc]/\∀p H',H p=none->Same H H'->H' p=some (.dK (dD sc 0 0))->Q (.ref p) H'
def tDr(K:W.Frag)(p c:Addr)(ns:eg):TS:=λD σ H=>∃(a2 a5:Option V)(m i cell a r:Int),σ=[some (.ref p),some (.int m),a2,some (.int i),some (.int cell),a5]/\0<m/\m<1073741824/\H p=some (.dK (dD c a r))/\SqL K H c (ns.map V.int)/\∀r',0<=r'->r'<m->D.rt (.int r') H/\∀b,D.rt (.int r') (upd H p (.dK (dD c a b)))
structure IsOrd(n:Int)(l:eg):Prop where
 len:(⇑l:Int)=n
 rng:∀x∈l,0<=x/\x<n
 nd:l.Nodup
def Lx:FF:=λds P=>∃n:Int,ds=[.int n]/\0<=n/\n<=64/\∀l,IsOrd n l->P (.list (l.map PyData.int))
def IsOrd.ins{k:Nat}{l:eg}(h:IsOrd k l)(j:Nat):IsOrd (~~~(k+1)) (l.take j++~~~k::l.drop j):=by
 have p:(l.take j++~~~k::l.drop j).Perm (~~~k::l):=by
  refine List.perm_middle.trans ?_;rw[List.take_append_drop]
 refine⟨?_,λx hx=>?_,?_⟩
 ·rw[p.length_eq,List.length_cons];have:=h.len;lia
 ·rcases List.mem_cons.mp (p.mem_iff.mp hx)with z|z
  ·lia
  ·have:=h.rng x z;lia
 ·refine p.symm.nodup ?_;refine List.nodup_cons.mpr ⟨λz=>?_,h.nd⟩;have:=h.rng _ z;lia
section
variable{P:Za}{w:Zb}{K:W.Frag}{mg:Str->ew}{fw:Heap}{f:Addr}{fd:Yt}
def RP:FnScope ["_law_script"] ["_law_script"] (aC (top 41)):=zC
def Tg(F:Fun K ce ce (top 41) f fd):1∩[az]∩Ar:=by
 refine F.ok RP (λvs H Q E h=>?_) (λcdv A outer s H vs Q E hr h=>?_)
 ·let⟨a,rfl,_⟩:=h;rfl
 let⟨a,rfl,q⟩:=h;refine⟨_,iG (jQ (wz (gU cG (pv 0) (gU cG cV (gU cG cV wu))) rfl rfl (by intro z;cases z) (by show 3<=15;decide))),?_⟩;intro p hp;refine⟨_,rfl,aB,[(Sum.inr ("script":Str),.ref a),(Sum.inr ("at":Str),.int 0),(Sum.inr ("left":Str),.int 0)],rfl,(by show 3<=15;decide),?_⟩;rw[GX];exact q p _ hp (λb o e=>by rw[ao (au e hp),ao (au e hp)];exact e) aB
def Dk:FnScope [aa,ay,"_law_digit","_law_at","_law_cell","_law_number"] [aa,ay] (aC (top 42)):=zC
def OD(F:Fun K bv bv (top 42) f fd)(B:Dl.Bn mg):1∩[aa,ay]∩spP (CP K) Fg:=by
 refine F.ok Dk qW (λcdv A outer s H vs Q E hr h=>?_);let⟨_,vs',ds,P,⟨p,d,ns,b,J,R,rfl⟩,rfl,⟨⟨a,r,hp⟩,N⟩,rp,⟨m,rfl,q,C,hP⟩,q0⟩:=h;obtain rfl:vs'=[.int m]:=by
  cases rp with
  |cons h1 t=>cases h1;cases t;rfl
 have M:=Dk.nd;have hu:=eX hr;refine⟨_,cA (vq (nH J7 (fK hu (pv 0) cG (λ_ _=>rfl)) cV (dg _))
   (cA (eN (i:=2) M rfl (Or.inl rfl) (dF j4 (fK hu (pv 0) cG (λ_ _=>rfl)) (pv 1)))
   (cA (nM hu (pv 0) cG (dF qT (fK hu (pv 0) cG (λ_ _=>rfl)) (pv 1)) rfl)
   (iG (jQ (pv 2))))) nJ)
  (cA (eN (i:=3) M rfl (Or.inl rfl) (fK hu (pv 0) cG (λ_ _=>rfl)))
  (cA (nM hu (pv 0) cG (dF j5 (pv 3) cV) rfl)
  (cA (eN (i:=4) M rfl (Or.inl rfl) (dF j5 (dF pQ cV (pv 3)) cV))
  (cA (vq (nH (Td hr.units) (fK hu (pv 0) cG (λ_ _=>rfl)) (rQ dG) (dg _))
   (iG (eN (i:=4) M rfl (Or.inl rfl) (Dz qZ (fK hu (pv 0) cG (λ_ _=>rfl)) (dF j4 (pv 3) (eO gF rfl B.len PySem.boot_len (bV (fK hu (pv 0) cG (λ_ _=>rfl)) dG))) (λ_ _=>rfl)))) nJ)
  (PSs.wk (t':=tDr K p d ns) (cA (vq (PW.pt (Jr (nH DW (pv 3) (eO gF rfl B.len PySem.boot_len (bV (fK hu (pv 0) cG (λ_ _=>rfl)) dG)) (dg _)) (Dt (nH QJ (eO uH rfl B.abs Dl.boot_abs (bV (pv 4) dG)) (dF Tc cV cV) (dg _)))))
   (cA (nM hu (pv 0) cG (dF qT (eO uH rfl B.abs Dl.boot_abs (bV (pv 4) dG)) (pv 1)) rfl)
   (iG (jQ (dF j4 (eO uH rfl B.abs Dl.boot_abs (bV (pv 4) dG)) (pv 1))))) nJ)
  (cA (eN (i:=5) M rfl (Or.inl rfl) (dF j4 (dF pQ (dF j5 (dF j5 (dF j4 (pv 4) cV) (dF pQ cV (pv 3))) cV) cV) cV))
  (cA (eN (i:=5) M rfl (Or.inl rfl) (dF j4 (dF j5 (dF j5 (dF pQ (pv 5) (pv 5)) (dF pQ cV (pv 3))) cV) cV))
  (iG (jQ (dF j4 (dF qT (pv 5) cV) (pv 1))))))) ?dr))))),?_⟩
 case dr =>
  rintro D σ H' ⟨a2,a5,m,i,c,a,r,rfl,q,C,hp,hS,W⟩;have L:∀x:Int,0<=x % m/\x % m<m:=λx=>⟨Int.emod_nonneg _ (),Int.emod_lt_of_pos _ q⟩
  refine⟨_,rfl,_,rfl,p,_,rfl,oZ hp,d,_,rfl,.inl hS,_,_,rfl,rfl,_,rfl,zu (λc1=>⟨_,rfl,c,rfl,_,_,rfl,rfl,⟨∅,∅,∅⟩,_,_,rfl,rfl,_,rfl,zu (λc2=>?_) (λc2=>?_)⟩) (λc1=>bw ?_)⟩
  ·exact⟨_,rfl,c,rfl,_,rfl,_,_,rfl,rfl,⟨q,C⟩,_,rfl,p,_,rfl,Ik _ hp,_,rfl,c,rfl,_,rfl,_,_,rfl,rfl,q,(W _ (L _).1 (L _).2).2 _⟩
  all_goals
   refine⟨_,rfl,_,_,rfl,rfl,(by show(0:Int)<2147483629;decide),_,rfl,_,_,rfl,rfl,.inl ⟨∅,∅⟩,_,_,rfl,rfl,_,_,rfl,rfl,_,_,rfl,rfl,.inr ⟨∅,∅⟩,_,_,rfl,rfl,(by show(0:Int)<2147483647;decide),?_⟩;refine⟨_,rfl,_,rfl,_,_,rfl,rfl,.inl (Tw ∅ ∅),_,rfl,_,_,rfl,rfl,.inl ⟨∅,∅⟩,_,_,rfl,rfl,_,_,rfl,rfl,_,_,rfl,rfl,(by show(0:Int)<2147483587;decide),?_⟩;exact⟨_,rfl,_,_,rfl,rfl,⟨∅,∅⟩,_,rfl,_,_,rfl,rfl,q,(W _ (L _).1 (L _).2).1⟩
 have L:∀x:Int,0<=x % m/\x % m<m:=λx=>⟨Int.emod_nonneg _ (),Int.emod_lt_of_pos _ q⟩
 have G:∀(H':Hp)(r:Int),0<=r->r<m->(∀b o,H b=some o->b≠p->H' b=some o)->(∃a l,H' p=some (.dK (dD d a l)))->Q (.int r) H':=λH' r h1 h2 k ⟨a',l',e⟩ =>
  q0 _ _ _ (hP r h1 h2) (λb o e n=>k b o e λz=>n (.inl z)) ⟨⟨a',l',e⟩,λeb=>by
   rcases N eb with z|⟨o,z⟩
   ·exact .inl (k _ _ z (Ne.symm (J eb)))
   ·exact .inr ⟨o,k _ _ z (Ne.symm (J eb))⟩⟩ (.int r)
 have S:∀(H1:Hp)(o:HO),(∀b o,H b=some o->b≠p->H1 b=some o)->∀b u,H b=some u->b≠p->upd H1 p o b=some u:=λH1 o k b u e n=>by rw[ao n];exact k b u e n
 refine⟨_,rfl,p,_,rfl,BR hp,_,_,rfl,rfl,_,rfl,zu (λc1=>?_) (λc1=>?_)⟩
 ·exact⟨_,rfl,p,_,rfl,BR hp,_,rfl,_,_,rfl,rfl,q,_,rfl,p,_,rfl,BR hp,_,rfl,_,_,rfl,rfl,⟨q,C⟩,_,rfl,p,_,rfl,Ik _ hp,_,rfl,G _ _ (L _).1 (L _).2 (S _ _ λb o e _=>e) ⟨_,_,aB⟩⟩
 ·have I:upd H p (.dK (dD d (a+1) r)) p=some (.dK (dD d (a+1) r)):=aB;have k1:=S H (.dK (dD d (a+1) r)) λb o e _=>e;have Y:b=true->Rd (upd H p (.dK (dD d (a+1) r))) d (.lst (ns.map V.int)):=λe=>Jl (N e) (J e);refine⟨_,rfl,p,_,rfl,X3 hp,_,rfl,_,_,rfl,rfl,_,rfl,p,_,rfl,Xj _ hp,?_⟩;refine⟨_,rfl,_,_,rfl,rfl,.inl ⟨∅,∅⟩,_,_,rfl,rfl,?_⟩;refine⟨_,rfl,p,_,rfl,oZ I,∅,λz hz=>?_⟩;have zp:p≠z:=λe=>by subst e;rw[I]at hz;cases hz
  have X:∀b o,H b=some o->b≠p->upd (upd H p (.dK (dD d (a+1) r))) z (.lst []) b=some o:=λb o e n=>by
   have U:=k1 b o e n;have Z:b≠z:=λy=>by subst y;rw[U]at hz;cases hz
   rw[ao Z];exact U
  have j:upd (upd H p (.dK (dD d (a+1) r))) z (.lst []) p=some (.dK (dD d (a+1) r)):=by rw[ao zp];exact I
  have r2:b=true->Rd (upd (upd H p (.dK (dD d (a+1) r))) z (.lst [])) d (.lst (ns.map V.int)):=λe=>Jl (Y e) (λy=>by
   subst y;rcases Y e with y|⟨o,y⟩ <;> rw[hz]at y <;> cases y)
  have g:SqL K (upd (upd H p (.dK (dD d (a+1) r))) z (.lst [])) d (ns.map V.int):=Sv r2 R;have O:∀c,tDr K p d ns { nx:=λ_ H'=>Q .non H',rt:=Q } [some (.ref p),some (.int m),none,some (.int a),some (.int c),none] (upd (upd H p (.dK (dD d (a+1) r))) z (.lst [])):=λc =>
   ⟨_,_,m,a,c,_,_,rfl,q,C,j,g,λr' h1 h2=>⟨G _ _ h1 h2 X ⟨_,_,j⟩,λb=>G _ _ h1 h2 (S _ _ X) ⟨_,_,aB⟩⟩⟩
  refine⟨iD ns,iD [],_,.flt g,.flt (l:=[]) (SqL.of aB),rfl,_,rfl,?_⟩;rw[LK];by_cases hn:ns=[]
  ·subst hn;exact bw (O _)
  ·have T:(0:Int)<(⇑(ns.map V.int):Int):=by
    rw[List.length_map];have:=List.length_pos_iff.mpr hn;lia
   rw[show(if true=true then !decide (ns=[])else decide (ns=[]))=true by rw[dC hn];rfl];let⟨v,hv⟩:=Qa (i:=a) (ns:=ns) T;exact bC ⟨_,rfl,p,_,rfl,oZ j,_,rfl,_,rfl,p,_,rfl,oZ j,d,_,rfl,.inl g,_,_,rfl,rfl,T,d,_,_,_,rfl,rfl,g,hv,O v⟩
def xY:FnScope [aa,av,am,be] [aa,av] (aC (top 43)):=zC
def Kf(F:Fun K bz bz (top 43) f fd)(B:Dl.Bn mg)(T:1∪bv∪[aa,ay]∪spP (CP K) Fg):2∩[aa,av]∩spP (CP K) Lx:=by
 refine F.ok xY qW (λcdv A outer s H vs Q E hr h=>?_);have b:=xY.nd;refine⟨_,aA (aW (some 0) (eN (i:=2) b rfl (Or.inl rfl) (cg ak)))
  (aA (d7 PassesOwn.never rfl (cZ B.range (aj (dv 1) ak)) (aH (Dw (i:=3) b rfl (Or.inl rfl)))
   (aF (Hq (i:=2) (gA (rR PySem.F.plainAttrs_list PySem.F.slot_list_insert PySem.F.type_list_insert GQ (pv 2) (aj (dcP T hr (pv 0) (aj (S6 (dv 3) aq) ak)) (aj (dv 3) ak)))))))
  (aF (aJ (dv 2)))),enterQ h ?_⟩
 rintro ds P ⟨n,rfl,n0,c,q⟩;refine⟨[.im (.int n),.any,.any],rfl,?_⟩;refine⟨∅,⟨(),()⟩,rfl,λ(i:Nat) ρ=>∃(l:eg)(s:Sl),IsOrd i l/\s.region=none/\ρ=[.pen (CP K),.im (.int n),.dw 0 (.list (l.map PyData.int)),s],⟨[],.any,⟨rfl,λx hx=>(nomatch hx),.nil⟩,rfl,rfl⟩,?_,?_⟩
 ·rintro i d ρ hd ⟨l,s,hl,hs,rfl⟩;let⟨hi,rfl⟩:=cY hd;have a:=hl.len;refine⟨rfl,_,rfl,(),(),λr r0 r1=>⟨rfl,r0,?_,?_,?_⟩⟩
  ·rw[List.length_map];lia
  ·rw[List.length_map];lia
  ·refine⟨l.take r.toNat++~~~i::l.drop r.toNat,.im (.int (0+~~~i)),hl.ins r.toNat,rfl,?_⟩;show [Sl.pen (CP K),Sl.im (.int n),Sl.dw 0 (.list ((l.map PyData.int).take r.toNat++PyData.int (0+~~~i)::(l.map PyData.int).drop r.toNat)),Sl.im _]=_;rw[List.map_append,List.map_cons,List.map_take,List.map_drop,Int.zero_add]
 ·rintro ρ ⟨l,s,hl,hs,rfl⟩;rw[aY]at hl;have e:(~~~n.toNat)=n:=()
  rw[e]at hl;exact⟨rfl,q l hl⟩
end
inductive Rt(us:eh):Int->Int->Prop
 |refl (a:Int):Rt us a a
 |step {a b c:Int} (h:Rt us a b) (t:(b,c)∈us):Rt us a c
def Rt.trans{us:eh}{a b c:Int}(h:Rt us a b)(k:Rt us b c):Rt us a c:=by
 induction k with
 |refl=>exact h
 |step _ t d=>exact .step d t
def NZ{us vs:eh}(h:∀a b,(a,b)∈us->(b,a)∈vs){a b:Int}(r:Rt us a b):Rt vs b a:=by
 induction r with
 |refl=>exact .refl _
 |step _ t c=>exact(Rt.step (.refl _) (h _ _ t)).trans c
def Rt.mono{us vs:eh}(h:∀t∈us,t∈vs){a b:Int}(r:Rt us a b):Rt vs a b:=by
 induction r with
 |refl=>exact .refl _
 |step _ t c=>exact .step c (h _ t)
def Rt.sym{us:eh}(h:∀a b,(a,b)∈us->(b,a)∈us){a b:Int}(r:Rt us a b):Rt us b a:=NZ h r
def Rt.rng{us:eh}{n:Nat}(ok:∀t∈us,0<=t.2/\t.2<n){a b:Int}(h:0<=a/\a<n)(r:Rt us a b):0<=b/\b<n:=by
 cases r with
 |refl=>exact h
 |step _ t=>exact ok _ t
open Classical in
def RZ(us:eh)(a b:Int):Bool:=decide (Rt us a b)
def CN{us:eh}{a b:Int}:RZ us a b=true↔Rt us a b:=by
 classical
 unfold RZ;exact decide_eq_true_iff
def RB(us:eh)(a b:Nat):Bool:=RZ us (~~~a) (~~~b)
def eZ{us:eh}{a b:Nat}:RB us a b=true↔Rt us (~~~a) (~~~b):=CN
def FW(us:eh)(a:Nat):RB us a a=true:=eZ.mpr (.refl _)
def d9(R:Nat->Nat->Bool)(n a:Nat):ei:=(List.range n).filter λb=>R a b&&R b a
def iK(R:Nat->Nat->Bool)(n a:Nat):Bool:=decide ((d9 R n a).head?=some a)
def zI(l:ei):eg:=l.map λi:Nat=>0+(~~~i)
def iY(R:Nat->Nat->Bool)(n k:Nat):ef:=(((List.range n).take k).filter (iK R n)).map λa=>zI (d9 R n a)
def M4{R R':Nat->Nat->Bool}{n:Nat}(h:∀a b,a<n->b<n->(R a b&&R b a)=(R' a b&&R' b a))(k:Nat):iY R n k=iY R' n k:=by
 have m:∀a,a<n->d9 R n a=d9 R' n a:=λa ha=>List.filter_congr λb hb=>h a b ha (List.mem_range.mp hb);unfold iY;have c:∀a∈(List.range n).take k,a<n:=λa ha=>List.mem_range.mp (List.mem_of_mem_take ha);have e:((List.range n).take k).filter (iK R n)=((List.range n).take k).filter (iK R' n):=List.filter_congr λa ha=>by unfold iK;rw[m a (c a ha)]
 rw[e];exact List.map_congr_left λa ha=>by rw[m a (c a (List.mem_filter.mp ha).1)]
def O4{R:Nat->Nat->Bool}{n a:Nat}(hs:R a a=true)(ha:a<n):d9 R n a≠[]:=by
 have:a∈d9 R n a:=List.mem_filter.mpr ⟨List.mem_range.mpr ha,by rw[hs];rfl⟩;exact List.ne_nil_of_mem this
def Ku(R:Nat->Nat->Bool)(n a:Nat):⇑(d9 R n a)<=n:=by
 have:=List.length_filter_le (λb=>R a b&&R b a) (List.range n);rw[List.length_range]at this;exact this
def Fx(R:Nat->Nat->Bool)(n k:Nat):⇑(iY R n k)<=n:=by
 unfold iY;rw[List.length_map];have h1:=List.length_filter_le (iK R n) ((List.range n).take k);rw[List.length_take,List.length_range]at h1;lia
def MJ(R:Nat->Nat->Bool){n k:Nat}(h:k<n):iY R n (k+1)=iY R n k++if iK R n k=true then [zI (d9 R n k)]else []:=by
 unfold iY;have e:(List.range n).take (k+1)=(List.range n).take k++[k]:=by
  rw[List.take_add_one,List.getElem?_range h];rfl
 rw[e,List.filter_append,List.map_append];cases a:iK R n k <;> simp[a]
def MN(R:Nat->Nat->Bool)(N k:Nat):∀l∈iY R N k,⇑l<=N:=by
 intro l hl;unfold iY at hl;let⟨a,_,rfl⟩:=List.mem_map.mp hl;unfold zI;rw[List.length_map];exact Ku R N a
def tE{l:ei}{x:Int}:x∈zI l↔0<=x/\x.toNat∈l:=by
 unfold zI;rw[List.mem_map];constructor
 ·rintro⟨i,hi,rfl⟩;rw[show((0+~~~i).toNat)=i by lia];exact⟨(),hi⟩
 ·intro h;exact⟨x.toNat,h.2,()⟩
def Tz{n:Nat}{x:Int}:x∈zI (List.range n)↔0<=x/\x<n:=by
 rw[tE,List.mem_range];lia
def CZ{l:ei}(h:l.Pairwise (·<·)):(zI l).Pairwise (·<·):=by
 unfold zI;rw[List.pairwise_map];exact h.imp λh=>()
def rsI(vs:eh)(n:Nat)(a:Int):eg:=(zI (List.range n)).filter (RZ vs a)
def pY{vs:eh}{n:Nat}{a x:Int}:x∈rsI vs n a↔(0<=x/\x<n)/\Rt vs a x:=by
 unfold rsI;rw[List.mem_filter,Tz,CN]
def qK{vs:eh}{n:Nat}{a:Int}:(rsI vs n a).Pairwise (·<·):=(CZ List.pairwise_lt_range).filter _
def RT(vs:eh)(n:Nat)(a:Int):⇑(rsI vs n a)<=n:=by
 unfold rsI;have:=List.length_filter_le (RZ vs a) (zI (List.range n));unfold zI at this;rw[List.length_map,List.length_range]at this;exact this
def Dp{l:eg}(h:l.Pairwise (·<·)):l.Nodup:=h.imp λh=>()
def vo{out ks l:eg}(hp:out.Perm ks)(hs:out.Pairwise (·<=·))(hn:ks.Nodup)(hl:l.Pairwise (·<·))(hk:∀q,q∈ks↔q∈l):out=l :=
 W.ksm_same (hp.trans ((List.perm_ext_iff_of_nodup hn (Dp hl)).mpr hk)) hs (hl.imp λh=>())
def yd{l k:eg}(hl:l.Pairwise (·<·))(hk:k.Pairwise (·<·))(h:∀q,q∈l↔q∈k):l=k:=vo (List.Perm.refl _) (hl.imp λh=>()) (Dp hl) hk h
def VJ{vs:eh}{n:Nat}{a:Int}{out ks:eg}(hp:out.Perm ks)(hs:out.Pairwise (·<=·))(hn:ks.Nodup)(hk:∀q,q∈ks↔Rt vs a q)(hr:∀q,Rt vs a q->0<=q/\q<n):out=rsI vs n a :=
 vo hp hs hn qK λq=>by
  rw[pY,hk];exact⟨λh=>⟨hr q h,h⟩,λh=>h.2⟩
def N5{vs us:eh}{n:Nat}{a:Int}(h:∀x,Rt vs a x↔Rt us a x):rsI vs n a=rsI us n a:=yd qK qK λq=>by rw[pY,pY,h]
def adj(us:eh)(F B:eg):eh:=us.zipIdx.flatMap λp=>if(~~~p.2)∈F then []else [p.1,(p.1.2,p.1.1)].filter λt=>decide (t.2∉B)
def oJ{us:eh}{F B:eg}{x y:Int}:(x,y)∈adj us F B↔∃k:Nat,(us[k]?=some (x,y)\/us[k]?=some (y,x))/\(~~~k)∉F/\y∉B:=by
 unfold adj;rw[List.mem_flatMap];constructor
 ·rintro⟨⟨t,k⟩,hk,h⟩;have hk:=List.mem_zipIdx_iff_getElem?.mp hk;by_cases a:(~~~k)∈F
  ·rw[dP a]at h;cases h
  ·rw[dQ a,List.mem_filter]at h;let⟨h,b⟩:=h;refine⟨k,?_,a,dE b⟩;rcases List.mem_cons.mp h with e|e
   ·left;rw[e];exact hk
   ·right;have e:=List.mem_singleton.mp e;have c:x=t.2:=dV Prod.fst e;have d:y=t.1:=dV Prod.snd e;rw[c,d];exact hk
 ·rintro⟨k,h,a,b⟩;rcases h with h|h
  ·refine⟨((x,y),k),List.mem_zipIdx_iff_getElem?.mpr h,?_⟩;rw[dQ a,List.mem_filter];exact⟨List.mem_cons_self,fy b⟩
  ·refine⟨((y,x),k),List.mem_zipIdx_iff_getElem?.mpr h,?_⟩;rw[dQ a,List.mem_filter];exact⟨List.mem_cons_of_mem _ (List.mem_singleton.mpr rfl),fy b⟩
def FQ{us:eh}{F B:eg}{n:Int}(ok:OkN n us)(n0:0<=n):∀t∈adj us F B,(0<=t.1/\t.1<(n.toNat:Nat))/\0<=t.2/\t.2<(n.toNat:Nat):=by
 rintro⟨x,y⟩ h;let⟨k,e,_⟩:=oJ.mp h;have a:(~~~n.toNat)=n:=()
 rcases e with e|e
 ·have o:=ok _ (List.mem_of_getElem? e);exact⟨by rw[a];exact o.1,by rw[a];exact o.2.1⟩
 ·have o:=ok _ (List.mem_of_getElem? e);exact⟨by rw[a];exact o.2.1,by rw[a];exact o.1⟩
def FN{us:eh}{F:eg}:∀a b,(a,b)∈adj us F []->(b,a)∈adj us F []:=λa b h=>by
 let⟨k,e,c,_⟩:=oJ.mp h;exact oJ.mpr ⟨k,e.symm,c,λz=>nomatch z⟩
def yL{n:Nat}{l:eg}(a:l.Nodup)(h:∀x∈l,0<=x/\x<n):⇑l<=n:=by
 induction n generalizing l with
 |zero=>cases l with
  |nil=>exact Nat.le_refl _
  |cons x l=>have:=h x (List.mem_cons_self ..);lia
 |succ n ih =>
  by_cases e:(~~~n)∈l
  ·have z:=ih (a.erase (~~~n)) λx hx=>by
    have:=h x (List.mem_of_mem_erase hx);have:x≠(~~~n):=(a.mem_erase_iff.mp hx).1;lia
   rw[List.length_erase_of_mem e]at z;lia
  ·have z:=ih a λx hx=>by
    have:=h x hx;have:x≠(~~~n):=λw=>e (w ▸ hx);lia
   lia
structure Fd(n:Nat)(es:eh)(a:Int)(l:eg)(at':Nat):Prop where
 nd:l.Nodup
 rng:∀x∈l,0<=x/\x<n
 st:a∈l
 rt:∀x∈l,Rt es a x
 cl:∀(j:Nat)(x:Int),j<at'->l[j]?=some x->∀y,(x,y)∈es->y∈l
section
variable{P:Za}{w:Zb}{K:W.Frag}{mg:Str->ew}{fw:Heap}{f:Addr}{fd:Yt}
structure StepsOk(n:Nat)(es:eh)(S:List eh):Prop where
 len:⇑S=n
 rng:∀ts∈S,∀t∈ts,0<=t.1/\t.1<n
 few:∀ts∈S,⇑ts<=200
 is:∀(a:Nat)(ts:eh),S[a]?=some ts->∀b,(∃t∈ts,t.1=b)↔(~~~a,b)∈es
def stD(S:List eh):D:=.list (S.map λts=>.list (ts.map pD))
def rP(S:List eh):List ez:=S.map λts=>ts.map pD
def RJ(S:List eh):PyData.list ((rP S).map PyData.list)=stD S:=by
 unfold rP stD;rw[List.map_map];rfl
def Jo(S:List eh)(k:Nat)(l:eh)(u:Tie):(rP S).set k (l.map pD++[pD u])=rP (S.set k (l++[u])):=by
 unfold rP;rw[List.map_set,List.map_append];rfl
structure StepsTo(n:Nat)(us:eh)(k:Nat)(S:List eh):Prop where
 len:⇑S=n
 rng:∀ts∈S,∀t∈ts,0<=t.1/\t.1<n
 few:∀ts∈S,⇑ts<=2 * k
 is:∀(a:Nat)(ts:eh),S[a]?=some ts->∀b,(∃t∈ts,t.1=b)↔((~~~a,b)∈us.take k\/(b,~~~a)∈us.take k)
def yh{S:List eh}{p:Nat}{l:eh}(hl:S[p]?=some l)(q:Int)(x:Int)(a:Nat)(d:eh)(h:(S.set p (l++[(q,x)]))[a]?=some d):∃ts0,S[a]?=some ts0/\∀b,(∃t∈d,t.1=b)↔((∃t∈ts0,t.1=b)\/(a=p/\b=q)):=by
 have c:=(List.getElem?_eq_some_iff.mp hl).1;by_cases e:p=a
 ·subst e;rw[List.getElem?_set_self c]at h;cases h;refine⟨l,hl,λb=>?_⟩;constructor
  ·rintro⟨u,hu,e⟩;rcases List.mem_append.mp hu with z|z
   ·exact .inl ⟨u,z,e⟩
   ·rw[List.mem_singleton.mp z]at e;exact .inr ⟨rfl,e.symm⟩
  ·rintro(⟨u,hu,e⟩|⟨_,rfl⟩)
   ·exact⟨u,List.mem_append_left _ hu,e⟩
   ·exact⟨(b,x),List.mem_append_right _ (List.mem_singleton.mpr rfl),rfl⟩
 ·rw[List.getElem?_set_ne e]at h;exact⟨d,h,λb=>⟨.inl,λz=>z.elim id λz=>dS z.1.symm e⟩⟩
def StepsTo.next{n:Nat}{us:eh}{k:Nat}{S:List eh}(h:StepsTo n us k S){t:Tie}(ht:us[k]?=some t)(ok:(0<=t.1/\t.1<n)/\0<=t.2/\t.2<n){l f:eh}(x:Int)(hl:S[t.1.toNat]?=some l)(c:(S.set t.1.toNat (l++[(t.2,x)]))[t.2.toNat]?=some f):StepsTo n us (k+1) ((S.set t.1.toNat (l++[(t.2,x)])).set t.2.toNat (f++[(t.1,x)])):=by
 have hm:=List.mem_of_getElem? hl;have tk:us.take (k+1)=us.take k++[t]:=by rw[List.take_add_one,ht];rfl
 have d:∀ts∈S.set t.1.toNat (l++[(t.2,x)]),(∀t∈ts,0<=t.1/\t.1<n)/\⇑ts<=2 * k+1:=λts hts=>by
  rcases List.mem_or_eq_of_mem_set hts with z|rfl
  ·exact⟨h.rng ts z,by have:=h.few ts z;lia⟩
  ·refine⟨λu hu=>?_,by rw[List.length_append,List.length_singleton];have:=h.few l hm;lia⟩;rcases List.mem_append.mp hu with z|z
   ·exact h.rng l hm u z
   ·rw[List.mem_singleton.mp z];exact ok.2
 have j:=d f (List.mem_of_getElem? c);refine⟨by rw[List.length_set,List.length_set];exact h.len,λts hts=>?_,λts hts=>?_,λa ts ha b=>?_⟩
 ·rcases List.mem_or_eq_of_mem_set hts with z|rfl
  ·exact(d ts z).1
  ·intro u hu;rcases List.mem_append.mp hu with z|z
   ·exact j.1 u z
   ·rw[List.mem_singleton.mp z];exact ok.1
 ·rcases List.mem_or_eq_of_mem_set hts with z|rfl
  ·have:=(d ts z).2;lia
  ·rw[List.length_append,List.length_singleton];lia
 ·let⟨r,h1,p⟩:=yh c _ _ a ts ha;let⟨q,m,o⟩:=yh hl _ _ a r h1;rw[p,o,h.is a q m b,tk,List.mem_append,List.mem_append,List.mem_singleton,List.mem_singleton];have g:(a=t.1.toNat/\b=t.2)↔(~~~a,b)=t:=by
   constructor
   ·rintro⟨rfl,rfl⟩;rw[Int.toNat_of_nonneg ok.1.1]
   ·intro e;have s:(~~~a)=t.1:=dV Prod.fst e;exact⟨(),dV Prod.snd e⟩
  have i:(a=t.2.toNat/\b=t.1)↔(b,~~~a)=t:=by
   constructor
   ·rintro⟨rfl,rfl⟩;rw[Int.toNat_of_nonneg ok.2.1]
   ·intro e;have s:(~~~a)=t.2:=dV Prod.snd e;exact⟨(),dV Prod.fst e⟩
  rw[g,i];constructor
  ·rintro(((z|z)|z)|z)
   ·exact .inl (.inl z)
   ·exact .inr (.inl z)
   ·exact .inl (.inr z)
   ·exact .inr (.inr z)
  ·rintro((z|z)|(z|z))
   ·exact .inl (.inl (.inl z))
   ·exact .inl (.inr z)
   ·exact .inl (.inl (.inr z))
   ·exact .inr z
def FT{us:eh}{x y:Int}:(x,y)∈adj us [] []↔((x,y)∈us\/(y,x)∈us):=by
 rw[oJ];constructor
 ·rintro⟨k,e|e,_⟩
  ·exact .inl (List.mem_of_getElem? e)
  ·exact .inr (List.mem_of_getElem? e)
 ·rintro(e|e)
  ·let⟨k,hk⟩:=List.getElem?_of_mem e;exact⟨k,.inl hk,List.not_mem_nil,List.not_mem_nil⟩
  ·let⟨k,hk⟩:=List.getElem?_of_mem e;exact⟨k,.inr hk,List.not_mem_nil,List.not_mem_nil⟩
def aV(m:IM):eg:=m.map (·.1)
def iM{m:IM}{k:Int}:gb m k=true↔k∈aV m:=by
 unfold gb aV;rw[List.any_eq_true,List.mem_map];constructor
 ·rintro⟨p,hp,e⟩;exact⟨p,hp,dE e⟩
 ·rintro⟨p,hp,e⟩;exact⟨p,hp,fy e⟩
def Ub{m:IM}{k:Int}(h:gb m k=false):k∉aV m:=λz=>by rw[iM.mpr z]at h;cases h
def wj{m:IM}{k:Int}{d:D}(h:gb m k=false):iT m k d=m++[(k,d)]:=by
 unfold iT;rw[h];rfl
structure Sr(n:Nat)(us:eh)(a:Int)(m:IM)(open':Int->Prop):Prop where
 im:qe m=true
 nd:(aV m).Nodup
 rng:∀x∈aV m,0<=x/\x<n
 st:a∈aV m
 rt:∀x∈aV m,Rt us a x
 cl:∀x∈aV m,open' x\/∀b,(x,b)∈us->b∈aV m
def Sr.few{n:Nat}{us:eh}{a:Int}{m:IM}{o:Int->Prop}(h:Sr n us a m o):⇑m<=n:=by
 have:=yL h.nd h.rng;unfold aV at this
 rwa [List.length_map]at this
theorem Sr.all{n:Nat}{us:eh}{a:Int}{m:IM}(h:Sr n us a m λ_=>False):∀x,gb m x=true↔Rt us a x:=λx=>by
 rw[iM];refine⟨h.rt x,λr=>?_⟩;induction r with
 |refl=>exact h.st
 |step r t b=>exact(h.cl _ b).elim False.elim λz=>z _ t
def Sr.add{n:Nat}{us:eh}{a x c:Int}{m:IM}{o o':Int->Prop}(h:Sr n us a m o)(g:x∈aV m)(t:(x,c)∈us)(hc:0<=c/\c<n)(f:gb m c=false){d:D}(hd:eV d=true)(j:∀y,o y->o' y)(i:o' c):Sr n us a (iT m c d) o':=by
 have kk:aV (m++[(c,d)])=aV m++[c]:=by unfold aV;rw[List.map_append];rfl
 rw[wj f];refine⟨?_,?_,?_,?_,?_,?_⟩
 ·have:=h.im;unfold qe at this ⊢;rw[List.all_append,this];show(true&&(eV d&&true))=true;rw[hd];rfl
 ·rw[kk];exact List.nodup_append.mpr ⟨h.nd,by simp,λy e z hz=>by rw[List.mem_singleton.mp hz];rintro rfl;exact Ub f e⟩
 ·rw[kk];intro y e;rcases List.mem_append.mp e with z|z
  ·exact h.rng y z
  ·rw[List.mem_singleton.mp z];exact hc
 ·rw[kk];exact List.mem_append_left _ h.st
 ·rw[kk];intro y e;rcases List.mem_append.mp e with z|z
  ·exact h.rt y z
  ·rw[List.mem_singleton.mp z];exact .step (h.rt x g) t
 ·rw[kk];intro y e;rcases List.mem_append.mp e with z|z
  ·exact(h.cl y z).imp (j y) λq b hb=>List.mem_append_left _ (q b hb)
  ·rw[List.mem_singleton.mp z];exact .inl i
def Sr.wk{n:Nat}{us:eh}{a:Int}{m:IM}{o o':Int->Prop}(h:Sr n us a m o)(f:∀x∈aV m,o x->o' x\/∀b,(x,b)∈us->b∈aV m):Sr n us a m o' :=
 ⟨h.im,h.nd,h.rng,h.st,h.rt,λx hx=>(h.cl x hx).elim (f x hx) .inr⟩
def Lr:FF:=λds P=>∃n us,ds=[bB n us]/\0<=n/\n<=100/\⇑us<=100/\OkN n us/\∀S,StepsOk n.toNat (adj us [] []) S->P (stD S)
def Ey:FF:=λds P=>∃n us S a,ds=[stD S,.int a]/\n<=100/\StepsOk n us S/\0<=a/\a<n/\∀m:IM,qe m=true->(aV m).Nodup->⇑m<=n->(∀x,gb m x=true↔Rt us a x)->P (.dict (kvD m))
def Rf:FF:=λds P=>∃n us a,ds=[bB n us,.int a]/\0<=n/\n<=60/\⇑us<=100/\OkN n us/\0<=a/\a<n/\P (iD (rsI (adj us [] []) n.toNat a))
def Lw:FF:=λds P=>∃n us,ds=[bB n us]/\0<=n/\n<=60/\⇑us<=100/\OkN n us/\P (.list ((iY (RB (adj us [] [])) n.toNat n.toNat).map iD))
def ou:([bn,ai,du,ba,dq]:List Str).Nodup:=⋯
def qD(F:Fun K bo bo (top 23) f fd)(B:Dl.Bn mg)(v:mg cw=none):1∩[ai]∩spD Lr:=by
 refine okT F (N:=[ai,du,ba,dq]) zC (λhr nd=>Wr.aA (Wr.ur 0 [bn] (i:=1) rfl nd rfl zQ (Wr.cZ B.range (Wr.aj (Wr.aG (Wr.dv 0) Wr.aq) Wr.ak)) (λc=>(Wr.aH (i:=0) ou rfl zQ)))
  (Wr.aA (Wr.d7 PassesOwn.never rfl (Wr.pB v (Wr.aj (Wr.aG (Wr.dv 0) Wr.aq) Wr.ak)) (Wr.lA (n:=2) rfl (Wr.cD (Wr.aH (i:=2) nd rfl zQ) (Wr.cD (Wr.aH (i:=3) nd rfl zQ) Wr.iQ))) (Wr.aA (Wr.lY (Wr.wv 1) (Wr.aG (Wr.dv 3) Wr.aq) (Wr.aj (Wr.aL (Wr.aj (Wr.aG (Wr.dv 3) Wr.aq) (Wr.aj (Wr.dv 2) Wr.ak))) Wr.ak))
  (Wr.aA (Wr.lY (Wr.wv 1) (Wr.aG (Wr.dv 3) Wr.aq) (Wr.aj (Wr.aL (Wr.aj (Wr.aG (Wr.dv 3) Wr.aq) (Wr.aj (Wr.dv 2) Wr.ak))) Wr.ak)) (Wr.aQ [2,3] Wr.aU))))
  (Wr.aQ [2,3] (Wr.aF (Wr.aJ (Wr.dv 1)))))) ?_
 rintro ds P ⟨n,us,rfl,E,A,D,ok,q⟩;refine⟨[.im (bB n us),.any,.any,.any],?_,?_⟩
 ·show [dO (bB n us),.any,.any,.any]=_;rw[rz]
 refine⟨.int n,rfl,⟨(),()⟩,by rw[aY];lia,rfl,?_⟩;rw[aY];refine⟨.tuple (us.map pD),rfl,rfl,λ(i:Nat) ρ=>∃S,ρ=[.im (bB n us),.rw 0 (rP S),.any,.any]/\StepsTo n.toNat us i S,?_,?_,?_⟩
 ·refine⟨List.replicate n.toNat [],?_,List.length_replicate ..,λts h=>?_,λts h=>?_,λa ts h b=>?_⟩
  ·unfold rP;rw[List.map_replicate];rfl
  ·rw[(List.mem_replicate.mp h).2];exact λt ht=>nomatch ht
  ·rw[(List.mem_replicate.mp h).2];exact Nat.le_refl _
  ·rw[(List.mem_replicate.mp (List.mem_of_getElem? h)).2];exact⟨λ⟨t,ht,_⟩=>(nomatch ht),λz=>z.elim (λz=>nomatch z) λz=>nomatch z⟩
 ·rintro i d ρ hd ⟨S,rfl,T⟩;rw[jh,List.getElem?_map]at hd;obtain⟨t,ht,rfl⟩:∃t,us[i]?=some t/\PyData.tuple [.int (~~~i),pD t]=d:=by
   cases e:us[i]? with
   |none=>rw[e]at hd;cases hd
   |some t=>rw[e]at hd;exact⟨t,rfl,Option.some.inj hd⟩
  let⟨⟨s,G⟩,⟨u,H⟩,I⟩:=ok t (List.mem_of_getElem? ht);have hi:=(List.getElem?_eq_some_iff.mp ht).1;have m:t.1.toNat<⇑S:=by rw[T.len];lia
  have hl:=List.getElem?_eq_getElem m;generalize S[t.1.toNat]=l at hl;have C:=T.few l (List.mem_of_getElem? hl);have x:=Jo S t.1.toNat l (t.2,~~~i);have k:t.2.toNat<⇑(S.set t.1.toNat (l++[(t.2,~~~i)])):=by rw[List.length_set,T.len];lia
  have j:=List.getElem?_eq_getElem k;have r:t.1.toNat≠t.2.toNat:=()
  have g:S[t.2.toNat]?=some (S.set t.1.toNat (l++[(t.2,~~~i)]))[t.2.toNat]:=by rw[←j,List.getElem?_set_ne r]
  have p:=T.next ht ⟨⟨s,()⟩,u,()⟩ (~~~i) hl j;generalize (S.set t.1.toNat (l++[(t.2,~~~i)]))[t.2.toNat]=o at j g p;have y:=T.few o (List.mem_of_getElem? g);refine⟨rfl,.int t.1,rfl,t.1.toNat,l.map pD,?_,by unfold rP;rw[List.getElem?_map,hl];rfl,.int t.2,rfl,zK,rfl,by rw[List.length_map];lia,.int t.2,rfl,?_⟩
  ·unfold ixN rP;rw[dP s,dP (by rw[List.length_map,T.len];lia)]
  refine⟨t.2.toNat,o.map pD,?_,?_,.int t.1,rfl,zK,rfl,by rw[List.length_map];lia,_,?_,p⟩
  ·unfold ixN rP;rw[dP u,dP (by rw[List.length_set,List.length_map,T.len];lia)]
  ·rw[List.getElem?_set_ne r];unfold rP;rw[List.getElem?_map,g];rfl
  ·have e:=Jo (S.set t.1.toNat (l++[(t.2,~~~i)])) t.2.toNat o (t.1,~~~i);rw[←e,←x];rfl
 ·rintro ρ ⟨S,rfl,T⟩;rw[gM,List.length_map]at T;refine⟨rfl,?_⟩;show P (.list ((rP S).map PyData.list));rw[RJ];refine q S ⟨T.len,T.rng,λts h=>by have:=T.few ts h;lia,λa ts h b=>?_⟩;have z:=T.is a ts h b;rw[List.take_length]at z;rw[z,FT]
def Gx(F:Fun K db db (top 24) f fd)(B:Dl.Bn mg):1∩[du,"start"]∩spD Ey:=by
 refine okT F (N:=[du,"start","came",dr,"later",bn,"step"]) zC (λhr nd=>Wr.aA (Wr.aW (some 0) (i:=2) nd rfl zQ (Wr.rZ (Wr.dv 1) Wr.jX))
  (Wr.aA (Wr.aW none (i:=3) nd rfl zQ (Wr.cg (Wr.aj (Wr.dv 1) Wr.ak)))
  (Wr.aA (Wr.uo PassesOwn.never (Wr.qM (Wr.dv 3)) (Wr.aA (Wr.aW (some 1) (i:=4) nd rfl zQ (Wr.cg Wr.ak))
  (Wr.aA (Wr.d7 PassesOwn.never rfl (Wr.bW (Wr.dv 3)) (Wr.aH (i:=5) nd rfl zQ) (Wr.aA (Wr.d7 PassesOwn.never rfl (Wr.bW (Wr.aG (Wr.dv 0) (Wr.dv 5))) (Wr.aH (i:=6) nd rfl zQ) (Wr.aA (Wr.cR (Wr.jm hr.units (Wr.aG (Wr.dv 6) Wr.aq) (Wr.dv 2)) (Wr.aA (Wr.pA hr.units (Wr.wv 2) (Wr.aG (Wr.dv 6) Wr.aq) (Wr.aL (Wr.aj (Wr.dv 5) (Wr.aj (Wr.aG (Wr.dv 6) Wr.aq) Wr.ak))))
  (Wr.aF (Wr.ji (Wr.wv 4) (Wr.aj (Wr.aG (Wr.dv 6) Wr.aq) Wr.ak)))) Wr.aU) (Wr.aQ [6] Wr.aU))) (Wr.aQ [5,6] Wr.aU)))
  (Wr.aQ [5,6] (Wr.Cp 4 (Wr.aA (Wr.aW none (i:=3) nd rfl zQ (Wr.dv 4)) (Wr.aQ [4,5,6] Wr.aU)))))))
  (Wr.aQ [3,4,5,6] (Wr.aF (Wr.aJ (Wr.dv 2))))))) ?_
 rintro ds P ⟨n,us,S,a,rfl,Y,ok,a0,a1,q⟩;refine⟨[.sh (stD S),.im (.int a),.any,.any,.any,.any,.any],rfl,?_⟩;refine⟨rfl,zK,?_⟩;refine⟨λV ρ=>∃(m:IM)(row:eg),ρ=[.sh (stD S),.im (.int a),.dw 0 (.dict (kvD m)),.sn (iD row),.any,.any,.any]/\Sr n us a m (·∈row)/\(∀x∈row,x∈aV m)/\V=2 * (n - ⇑m)+(if row=[]then 0 else 1),⟨_,[(a,.none)],[a],rfl,?_,?_,rfl⟩,?_⟩
 ·refine⟨rfl,by simp[aV],λx k=>?_,by simp[aV],λx k=>?_,λx k=>.inl ?_⟩
  ·have e:x=a:=by simpa[aV]using k
   lia
  ·have e:x=a:=by simpa[aV]using k
   rw[e];exact .refl _
  ·have e:x=a:=by simpa[aV]using k
   rw[e];exact List.mem_singleton.mpr rfl
 ·intro x k;rw[List.mem_singleton.mp k];simp[aV]
 rintro V ρ ⟨m,R,rfl,h,hr,rfl⟩;show if(!(R.map PyData.int).isEmpty)=true then _ else _
 cases L:R with
 |nil =>
  refine bw (A:=True) ⟨rfl,q m h.im h.nd h.few (Sr.all (h.wk λx _ k=>?_))⟩;rw[L]at k;cases k
 |cons x0 R0 =>
  refine bC (B:=True) ?_;rw[←L];refine⟨∅,rfl,λ(i:Nat) ρ=>∃(E:IM)(c:eg),ρ=[.sh (stD S),.im (.int a),.dw 0 (.dict (kvD E)),.sn (iD R),.dw 1 (iD c),.any,.any]/\Sr n us a E (λy=>y∈c\/y∈R.drop i)/\(∀y∈R,y∈aV E)/\(∀y∈c,y∈aV E)/\⇑E=⇑m+⇑c,⟨m,[],rfl,h.wk λx _ k=>.inl (.inr k),hr,λy I=>(nomatch I),rfl⟩,?_,?_⟩
  ·rintro i d ρ hd ⟨E,c,rfl,h',H,G,p⟩;let⟨y,I,rfl⟩:=iJ hd;have yk:=H y (List.mem_of_getElem? I);have yr:=h'.rng y yk;have M:y.toNat<⇑S:=by rw[ok.len];lia
   have hl:=List.getElem?_eq_getElem M;generalize S[y.toNat]=s at hl;have fl:=ok.few s (List.mem_of_getElem? hl);have O:=ok.is _ s hl;rw[show(~~~y.toNat)=y by lia]at O;have X:R.drop i=y::R.drop (i+1):=by
    have hi:=(List.getElem?_eq_some_iff.mp I).1;rw[List.drop_eq_getElem_cons hi,(List.getElem?_eq_some_iff.mp I).2]
   have J:atI (S.map λs=>PyData.list (s.map pD)) y=some (.list (s.map pD)):=by
    have:=fW (xs:=S.map λs=>PyData.list (s.map pD)) (j:=y.toNat) (v:=.list (s.map pD)) (by rw[List.getElem?_map,hl];rfl)
    rwa [show(~~~y.toNat)=y by lia]at this
   refine⟨.list (s.map pD),J,rfl,λ(j:Nat) ρ=>∃(l:IM)(c:eg),ρ=[.sh (stD S),.im (.int a),.dw 0 (.dict (kvD l)),.sn (iD R),.dw 1 (iD c),.im (.int y),.any]/\Sr n us a l (λz=>(z∈c\/z∈R.drop (i+1))\/z=y)/\(∀y∈R,y∈aV l)/\(∀y∈c,y∈aV l)/\⇑l=⇑m+⇑c/\∀t∈s.take j,t.1∈aV l,⟨E,c,rfl,h'.wk λz _ r=>.inl ?_,H,G,p,λt ht=>(nomatch ht)⟩,?_,?_⟩
   ·rcases r with r|r
    ·exact .inl (.inl r)
    ·rw[X]at r;rcases List.mem_cons.mp r with e|e
     ·exact .inr e
     ·exact .inl (.inr e)
   ·rintro j d ρ hd ⟨l,c,rfl,h2,C,o,g,D⟩;let⟨t,ht,rfl⟩:=iJ hd;have tk:s.take (j+1)=s.take j++[t]:=by rw[List.take_add_one,ht];rfl
    have W:=List.mem_of_getElem? ht;have Z:=ok.rng s (List.mem_of_getElem? hl) t W;have U:=h2.few;refine⟨.int t.1,rfl,l,rfl,?_⟩;show if(!gb l t.1)=true then _ else _
    cases hb:gb l t.1 with
    |true =>
     refine bw (A:=True) ⟨l,c,rfl,h2,C,o,g,λu hu=>?_⟩;rw[tk]at hu;rcases List.mem_append.mp hu with z|z
     ·exact D u z
     ·rw[List.mem_singleton.mp z];exact iM.mp hb
    |false =>
     have kk:aV (iT l t.1 (.tuple [.int y,.int t.2]))=aV l++[t.1]:=by
      rw[wj hb];unfold aV;rw[List.map_append];rfl
     have ll:⇑(c.map PyData.int)=⇑c:=List.length_map ..;refine bC (B:=True) ⟨.int t.2,rfl,zK,.int t.1,rfl,l,rfl,rfl,h2.im,(),.int t.1,rfl,rfl,(),iT l t.1 (.tuple [.int y,.int t.2]),c++[t.1],?_,h2.add (x:=y) (C y (List.mem_of_getElem? I)) ((O t.1).mp ⟨t,W,rfl⟩) Z hb rfl (λz r=>?_) (.inl (.inl (List.mem_append_right _ (List.mem_singleton.mpr rfl)))),λz r=>?_,λz r=>?_,?_,λu hu=>?_⟩
     ·unfold iD;rw[List.map_append];rfl
     ·rcases r with(z|z)|z
      ·exact .inl (.inl (List.mem_append_left _ z))
      ·exact .inl (.inr z)
      ·exact .inr z
     ·rw[kk];exact List.mem_append_left _ (C z r)
     ·rw[kk];rcases List.mem_append.mp r with z|z
      ·exact List.mem_append_left _ (o _ z)
      ·rw[List.mem_singleton.mp z];exact List.mem_append_right _ (List.mem_singleton.mpr rfl)
     ·rw[wj hb,List.length_append,List.length_append,g];show ⇑m+⇑c+1=⇑m+(⇑c+1)
      lia
     ·rw[kk];rw[tk]at hu;rcases List.mem_append.mp hu with z|z
      ·exact List.mem_append_left _ (D u z)
      ·rw[List.mem_singleton.mp z];exact List.mem_append_right _ (List.mem_singleton.mpr rfl)
   ·rintro ρ ⟨l,c,rfl,h2,C,o,g,D⟩;rw[List.length_map,List.take_length]at D;refine⟨l,c,rfl,h2.wk λz r hz'=>?_,C,o,g⟩;rcases hz' with Q|Q
    ·exact .inl Q
    ·right;intro b hb;rw[Q]at hb;let⟨t,ht,e⟩:=(O b).mpr hb;rw[←e];exact D t ht
  ·rintro ρ ⟨E,c,rfl,h',H,G,p⟩;rw[List.length_map]at h';have T:=h'.few;refine⟨rfl,2 * (n - ⇑E)+(if c=[]then 0 else 1),?_,E,c,rfl,h'.wk λx _ k=>.inl ?_,G,rfl⟩
   ·rw[dQ (show ¬R=[] by rw[L];exact λz=>nomatch z)];by_cases e:c=[]
    ·subst e;rw[dP rfl];have p:⇑E=⇑m+0:=p;lia
    ·rw[dQ e];have:=List.length_pos_iff.mpr e;lia
   ·rcases k with k|k
    ·exact k
    ·rw[List.drop_length]at k;cases k
def q9{R:Nat->Nat->Bool}{n i:Nat}(hi:i<n)(hs:R i i=true):iK R n i=true↔∀b,b<i->(R i b&&R b i)=false:=by
 unfold iK d9;rw[decide_eq_true_iff,List.head?_filter,List.find?_range_eq_some];constructor
 ·intro h b hb;have:=h.2.2 b hb
  rwa [Bool.not_eq_true']at this
 ·intro h;refine⟨by rw[hs];rfl,List.mem_range.mpr hi,λj hj=>?_⟩;rw[h j hj];rfl
def O2{es:eh}(d:∀a b,(a,b)∈es->(b,a)∈es)(n i:Nat):rsI es n (~~~i)=zI (d9 (RB es) n i):=by
 refine yd qK (CZ (List.pairwise_lt_range.filter _)) λq=>?_;rw[pY,tE];unfold d9;rw[List.mem_filter,List.mem_range,Bool.and_eq_true,eZ,eZ];constructor
 ·rintro⟨⟨c,h1⟩,r⟩;rw[Int.toNat_of_nonneg c];exact⟨c,(),r,r.sym d⟩
 ·rintro⟨c,h1,r,_⟩;rw[Int.toNat_of_nonneg c]at r;exact⟨⟨c,()⟩,r⟩
structure Seen(n:Nat)(es:eh)(i:Nat)(m:IM):Prop where
 im:qe m=true
 nd:(aV m).Nodup
 rng:∀x∈aV m,0<=x/\x<n
 is:∀x,x∈aV m↔∃p:Nat,p<i/\Rt es (~~~p) x
def Jt{m:IM}(k:Int)(d:D):∀x,x∈aV (iT m k d)↔x∈aV m\/x=k:=λx=>by
 unfold iT;by_cases h:gb m k=true
 ·rw[dP h];have e:aV (m.map λp=>if p.1=k then(p.1,d)else p)=aV m:=by
   unfold aV;rw[List.map_map];refine List.map_congr_left λp _=>?_;show(if p.1=k then(p.1,d)else p).1=p.1;split <;> rfl
  rw[e];exact⟨.inl,λz=>z.elim id λz=>z ▸ iM.mp h⟩
 ·rw[dQ h];unfold aV;rw[List.map_append,List.mem_append];exact Iff.rfl.trans ⟨λz=>z.imp id List.mem_singleton.mp,λz=>z.imp id λz=>List.mem_singleton.mpr z⟩
def Du{m:IM}(k:Int)(d:D)(h:qe m=true)(hd:eV d=true):qe (iT m k d)=true:=by
 unfold iT;split
 ·unfold qe at *;rw[List.all_map,List.all_eq_true];intro p hp;show eV (if p.1=k then(p.1,d)else p).2=true;split
  ·exact hd
  ·exact List.all_eq_true.mp h p hp
 ·unfold qe at *;rw[List.all_append,h];show(true&&(eV d&&true))=true;rw[hd];rfl
def R8{m:IM}(k:Int)(d:D)(h:(aV m).Nodup):(aV (iT m k d)).Nodup:=by
 unfold iT;by_cases hh:gb m k=true
 ·rw[dP hh];have e:aV (m.map λp=>if p.1=k then(p.1,d)else p)=aV m:=by
   unfold aV;rw[List.map_map];refine List.map_congr_left λp _=>?_;show(if p.1=k then(p.1,d)else p).1=p.1;split <;> rfl
  rw[e];exact h
 ·rw[dQ hh];unfold aV at *;rw[List.map_append];refine List.nodup_append.mpr ⟨h,by simp,λy hy z a=>?_⟩;have a:=List.mem_singleton.mp a;rw[a];rintro rfl;exact hh (iM.mpr hy)
def Bj(F:Fun K cz cz (top 25) f fd)(B:Dl.Bn mg)(c:1∪db∪[du,"start"]∪spD Ey)(g:1∪bo∪[ai]∪spD Lr):2∩[ai,bn]∩spD Rf:=by
 refine okT F (N:=[ai,bn]) zC (λhr nd=>Wr.aF (Wr.aJ (Wr.rY rfl B.sorted (Wr.aj (Wr.dc c hr (Wr.aj (Wr.dc g hr (Wr.aj (Wr.dv 0) Wr.ak)) (Wr.aj (Wr.dv 1) Wr.ak))) Wr.ak)))) ?_;rintro ds P ⟨n,us,a,rfl,k,i,h,ok,b,j,q⟩;refine⟨[.im (bB n us),.im (.int a)],?_,?_⟩
 ·show [dO (bB n us),.im (.int a)]=_;rw[rz]
 have d:=FQ (F:=[]) (B:=[]) ok ();refine⟨n,us,rfl,(),(),h,ok,λS hS=>⟨n.toNat,_,S,a,rfl,(),hS,b,(),λm im nd few all=>⟨m,rfl,(),λout hp hs=>⟨rfl,?_⟩⟩⟩⟩;have e:=VJ (vs:=adj us [] []) (n:=n.toNat) (a:=a) hp hs nd (λx=>by rw[←all,iM];rfl) λx r=>r.rng (λt ht=>(d t ht).2) ⟨b,()⟩;rw[e];exact q
abbrev kA0(P w K mg fw):=2∪cz∪[ai,bn]∪spD Rf
def Ke(F:Fun K dy dy (top 26) f fd)(B:Dl.Bn mg)(I:kA0 P w K mg fw):3∩[ai]∩spD Lw:=by
 refine okT F (N:=[ai,"told","seen",bn,"part","member"]) zC (λhr nd=>Wr.aA (Wr.aW (some 0) (i:=1) nd rfl zQ (Wr.cg Wr.ak))
  (Wr.Mg 1 true (Wr.aA (Wr.aW (some 1) (i:=2) nd rfl zQ Wr.qQ)
  (Wr.aA (Wr.d7 PassesOwn.never rfl (Wr.cZ B.range (Wr.aj (Wr.aG (Wr.dv 0) Wr.aq) Wr.ak)) (Wr.aH (i:=3) nd rfl zQ) (Wr.aA (Wr.cR (Wr.jm hr.units (Wr.dv 3) (Wr.dv 2)) (Wr.aA (Wr.aW none (i:=4) nd rfl zQ (Wr.dc I hr (Wr.aj (Wr.dv 0) (Wr.aj (Wr.dv 3) Wr.ak))))
  (Wr.aA (Wr.wY (Wr.wv 1) (Wr.aj (Wr.dv 4) Wr.ak))
  (Wr.aA (Wr.d7 PassesOwn.never rfl (Wr.bW (Wr.dv 4)) (Wr.aH (i:=5) nd rfl zQ) (Wr.aA (Wr.pA hr.units (Wr.wv 2) (Wr.dv 5) Wr.iH) (Wr.aQ [5] Wr.aU))) (Wr.aQ [5] Wr.aU)))) Wr.aU) (Wr.aQ [3,4,5] Wr.aU)))
  (Wr.aQ [3,4,5] (Wr.aF (Wr.aJ (Wr.dv 1)))))))) ?_
 rintro ds P ⟨n,us,rfl,Q,L,J,ok,q⟩;refine⟨[.im (bB n us),.any,.any,.any,.any,.any],?_,?_⟩
 ·show [dO (bB n us),.any,.any,.any,.any,.any]=_;rw[rz]
 have s:=FQ (F:=[]) (B:=[]) ok ();have E:=FN (us:=us) (F:=[]);generalize C:adj us [] []=es at s E q;refine⟨zK,rfl,.int n,rfl,⟨(),()⟩,rfl,λ(i:Nat) ρ=>∃m,ρ=[.im (bB n us),.sp 0 true ((iY (RB es) n.toNat i).map iD),.dw 1 (.dict (kvD m)),.any,.any,.any]/\Seen n.toNat es i m,⟨[],rfl,rfl,by simp[aV],λx u=>(nomatch u),λx=>⟨λz=>(nomatch z),λ⟨p,hp,_⟩=>dS hp (Nat.not_lt_zero _)⟩⟩,?_,?_⟩
 ·rintro i d ρ hd ⟨m,rfl,h⟩;let⟨hi,rfl⟩:=cY hd;have l:=MJ (RB es) hi;have hl:=Fx (RB es) n.toNat i;refine⟨m,rfl,?_⟩;show if(!gb m (0+~~~i))=true then _ else _
  rw[Int.zero_add];have G:iK (RB es) n.toNat i=!gb m (~~~i):=by
   rw[Bool.eq_iff_iff,q9 hi (FW es i),Bool.not_eq_true',←Bool.not_eq_true,iM,h.is];constructor
   ·rintro z ⟨p,hp,r⟩;have:=z p hp;rw[eZ.mpr r,eZ.mpr (r.sym E)]at this;cases this
   ·intro z b hb;rw[Bool.and_eq_false_iff,←Bool.not_eq_true,←Bool.not_eq_true,eZ,eZ];exact .inr λr=>z ⟨b,hb,r⟩
  cases hb:gb m (~~~i)with
  |true =>
   rw[G,hb,dQ ∅,List.append_nil]at l;refine bw (A:=True) ⟨m,?_,h.im,h.nd,h.rng,λx=>?_⟩
   ·rw[l];rfl
   ·rw[h.is];constructor
    ·rintro⟨p,hp,r⟩;exact⟨p,(),r⟩
    ·rintro⟨p,hp,r⟩;by_cases e:p=i
     ·subst e;let⟨M,D,O⟩:=(h.is _).mp (iM.mp hb);exact⟨M,D,O.trans r⟩
     ·exact⟨p,(),r⟩
  |false =>
   rw[G,hb,dP ∅]at l;refine bC (B:=True) ⟨n,us,_,rfl,(),(),J,ok,(),(),?_⟩;rw[C];have o:∀x,x∈rsI es n.toNat (~~~i)↔Rt es (~~~i) x:=λx=>by
    rw[pY];exact⟨λz=>z.2,λr=>⟨r.rng (λt ht=>(s t ht).2) ⟨(),()⟩,r⟩⟩
   rw[←O2 E]at l;have pl:=RT es n.toNat (~~~i);generalize rsI es n.toNat (~~~i)=v at l o pl;refine⟨rfl,by rw[List.length_map];lia,?_⟩;refine⟨rfl,λ(j:Nat) ρ=>∃g,ρ=[.im (bB n us),.sp 0 true ((iY (RB es) n.toNat (i+1)).map iD),.dw 1 (.dict (kvD g)),.im (.int (~~~i)),.sn (iD v),.any]/\qe g=true/\(aV g).Nodup/\∀x,x∈aV g↔x∈aV m\/x∈v.take j,⟨m,?_,h.im,h.nd,λx=>⟨.inl,λz=>z.elim id λz=>nomatch z⟩⟩,?_,?_⟩
   ·rw[l,List.map_append];rfl
   ·rintro j d ρ hd ⟨g,rfl,c,k,a⟩;let⟨x,u,rfl⟩:=iJ hd;have R:=(o x).mp (List.mem_of_getElem? u);have tk:v.take (j+1)=v.take j++[x]:=by rw[List.take_add_one,u];rfl
    have H:=yL k λy hy=>show 0<=y/\y<n.toNat from by
     rcases(a y).mp hy with z|z
     ·exact h.rng y z
     ·exact((o y).mp (List.mem_of_mem_take z)).rng (λt ht=>(s t ht).2) ⟨(),()⟩
    unfold aV at H;rw[List.length_map]at H;refine⟨g,rfl,rfl,c,(),iT g x (.bool true),rfl,Du _ _ c rfl,R8 _ _ k,λy=>?_⟩;rw[Jt,a,tk,List.mem_append,List.mem_singleton,or_assoc]
   ·rintro ρ ⟨g,rfl,c,k,a⟩;rw[List.length_map,List.take_length]at a;refine⟨g,rfl,c,k,λy hy=>?_,λx=>?_⟩
    ·rcases(a y).mp hy with z|z
     ·exact h.rng y z
     ·exact((o y).mp z).rng (λt ht=>(s t ht).2) ⟨(),()⟩
    ·rw[a,h.is,o];constructor
     ·rintro(⟨p,hp,r⟩|r)
      ·exact⟨p,(),r⟩
      ·exact⟨i,(),r⟩
     ·rintro⟨p,hp,r⟩;by_cases e:p=i
      ·subst e;exact .inr r
      ·exact .inl ⟨p,(),r⟩
 ·rintro ρ ⟨m,rfl,h⟩;rw[aY];exact⟨rfl,q⟩
def enum_zip(us:eh):o8 (us.map pD)=us.zipIdx.map λp=>PyData.tuple [.int (~~~p.2),pD p.1]:=by
 refine List.ext_getElem? λi=>?_;rw[jh,List.getElem?_map,List.getElem?_map,List.getElem?_zipIdx];cases us[i]? with
 |none=>rfl
 |some t=>simp
def wo(us:eh)(F:eg):eh:=(us.zipIdx.filter λp=>decide ((~~~p.2)∉F)).map (·.1)
def Bp{us:eh}{F:eg}{t:Tie}:t∈wo us F↔∃k:Nat,us[k]?=some t/\(~~~k)∉F:=by
 unfold wo;rw[List.mem_map];constructor
 ·rintro⟨⟨u,k⟩,h,rfl⟩;rw[List.mem_filter]at h;exact⟨k,List.mem_zipIdx_iff_getElem?.mp h.1,dE h.2⟩
 ·rintro⟨k,h,a⟩;exact⟨(t,k),List.mem_filter.mpr ⟨List.mem_zipIdx_iff_getElem?.mpr h,fy a⟩,rfl⟩
def HY(us:eh)(F:eg):⇑(wo us F)<=⇑us:=by
 unfold wo;rw[List.length_map];have:=List.length_filter_le (λp:Tie×Nat=>decide ((~~~p.2)∉F)) us.zipIdx;rw[List.length_zipIdx]at this;exact this
def Qt{n:Int}{us:eh}{F:eg}(h:OkN n us):OkN n (wo us F):=λt ht=>by
 let⟨k,e,_⟩:=Bp.mp ht;exact h t (List.mem_of_getElem? e)
def H9{us:eh}{F:eg}{x y:Int}:(x,y)∈adj (wo us F) [] []↔(x,y)∈adj us F []:=by
 rw[FT,Bp,Bp,oJ];constructor
 ·rintro(⟨k,e,h⟩|⟨k,e,h⟩)
  ·exact⟨k,.inl e,h,List.not_mem_nil⟩
  ·exact⟨k,.inr e,h,List.not_mem_nil⟩
 ·rintro⟨k,e|e,h,_⟩
  ·exact .inl ⟨k,e,h⟩
  ·exact .inr ⟨k,e,h⟩
def Qy{us:eh}{F:eg}{a b:Int}:Rt (adj (wo us F) [] []) a b↔Rt (adj us F []) a b:=⟨Rt.mono λ⟨_,_⟩ h=>H9.mp h,Rt.mono λ⟨_,_⟩ h=>H9.mpr h⟩
def Cu(us:eh)(k:Nat):Bool:=match us[k]? with
 |some t=>!RZ (adj us [~~~k] []) t.1 t.2
 |none=>false
def jD(us:eh):eg:=zI ((List.range ⇑us).filter (Cu us))
def Wu:FF:=λds P=>∃i:Int,ds=[.int i]/\P (.bool true)
def Ri:FF:=λds P=>∃m i:Int,ds=[.int m,.int i]/\0<=i/\i<m/\P (.bool true)
def fTN:FF:=λds P=>∃n us i,ds=[bB n us,.int i]/\0<=i/\i<(⇑us:Nat)/\P (.bool true)
def WM:FF:=λds P=>∃n us i,ds=[bB n us,.int i]/\0<=i/\i<(⇑us:Nat)/\P .none
def WK:FF:=λds P=>∃n us i,ds=[bB n us,.int i]/\0<=i/\i<n/\P (.bool true)
def WQ:FF:=λds P=>∃n us i,ds=[bB n us,.int i]/\0<=i/\i<n/\P .none
def fWo:FF:=λds P=>∃n us F,ds=[bB n us,iD F]/\⇑us<=100/\P (bB n (wo us F))
def Ra:FF:=λds P=>∃n us k t,ds=[bB n us,.int (~~~k)]/\us[k]?=some t/\1<=n/\n<=60/\⇑us<=100/\OkN n us/\P (if RZ (adj us [~~~k] []) t.1 t.2=true then .none else iD (rsI (adj us [~~~k] []) n.toNat t.1))
def Rh:FF:=λds P=>∃n us,ds=[bB n us]/\1<=n/\n<=60/\⇑us<=100/\OkN n us/\P (iD (jD us))
def Ez:FF:=λds P=>∃n us,ds=[bB n us]/\1<=n/\n<=60/\⇑us<=100/\OkN n us/\P (.list ((iY (RB (adj us (jD us) [])) n.toNat n.toNat).map iD))
def yF(F:Fun K cf cf (top 11) f fd)(B:Dl.Bn mg):1∩[ar]∩spD Wu:=by
 refine okT F (N:=[ar]) zC (λhr nd=>Wr.aF (Wr.aJ (Wr.fC (Wr.bH Em B.isinstance (Wr.dv 0) (Wr.wty rfl B.int Ta)) (Wr.gW (Wr.Bd (Wr.bH kJ B.isinstance (Wr.dv 0) (Wr.wty rfl B.bool Tb))))))) ?_;rintro ds P ⟨i,rfl,q⟩;refine⟨[.im (.int i)],rfl,?_⟩;exact⟨rfl,q⟩
abbrev kA1(P w K mg fw):=1∪cf∪[ar]∪spD Wu
def yH(F:Fun K ci ci (top 12) f fd)(B:Dl.Bn mg)(a:kA1 P w K mg fw):2∩["limit",ar]∩spD Ri:=by
 refine okT F (N:=["limit",ar]) zC (λhr nd=>Wr.aF (Wr.aJ (Wr.fC (Wr.dc a hr (Wr.aj (Wr.dv 1) Wr.ak)) (Wr.gW (Wr.wD Wr.aq (Wr.dv 1) (Wr.dv 0)))))) ?_;rintro ds P ⟨m,i,rfl,b,h1,q⟩;refine⟨[.im (.int m),.im (.int i)],rfl,?_⟩;refine⟨i,rfl,bC (B:=True) ?_⟩;show if decide ((0:Int)<=i)=true then _ else _
 rw[fy b];refine bC (B:=True) ⟨rfl,?_⟩;show P (.bool (decide (i<m)));rw[fy h1];exact q
abbrev kA2(P w K mg fw):=2∪ci∪["limit",ar]∪spD Ri
def pR(F:Fun K bj bj (top 14) f fd)(B:Dl.Bn mg)(a:kA2 P w K mg fw):3∩[ai,ar]∩spD fTN:=by
 refine okT F (N:=[ai,ar]) zC (λhr nd=>Wr.aF (Wr.aJ (Wr.dc a hr (Wr.aj (Wr.cW B.len (Wr.aj (Wr.aG (Wr.dv 0) Wr.aq) Wr.ak)) (Wr.aj (Wr.dv 1) Wr.ak))))) ?_;rintro ds P ⟨n,us,i,rfl,b,h1,q⟩;refine⟨[.im (bB n us),.im (.int i)],qj rfl,?_⟩;refine⟨.tuple (us.map pD),rfl,_,i,rfl,b,?_,rfl,q⟩;rw[List.length_map];exact h1
def mq(F:Fun K aI aI (top 17) f fd)(B:Dl.Bn mg)(a:3∪bj∪[ai,ar]∪spD fTN):4∩[ai,ar]∩spD WM:=by
 refine okT F (N:=[ai,ar]) zC (λhr nd=>Wr.aF (Wr.cR (Wr.cC (Wr.bR (Wr.dc a hr (Wr.aj (Wr.dv 0) (Wr.aj (Wr.dv 1) Wr.ak))))) (Wr.aF Wr.eY) Wr.aU)) ?_;rintro ds P ⟨n,us,i,rfl,b,h1,q⟩;refine⟨[.im (bB n us),.im (.int i)],qj rfl,?_⟩;exact⟨n,us,i,rfl,b,h1,bw (A:=True) q⟩
def yG(F:Fun K ck ck (top 13) f fd)(B:Dl.Bn mg)(a:kA2 P w K mg fw):3∩[ai,ar]∩spD WK:=by
 refine okT F (N:=[ai,ar]) zC (λhr nd=>Wr.aF (Wr.aJ (Wr.dc a hr (Wr.aj (Wr.aG (Wr.dv 0) Wr.aq) (Wr.aj (Wr.dv 1) Wr.ak))))) ?_;rintro ds P ⟨n,us,i,rfl,b,h1,q⟩;refine⟨[.im (bB n us),.im (.int i)],qj rfl,?_⟩;exact⟨.int n,rfl,n,i,rfl,b,h1,rfl,q⟩
def sU(F:Fun K br br (top 15) f fd)(B:Dl.Bn mg)(a:3∪ck∪[ai,ar]∪spD WK):4∩[ai,ar]∩spD WQ:=by
 refine okT F (N:=[ai,ar]) zC (λhr nd=>Wr.aF (Wr.cR (Wr.cC (Wr.bR (Wr.dc a hr (Wr.aj (Wr.dv 0) (Wr.aj (Wr.dv 1) Wr.ak))))) (Wr.aF Wr.eY) Wr.aU)) ?_;rintro ds P ⟨n,us,i,rfl,b,h1,q⟩;refine⟨[.im (bB n us),.im (.int i)],qj rfl,?_⟩;exact⟨n,us,i,rfl,b,h1,bw (A:=True) q⟩
def iI:([ba,dq,ai,dm]:List Str).Nodup:=⋯
def qC(F:Fun K bp bp (top 28) f fd)(B:Dl.Bn mg)(b:mg cw=none):1∩[ai,dm]∩spD fWo:=by
 refine okT F (N:=[ai,dm]) zC (λhr nd=>Wr.aF (Wr.aJ (Wr.aL (Wr.aj (Wr.aG (Wr.dv 0) Wr.aq) (Wr.aj (Wr.jo B.tuple (Wr.aj (Wr.fX [ba,dq] rfl (Wr.pB b (Wr.aj (Wr.aG (Wr.dv 0) Wr.aq) Wr.ak)) (λc=>(Wr.lA (n:=2) rfl (Wr.cD (Wr.aH (i:=0) iI rfl zQ) (Wr.cD (Wr.aH (i:=1) iI rfl zQ) Wr.iQ)))) (λc=>(Wr.fU (Wr.lO hr.units (Wr.dv 0) (Wr.dv 3)))) (λc=>(Wr.dv 1))) Wr.ak)) Wr.ak))))) ?_;rintro ds P ⟨n,us,F,rfl,d,q⟩;refine⟨[.im (bB n us),.sh (iD F)],qj rfl,?_⟩;refine⟨.int n,rfl,.tuple (us.map pD),rfl,?_⟩;refine tM us.zipIdx (λp=>PyData.tuple [.int (~~~p.2),pD p.1]) (λp=>decide ((~~~p.2)∉F)) (λp=>pD p.1) .imm (enum_zip us) (by rw[List.length_zipIdx];lia) ?_ ?_
 ·rintro⟨t,k⟩ hk A B h1 h2;refine⟨rfl,rfl,lQ F,?_⟩;show if(!((F.map PyData.int).any λe=>PyData.eqv e (.int (~~~k))))=true then _ else _
  rw[Dl.any_ints];by_cases a:(~~~k)∈F
  ·rw[fy a];exact bw (A:=True) (h2 (dC λz=>z a))
  ·rw[dC a];exact bC (B:=True) ⟨rfl,h1 (fy a)⟩
 ·have e:((us.zipIdx.filter λp=>decide ((~~~p.2)∉F)).map λp=>pD p.1)=(wo us F).map pD:=by
   unfold wo;rw[List.map_map];rfl
  show _/\_/\P (.tuple [.int n,.tuple ((us.zipIdx.filter λp=>decide ((~~~p.2)∉F)).map λp=>pD p.1)]);rw[e];refine⟨zK,?_,q⟩;show(norm _ (bB n (wo us F))).le .n0=true;rw[eU (jy _ _)];rfl
abbrev kA3(P w K mg fw):=1∪bp∪[ai,dm]∪spD fWo
def Bh(F:Fun K cE cE (top 29) f fd)(B:Dl.Bn mg)(d:4∪aI∪[ai,ar]∪spD WM)(b:kA0 P w K mg fw)(c:kA3 P w K mg fw):5∩[ai,ba]∩spD Ra:=by
 refine okT F (N:=[ai,ba,dq,"side"]) zC (λhr nd=>Wr.aA (Wr.lZ (Wr.dc d hr (Wr.aj (Wr.dv 0) (Wr.aj (Wr.dv 1) Wr.ak))))
  (Wr.aA (Wr.aW none (i:=2) nd rfl zQ (Wr.aG (Wr.aG (Wr.dv 0) Wr.aq) (Wr.dv 1)))
  (Wr.aA (Wr.aW none (i:=3) nd rfl zQ (Wr.dc b hr (Wr.aj (Wr.dc c hr (Wr.aj (Wr.dv 0) (Wr.aj (Wr.cg (Wr.aj (Wr.dv 1) Wr.ak)) Wr.ak))) (Wr.aj (Wr.aG (Wr.dv 2) Wr.aq) Wr.ak))))
  (Wr.aF (Wr.aJ (Wr.jf (Wr.rU hr.units (Wr.aG (Wr.dv 2) Wr.aq) (Wr.dv 3)) Wr.jX (Wr.dv 3))))))) ?_
 rintro ds P ⟨n,us,k,t,rfl,ht,p,h,g,ok,q⟩;refine⟨[.im (bB n us),.im (.int (~~~k)),.any,.any],qj rfl,?_⟩;have hk:=(List.getElem?_eq_some_iff.mp ht).1;let⟨⟨j,l⟩,⟨m,r⟩,s⟩:=ok t (List.mem_of_getElem? ht);have a:atI (us.map pD) (~~~k)=some (pD t):=fW (by rw[List.getElem?_map,ht];rfl);have o:=HY us [~~~k];refine⟨n,us,~~~k,rfl,(),(),.tuple (us.map pD),rfl,pD t,a,?_⟩;refine⟨zK,n,us,[~~~k],rfl,g,.int t.1,rfl,n,wo us [~~~k],t.1,rfl,(),(),(),Qt ok,j,l,?_⟩;rw[N5 λx=>Qy];refine⟨.int t.2,rfl,rfl,lQ _,?_⟩;show if(((rsI (adj us [~~~k] []) n.toNat t.1).map PyData.int).any λe=>PyData.eqv e (.int t.2))=true then _ else _
 rw[Dl.any_ints];have e:decide (t.2∈rsI (adj us [~~~k] []) n.toNat t.1)=RZ (adj us [~~~k] []) t.1 t.2:=by
  rw[Bool.eq_iff_iff,decide_eq_true_iff,pY,CN];exact⟨λz=>z.2,λz=>⟨⟨m,()⟩,z⟩⟩
 rw[e];cases hr:RZ (adj us [~~~k] []) t.1 t.2 with
 |true =>
  rw[hr,dP rfl]at q;exact bC (B:=True) ⟨rfl,q⟩
 |false =>
  rw[hr,dQ Bool.false_ne_true]at q;exact bw (A:=True) ⟨rfl,q⟩
def uW:([ba,ai]:List Str).Nodup:=⋯
def yJ(F:Fun K bS bS (top 30) f fd)(B:Dl.Bn mg)(d:5∪cE∪[ai,ba]∪spD Ra):6∩[ai]∩spD Rh:=by
 refine okT F (N:=[ai]) zC (λhr nd=>Wr.aF (Wr.aJ (Wr.fX [ba] rfl (Wr.cZ B.range (Wr.aj (Wr.cW B.len (Wr.aj (Wr.aG (Wr.dv 0) Wr.aq) Wr.ak)) Wr.ak)) (λc=>(Wr.aH (i:=0) uW rfl zQ)) (λc=>(Wr.fU (Wr.mW (Wr.dc d hr (Wr.aj (Wr.dv 1) (Wr.aj (Wr.dv 0) Wr.ak))) Wr.jX))) (λc=>(Wr.dv 0))))) ?_;rintro ds P ⟨n,us,rfl,h,a,g,ok,q⟩;refine⟨[.im (bB n us)],qj rfl,?_⟩;refine⟨.tuple (us.map pD),rfl,?_⟩;show(-(2 ^ 62)<=(⇑(us.map pD):Int)/\(⇑(us.map pD):Int)<2 ^ 62)/\_;rw[List.length_map];refine⟨⟨(),()⟩,tM (List.range ⇑us) (λb:Nat=>.int (0+~~~b)) (Cu us) (λb:Nat=>.int (0+~~~b)) .imm rfl (by rw[List.length_range];lia) ?_ ?_⟩
 ·intro b hb A B h1 h2;have hb:=List.mem_range.mp hb;have ht:=List.getElem?_eq_getElem hb;generalize us[b]=t at ht;have hc:Cu us b=!RZ (adj us [~~~b] []) t.1 t.2:=by unfold Cu;rw[ht]
  refine⟨n,us,b,t,by show [bB n us,PyData.int (0+~~~b)]=_;rw[Int.zero_add],ht,h,a,g,ok,?_⟩;cases hr:RZ (adj us [~~~b] []) t.1 t.2 with
  |true =>
   rw[dP rfl];rw[hr]at hc;exact bw (A:=True) (h2 hc)
  |false =>
   rw[dQ Bool.false_ne_true];rw[hr]at hc;exact bC (B:=True) ⟨rfl,h1 hc⟩
 ·have e:PyData.list (((List.range ⇑us).filter (Cu us)).map λb:Nat=>PyData.int (0+~~~b))=iD (jD us):=by
   unfold iD jD zI;rw[List.map_map];rfl
  rw[e];exact⟨rfl,q⟩
abbrev kA4(P w K mg fw):=6∪bS∪[ai]∪spD Rh
def Gy(F:Fun K bg bg (top 32) f fd)(B:Dl.Bn mg)(i:3∪dy∪[ai]∪spD Lw)(g:kA3 P w K mg fw)(h:kA4 P w K mg fw):7∩[ai]∩spD Ez:=by
 refine okT F (N:=[ai]) zC (λhr nd=>Wr.aF (Wr.aJ (Wr.dc i hr (Wr.aj (Wr.dc g hr (Wr.aj (Wr.dv 0) (Wr.aj (Wr.dc h hr (Wr.aj (Wr.dv 0) Wr.ak)) Wr.ak))) Wr.ak)))) ?_;rintro ds P ⟨n,us,rfl,j,c,d,ok,q⟩;refine⟨[.im (bB n us)],qj rfl,?_⟩;have k:=HY us (jD us);refine⟨n,us,rfl,j,c,d,ok,n,us,jD us,rfl,d,n,_,rfl,(),c,(),Qt ok,rfl,?_⟩;rw[M4 (R':=RB (adj us (jD us) [])) λa b _ _=>by
  have e:∀a b,RB (adj (wo us (jD us)) [] []) a b=RB (adj us (jD us) []) a b:=λa b=>by rw[Bool.eq_iff_iff,eZ,eZ,Qy]
  rw[e,e]]
 exact q
structure LstOf(R:Nat->Nat->Bool)(n:Nat)(L:eg):Prop where
 len:⇑L=n
 is:∀(a:Nat)(x:Int),L[a]?=some x->∃m:Nat,x=(~~~m)/\m<n/\R a m=true/\∀b,b<n->R a b=true->m<=b
structure EqvR(R:Nat->Nat->Bool)(n:Nat):Prop where
 rf:∀a,a<n->R a a=true
 sy:∀a b,a<n->b<n->R a b=true->R b a=true
 tr:∀a b c,a<n->b<n->c<n->R a b=true->R b c=true->R a c=true
def EqvR.and{R:Nat->Nat->Bool}{n:Nat}(h:EqvR R n){a b:Nat}(ha:a<n)(hb:b<n):(R a b&&R b a)=R a b:=by
 rw[Bool.eq_iff_iff,Bool.and_eq_true];exact⟨λz=>z.1,λz=>⟨z,h.sy a b ha hb z⟩⟩
def RX{es:eh}(d:∀a b,(a,b)∈es->(b,a)∈es)(n:Nat):EqvR (RB es) n :=
 ⟨λa _=>FW es a,λa b _ _ h=>eZ.mpr ((eZ.mp h).sym d),λa b c _ _ _ h h'=>eZ.mpr ((eZ.mp h).trans (eZ.mp h'))⟩
def kY(p:Int×D)(m:IM)(x:Int):mD (p::m) x=if p.1=x then some p.2 else mD m x:=by
 unfold mD;rw[List.find?_cons];by_cases h:p.1=x
 ·rw[dP h,fy h];rfl
 ·rw[dQ h,dC h]
def zy(p:Int×D)(m:IM)(x:Int):gb (p::m) x=(decide (p.1=x) || gb m x):=rfl
theorem get_map(k:Int)(d:D)(x:Int):∀m:IM,mD (m.map λp=>if p.1=k then(p.1,d)else p) x=if k=x/\gb m k=true then some d else mD m x
 |[]=>by
  rw[dQ (λz=>nomatch z.2)];rfl
 |p::m=>by
  rw[List.map_cons,kY,kY,get_map k d x m,zy];by_cases h1:p.1=k
  ·rw[dP h1,fy h1];by_cases h2:k=x
   ·rw[dP (by rw[←h2];exact h1),dP ⟨h2,rfl⟩]
   ·rw[dQ (λz=>h2 (h1 ▸ z)),dQ (λz=>h2 z.1),dQ (λz=>h2 z.1),dQ (λz=>h2 (h1 ▸ z))]
  ·rw[dQ h1,dC h1,Bool.false_or];by_cases h2:k=x
   ·have b:¬p.1=x:=λz=>h1 (z.trans h2.symm);rw[dQ b,dQ b]
   ·have a:¬(k=x/\gb m k=true):=λz=>h2 z.1;rw[dQ a,dQ a]
theorem Er(k:Int)(d:D)(x:Int):∀m:IM,gb m k=false->mD (m++[(k,d)]) x=if k=x then some d else mD m x
 |[],_=>by
  show mD ((k,d)::[]) x=_;rw[kY]
 |p::m,h=>by
  rw[zy,Bool.or_eq_false_iff]at h;rw[List.cons_append,kY,Er k d x m h.2,kY];have h1:¬p.1=k:=of_decide_eq_false h.1;by_cases h2:k=x
  ·rw[dP h2,dP h2,dQ (λz=>h1 (z.trans h2.symm))]
  ·rw[dQ h2,dQ h2]
def Ep(m:IM)(k:Int)(d:D)(x:Int):mD (iT m k d) x=if k=x then some d else mD m x:=by
 unfold iT;by_cases h:gb m k=true
 ·rw[dP h,get_map];by_cases h2:k=x
  ·rw[dP ⟨h2,h⟩,dP h2]
  ·rw[dQ (λz=>h2 z.1),dQ h2]
 ·rw[dQ h,Er k d x m ↑h]
def Ob(m:IM)(k:Int)(d:D):⇑(iT m k d)<=⇑m+1:=by
 unfold iT;split
 ·rw[List.length_map];lia
 ·rw[List.length_append];exact Nat.le_refl _
def Qq(a:ef):Prop:=∀(i j:Nat)(c d:eg)(x:Int),a[i]?=some c->a[j]?=some d->x∈c->x∈d->i=j
def Cov(a:ef)(n:Int):Prop:=∀x:Int,0<=x->x<n->∃(j:Nat)(c:eg),a[j]?=some c/\x∈c
def Ba(R:Nat->Nat->Bool)(N:Nat):ei:=(List.range N).filter (iK R N)
def Fw(R:Nat->Nat->Bool)(N:Nat):iY R N N=(Ba R N).map λa=>zI (d9 R N a):=by
 unfold iY Ba;rw[List.take_of_length_le (by rw[List.length_range];exact Nat.le_refl _)]
def oF{R:Nat->Nat->Bool}{N a b:Nat}:b∈d9 R N a↔b<N/\(R a b&&R b a)=true:=by
 unfold d9;rw[List.mem_filter,List.mem_range]
def Fy{R:Nat->Nat->Bool}{N j:Nat}{c:eg}(h:(iY R N N)[j]?=some c):∃a,(Ba R N)[j]?=some a/\c=zI (d9 R N a)/\a<N/\iK R N a=true:=by
 rw[Fw,List.getElem?_map]at h;cases e:(Ba R N)[j]? with
 |none=>rw[e]at h;cases h
 |some a =>
  rw[e]at h;have hm:=List.mem_of_getElem? e;unfold Ba at hm;rw[List.mem_filter,List.mem_range]at hm;exact⟨a,rfl,(Option.some.inj h).symm,hm.1,hm.2⟩
def RW(R:Nat->Nat->Bool)(N:Nat):(Ba R N).Nodup:=(List.nodup_range).filter _
def MP{R:Nat->Nat->Bool}{N:Nat}(h:EqvR R N):Qq (iY R N N):=by
 intro i j c d x hi p hc hd;let⟨a,ha,rfl,k,n⟩:=Fy hi;let⟨b,hb,rfl,g,o⟩:=Fy p;have f:=oF.mp (tE.mp hc).2;have l:=oF.mp (tE.mp hd).2;rw[h.and k f.1]at f;rw[h.and g l.1]at l;have m:=h.tr a _ b k f.1 g f.2 (h.sy b _ g f.1 l.2);have e:a=b:=by
  rw[q9 k (h.rf a k)]at n;rw[q9 g (h.rf b g)]at o;by_cases h1:a<b
  ·have:=o a h1;rw[h.and g k,h.sy a b k g m]at this;cases this
  ·by_cases h2:b<a
   ·have:=n b h2;rw[h.and k g,m]at this;cases this
   ·lia
 subst e;have h1:=List.getElem?_eq_some_iff.mp ha;have h2:=List.getElem?_eq_some_iff.mp hb;exact(List.getElem_inj (RW R N) (h₀:=h1.1) (h₁:=h2.1)).mp (h1.2.trans h2.2.symm)
def Hu{R:Nat->Nat->Bool}{N:Nat}(h:EqvR R N):Cov (iY R N N) N:=by
 intro x k h1;have d:x.toNat<N:=()
 have f:=O4 (h.rf _ d) d;cases hm:d9 R N x.toNat with
 |nil=>exact dS hm f
 |cons a l =>
  have ha:a∈d9 R N x.toNat:=by rw[hm];exact List.mem_cons_self
  have c:=oF.mp ha;rw[h.and d c.1]at c;have i:iK R N a=true:=by
   rw[q9 c.1 (h.rf a c.1)];intro b hb;have e:b<N:=()
   rw[h.and c.1 e];cases hr:R a b with
   |false=>rfl
   |true =>
    have g:(d9 R N x.toNat).head?=some a:=by rw[hm];rfl
    unfold d9 at g;rw[List.head?_filter,List.find?_range_eq_some]at g;have:=g.2.2 b hb;rw[h.and d e,h.tr _ a b d c.1 e c.2 hr]at this;cases this
  have hr:a∈Ba R N:=List.mem_filter.mpr ⟨List.mem_range.mpr c.1,i⟩;let⟨j,m⟩:=List.getElem?_of_mem hr;refine⟨j,zI (d9 R N a),?_,?_⟩
  ·rw[Fw,List.getElem?_map,m];rfl
  ·rw[tE,oF,h.and c.1 d];exact⟨k,d,h.sy _ _ d c.1 c.2⟩
def hmN(a:ef)(x:Int):Nat:=a.findIdx λc=>decide (x∈c)
def Q7{a:ef}(d:Qq a){j:Nat}{c:eg}{x:Int}(h:a[j]?=some c)(b:x∈c):hmN a x=j:=by
 unfold hmN;let⟨f,e⟩:=List.getElem?_eq_some_iff.mp h;rw[List.findIdx_eq f];refine⟨by rw[e];exact fy b,λk hk=>?_⟩;refine dC λz=>?_;have:=d k j _ c x (List.getElem?_eq_getElem ()) h z b;lia
def Cr(us:eh):ei:=(List.range ⇑us).filter (Cu us)
def lkT(us:eh)(a:ef)(k:Nat):D:=match us[k]? with
 |some t=>.tuple [.int (~~~k),.int (~~~(hmN a t.1)),.int (~~~(hmN a t.2))]
 |none=>.none
def TF(us:eh)(a:ef):ez:=(Cr us).map (lkT us a)
def Qi{us:eh}{k:Nat}(h:k∈Cr us):∃t,us[k]?=some t:=by
 unfold Cr at h;rw[List.mem_filter,List.mem_range]at h;exact⟨_,List.getElem?_eq_getElem h.1⟩
def Mz(us:eh):⇑(Cr us)<=⇑us:=by
 unfold Cr;have:=List.length_filter_le (Cu us) (List.range ⇑us)
 rwa [List.length_range]at this
def WL:FF:=λds P=>∃CL:ef,ds=[.list (CL.map iD)]/\⇑CL<=16/\(∀c∈CL,⇑c<=16)/\Qq CL/\∀m:IM,(∀(j:Nat) c x,CL[j]?=some c->x∈c->mD m x=some (.int (~~~j)))->P (.dict (kvD m))
def pcI(us:eh)(n:Int):ef:=iY (RB (adj us (jD us) [])) n.toNat n.toNat
def Q9:FF:=λds P=>∃n us,ds=[bB n us]/\1<=n/\n<=16/\⇑us<=60/\OkN n us/\P (.tuple [.list ((pcI us n).map iD),.list (TF us (pcI us n))])
def jZ(us:eh){n:Int}(n0:0<=n):Qq (pcI us n)/\Cov (pcI us n) n/\⇑(pcI us n)<=n.toNat/\∀c∈pcI us n,⇑c<=n.toNat:=by
 have e:=RX (es:=adj us (jD us) []) FN n.toNat;unfold pcI;refine⟨MP e,?_,Fx _ _ _,MN _ _ _⟩;have:=Hu e
 rwa [show(~~~n.toNat)=n by lia]at this
structure HomTo(CL:ef)(k:Nat)(c:eg)(i:Nat)(m:IM):Prop where
 im:qe m=true
 len:⇑m<=16 * k+i
 is:∀(j:Nat) d x,j<k->CL[j]?=some d->x∈d->mD m x=some (.int (~~~j))
 cur:∀x∈c.take i,mD m x=some (.int (~~~k))
def yI(F:Fun K cm cm (top 33) f fd)(B:Dl.Bn mg)(g:mg cw=none):1∩[bh]∩spD WL:=by
 refine okT F (N:=[bh,"homes",ba,"some",bn]) zC (λhr nd=>Wr.aA (Wr.aW (some 0) (i:=1) nd rfl zQ Wr.qQ)
  (Wr.aA (Wr.d7 PassesOwn.never rfl (Wr.ux g (Wr.aj (Wr.dv 0) Wr.ak)) (Wr.lA (n:=2) rfl (Wr.cD (Wr.aH (i:=2) nd rfl zQ) (Wr.cD (Wr.aH (i:=3) nd rfl zQ) Wr.iQ))) (Wr.aA (Wr.d7 PassesOwn.never rfl (Wr.bW (Wr.dv 3)) (Wr.aH (i:=4) nd rfl zQ) (Wr.aA (Wr.pA hr.units (Wr.wv 1) (Wr.dv 4) (Wr.dv 2)) (Wr.aQ [4] Wr.aU))) (Wr.aQ [2,3,4] Wr.aU)))
  (Wr.aQ [2,3,4] (Wr.aF (Wr.aJ (Wr.dv 1)))))) ?_
 rintro ds P ⟨a,rfl,p,o,l,q⟩;refine⟨[.sh (.list (a.map iD)),.any,.any,.any,.any],rfl,?_⟩;refine⟨rfl,λ(k:Nat) ρ=>∃m:IM,ρ=[.sh (.list (a.map iD)),.dw 0 (.dict (kvD m)),.any,.any,.any]/\HomTo a k [] 0 m,⟨[],rfl,rfl,Nat.zero_le _,λj d x h=>dS h (Nat.not_lt_zero _),λx h=>nomatch h⟩,?_,?_⟩
 ·rintro k d ρ hd ⟨m,rfl,h⟩;rw[jh,List.getElem?_map]at hd;obtain⟨c,hc,rfl⟩:∃c,a[k]?=some c/\PyData.tuple [.int (~~~k),iD c]=d:=by
   cases e:a[k]? with
   |none=>rw[e]at hd;cases hd
   |some c=>rw[e]at hd;exact⟨c,rfl,Option.some.inj hd⟩
  have hk:=(List.getElem?_eq_some_iff.mp hc).1;have r:=o c (List.mem_of_getElem? hc);refine⟨rfl,rfl,λ(i:Nat) ρ=>∃m:IM,ρ=[.sh (.list (a.map iD)),.dw 0 (.dict (kvD m)),.im (.int (~~~k)),.sh (iD c),.any]/\HomTo a k c i m,⟨m,rfl,h.im,h.len,h.is,λx z=>nomatch z⟩,?_,?_⟩
  ·rintro i d ρ hd ⟨m,rfl,h⟩;let⟨x,b,rfl⟩:=iJ hd;have hi:=(List.getElem?_eq_some_iff.mp b).1;have hl:=h.len;have pl:=Ob m x (.int (~~~k));have tk:c.take (i+1)=c.take i++[x]:=by rw[List.take_add_one,b];rfl
   refine⟨m,rfl,rfl,h.im,(),iT m x (.int (~~~k)),rfl,Du _ _ h.im rfl,(),λj d y hj hd hy=>?_,λy hy=>?_⟩
   ·rw[Ep,dQ]
    ·exact h.is j d y hj hd hy
    ·intro z;subst z;have:=l j k d c x hd hc hy (List.mem_of_getElem? b);lia
   ·rw[Ep];by_cases z:x=y
    ·rw[dP z]
    ·rw[dQ z];rw[tk]at hy;rcases List.mem_append.mp hy with w|w
     ·exact h.cur y w
     ·exact dS (List.mem_singleton.mp w).symm z
  ·rintro ρ ⟨m,rfl,h⟩;rw[List.length_map]at h;have hl:=h.len;refine⟨m,rfl,h.im,(),λj d y hj hd2 hy=>?_,λy hy=>nomatch hy⟩;by_cases z:j=k
   ·subst z;have e:c=d:=Option.some.inj (hc.symm.trans hd2);rw[←e]at hy;exact h.cur y (by rw[List.take_length];exact hy)
   ·exact h.is j d y () hd2 hy
 ·rintro ρ ⟨m,rfl,h⟩;rw[gM,List.length_map]at h;exact⟨rfl,q m λj c x hj b=>h.is j c x (List.getElem?_eq_some_iff.mp hj).1 hj b⟩
def GP:([ba,ai,bh,"homes","links"]:List Str).Nodup:=⋯
def Oz(F:Fun K "tree" "tree" (top 34) f fd)(B:Dl.Bn mg)(s:7∪bg∪[ai]∪spD Ez)(u:1∪cm∪[bh]∪spD WL)(r:kA4 P w K mg fw):8∩[ai]∩spD Q9:=by
 refine okT F (N:=[ai,bh,"homes","links"]) zC (λhr nd=>Wr.aA (Wr.aW none (i:=1) nd rfl zQ (Wr.dc s hr (Wr.aj (Wr.dv 0) Wr.ak)))
  (Wr.aA (Wr.aW none (i:=2) nd rfl zQ (Wr.dc u hr (Wr.aj (Wr.dv 1) Wr.ak)))
  (Wr.aA (Wr.zM none [ba] (i:=3) rfl nd rfl zQ (Wr.bW (Wr.dc r hr (Wr.aj (Wr.dv 0) Wr.ak))) (λc=>(Wr.aH (i:=0) GP rfl zQ)) (λc=>Wr.cM) (λc=>(Wr.aL (Wr.aj (Wr.dv 0) (Wr.aj (Wr.qR hr.units (Wr.dv 3) (Wr.aG (Wr.aG (Wr.aG (Wr.dv 1) Wr.aq) (Wr.dv 0)) Wr.aq)) (Wr.aj (Wr.qR hr.units (Wr.dv 3) (Wr.aG (Wr.aG (Wr.aG (Wr.dv 1) Wr.aq) (Wr.dv 0)) Wr.aq)) Wr.ak))))))
  (Wr.aF (Wr.aJ (Wr.aL (Wr.aj (Wr.dv 1) (Wr.aj (Wr.dv 3) Wr.ak)))))))) ?_
 rintro ds P ⟨n,us,rfl,p,z,J,ok,q⟩;refine⟨[.im (bB n us),.any,.any,.any],qj rfl,?_⟩;let⟨j,cv,H,y⟩:=jZ us (show 0<=n by lia);refine⟨n,us,rfl,p,(),(),ok,pcI us n,rfl,(),λc hc=>by have:=y c hc;lia,j,λm hm=>?_⟩;refine⟨n,us,rfl,p,(),(),ok,?_⟩;have I:=Mz us;refine Bu (Cr us) (λk:Nat=>.int (0+~~~k)) (lkT us (pcI us n)) .imm (by unfold jD Cr zI;rw[List.map_map];rfl) () ?_ ?_
 ·intro k hk A B a;let⟨t,ht⟩:=Qi hk;let⟨⟨C,D⟩,⟨E,G⟩,L⟩:=ok t (List.mem_of_getElem? ht);have b:atI (us.map pD) (0+~~~k)=some (pD t):=by rw[Int.zero_add];exact fW (by rw[List.getElem?_map,ht];rfl)
  let⟨l,v,d,g⟩:=cv t.1 C D;let⟨o,x,e,h⟩:=cv t.2 E G;refine bC (B:=B) ⟨.tuple (us.map pD),rfl,pD t,b,.int t.1,rfl,m,.int (~~~l),rfl,hm l v t.1 d g,.tuple (us.map pD),rfl,pD t,b,.int t.2,rfl,m,.int (~~~o),rfl,hm o x t.2 e h,zK,rfl,?_⟩;unfold lkT at a;rw[ht]at a;have a:A (.tuple [.int (~~~k),.int (~~~(hmN (pcI us n) t.1)),.int (~~~(hmN (pcI us n) t.2))]):=a;rw[Q7 j d g,Q7 j e h]at a;show A (.tuple [.int (0+~~~k),.int (~~~l),.int (~~~o)]);rw[Int.zero_add];exact a
 ·exact⟨zK,rfl,q⟩
def rD(r:T3):D:=.tuple [.int r.1,.int r.2.1,.int r.2.2]
def kyR(r:T3):T3:=(r.2.1,r.2.2,r.1)
def dY(r:T3):Tie:=(r.2.1,r.2.2)
def Ord(a out:List T3):Prop:=out.Perm a/\(out.map λr=>cJ (kyR r)).Pairwise (·<=·)
def fIO:FF:=λds P=>∃rs:List T3,ds=[.list (rs.map rD)]/\⇑rs<=63/\(∀r∈rs,iR (kyR r))/\∀out,Ord rs out->P (.list (out.map rD))
def lamOf:Zt->YA×Zt×Zs×Pos
 |.Lambda a b s p=>(a,b,s,p)
 |e=>(⟨[],[],none,[],[],none,[]⟩,e,{ kind:=.function,names:=[],isGenerator:=false,isCoroutine:=false },⟨0,0,0,0⟩)
def Pq:List ZF->Zt
 |[.Return (some (.Call _ _ [k] _)) _]=>k.value
 |_=>.Constant .none 0 ⟨0,0,0,0⟩
def Wh(st:ZF):YA:=(lamOf (Pq (bG st))).1
def Wg(st:ZF):Zt:=(lamOf (Pq (bG st))).2.1
def Pk(st:ZF):Zs:=(lamOf (Pq (bG st))).2.2.1
def lamP(st:ZF):Pos:=(lamOf (Pq (bG st))).2.2.2
def ioq:Str:=(bb:Str)++".<locals>."++"<lambda>"
def yq(PT:Addr):Pn:=yp PT (lamP (top 36)) ioq
def gKy(a:D)(k:T3):Prop:=∃r:T3,a=rD r/\k=kyR r
section
variable{P:Za}{w:Zb}{K:W.Frag}{mg:Str->ew}{fw:Heap}{f:Addr}{fd:Yt}{PT:Addr}
theorem JN{α β:Type}{f:α->β}:∀{l:List α}{ps:List β},ps.Perm (l.map f)->∃out:List α,out.Perm l/\ps=out.map f:=λ{l ps} h=>by
 generalize e:l.map f=m at h;induction h generalizing l with
 |nil=>exact⟨[],by rw[List.map_eq_nil_iff.mp e],rfl⟩
 |cons x _ ih =>
  cases l with
  |nil=>cases e
  |cons y l =>
   injection e with e1 e2;let⟨o,p,q⟩:=ih e2;exact⟨y::o,p.cons y,by rw[List.map_cons,e1,q]⟩
 |swap x y l2 =>
  match l,e with
  |a::b::l,e =>
   injection e with e1 e;injection e with e2 e3;exact⟨b::a::l,.swap _ _ _,by rw[List.map_cons,List.map_cons,e1,e2,e3]⟩
 |trans _ _ ih1 ih2 =>
  let⟨o,p,q⟩:=ih2 e;let⟨c,d,g⟩:=ih1 q.symm;exact⟨c,d.trans p,g⟩
def VH:FnScope [ag] [ag] (aC (top 36)):=zC
def G6:LamScope [dr] [] (Pk (top 36)) []:=by
 have a:∀y∈(Pk (top 36)).names,y.2≠.free:=⋯
 refine⟨rfl,rfl,rfl,⋯,λx hx=>?_,λy hy=>(nomatch hy),⋯,λx h=>?_,λx y c h1 h2=>(nomatch h1)⟩
 ·rw[List.mem_singleton.mp hx];rfl
 ·exact dS rfl (a _ (PySem.mem_of_lookup h))
def TQ{cvs:List V}{c:Heap}{l j:Addr}{q g:Value}(hl:⇑cvs=0)(e:c.get? l=some (W.kla_obj "<lambda>" ioq (Wh (top 36)) (Wg (top 36)) (Pk (top 36)) [] q j g))(C:Caps c [] [] cvs) :
  ∃fd,FnOk P w K mg c CX0 3 l fd [dr] (RK ioq gKy cvs j)/\Binds K fd [dr] []:=by
 refine⟨_,Ui (cvs:=cvs) e (λ_ _ _ _ h=>h.1) G6 C (λvs H Q E h=>?_) (λA outer s H vs Q E hr h=>?_),.all λus hl=>?_⟩
 ·let⟨_,m,n,k,_,rfl,_⟩:=h;rfl
 ·let⟨x,m,n,k,rfl,rfl,t,⟨r,rfl,rfl⟩,kk⟩:=h;refine⟨_,(Wr.aL (Wr.aj (Wr.aG (Wr.dv 0) Wr.aq) (Wr.aj (Wr.aG (Wr.dv 0) Wr.aq) (Wr.aj (Wr.aG (Wr.dv 0) Wr.aq) Wr.ak)))).h,?_⟩;refine⟨n8,H,λ_=>none,[.im (rD r)],λk d=>d=.tuple [.int r.2.1,.int r.2.2,.int r.1],?_,?_,λkd d v H' hd A rp=>?_⟩
  ·refine⟨λ_ _ e _=>e,trivial,(λ_ _ e=>(nomatch e)),λi s e=>?_,rfl,trivial⟩;match i,e with
   |0,e=>cases e;exact⟨m,rfl,t.imm rfl⟩
  ·exact⟨_,rfl,_,rfl,_,rfl,zK,rfl⟩
  ·subst hd;let⟨a,vs,rfl,ha,u⟩:=rp.dU;have p:vs=[V.int r.2.1,V.int r.2.2,V.int r.1]:=Rps.ints (ns:=[r.2.1,r.2.2,r.1]) u;subst p;exact kk a H' (λb o e=>A.kp b o e λz=>z) ha
 ·obtain⟨_,rfl⟩:∃a,us=[a]:=by
   match us,hl with
   |[a],_=>exact⟨a,rfl⟩
  rfl
abbrev xIO(P:Za)(w:Zb)(K:W.Frag)(mg:Str->ew)(fw:Heap)(f c:Addr)(A:Zr)(outer:List Env)(s:Shared)(H:Hp)(E:XK):Cx:=(zU CX0 P w K mg fw [ag] bb (aC (top 36)) f (.ref c) A outer s H E).nox
def V5{c:Addr}{J kV i n u:Value}{L o:et}{m:Array ew}(I:K.lookup f=some ⟨J,L,.func (W.fnOf bb bb (cF (top 36)) (bG (top 36)) (aC (top 36)) .none kV i n o (.ref c) u),m⟩)(hcd:W.codeIn K (.ref c) bb=true)(F:∀h:Heap,K.In h->W.CodeHd h c PT)(D:fw.BuiltinsAt mg PT)(B:Dl.Bn mg) :
  FnOk P w K mg fw CX0 9 f (W.fnOf bb bb (cF (top 36)) (bG (top 36)) (aC (top 36)) .none kV i n o (.ref c) u) [ag] (spT (yq PT) fIO):=by
 refine Q8 (N:=[ag]) I hcd VH Pa (λA outer s H vs Q E hr h=>?_);letI:=grU (yq PT);have g:∀{e:Zt}{te:DE}{p pos kp:Pos},Wr.WD (xIO P w K mg fw f c A outer s H E) e te->Zu [e] (xIO P w K mg fw f c A outer s H E).env=(false,Zv e (xIO P w K mg fw f c A outer s H E).env)::Zu [] (xIO P w K mg fw f c A outer s H E).env ->
   Wr.WD (xIO P w K mg fw f c A outer s H E) (.Call (.Name "sorted" p) [e] [⟨some "key",.Lambda (Wh (top 36)) (Wg (top 36)) (Pk (top 36)) (lamP (top 36)),kp⟩] pos) (Vn gKy te):=λ{e te p pos kp} he hs=>by
  refine⟨PE.wk (yu (X:=xIO P w K mg fw f c A outer s H E) (c:=c) (P:=PT) (ys:=[]) (ps:=[dr]) (qual:=ioq) (k:=3) (cl:=[]) (spL:=RK ioq gKy) (λcvs base' fl c' n ctv hl e C=>TQ hl e C) (Room.in1 (Room.in1 (hr.mono (show 5<=8 by decide)))) rfl B.sorted he.h rfl rfl rfl rfl (F fw) (λ_=>D) (λ_=>rfl) ?_ ?_ hs) KH⟩
  ·intro y b h;exact nomatch h
  ·intro y G;exact nomatch G
 refine⟨_,PSs.nox (Wr.WDSs.h (Wr.aF (Wr.aJ (g (Wr.dv 0) rfl)))),Uo h ?_⟩;rintro ds P ⟨a,rfl,hl,hn,q⟩;have im:cH (a.map rD)=true:=lV λd hd=>by
  let⟨r,_,rfl⟩:=List.mem_map.mp hd;rfl
 refine⟨[.sh (.list (a.map rD))],rfl,?_⟩;refine⟨a.map rD,a.map kyR,rfl,λt ht=>?_,by rw[List.length_map,List.length_map],by rw[List.length_map];exact hl,λj x c h1 h2=>?_,λps hp hw=>?_⟩
 ·let⟨r,hr,rfl⟩:=List.mem_map.mp ht;exact hn r hr
 ·rw[List.getElem?_map]at h1 h2;let⟨r,hr,rfl⟩:=Option.map_eq_some_iff.mp h1;rw[hr]at h2;cases h2;exact⟨r,rfl,rfl⟩
 ·rw[dP im];refine⟨rfl,?_⟩;have z:((a.map kyR).map cJ).zip (a.map rD)=a.map λr=>(cJ (kyR r),rD r):=by
   rw[List.map_map,List.zip_map'];rfl
  rw[z]at hp;let⟨out,l,rfl⟩:=JN hp;have v:(out.map λr=>(cJ (kyR r),rD r)).map (·.2)=out.map rD:=by rw[List.map_map];rfl
  rw[v];refine q out ⟨l,?_⟩;rw[List.pairwise_map]at hw ⊢;exact hw
end
def HJ(us:eh):Prop:=us.Pairwise λa b=>bF a<=bF b
def OkW.okn{n:Int}{us:eh}(h:OkW n us):OkN n us:=λt ht=>by
 let⟨a,b,c⟩:=h t ht;exact⟨⟨a,()⟩,⟨(),c⟩,()⟩
def OkN.nice{n:Int}{us:eh}(h:OkN n us)(hn:n<=16):∀t∈us,ql t:=λt ht=>by
 let⟨_,⟨a,b⟩,_⟩:=h t ht;exact⟨a,()⟩
def Iu{us vs:eh}(hn:∀t∈us,ql t)(hs:HJ us)(hp:vs.Perm us)(hv:HJ vs):vs=us:=by
 refine List.Perm.eq_of_pairwise (le:=λa b=>bF a<=bF b) (λa b ha hb h1 h2=>?_) hv hs hp;exact code_inj (hn a (hp.mem_iff.mp ha)) (hn b hb) ()
def WT:FF:=λds P=>∃n us i j,ds=[bB n us,.int i,.int j]/\0<=i/\i<n/\0<=j/\j<n/\i≠j/\P .none
def Wz:FF:=λds P=>∃n t,ds=[.int n,pD t]/\OkT n t/\P (.bool true)
def Wx:FF:=λds P=>∃n us,ds=[.int n,.tuple (us.map pD)]/\1<=n/\n<=16/\⇑us<=40/\OkN n us/\P (.bool true)
def fOW:FF:=λds P=>∃n us,ds=[bB n us]/\1<=n/\n<=16/\⇑us<=40/\OkN n us/\HJ us/\P (.bool true)
def Wy:FF:=λds P=>∃n us,ds=[bB n us]/\1<=n/\n<=16/\⇑us<=40/\OkW n us/\HJ us/\P (.bool true)
def fSW:FF:=λds P=>∃(CL:ef)(x:Int),ds=[.list (CL.map iD),.int x]/\⇑CL<=100/\(∀c∈CL,⇑c<=100)/\(∃c∈CL,x∈c)/\∀c∈CL,x∈c->P (iD c)
def Ww:FF:=λds P=>∃(CL:ef)(g:eg),ds=[.list (CL.map iD),iD g]/\⇑CL<=100/\(∀c∈CL,c≠[]/\⇑c<=100)/\⇑g<=100/\P (.list ((CL.filter λc=>decide (c.headD 0∈g)).map iD))
def at0{α:Type}(x:α)(r:List α):atI (x::r) 0=some x:=fW (j:=0) rfl
def mj(F:Fun K aN aN (top 16) f fd)(B:Dl.Bn mg)(a:4∪br∪[ai,ar]∪spD WQ):5∩[ai,"a","b"]∩spD WT:=by
 refine okT F (N:=[ai,"a","b"]) zC (λhr nd=>Wr.aA (Wr.lZ (Wr.dc a hr (Wr.aj (Wr.dv 0) (Wr.aj (Wr.dv 1) Wr.ak))))
  (Wr.aA (Wr.lZ (Wr.dc a hr (Wr.aj (Wr.dv 0) (Wr.aj (Wr.dv 2) Wr.ak))))
  (Wr.aF (Wr.cR (Wr.fQ hr.units (Wr.dv 1) (Wr.dv 2)) (Wr.aF Wr.eY) Wr.aU)))) ?_
 rintro ds P ⟨n,us,i,j,rfl,b,h1,h2,c,d,q⟩;refine⟨[.im (bB n us),.im (.int i),.im (.int j)],qj rfl,?_⟩;refine⟨n,us,i,rfl,b,h1,n,us,j,rfl,h2,c,?_⟩;show if decide (i=j)=true then _ else _
 rw[dC d];exact bw (A:=True) q
def GD(F:Fun K de de (top 18) f fd)(B:Dl.Bn mg)(a:kA2 P w K mg fw):3∩["n",ar]∩spD Wz:=by
 refine okT F (N:=["n",ar]) zC (λhr nd=>Wr.aA (Wr.cR (Wr.wpt (Wr.iU (Wr.cC (Wr.bR (Wr.bH kit_tuple B.isinstance (Wr.dv 1) (Wr.wty rfl B.tuple UF)))) (Wr.fO (Wr.gB hr.units (Wr.cW B.len (Wr.aj (Wr.dv 1) Wr.ak)) Wr.aq)))) (Wr.aF (Wr.aJ Wr.iH)) Wr.aU)
  (Wr.aF (Wr.aJ (Wr.fC (Wr.dc a hr (Wr.aj (Wr.dv 0) (Wr.aj (Wr.aG (Wr.dv 1) Wr.aq) Wr.ak))) (Wr.fC (Wr.dc a hr (Wr.aj (Wr.dv 0) (Wr.aj (Wr.aG (Wr.dv 1) Wr.aq) Wr.ak))) (Wr.gW (Wr.Bf hr.units (Wr.aG (Wr.dv 1) Wr.aq) (Wr.aG (Wr.dv 1) Wr.aq)))))))) ?_
 rintro ds P ⟨n,t,rfl,ok,q⟩;refine⟨[.im (.int n),.im (pD t)],rfl,?_⟩;let⟨⟨b,c⟩,⟨d,e⟩,g⟩:=ok;refine bw (A:=True) (bw (A:=True) ?_);refine⟨.int t.1,rfl,n,t.1,rfl,b,c,?_⟩;refine bC (B:=True) ⟨.int t.2,rfl,n,t.2,rfl,d,e,?_⟩;refine bC (B:=True) ⟨.int t.1,rfl,.int t.2,rfl,rfl,?_⟩;show P (.bool (!decide (t.1=t.2)));rw[dC g];exact q
def tu:([dq,"n",cn]:List Str).Nodup:=⋯
def wG{a:Tok}{d:Tok}(F:Fun K bX bX (top 19) f fd)(B:Dl.Bn mg)(b:mg "MOST_PLACES"=some (.int 16 a))(g:mg "MOST_TIES"=some (.int 40 d))(j:kA1 P w K mg fw)(k:3∪de∪["n",ar]∪spD Wz):4∩["n",cn]∩spD Wx:=by
 refine okT F (N:=["n",cn]) zC (λhr nd=>Wr.aA (Wr.cR (Wr.wpt (Wr.iU (Wr.cC (Wr.bR (Wr.dc j hr (Wr.aj (Wr.dv 0) Wr.ak)))) (Wr.fO (Wr.cC (Wr.pO J2 J2 Wr.aq (Wr.dv 0) (Wr.jY rfl b ⟨_,rfl⟩)))))) (Wr.aF (Wr.aJ Wr.iH)) Wr.aU)
  (Wr.aA (Wr.cR (Wr.wpt (Wr.iU (Wr.cC (Wr.bR (Wr.nR B.isinstance (Wr.dv 1) (Wr.wty rfl B.list UE) (Wr.wty rfl B.tuple UF)))) (Wr.fO (Wr.jV (Wr.cW B.len (Wr.aj (Wr.dv 1) Wr.ak)) (Wr.jY rfl g ⟨_,rfl⟩))))) (Wr.aF (Wr.aJ Wr.iH)) Wr.aU)
  (Wr.aF (Wr.aJ (Wr.sI rfl B.all Dl.boot_all (Wr.aj (Wr.fX [dq] rfl (Wr.bW (Wr.dv 1)) (λc=>(Wr.aH (i:=0) tu rfl zQ)) (λc=>Wr.cM) (λc=>(Wr.dc k hr (Wr.aj (Wr.dv 1) (Wr.aj (Wr.dv 0) Wr.ak))))) Wr.ak)))))) ?_
 rintro ds P ⟨n,us,rfl,l,h,m,ok,q⟩;refine⟨[.im (.int n),.im (.tuple (us.map pD))],by show [dO (.int n),dO (.tuple (us.map pD))]=_;rw[show dO (.tuple (us.map pD))=.im (.tuple (us.map pD))from dP (cQ us)];rfl,?_⟩;refine⟨n,rfl,bw (A:=True) ?_⟩;show if decide ((1:Int)<=n)=true then _ else _
 rw[fy l];refine bC (B:=True) ?_;show if(!decide (n<=16))=true then _ else _
 rw[fy h];refine bw (A:=True) (bw (A:=True) ?_);show if decide ((40:Int)<(⇑(us.map pD):Int))=true then _ else _
 rw[List.length_map,dC ()];refine bw (A:=True) (Bu us pD (λ_=>.bool true) .imm rfl () (λt ht A B hA=>bC (B:=True) ⟨n,t,rfl,ok t ht,rfl,hA⟩) ?_);refine⟨us.map λ_=>true,by rw[List.map_map];rfl,rfl,?_⟩;have e:(us.map λ_=>true).all id=true:=by rw[List.all_map];exact List.all_eq_true.mpr λ_ _=>rfl
 rw[e];exact q
def uO(F:Fun K bE bE (top 20) f fd)(B:Dl.Bn mg)(b:4∪bX∪["n",cn]∪spD Wx):5∩[ar]∩spD fOW:=by
 refine okT F (N:=[ar]) zC (λhr nd=>Wr.aA (Wr.cR (Wr.wpt (Wr.iU (Wr.cC (Wr.bR (Wr.bH kit_tuple B.isinstance (Wr.dv 0) (Wr.wty rfl B.tuple UF)))) (Wr.fO (Wr.gB hr.units (Wr.cW B.len (Wr.aj (Wr.dv 0) Wr.ak)) Wr.aq)))) (Wr.aF (Wr.aJ Wr.iH)) Wr.aU)
  (Wr.aA (Wr.cR (Wr.wpt (Wr.iU (Wr.cC (Wr.bR (Wr.dc b hr (Wr.aj (Wr.aG (Wr.dv 0) Wr.aq) (Wr.aj (Wr.aG (Wr.dv 0) Wr.aq) Wr.ak))))) (Wr.fO (Wr.cC (Wr.bR (Wr.bH kit_tuple B.isinstance (Wr.aG (Wr.dv 0) Wr.aq) (Wr.wty rfl B.tuple UF))))))) (Wr.aF (Wr.aJ Wr.iH)) Wr.aU)
  (Wr.aF (Wr.aJ (Wr.jr hr.units (Wr.nP B.sorted (Wr.aj (Wr.aG (Wr.dv 0) Wr.aq) Wr.ak)) (Wr.nQ B.list (Wr.aj (Wr.aG (Wr.dv 0) Wr.aq) Wr.ak))))))) ?_
 rintro ds P ⟨n,us,rfl,d,a,c,ok,e,q⟩;refine⟨[.im (bB n us)],qj rfl,?_⟩;refine bw (A:=True) (bw (A:=True) ?_);refine⟨_,rfl,_,rfl,n,us,rfl,d,a,c,ok,bw (A:=True) ⟨_,rfl,bw (A:=True) ?_⟩⟩;refine⟨_,rfl,us,.inr rfl,(),ok.nice a,λvs hp hs=>?_⟩;obtain rfl:=Iu (ok.nice a) e hp hs;refine⟨_,rfl,.inl ⟨cQ vs,(Ea vs).1,(Ea vs).1,rfl,?_⟩⟩;show P (.bool (PyData.eqv (.list (vs.map pD)) (.list (vs.map pD))));rw[PX,fy rfl];exact q
def yN:([dq,ar]:List Str).Nodup:=⋯
def Gz(F:Fun K df df (top 21) f fd)(B:Dl.Bn mg)(b:5∪bE∪[ar]∪spD fOW):6∩[ar]∩spD Wy:=by
 refine okT F (N:=[ar]) zC (λhr nd=>Wr.aF (Wr.aJ (Wr.fC (Wr.dc b hr (Wr.aj (Wr.dv 0) Wr.ak)) (Wr.gW (Wr.sI rfl B.all Dl.boot_all (Wr.aj (Wr.fX [dq] rfl (Wr.bW (Wr.aG (Wr.dv 0) Wr.aq)) (λc=>(Wr.aH (i:=0) yN rfl zQ)) (λc=>Wr.cM) (λc=>(Wr.J0 (Wr.aG (Wr.dv 0) Wr.aq) (Wr.aG (Wr.dv 0) Wr.aq)))) Wr.ak)))))) ?_;rintro ds P ⟨n,us,rfl,g,a,d,ok,h,q⟩;refine⟨[.im (bB n us)],qj rfl,?_⟩;refine⟨n,us,rfl,g,a,d,ok.okn,h,bC (B:=True) ⟨_,rfl,?_⟩⟩;refine Bu us pD (λ_=>.bool true) .imm rfl () (λt ht A B hA=>bC (B:=True) ⟨.int t.1,rfl,.int t.2,rfl,?_⟩) ?_
 ·refine⟨rfl,?_⟩;show A (.bool (decide (t.1<t.2)));rw[fy (ok t ht).2.1];exact hA
 refine⟨us.map λ_=>true,by rw[List.map_map];rfl,rfl,?_⟩;have e:(us.map λ_=>true).all id=true:=by rw[List.all_map];exact List.all_eq_true.mpr λ_ _=>rfl
 rw[e];exact q
def qp:FnScope [bh,bn] [bh,bn] (aC (top 37)):=zC
def uT:(["some",bh,bn]:List Str).Nodup:=⋯
def yC(F:Fun K cq cq (top 37) f fd)(B:Dl.Bn mg):1∩[bh,bn]∩spR fSW:=by
 refine F.ok qp Eh (λcdv A outer s H vs Q E hr h=>?_);have l:=qp.nd;refine⟨_,Dl.WR.h (Dl.Je (Wr.aG (Wr.fX ["some"] rfl (Wr.bW (Wr.dv 0)) (λc=>(Wr.aH (i:=0) uT rfl zQ)) (λc=>(Wr.fU (Wr.rU hr.units (Wr.dv 2) (Wr.dv 0)))) (λc=>(Wr.dv 0))) Wr.aq)),Ma h ?_⟩;rintro ds P ⟨b,x,rfl,j,k,d,q⟩;refine⟨[.sh (.list (b.map iD)),.im (.int x)],rfl,?_⟩;refine tM b iD (λc=>decide (x∈c)) iD .shr rfl () ?_ ?_
 ·intro c hc A B h1 h2;refine⟨rfl,lQ c,?_⟩;show if((c.map PyData.int).any λe=>PyData.eqv e (.int x))=true then _ else _
  rw[Dl.any_ints];by_cases a:x∈c
  ·rw[fy a];exact bC (B:=True) ⟨rfl,h1 (fy a)⟩
  ·rw[dC a];exact bw (A:=True) (h2 (dC a))
 ·let⟨c,hc,a⟩:=d;have hm:c∈b.filter λc=>decide (x∈c):=List.mem_filter.mpr ⟨hc,fy a⟩;cases e:b.filter λc=>decide (x∈c)with
  |nil=>rw[e]at hm;exact nomatch hm
  |cons c0 r =>
   have g:c0∈b.filter λc=>decide (x∈c):=by rw[e];exact List.mem_cons_self
   let⟨h1,h2⟩:=List.mem_filter.mp g;exact⟨iD c0,at0 _ _,q c0 h1 (dE h2)⟩
def jL:FnScope [bh,dA] [bh,dA] (aC (top 38)):=zC
def pX:(["some",bh,dA]:List Str).Nodup:=⋯
def sS(F:Fun K bt bt (top 38) f fd)(B:Dl.Bn mg):1∩[bh,dA]∩spR Ww:=by
 refine F.ok jL Eh (λcdv A outer s H vs Q E hr h=>?_);have l:=jL.nd;refine⟨_,Dl.WR.h (Dl.Je (Wr.fX ["some"] rfl (Wr.bW (Wr.dv 0)) (λc=>(Wr.aH (i:=0) pX rfl zQ)) (λc=>(Wr.fU (Wr.rU hr.units (Wr.aG (Wr.dv 0) Wr.aq) (Wr.dv 2)))) (λc=>(Wr.dv 0)))),Ma h ?_⟩;rintro ds P ⟨b,g,rfl,j,d,k,q⟩;refine⟨[.sh (.list (b.map iD)),.sh (iD g)],rfl,?_⟩;refine tM b iD (λc=>decide (c.headD 0∈g)) iD .shr rfl () ?_ q;intro c hc A B h1 h2;let⟨hn,_⟩:=d c hc;cases c with
 |nil=>exact(hn rfl).elim
 |cons y r =>
  refine⟨.int y,at0 _ _,rfl,lQ g,?_⟩;show if((g.map PyData.int).any λe=>PyData.eqv e (.int y))=true then _ else _
  rw[Dl.any_ints];by_cases a:y∈g
  ·rw[fy a];exact bC (B:=True) ⟨rfl,h1 (fy a)⟩
  ·rw[dC a];exact bw (A:=True) (h2 (dC a))
def fD(p:List T3×Int):D:=.tuple [.list (p.1.map rD),.int p.2]
def kG(l:Addr)(a b c:D)(ds:ez):FS:=[(aS,.nb a),(ag,.nb b),(ah,.nb c),(aw,.ls l ds)]
def K7:((ag:Str)==aS)=false/\((ah:Str)==aS)=false/\((ah:Str)==ag)=false/\((aw:Str)==aS)=false/\((aw:Str)==ag)=false/\((aw:Str)==ah)=false:=⋯
def dZ(l:Addr)(a b c:D)(ds:ez):List.lookup (aS:Str) (kG l a b c ds)=some (.nb a)/\List.lookup (ag:Str) (kG l a b c ds)=some (.nb b)/\List.lookup (ah:Str) (kG l a b c ds)=some (.nb c)/\List.lookup (aw:Str) (kG l a b c ds)=some (.ls l ds):=by
 let⟨h1,h2,d,e,f,g⟩:=K7;refine⟨?_,?_,?_,?_⟩ <;> simp[kG,List.lookup,h1,h2,d,e,f,g]
def pZ(l:Addr)(a b c d:D)(ds es:ez):aZ ag (.nb d) (kG l a b c ds)=kG l a d c ds/\aZ ah (.nb d) (kG l a b c ds)=kG l a b d ds/\aZ aw (.ls l es) (kG l a b c ds)=kG l a b c es:=by
 have e:¬((aS:Str)=ag):=⋯
 have f:¬((aS:Str)=ah):=⋯
 have g:¬((aS:Str)=aw):=⋯
 have h:¬((ag:Str)=ah):=⋯
 have i:¬((ag:Str)=aw):=⋯
 have j:¬((ah:Str)=aw):=⋯
 refine⟨?_,?_,?_⟩ <;> simp[kG,aZ,e,f,g,h,i,j]
def cX(l:Addr)(a b c:D)(ds:ez):List.lookup (ai:Str) (kG l a b c ds)=none/\List.lookup (dn:Str) (kG l a b c ds)=none/\List.lookup (bg:Str) (kG l a b c ds)=none/\List.lookup (cr:Str) (kG l a b c ds)=none/\List.lookup (cn:Str) (kG l a b c ds)=none/\List.lookup ("put":Str) (kG l a b c ds)=none/\List.lookup ("drop":Str) (kG l a b c ds)=none/\List.lookup ("back":Str) (kG l a b c ds)=none/\List.lookup (bS:Str) (kG l a b c ds)=none/\List.lookup ("of_one_piece":Str) (kG l a b c ds)=none:=by
 have h:∀x:Str,(x==(aS:Str))=false->(x==(ag:Str))=false->(x==(ah:Str))=false->(x==(aw:Str))=false->List.lookup x (kG l a b c ds)=none:=λx h1 h2 h3 h4=>by simp[kG,List.lookup,h1,h2,h3,h4]
 refine⟨?_,?_,?_,?_,?_,?_,?_,?_,?_,?_⟩ <;> exact h _ ⋯ ⋯ ⋯ ⋯
def kF(l:Addr)(n:Int)(b:List T3)(a:Int)(ps:List (List T3×Int)):FS:=kG l (.int n) (.list (b.map rD)) (.int a) (ps.map fD)
def zZ{r:Nat}{x a:Addr}{fs:FS}{ρ:List Sl}:Af (.gn r (shG (some a) x fs)::ρ) 0 (some a) fs:=⟨r,x,.inr rfl⟩
def gq{r:Nat}{x a:Addr}{fs:FS}{ρ:List Sl}:Af (.gn r (aM (some a) x fs)::ρ) 0 (some a) fs:=⟨r,x,.inl rfl⟩
def tU(a:List T3):cH (a.map rD)=true:=lV λd hd=>by
 let⟨r,_,rfl⟩:=List.mem_map.mp hd;rfl
structure KOk(n:Int)(rs:List T3)(fr:Int):Prop where
 n1:1<=n
 n16:n<=16
 len:⇑rs<=40
 rw:∀r∈rs,(0<=r.1/\r.1<fr)/\0<=r.2.1/\r.2.1<r.2.2/\r.2.2<n
 nd:(rs.map (·.1)).Nodup
 fb:fr<=1000
def KOk.nice{n:Int}{f:List T3}{g:Int}(h:KOk n f g):∀r∈f,iR (kyR r):=λr hr=>by
 let⟨⟨a,b⟩,c,d,e⟩:=h.rw r hr;have:=h.n16;have:=h.fb;exact⟨⟨by show 0<=r.2.2;lia,by show r.2.2<64;lia⟩,a,by show r.1<4096;lia⟩
def KOk.okw{n:Int}{a out:List T3}{b:Int}(h:KOk n a b)(p:out.Perm a):OkW n (out.map dY):=λt ht=>by
 let⟨r,hr,rfl⟩:=List.mem_map.mp ht;exact(h.rw r (p.mem_iff.mp hr)).2
def jl(d:List T3)(c a b:Int):List T3:=d++[(c,if b<a then b else a,if b > a then b else a)]
def Js{n:Int}{d:List T3}{c a b:Int}(h:KOk n d c)(l:⇑d<40)(f:c<1000)(e:0<=c)(g:0<=a)(i:a<n)(b0:0<=b)(b1:b<n)(j:a≠b):KOk n (jl d c a b) (c+1):=by
 refine⟨h.n1,h.n16,by unfold jl;rw[List.length_append,List.length_singleton];lia,λr hr=>?_,?_,()⟩
 ·rcases List.mem_append.mp hr with z|z
  ·let⟨⟨p,q⟩,s⟩:=h.rw r z;exact⟨⟨p,()⟩,s⟩
  ·have z:r=(c,if b<a then b else a,if b > a then b else a):=List.mem_singleton.mp z;subst z;refine⟨⟨e,by show c<c+1;lia⟩,?_⟩;dsimp only;split <;> split <;> lia
 ·unfold jl;rw[List.map_append,List.map_singleton];refine List.nodup_append.mpr ⟨h.nd,by simp,λx hx y hy=>?_⟩;let⟨r,hr,rfl⟩:=List.mem_map.mp hx;have:=(h.rw r hr).1.2;have:y=c:=List.mem_singleton.mp hy;lia
def QF{us:eh}{n:Int}{c:eg}(h:c∈pcI us n):c≠[]:=by
 unfold pcI iY at h;let⟨a,ha,rfl⟩:=List.mem_map.mp h;have:=(List.mem_filter.mp ha).2;unfold iK at this;have:=dE this;intro z;unfold zI at z;rw[List.map_eq_nil_iff.mp z]at this;cases this
def Um(q r:T3):PyData.eqv (rD q) (rD r)=decide (q=r):=by
 let⟨a,b,c⟩:=q;let⟨d,e,f⟩:=r;show(decide (a=d)&&(decide (b=e)&&(decide (c=f)&&true)))=_;rw[Bool.and_true];simp only[Prod.mk.injEq,Bool.decide_and]
def Ew{b:List T3}{r:T3}(a:(b.map (·.1)).Nodup)(h:r∈b):b.filter (λq=>decide (q.1=r.1))=[r]:=by
 induction b with
 |nil=>exact nomatch h
 |cons y l ih =>
  rw[List.map_cons,List.nodup_cons]at a;rcases List.mem_cons.mp h with z|z
  ·subst z;rw[List.filter_cons_of_pos (by simp)];have:l.filter (λq=>decide (q.1=r.1))=[]:=List.filter_eq_nil_iff.mpr λq hq z=>a.1 (by rw[←dE z];exact List.mem_map.mpr ⟨q,hq,rfl⟩);rw[this]
  ·rw[List.filter_cons_of_neg (by
    intro e;exact a.1 (by rw[dE e];exact List.mem_map.mpr ⟨r,z,rfl⟩))]
   exact ih a.2 z
def Fl{n:Int}{b:List T3}{a:Int}{r:T3}(h:KOk n b a):KOk n (b.filter λq=>decide (q≠r)) a:=⟨h.n1,h.n16,Nat.le_trans (List.length_filter_le _ _) h.len,λq hq=>h.rw q (List.mem_filter.mp hq).1,((List.filter_sublist (p:=λq=>decide (q≠r))).map (·.1)).nodup h.nd,h.fb⟩
def bL(us:eh):List T3:=us.zipIdx.map λp=>(~~~p.2,p.1.1,p.1.2)
structure KT(K:W.Frag)(C:Addr):Prop where
 cl:Cls K C
 size_:fH K C aS
 rows_:fH K C ag
 fresh_:fH K C ah
 past_:fH K C aw
def Cd(fs:FS)(ds:ez)(P:D->Prop):Prop:=∃l n rs fr ps,fs=kF l n rs fr ps/\ds=[]/\⇑rs<=100/\P (.list (rs.map rD))
def EY(fs:FS)(ds:ez)(P:D->Prop):Prop:=∃l n rs fr ps,fs=kF l n rs fr ps/\ds=[]/\KOk n rs fr/\∀out,Ord rs out->P (bB n (out.map dY))
def Lz(fs:FS)(ds:ez)(P:D->Prop):Prop:=∃l n rs fr ps,fs=kF l n rs fr ps/\ds=[]/\KOk n rs fr/\∀out,Ord rs out->P (iD (out.map (·.1)))
def Fb(fs:FS)(ds:ez)(P:D->Prop):Prop:=∃l n rs fr ps,fs=kF l n rs fr ps/\ds=[]/\KOk n rs fr/\∀out,Ord rs out->P (.list ((pcI (out.map dY) n).map iD))
def Fe(x:Addr)(fs:FS)(ds:ez)(P:FS->D->Prop):Prop:=∃l n rs fr ps rs' fr',fs=kF l n rs fr ps/\ds=[.list (rs'.map rD),.int fr']/\⇑ps<900/\P (kF l n rs' fr' (ps++[(rs,fr)])) .none
def inP(P:ef)(g:eg):ef:=P.filter λc=>decide (c.headD 0∈g)
def Ly(x:Addr)(fs:FS)(ds:ez)(P:FS->D->Prop):Prop:=∃l n rs fr ps a b,fs=kF l n rs fr ps/\ds=[.int a,.int b]/\KOk n rs fr/\⇑rs<40/\fr<1000/\0<=fr/\⇑ps<900/\0<=a/\a<n/\0<=b/\b<n/\a≠b /\
 ∀out out2 g,Ord rs out->Ord (jl rs fr a b) out2->g∈pcI (out2.map dY) n->a∈g->P (kF l n (jl rs fr a b) (fr+1) (ps++[(rs,fr)])) (.tuple [.int fr,.list (if 1<⇑(inP (pcI (out.map dY) n) g) then(inP (pcI (out.map dY) n) g).map iD else [])])
def Ce(x:Addr)(fs:FS)(ds:ez)(P:FS->D->Prop):Prop:=∃l n rs fr ps r,fs=kF l n rs fr ps/\ds=[.int r.1]/\KOk n rs fr/\⇑ps<900/\r∈rs /\
 ∀out out2 g,Ord rs out->Ord (rs.filter λq=>decide (q≠r)) out2->g∈pcI (out.map dY) n->r.2.1∈g->P (kF l n (rs.filter λq=>decide (q≠r)) fr (ps++[(rs,fr)])) (if 1<⇑(inP (pcI (out2.map dY) n) g) then .tuple [iD g,.list ((inP (pcI (out2.map dY) n) g).map iD)]else .tuple [.none,.list []])
def Cg(x:Addr)(fs:FS)(ds:ez)(P:FS->D->Prop):Prop:=∃l n rs fr ps rs' fr',fs=kF l n rs fr (ps++[(rs',fr')])/\ds=[]/\P (kF l n rs' fr' ps) (.bool true)
def LC(x:Addr)(fs:FS)(ds:ez)(P:FS->D->Prop):Prop:=∃n us,fs=[]/\ds=[bB n us]/\1<=n/\n<=16/\⇑us<=40/\OkW n us/\HJ us/\∀l,l≠x->P (kF l n (bL us) (⇑us:Int) []) .none
section
variable{P:Za}{w:Zb}{K:W.Frag}{mg:Str->ew}{fw:Heap}{f:Addr}{fd:Yt} [Tt]
def jM:FnScope [af] [af] (aC (inClass (top 39) 1)):=zC
def sV{a:Addr}(F:Fun K cn "Keeper.ties" (inClass (top 39) 1) f fd)(B:Dl.Bn mg)(T:KT K a):1∩[af]∩spQ a Cd:=by
 refine F.ok jM qU (λcdv A outer s H vs Q E hr h=>?_);have d:=jM.nd;refine⟨_,Wr.WDSs.h (Wr.aF (Wr.aJ (Wr.nQ B.list (Wr.aj (Dl.bU (Dl.cL T.cl T.rows_ (Wr.wv 0))) Wr.ak)))),rm h ?_⟩;rintro x fs ds P ⟨l,n,b,c,ps,rfl,rfl,hl,q⟩;refine⟨[],rfl,?_⟩;exact⟨_,_,zZ,(dZ ..).2.1,.inl ⟨tU b,rfl,q⟩⟩
def mL:FnScope [af] [af] (aC (inClass (top 39) 2)):=zC
def qG:([dr,af]:List Str).Nodup:=⋯
abbrev kA5(P w K mg fw):=9∪bb∪[ag]∪spT Tt.T fIO
def uQ{a:Addr}(F:Fun K ai "Keeper.web" (inClass (top 39) 2) f fd)(B:Dl.Bn mg)(b:kA5 P w K mg fw)(T:KT K a):10∩[af]∩spQ a EY:=by
 refine F.ok mL qU (λcdv A outer s H vs Q E hr h=>?_);have j:=mL.nd;refine⟨_,Wr.WDSs.h (Wr.aF (Wr.aJ (Wr.aL (Wr.aj (Dl.bU (Dl.cL T.cl T.size_ (Wr.wv 0))) (Wr.aj (Wr.jo B.tuple (Wr.aj (Wr.fX [dr] rfl (Wr.bW (Wr.dcS b hr (Wr.aj (Dl.bU (Dl.cL T.cl T.rows_ (Wr.wv 0))) Wr.ak))) (λc=>(Wr.aH (i:=0) qG rfl zQ)) (λc=>Wr.cM) (λc=>(Wr.aL (Wr.aj (Wr.aG (Wr.dv 0) Wr.aq) (Wr.aj (Wr.aG (Wr.dv 0) Wr.aq) Wr.ak))))) Wr.ak)) Wr.ak))))),rm h ?_⟩;rintro x fs ds P ⟨l,n,d,g,ps,rfl,rfl,ok,q⟩;refine⟨[],rfl,?_⟩;refine⟨_,_,zZ,(dZ ..).1,?_⟩;refine⟨_,_,zZ,(dZ ..).2.1,d,rfl,by have:=ok.len;lia,ok.nice,λout ho=>?_⟩;have hl:⇑out<=40:=by rw[ho.1.length_eq];exact ok.len
 refine Bu out rD (λr=>pD (dY r)) .imm rfl () (λr hr A B hA=>bC (B:=True) ⟨_,rfl,_,rfl,zK,rfl,hA⟩) ?_;refine⟨zK,?_⟩;have e:out.map (λr=>pD (dY r))=(out.map dY).map pD:=by rw[List.map_map];rfl
 show(norm _ (.tuple [.int n,.tuple (out.map λr=>pD (dY r))])).le .n0=true/\P (.tuple [.int n,.tuple (out.map λr=>pD (dY r))]);rw[e];refine⟨?_,q out ho⟩;show(norm _ (bB n (out.map dY))).le .n0=true;rw[eU (jy _ _)];rfl
def jA:FnScope [af] [af] (aC (inClass (top 39) 3)):=zC
def oE:([dr,af]:List Str).Nodup:=⋯
def qF{a:Addr}(F:Fun K dn "Keeper.names" (inClass (top 39) 3) f fd)(B:Dl.Bn mg)(b:kA5 P w K mg fw)(T:KT K a):10∩[af]∩spQ a Lz:=by
 refine F.ok jA qU (λcdv A outer s H vs Q E hr h=>?_);have j:=jA.nd;refine⟨_,Wr.WDSs.h (Wr.aF (Wr.aJ (Wr.fX [dr] rfl (Wr.bW (Wr.dcS b hr (Wr.aj (Dl.bU (Dl.cL T.cl T.rows_ (Wr.wv 0))) Wr.ak))) (λc=>(Wr.aH (i:=0) oE rfl zQ)) (λc=>Wr.cM) (λc=>(Wr.aG (Wr.dv 0) Wr.aq))))),rm h ?_⟩;rintro x fs ds P ⟨l,n,d,g,ps,rfl,rfl,ok,q⟩;refine⟨[],rfl,?_⟩;refine⟨_,_,zZ,(dZ ..).2.1,d,rfl,by have:=ok.len;lia,ok.nice,λout ho=>?_⟩;have hl:⇑out<=40:=by rw[ho.1.length_eq];exact ok.len
 refine Bu out rD (λr=>.int r.1) .imm rfl () (λr hr A B hA=>bC (B:=True) ⟨_,rfl,rfl,hA⟩) ?_;have e:out.map (λr=>PyData.int r.1)=(out.map (·.1)).map PyData.int:=by rw[List.map_map];rfl
 rw[e];exact⟨rfl,q out ho⟩
def iZ:FnScope [af] [af] (aC (inClass (top 39) 4)):=zC
def pU{b:Addr}(F:Fun K bg cK (inClass (top 39) 4) f fd)(B:Dl.Bn mg)(c:8∪"tree"∪[ai]∪spD Q9)(a:Dl.CalM P w K mg fw b 10 ai [af] (spQ b EY)):11∩[af]∩spQ b Fb:=by
 refine F.ok iZ qU (λcdv A outer s H vs Q E hr h=>?_);have g:=iZ.nd;refine⟨_,Wr.WDSs.h (Wr.aF (Wr.aJ (Wr.aG (Wr.dc c hr (Wr.aj (Dl.uX a hr (Wr.wv 0)) Wr.ak)) Wr.aq))),rm h ?_⟩;rintro x fs ds P ⟨l,n,e,d,ps,rfl,rfl,ok,q⟩;refine⟨[],rfl,?_⟩;refine⟨_,zZ,(cX ..).1,l,n,e,d,ps,rfl,rfl,ok,λout ho=>?_⟩;have hl:⇑out<=40:=by rw[ho.1.length_eq];exact ok.len
 refine⟨n,_,rfl,ok.n1,ok.n16,by rw[List.length_map];lia,(ok.okw ho.1).okn,_,at0 _ _,?_⟩;refine⟨?_,q out ho⟩;rfl
def jc:FnScope [af,ag,ah] [af,ag,ah] (aC (inClass (top 39) 7)):=zC
def pW{i:Addr}(F:Fun K cr da (inClass (top 39) 7) f fd)(B:Dl.Bn mg)(T:KT K i):1∩[af,ag,ah]∩spM i Fe:=by
 refine F.ok jc oM (λcdv A outer s H vs Q E hr h=>?_);have o:=jc.nd;refine⟨_,Dl.WJs.h (Dl.bf (Dl.dN (Dl.wX (gA (rR PySem.F.plainAttrs_list PySem.F.slot_list_append PySem.F.type_list_append gJ (Dl.cL T.cl T.past_ (Wr.wv 0)) (Wr.aj (Wr.aL (Wr.aj (Dl.bU (Dl.cL T.cl T.rows_ (Wr.wv 0))) (Wr.aj (Dl.bU (Dl.cL T.cl T.fresh_ (Wr.wv 0))) Wr.ak))) Wr.ak).h))))
  (Dl.bf (Dl.dN (Dl.iW (Dl.gR T.cl T.rows_ (Wr.wv 0) (Wr.dv 1))))
  (Dl.oU (Dl.dN (Dl.iW (Dl.gR T.cl T.fresh_ (Wr.wv 0) (Wr.dv 2))))))),ug h ?_⟩
 rintro x fs ds P ⟨l,n,g,c,ps,b,e,rfl,rfl,hl,q⟩;refine⟨[.sh (.list (b.map rD)),.im (.int e)],rfl,?_⟩;refine⟨0,x,_,l,_,rfl,(dZ ..).2.2.2,rfl,?_⟩;refine⟨_,_,gq,(dZ ..).2.1,_,_,gq,(dZ ..).2.2.1,zK,rfl,by rw[List.length_map];lia,?_⟩;have j:aZ aw (.ls l (ps.map fD++[.tuple [.list (g.map rD),.int c]])) (kF l n g c ps)=kF l n g c (ps++[(g,c)]):=by
  unfold kF;rw[(pZ (d:=.none) ..).2.2,List.map_append];rfl
 dsimp only;show kO _ _ _ [.gn 0 (aM (some i) x (aZ aw (.ls l (ps.map fD++[.tuple [.list (g.map rD),.int c]])) (kF l n g c ps))),.sh (.list (b.map rD)),.im (.int e)];rw[j];refine⟨0,x,_,rfl,rfl,(show 4<900 by decide),(λz=>nomatch z),?_⟩;have k:aZ ag (.nb (.list (b.map rD))) (kF l n g c (ps++[(g,c)]))=kF l n b c (ps++[(g,c)]):=(pZ (es:=[]) ..).1;dsimp only;show jOf _ _ [.gn 0 (aM (some i) x (aZ ag (.nb (.list (b.map rD))) (kF l n g c (ps++[(g,c)])))),.sh (.list (b.map rD)),.im (.int e)];rw[k];refine⟨0,x,_,rfl,rfl,(show 4<900 by decide),(λz=>nomatch z),?_⟩;have m:aZ ah (.nb (.int e)) (kF l n b c (ps++[(g,c)]))=kF l n b e (ps++[(g,c)]):=(pZ (es:=[]) ..).2.1;dsimp only;show Nj i x _ _ [.gn 0 (aM (some i) x (aZ ah (.nb (.int e)) (kF l n b c (ps++[(g,c)])))),.sh (.list (b.map rD)),.im (.int e)];rw[m];exact⟨_,rfl,λa h=>h,q⟩
def gQ:FnScope [af,ai] [af,ai] (aC (inClass (top 39) 0)):=zC
def fY:([ba,dq,af,ai]:List Str).Nodup:=⋯
def mY{b:Addr}(F:Fun K "__init__" cy (inClass (top 39) 0) f fd)(B:Dl.Bn mg)(u:mg cw=none)(v:6∪df∪[ar]∪spD Wy)(T:KT K b):7∩[af,ai]∩spM b LC:=by
 refine F.ok gQ oM (λcdv A outer s H vs Q E hr h=>?_);have R:=gQ.nd;refine⟨_,Dl.WJs.h (Dl.bf (Dl.dN (Wr.cR (Wr.cC (Wr.bR (Wr.dc v hr (Wr.aj (Wr.dv 1) Wr.ak)))) (Wr.aF Wr.eY) Wr.aU))
  (Dl.bf (Dl.dN (Dl.iW (Dl.gR T.cl T.size_ (Wr.wv 0) (Wr.aG (Wr.dv 1) Wr.aq))))
  (Dl.bf (Dl.dN (Dl.iW (Dl.gR T.cl T.rows_ (Wr.wv 0) (Wr.fX [ba,dq] rfl (Wr.pB u (Wr.aj (Wr.aG (Wr.dv 1) Wr.aq) Wr.ak)) (λc=>(Wr.lA (n:=2) rfl (Wr.cD (Wr.aH (i:=0) fY rfl zQ) (Wr.cD (Wr.aH (i:=1) fY rfl zQ) Wr.iQ)))) (λc=>Wr.cM) (λc=>(Wr.aL (Wr.aj (Wr.dv 0) (Wr.aj (Wr.aG (Wr.dv 1) Wr.aq) (Wr.aj (Wr.aG (Wr.dv 1) Wr.aq) Wr.ak)))))))))
  (Dl.bf (Dl.dN (Dl.iW (Dl.gR T.cl T.fresh_ (Wr.wv 0) (Wr.cW B.len (Wr.aj (Dl.bU (Dl.cL T.cl T.rows_ (Wr.wv 0))) Wr.ak)))))
  (Dl.oU (Dl.dN (Dl.Qf (Dl.JB T.cl T.past_ (Wr.wv 0))))))))),ug h ?_⟩
 rintro x fs ds P ⟨n,us,rfl,rfl,N,e,M,ok,O,q⟩;refine⟨[.im (bB n us)],qj rfl,?_⟩;refine⟨n,us,rfl,N,e,M,ok,O,bw (A:=True) ?_⟩;refine⟨.int n,rfl,0,x,_,rfl,rfl,(show 0<900 by decide),(λz=>nomatch z),?_⟩;dsimp only;show kO _ _ _ [.gn 0 (aM (some b) x [(aS,.nb (.int n))]),.im (bB n us)];have d:¬((aS:Str)=ag):=⋯
 have g:¬((aS:Str)=ah):=⋯
 have j:¬((aS:Str)=aw):=⋯
 have m:¬((ag:Str)=ah):=⋯
 have o:¬((ag:Str)=aw):=⋯
 have r:¬((ah:Str)=aw):=⋯
 refine⟨.tuple (us.map pD),rfl,?_⟩;refine Bu us.zipIdx (λp=>PyData.tuple [.int (~~~p.2),pD p.1]) (λp=>rD (~~~p.2,p.1.1,p.1.2)) .imm (enum_zip us) (by rw[List.length_zipIdx];lia) ?_ ?_
 ·rintro⟨t,k⟩ hk A B I;exact⟨rfl,bC (B:=True) ⟨.int t.1,rfl,.int t.2,rfl,zK,rfl,I⟩⟩
 have G:(us.zipIdx.map λp:Tie×Nat=>rD (~~~p.2,p.1.1,p.1.2))=(bL us).map rD:=by
  unfold bL;rw[List.map_map];rfl
 refine⟨0,x,_,rfl,rfl,(show 1<900 by decide),(λz=>nomatch z),?_⟩;rw[G];have y:aZ ag (.nb (.list ((bL us).map rD))) [((aS:Str),.nb (.int n))]=([(aS,.nb (.int n)),(ag,.nb (.list ((bL us).map rD)))]:FS):=by simp[aZ,d]
 dsimp only;show kO _ _ _ [.gn 0 (aM (some b) x (aZ ag (.nb (.list ((bL us).map rD))) [(aS,.nb (.int n))])),.im (bB n us)];rw[y];have J:List.lookup (ag:Str) ([(aS,.nb (.int n)),(ag,.nb (.list ((bL us).map rD)))]:FS)=some (.nb (.list ((bL us).map rD))):=by simp[List.lookup,K7.1]
 refine⟨_,_,gq,J,0,x,_,rfl,rfl,(show 2<900 by decide),(λz=>nomatch z),?_⟩;have L:⇑((bL us).map rD)=⇑us:=by rw[List.length_map];unfold bL;rw[List.length_map,List.length_zipIdx]
 have C:aZ ah (.nb (.int (⇑((bL us).map rD):Int))) [((aS:Str),.nb (.int n)),(ag,.nb (.list ((bL us).map rD)))]=([(aS,.nb (.int n)),(ag,.nb (.list ((bL us).map rD))),(ah,.nb (.int (⇑us:Int)))]:FS):=by rw[L];simp[aZ,g,m]
 dsimp only;show jOf _ _ [.gn 0 (aM (some b) x (aZ ah (.nb (.int (⇑((bL us).map rD):Int))) [(aS,.nb (.int n)),(ag,.nb (.list ((bL us).map rD)))])),.im (bB n us)];rw[C];refine⟨0,x,_,rfl,(show 3<900 by decide),(λz=>nomatch z),λl hl=>?_⟩;have D:aZ aw (.ls l []) [((aS:Str),.nb (.int n)),(ag,.nb (.list ((bL us).map rD))),(ah,.nb (.int (⇑us:Int)))]=kF l n (bL us) (⇑us:Int) []:=by simp[aZ,j,o,r,kF,kG]
 dsimp only;show Nj b x _ _ [.gn 0 (aM (some b) x (aZ aw (.ls l []) [(aS,.nb (.int n)),(ag,.nb (.list ((bL us).map rD))),(ah,.nb (.int (⇑us:Int)))])),.im (bB n us)];rw[D];exact⟨_,rfl,(λa h=>nomatch h),q l λz=>hl (by rw[z];exact List.mem_cons_self)⟩
def jO:FnScope [af,"was"] [af] (aC (inClass (top 39) 10)):=zC
def sX{i:Addr}(F:Fun K "back" "Keeper.back" (inClass (top 39) 10) f fd)(B:Dl.Bn mg)(T:KT K i):1∩[af]∩spM i Cg:=by
 refine F.ok jO oM (λcdv A outer s H vs Q E hr h=>?_);have t:=jO.nd;refine⟨_,Dl.WJs.h (Dl.bf (Dl.dN (Wr.cR (Wr.cC (Wr.qM (Dl.bU (Dl.cL T.cl T.past_ (Wr.wv 0))))) (Wr.aF Wr.eY) Wr.aU))
  (Dl.bf (Dl.dN (Dl.Qe (j:=1) (eN t rfl zQ (JZ PySem.F.plainAttrs_list PySem.F.slot_list_pop PySem.F.type_list_pop Ks (Dl.cL T.cl T.past_ (Wr.wv 0))))))
  (Dl.bf (Dl.dN (Dl.iW (Dl.gR T.cl T.rows_ (Wr.wv 0) (Wr.aG (Wr.dv 1) Wr.aq))))
  (Dl.bf (Dl.dN (Dl.iW (Dl.gR T.cl T.fresh_ (Wr.wv 0) (Wr.aG (Wr.dv 1) Wr.aq))))
  (Dl.oU (Dl.Eo Wr.iH)))))),ug h ?_⟩
 rintro x fs ds P ⟨l,n,g,e,ps,b,c,rfl,rfl,q⟩;refine⟨[.any],rfl,?_⟩;refine⟨_,_,gq,(dZ ..).2.2.2,?_⟩;have p:(List.map fD (ps++[(b,c)])).isEmpty=false:=by simp
 show if(!(!(List.map fD (ps++[(b,c)])).isEmpty))=true then _ else _
 rw[p];refine bw (A:=True) ?_;have r:List.lookup (aw:Str) (kF l n g e (ps++[(b,c)]))=some (.ls l (ps.map fD++[fD (b,c)])):=(dZ ..).2.2.2.trans (by rw[List.map_append];rfl);refine⟨0,x,_,l,ps.map fD,fD (b,c),rfl,r,rfl,∅,?_⟩;have k:aZ aw (.ls l (ps.map fD)) (kF l n g e (ps++[(b,c)]))=kF l n g e ps:=(pZ (d:=.none) ..).2.2;dsimp only;show kO _ _ _ [.gn 0 (aM (some i) x (aZ aw (.ls l (ps.map fD)) (kF l n g e (ps++[(b,c)])))),.sh (fD (b,c))];rw[k];refine⟨.list (b.map rD),rfl,0,x,_,rfl,rfl,(show 4<900 by decide),(λz=>nomatch z),?_⟩;have m:aZ ag (.nb (.list (b.map rD))) (kF l n g e ps)=kF l n b e ps:=(pZ (es:=[]) ..).1;dsimp only;show kO _ _ _ [.gn 0 (aM (some i) x (aZ ag (.nb (.list (b.map rD))) (kF l n g e ps))),.sh (fD (b,c))];rw[m];refine⟨.int c,rfl,0,x,_,rfl,rfl,(show 4<900 by decide),(λz=>nomatch z),?_⟩;have o:aZ ah (.nb (.int c)) (kF l n b e ps)=kF l n b c ps:=(pZ (es:=[]) ..).2.1;dsimp only;show Px _ _ [.gn 0 (aM (some i) x (aZ ah (.nb (.int c)) (kF l n b e ps))),.sh (fD (b,c))];rw[o];exact .inl ⟨rfl,_,rfl,λa h=>h,q⟩
def mO:FnScope [af,"a","b","before",dt,bh] [af,"a","b"] (aC (inClass (top 39) 8)):=zC
abbrev kA6(P w K mg fw):=1∪bt∪[bh,dA]∪spR Ww
abbrev kA7(P w K mg fw):=1∪cq∪[bh,bn]∪spR fSW
def uR{d:Tok}{r:Addr}(F:Fun K "put" "Keeper.put" (inClass (top 39) 8) f fd)(B:Dl.Bn mg)(k:mg "MOST_TIES"=some (.int 40 d))(R:5∪aN∪[ai,"a","b"]∪spD WT)(O:kA6 P w K mg fw)(N:kA7 P w K mg fw)(T:KT K r)(t:Dl.CalM P w K mg fw r 10 ai [af] (spQ r EY))(e:Dl.CalM P w K mg fw r 11 bg [af] (spQ r Fb))(p:Dl.CalM P w K mg fw r 1 cr [af,ag,ah] (spM r Fe)):12∩[af,"a","b"]∩spM r Ly:=by
 refine F.ok mO oM (λcdv A outer s H vs Q E hr h=>?_);have I:=mO.nd;refine⟨_,Dl.WJs.h (Dl.bf (Dl.dN (Wr.lZ (Wr.dc R hr (Wr.aj (Dl.uX t hr (Wr.wv 0)) (Wr.aj (Wr.dv 1) (Wr.aj (Wr.dv 2) Wr.ak))))))
  (Dl.bf (Dl.dN (Wr.cR (Wr.Bc (Wr.cW B.len (Wr.aj (Dl.bU (Dl.cL T.cl T.rows_ (Wr.wv 0))) Wr.ak)) (Wr.jY rfl k ⟨_,rfl⟩)) (Wr.aF Wr.eY) Wr.aU))
  (Dl.bf (Dl.dN (Dl.Qc 99 (i:=3) I rfl zQ (Dl.uX e hr (Wr.wv 0))))
  (Dl.bf (Dl.dN (Wr.aW none (i:=4) I rfl zQ (Dl.bU (Dl.cL T.cl T.fresh_ (Wr.wv 0)))))
  (Dl.bf (Dl.dN (Dl.zN (Dl.Nm p hr (Wr.wv 0) (Wr.aj (Wr.bT (Dl.bU (Dl.cL T.cl T.rows_ (Wr.wv 0))) (Wr.cg (Wr.aj (Wr.aL (Wr.aj (Wr.dv 4) (Wr.aj (Wr.qN rfl B.min (Wr.aj (Wr.dv 1) (Wr.aj (Wr.dv 2) Wr.ak))) (Wr.aj (Wr.qO rfl B.max (Wr.aj (Wr.dv 1) (Wr.aj (Wr.dv 2) Wr.ak))) Wr.ak)))) Wr.ak))) (Wr.aj (Wr.bT (Wr.dv 4) Wr.aq) Wr.ak)))))
  (Dl.bf (Dl.dN (Dl.uq 99 (i:=5) I rfl zQ O hr (Wr.aj (Wr.dv 3) (Wr.aj (Dl.X5 N hr (Wr.aj (Dl.uX e hr (Wr.wv 0)) (Wr.aj (Wr.dv 1) Wr.ak))) Wr.ak))))
  (Dl.oU (Dl.Eo (Wr.aL (Wr.aj (Wr.dv 4) (Wr.aj (Wr.jf (Wr.jV (Wr.cW B.len (Wr.aj (Wr.dv 5) Wr.ak)) Wr.aq) (Wr.dv 5) (Wr.cg Wr.ak)) Wr.ak))))))))))),ug h ?_⟩
 rintro x fs ds P ⟨l,n,o,m,ps,a,b,rfl,rfl,ok,G,u,U,X,z,C,b0,b1,y,q⟩;refine⟨[.im (.int a),.im (.int b),.any,.any,.any],rfl,?_⟩;refine⟨_,gq,(cX ..).1,l,n,o,m,ps,rfl,rfl,ok,λout0 ho0=>?_⟩;refine⟨n,_,a,b,rfl,z,C,b0,b1,y,?_⟩;refine⟨_,_,gq,(dZ ..).2.1,?_⟩;show if decide ((40:Int)<=(⇑(o.map rD):Int))=true then _ else _
 rw[List.length_map,dC ()];refine bw (A:=True) ?_;refine⟨_,gq,(cX ..).2.2.1,l,n,o,m,ps,rfl,rfl,ok,λout ho=>?_⟩;refine⟨rfl,?_⟩;refine⟨_,_,gq,(dZ ..).2.2.1,?_⟩;dsimp only;show kO _ _ _ [.gn 0 (aM (some r) x (kF l n o m ps)),.im (.int a),.im (.int b),.dw 99 (.list ((pcI (out.map dY) n).map iD)),.im (.int m),.any];refine⟨0,x,_,rfl,∅,(cX ..).2.2.2.1,?_⟩;have Y:⇑(o.map rD)=⇑o:=List.length_map ..;refine⟨_,_,gq,(dZ ..).2.1,zK,zK,?_⟩;have ep:o.map rD++[.tuple [.int m,.int (if b<a then b else a),.int (if b > a then b else a)]]=(jl o m a b).map rD:=by
  unfold jl;rw[List.map_append];rfl
 refine⟨by show(o.map rD).length+1<=1000;rw[Y];lia,.inl ⟨by show cH (o.map rD++[.tuple [.int m,.int (if b<a then b else a),.int (if b > a then b else a)]])=true;rw[ep];exact tU _,?_⟩⟩;refine⟨List.forall_mem_cons.mpr ⟨rfl,List.forall_mem_cons.mpr ⟨rfl,(λ_ h=>nomatch h)⟩⟩,l,n,o,m,ps,jl o m a b,m+1,rfl,by rw[←ep];rfl,X,(λa h=>h),?_⟩;dsimp only;show kO _ _ _ [.gn 0 (aM (some r) x (kF l n (jl o m a b) (m+1) (ps++[(o,m)]))),.im (.int a),.im (.int b),.dw 99 (.list ((pcI (out.map dY) n).map iD)),.im (.int m),.any];have J:=Js ok G u U z C b0 b1 y;refine⟨_,gq,(cX ..).2.2.1,l,n,_,_,_,rfl,rfl,J,λout2 ho2=>?_⟩;let⟨S,D,l1,L⟩:=jZ (out2.map dY) (show 0<=n by lia);let⟨_,_,l3,W⟩:=jZ (out.map dY) (show 0<=n by lia);have Z:=ok.n16;refine⟨pcI (out2.map dY) n,a,rfl,(),λc hc=>by have:=L c hc;lia,?_,λg hg hag=>?_⟩
 ·let⟨j,c,V,hc⟩:=D a z C;exact⟨c,List.mem_of_getElem? V,hc⟩
 refine⟨List.forall_mem_cons.mpr ⟨.inr rfl,List.forall_mem_cons.mpr ⟨.inl rfl,(λ_ h=>nomatch h)⟩⟩,pcI (out.map dY) n,g,rfl,(),λc hc=>⟨QF hc,by have:=W c hc;lia⟩,by have:=L g hg;lia,?_⟩;have v:=q out out2 g ho ho2 hg hag;dsimp only;show Px _ _ [.gn 0 (aM (some r) x (kF l n (jl o m a b) (m+1) (ps++[(o,m)]))),.im (.int a),.im (.int b),.dw 99 (.list ((pcI (out.map dY) n).map iD)),.im (.int m),.dw 99 (.list ((inP (pcI (out.map dY) n) g).map iD))];generalize inP (pcI (out.map dY) n) g=M at v;show if decide ((1:Int)<(⇑(M.map iD):Int))=true then _ else _
 rw[List.length_map];by_cases hs:1<⇑M
 ·rw[dP hs]at v;rw[fy ()];exact bC (B:=True) ⟨zK,.inr (.inl ⟨rfl,_,rfl,(λa h=>h),v⟩)⟩
 ·rw[dQ hs]at v;rw[dC ()];exact bw (A:=True) ⟨zK,zK,.inl ⟨rfl,_,rfl,(λa h=>h),v⟩⟩
def jN:FnScope [af,dt,dr,"piece",bh] [af,dt] (aC (inClass (top 39) 9)):=zC
def jg:(["other",af,dt,dr,"piece",bh]:List Str).Nodup:=⋯
def sW{k:Addr}(F:Fun K "drop" "Keeper.drop" (inClass (top 39) 9) f fd)(B:Dl.Bn mg)(M:kA1 P w K mg fw)(L:kA7 P w K mg fw)(N:kA6 P w K mg fw)(T:KT K k)(m:Dl.CalM P w K mg fw k 10 dn [af] (spQ k Lz))(b:Dl.CalM P w K mg fw k 11 bg [af] (spQ k Fb))(d:Dl.CalM P w K mg fw k 1 cr [af,ag,ah] (spM k Fe)):12∩[af,dt]∩spM k Ce:=by
 refine F.ok jN oM (λcdv A outer s H vs Q E hr h=>?_);have G:=jN.nd;refine⟨_,Dl.WJs.h (Dl.bf (Dl.dN (Wr.cR (Wr.wpt (Wr.iU (Wr.cC (Wr.bR (Wr.dc M hr (Wr.aj (Wr.dv 1) Wr.ak)))) (Wr.fO (Wr.lO hr.units (Wr.dv 1) (Dl.uX m hr (Wr.wv 0)))))) (Wr.aF Wr.eY) Wr.aU))
  (Dl.bf (Dl.dN (Wr.aW none (i:=2) G rfl zQ (Wr.aG (Wr.fX ["other"] rfl (Wr.bW (Dl.bU (Dl.cL T.cl T.rows_ (Wr.wv 0)))) (λc=>(Wr.aH (i:=0) jg rfl zQ)) (λc=>(Wr.fU (Wr.fQ hr.units (Wr.aG (Wr.dv 0) Wr.aq) (Wr.dv 2)))) (λc=>(Wr.dv 0))) Wr.aq)))
  (Dl.bf (Dl.dN (Dl.uq 99 (i:=3) G rfl zQ L hr (Wr.aj (Dl.uX b hr (Wr.wv 0)) (Wr.aj (Wr.aG (Wr.dv 2) Wr.aq) Wr.ak))))
  (Dl.bf (Dl.dN (Dl.zN (Dl.Nm d hr (Wr.wv 0) (Wr.aj (Wr.fX ["other"] rfl (Wr.bW (Dl.bU (Dl.cL T.cl T.rows_ (Wr.wv 0)))) (λc=>(Wr.aH (i:=0) jg rfl zQ)) (λc=>(Wr.fU (Wr.gB hr.units (Wr.dv 0) (Wr.dv 3)))) (λc=>(Wr.dv 0))) (Wr.aj (Dl.bU (Dl.cL T.cl T.fresh_ (Wr.wv 0))) Wr.ak)))))
  (Dl.bf (Dl.dN (Dl.uq 99 (i:=4) G rfl zQ N hr (Wr.aj (Dl.uX b hr (Wr.wv 0)) (Wr.aj (Wr.dv 3) Wr.ak))))
  (Dl.oU (Dl.Eo (Wr.jf (Wr.jV (Wr.cW B.len (Wr.aj (Wr.dv 4) Wr.ak)) Wr.aq) (Wr.aL (Wr.aj (Wr.dv 3) (Wr.aj (Wr.dv 4) Wr.ak))) (Wr.aL (Wr.aj Wr.jX (Wr.aj (Wr.cg Wr.ak) Wr.ak))))))))))),ug h ?_⟩
 rintro x fs ds P ⟨l,n,o,p,ps,r,rfl,rfl,ok,U,hr,q⟩;refine⟨[.im (.int r.1),.any,.any,.any],rfl,?_⟩;have Z:=ok.len;refine⟨r.1,rfl,bw (A:=True) ⟨_,gq,(cX ..).2.1,l,n,o,p,ps,rfl,rfl,ok,λout0 ho0=>?_⟩⟩;refine⟨rfl,lQ _,?_⟩;show if(!(((out0.map (·.1)).map PyData.int).any λe=>PyData.eqv e (.int r.1)))=true then _ else _
 rw[Dl.any_ints,fy (List.mem_map.mpr ⟨r,ho0.1.mem_iff.mpr hr,rfl⟩)];refine bw (A:=True) ?_;refine⟨_,_,gq,(dZ ..).2.1,?_⟩;refine tM o rD (λq=>decide (q.1=r.1)) rD .imm rfl () (λy hy A B h1 h2=>?_) ?_
 ·refine⟨_,at0 _ _,?_⟩;show if decide (y.1=r.1)=true then _ else _
  by_cases t:y.1=r.1
  ·rw[fy t];exact bC (B:=True) ⟨rfl,h1 (fy t)⟩
  ·rw[dC t];exact bw (A:=True) (h2 (dC t))
 rw[Ew ok.nd hr];refine⟨_,at0 _ _,?_⟩;dsimp only;show kO _ _ _ [.gn 0 (aM (some k) x (kF l n o p ps)),.im (.int r.1),.im (rD r),.any,.any];refine⟨_,gq,(cX ..).2.2.1,l,n,o,p,ps,rfl,rfl,ok,λout ho=>?_⟩;let⟨O,D,X,I⟩:=jZ (out.map dY) (show 0<=n by have:=ok.n1;lia);have V:=ok.n16;have W:=ok.rw r hr;refine⟨.int r.2.1,rfl,List.forall_mem_cons.mpr ⟨.inl rfl,List.forall_mem_cons.mpr ⟨.inl rfl,(λ_ h=>nomatch h)⟩⟩,pcI (out.map dY) n,r.2.1,rfl,(),λc hc=>by have:=I c hc;lia,?_,λg hg hag=>?_⟩
 ·let⟨j,c,R,hc⟩:=D r.2.1 W.2.1 ();exact⟨c,List.mem_of_getElem? R,hc⟩
 dsimp only;show kO _ _ _ [.gn 0 (aM (some k) x (kF l n o p ps)),.im (.int r.1),.im (rD r),.dw 99 (iD g),.any];refine⟨0,x,_,rfl,∅,(cX ..).2.2.2.1,?_⟩;refine⟨_,_,gq,(dZ ..).2.1,?_⟩;refine tM o rD (λq=>decide (q≠r)) rD .imm rfl () (λy hy A B h1 h2=>?_) ?_
 ·refine⟨rfl,rfl,?_⟩;show if(!(PyData.eqv (rD y) (rD r)))=true then _ else _
  rw[Um];by_cases t:y=r
  ·rw[fy t];exact bw (A:=True) (h2 (dC λz=>z t))
  ·rw[dC t];exact bC (B:=True) ⟨rfl,h1 (fy t)⟩
 refine⟨_,_,gq,(dZ ..).2.2.1,List.forall_mem_cons.mpr ⟨rfl,List.forall_mem_cons.mpr ⟨rfl,(λ_ h=>nomatch h)⟩⟩,l,n,o,p,ps,o.filter (λq=>decide (q≠r)),p,rfl,rfl,U,(λa h=>h),?_⟩;dsimp only;have v:=Fl (r:=r) ok;generalize o.filter (λq=>decide (q≠r))=C at q v;show kO _ _ _ [.gn 0 (aM (some k) x (kF l n C p (ps++[(o,p)]))),.im (.int r.1),.im (rD r),.dw 99 (iD g),.any];refine⟨_,gq,(cX ..).2.2.1,l,n,_,_,_,rfl,rfl,v,λout2 ho2=>?_⟩;let⟨_,_,Y,S⟩:=jZ (out2.map dY) (show 0<=n by lia);refine⟨List.forall_mem_cons.mpr ⟨.inl rfl,List.forall_mem_cons.mpr ⟨.inr rfl,(λ_ h=>nomatch h)⟩⟩,pcI (out2.map dY) n,g,rfl,(),λc hc=>⟨QF hc,by have:=S c hc;lia⟩,by have:=I g hg;lia,?_⟩;have u:=q out out2 g ho ho2 hg hag;dsimp only;show Px _ _ [.gn 0 (aM (some k) x (kF l n C p (ps++[(o,p)]))),.im (.int r.1),.im (rD r),.dw 99 (iD g),.dw 99 (.list ((inP (pcI (out2.map dY) n) g).map iD))];generalize inP (pcI (out2.map dY) n) g=J at u;show if decide ((1:Int)<(⇑(J.map iD):Int))=true then _ else _
 rw[List.length_map];by_cases hs:1<⇑J
 ·rw[dP hs]at u;rw[fy ()];exact bC (B:=True) ⟨zK,.inr (.inl ⟨rfl,_,rfl,(λa h=>h),u⟩)⟩
 ·rw[dQ hs]at u;rw[dC ()];exact bw (A:=True) ⟨zK,zK,.inl ⟨rfl,_,rfl,(λa h=>h),u⟩⟩
end
def uw(a:Int)(k j:Nat):(bA a k).drop j=bA (a+~~~j) (k - j):=by
 unfold bA;refine List.ext_getElem? λi=>?_;rw[List.getElem?_drop,List.getElem?_map,List.getElem?_map];by_cases h:i<k - j
 ·rw[List.getElem?_range h,List.getElem?_range ()];show some (PyData.int _)=some (PyData.int _);congr 2;lia
 ·rw[List.getElem?_eq_none (by rw[List.length_range];lia),List.getElem?_eq_none (by rw[List.length_range];lia)];rfl
def rC(a:Int)(k j:Nat):(bA a k).take j=bA a (min j k):=by
 unfold bA;rw[←List.map_take,List.take_range]
def Mx{α:Type}(l:List α)(j:Nat):jE l (some (~~~j)) none=l.drop j:=by
 unfold jE;have a:HT.sIx ⇑l ⇑l none=⇑l:=rfl;rw[a,HT.qJ,List.take_of_length_le (by rw[List.length_drop];lia)];by_cases h:j<=⇑l
 ·rw[Nat.min_eq_left h]
 ·rw[Nat.min_eq_right (),List.drop_of_length_le (Nat.le_refl _),List.drop_of_length_le ()]
def Mv{α:Type}(l:List α)(j:Nat):jE l none (some (~~~j))=l.take j:=by
 unfold jE;have a:HT.sIx ⇑l 0 none=0:=rfl;rw[a,HT.qJ,List.drop_zero,Nat.sub_zero];by_cases h:j<=⇑l
 ·rw[Nat.min_eq_left h]
 ·rw[Nat.min_eq_right (),List.take_of_length_le (Nat.le_refl _),List.take_of_length_le ()]
def Qj{α:Type}(l:List α)(i j:Nat)(hi:i<=⇑l):jE l (some (~~~i)) (some (~~~j))=(l.drop i).take (j - i):=by
 unfold jE;rw[HT.qJ,HT.qJ,Nat.min_eq_left hi];by_cases h:j<=⇑l
 ·rw[Nat.min_eq_left h]
 ·rw[Nat.min_eq_right (),List.take_of_length_le (by rw[List.length_drop];lia),List.take_of_length_le (by rw[List.length_drop];lia)]
def kZ(a:Int)(k:Nat):eg:=(List.range k).map λi=>a+(~~~i)
def kW(a:Int)(k:Nat):bA a k=(kZ a k).map PyData.int:=by
 unfold bA kZ;rw[List.map_map];rfl
def tZ{a:Int}{k:Nat}{x:Int}(h:x∈kZ a k):a<=x/\x<a+~~~k:=by
 let⟨i,hi,rfl⟩:=List.mem_map.mp h;have:=List.mem_range.mp hi;lia
def tY(a:Int)(k:Nat):(kZ a k).Nodup:=(List.pairwise_map.mpr (List.nodup_range.imp λh e=>h ()))
def fZ(a:Int)(k:Nat):⇑(kZ a k)=k:=by unfold kZ;rw[List.length_map,List.length_range]
def uL(l:eg)(us:eh):Prop:=⇑us=⇑l/\∀t∈us,t.1∈l/\t.2∈l/\(l.Nodup->2<=⇑l->t.1≠t.2)
def Rb:FF:=λds P=>∃l:eg,ds=[iD l]/\⇑l<=60/\∀us:eh,uL l us->P (.list (us.map pD))
def Ls:FF:=λds P=>∃n:Int,ds=[.int n]/\1<=n/\n<=16/\∀us:eh,OkN n us->⇑us<=400->P (.list (us.map pD))
def Wv:FF:=λds P=>∃n:Int,ds=[.int n]/\1<=n/\n<=16/\∀us:eh,OkW n us->HJ us->⇑us<=36->P (bB n us)
def OkN.app{n:Int}{us vs:eh}(h:OkN n us)(h':OkN n vs):OkN n (us++vs):=λu hu=>(List.mem_append.mp hu).elim (h u) (h' u)
def uL.okn{l:eg}{us:eh}{n:Int}(h:uL l us)(e:l.Nodup)(d:2<=⇑l)(hn:∀x∈l,0<=x/\x<n):OkN n us:=λt ht=>by
 let⟨a,b,c⟩:=h.2 t ht;exact⟨hn _ a,hn _ b,c e d⟩
def M9{α:Type}{l:List α}(h:l≠[]):atI l (-1)=some (l.getLast h):=by
 have hl:=List.length_pos_iff.mpr h;have e:ixN ⇑l (-1)=some (⇑l - 1):=by
  unfold ixN;rw[dQ (),dP ()];congr 1;lia
 unfold atI;rw[e];show l[⇑l - 1]?=_;rw[List.getLast_eq_getElem,List.getElem?_eq_getElem]
def JG:∀N:Nat,N<17->(∀i∈L2.stepI N,1<=i/\i<N)/\⇑(L2.stepI N)<=8:=⋯
def Gq{N:Nat}(h:N<=16):⇑(dW (bA 0 N))<=8/\cH (dW (bA 0 N))=true/\∀(i:Nat) d,(dW (bA 0 N))[i]?=some d->∃x:Nat,d=.int (~~~x)/\1<=x/\x<N:=by
 let⟨h1,h2⟩:=JG N ();have key:∀l:ei,(∀i∈l,1<=i/\i<N)->(l.filterMap λi=>(bA 0 N)[i]?)=l.map λi=>PyData.int (~~~i):=λl hl=>by
  induction l with
  |nil=>rfl
  |cons i l ih =>
   have hi:=hl i (List.mem_cons_self ..);have e:(bA 0 N)[i]?=some (PyData.int (~~~i)):=by
    unfold bA;rw[List.getElem?_map,List.getElem?_range hi.2];show some (PyData.int _)=_;rw[Int.zero_add]
   rw[List.filterMap_cons,e,ih λi h=>hl i (List.mem_cons_of_mem _ h)];rfl
 have e:dW (bA 0 N)=((L2.stepI N).map λi=>(~~~i)).map PyData.int:=by
  unfold dW;rw[aY,key _ h1,List.map_map];rfl
 rw[e];refine⟨by rw[List.length_map,List.length_map];exact h2,oX _,λi d hd=>?_⟩;let⟨x,a,rfl⟩:=iJ hd;let⟨y,b,rfl⟩:=iJ a;exact⟨y,rfl,h1 y (List.mem_of_getElem? b)⟩
def eE(a:Int)(k:Nat):cH (bA a k)=true:=by rw[kW];exact oX _
def mz{A B C:Prop}(a:A)(b:B):(A/\B)\/C:=.inl ⟨a,b⟩
def T8{c A B:Prop}[Decidable c](hc:c)(h:A):if(decide c)=true then A else B:=by rw[fy hc];exact bC h
def DQ{n:Int}{l:eg}(h:IsOrd n l){a:Int}(c:0<=a)(h1:a<n):∃x:Int,atI (l.map PyData.int) a=some (.int x)/\(0<=x/\x<n)/\l[a.toNat]?=some x:=by
 have hl:=h.len;have hk:a.toNat<⇑l:=()
 have b:a=(~~~a.toNat):=()
 have z:atI (l.map PyData.int) (~~~a.toNat)=some (.int l[a.toNat]):=fW (by rw[List.getElem?_map,List.getElem?_eq_getElem hk];rfl);rw[←b]at z;exact⟨_,z,h.rng _ (List.getElem_mem hk),List.getElem?_eq_getElem hk⟩
def Tv{r:Int}(a:0<=r)(c:r<3)(b:Bool):HS r (if b=true then 1 else 0):=by
 unfold HS;exact .inl ⟨(),()⟩
def Qn(d:D):dO d=.im d\/dO d=.sh d:=by
 unfold dO;by_cases h:eV d=true
 ·rw[dP h];exact .inl rfl
 ·rw[dQ h];exact .inr rfl
def Le{k:Kd}{a b:D}{ρ:List Sl}{Q:List Sl->Prop}{i j:Nat}(h:∀s5 s6,s5=xW (norm (norm k a) a) a->s6=xW (norm (norm k b) b) b->Q ((ρ.set i s5).set j s6)):wU (gNm i) (wU (gNm j) Lf) k [a,b] ρ Q:=h _ _ rfl rfl
def QV{E:DEnds}{ρ:List Sl}(h:E.nx ρ):vK E ρ:=h
def Nk{a b:DT}{t u:DS}{P:DEnds}{ρ:List Sl}(ha:∀Q:Bool->Prop,Q true->a ρ Q)(hb:∀Q:Bool->Prop,Q true->b ρ Q)(h:t { P with nx:=u P } ρ):Cq (dIf (Hs a b) t vK) u P ρ:=ha _ (bC (hb _ (bC h)))
def Tr{b c:DT}{t u:DS}{P:DEnds}{ρ:List Sl}{p q:Bool}(ha:∀Q:Bool->Prop,Q p->b ρ Q)(hb:∀Q:Bool->Prop,Q q->c ρ Q)(a:(p&&q)=false)(h:u P ρ):Cq (dIf (Hs b c) t vK) u P ρ:=by
 refine ha _ ?_;cases p with
 |false=>exact bw (A:=True) h
 |true =>
  refine bC (B:=True) (hb _ ?_);cases q with
  |false=>exact bw (A:=True) h
  |true=>exact dS a ∅
def Hi(a:Int)(k:Nat):cH ([PyData.int 0]++bA a k)=true:=by
 rw[kW];exact oX (0::kZ a k)
def uz{N:Nat}{a:Int}{j:Nat}(e:a=(~~~j)):jE (bA 0 N) (some a) none=bA (~~~j) (N - j):=by
 subst e;rw[Mx,uw,Int.zero_add]
def Mw{N:Nat}{a:Int}{j:Nat}(e:a=(~~~j))(h:j<=N):jE (bA 0 N) none (some a)=bA 0 j:=by
 subst e;rw[Mv,rC,Nat.min_eq_left h]
def UW{N:Nat}{a b:Int}{i j:Nat}(e:a=(~~~i))(c:b=(~~~j))(h:i<=N):jE (bA 0 N) (some a) (some b)=bA (~~~i) (min (j - i) (N - i)):=by
 subst e c;rw[Qj _ _ _ (by rw[aY];exact h),uw,rC,Int.zero_add]
def Dq{a:Int}{k:Nat}{us:eh}{n:Int}(h:uL (kZ a k) us)(b:0<=a)(h1:a+(~~~k)<=n)(h2:2<=k):OkN n us:=h.okn (tY a k) (by rw[fZ];exact h2) λx hx=>by have:=tZ hx;lia
def RV(b:Bool)(us:eh):(List.replicate (if b=true then(1:Int)else 0).toNat (us.map pD)).flatten=(if b=true then us else []).map pD:=by
 cases b
 ·rfl
 ·show(List.replicate 1 (us.map pD)).flatten=us.map pD;simp
def uU:([be,aE]:List Str).Nodup:=⋯
def yD(F:Fun K ca ca (top 44) f fd)(B:Dl.Bn mg):1∩[aE]∩spD Rb:=by
 refine okT F (N:=[aE]) zC (λhr nd=>Wr.aF (Wr.aJ (Wr.fX [be] rfl (Wr.cZ B.range (Wr.aj (Wr.cW B.len (Wr.aj (Wr.dv 0) Wr.ak)) Wr.ak)) (λc=>(Wr.aH (i:=0) uU rfl zQ)) (λc=>Wr.cM) (λc=>(Wr.aL (Wr.aj (Wr.aG (Wr.dv 1) (Wr.jq (Wr.dv 0) Wr.aq)) (Wr.aj (Wr.aG (Wr.dv 1) (Wr.dv 0)) Wr.ak))))))) ?_;rintro ds P ⟨l,rfl,hl,q⟩;refine⟨[.sh (iD l)],rfl,?_⟩;have a:⇑(l.map PyData.int)=⇑l:=List.length_map ..;refine⟨⟨by rw[a];lia,by rw[a];lia⟩,by rw[aY,a];lia,.imm,λi ys=>∃us:eh,ys=us.map pD/\⇑us=i/\∀t∈us,t.1∈l/\t.2∈l/\(l.Nodup->2<=⇑l->t.1≠t.2),⟨[],rfl,rfl,λ_ h=>nomatch h⟩,?_,?_⟩
 ·rintro i d ys hd ⟨us,rfl,hu,ok⟩;let⟨hi,rfl⟩:=cY hd;rw[a]at hi;have hi:i<⇑l:=()
  have g:atI (l.map PyData.int) (0+~~~i)=some (.int l[i]):=by rw[Int.zero_add];exact fW (by rw[List.getElem?_map,List.getElem?_eq_getElem hi];rfl)
  obtain⟨y,e,k,m⟩:∃y:Int,atI (l.map PyData.int) (0+(~~~i) - 1)=some (.int y)/\y∈l/\(l.Nodup->2<=⇑l->y≠l[i]):=by
   cases i with
   |zero =>
    have b:l≠[]:=λz=>by rw[z]at hi;exact dS hi (Nat.not_lt_zero _)
    refine⟨l.getLast b,?_,List.getLast_mem b,λnd l2 z=>?_⟩
    ·rw[show(0+(~~~(0)) - 1)=-1 from rfl,M9 (l:=l.map PyData.int) ↑b,List.getLast_map]
    ·rw[List.getLast_eq_getElem]at z;have:=(List.getElem_inj nd).mp z;lia
   |succ j =>
    refine⟨l[j],?_,List.getElem_mem _,λnd l2 z=>?_⟩
    ·rw[show(0+(~~~(j+1)) - 1)=(~~~j) by lia];exact fW (by rw[List.getElem?_map,List.getElem?_eq_getElem ()];rfl)
    ·have:=(List.getElem_inj nd).mp z;lia
  refine bC (B:=True) ⟨_,e,_,g,zK,rfl,us++[(y,l[i])],app1 _ _ _,by rw[List.length_append,List.length_singleton,hu],λt ht=>?_⟩;rcases List.mem_append.mp ht with z|z
  ·exact ok t z
  ·rw[List.mem_singleton.mp z];exact⟨k,List.getElem_mem _,m⟩
 ·rintro ys ⟨us,rfl,hu,ok⟩;rw[aY,a]at hu;exact⟨rfl,q us ⟨(),ok⟩⟩
def nC:FnScope [aa,av,bq,aE,ay,am,be,cb,bN,bu] [aa,av] (aC (top 45)):=zC
def gZ:([be,aa,av,bq,aE,ay,am,"",cb,bN,bu]:List Str).Nodup:=⋯
def tD:([di,aa,av,bq,aE,ay,am,be,cb,bN,bu]:List Str).Nodup:=⋯
abbrev kA8(P w K mg fw):=1∪bv∪[aa,ay]∪spP (CP K) Fg
def wH(F:Fun K bP bP (top 45) f fd)(B:Dl.Bn mg)(v:kA8 P w K mg fw)(C:1∪ca∪[aE]∪spD Rb):2∩[aa,av]∩spP (CP K) Ls:=by
 refine F.ok nC qW (λcdv A outer s H vs Q E hr h=>?_);have o:=nC.nd;refine⟨_,Wr.WDSs.h (Wr.aA (Wr.aW none (i:=2) o rfl zQ (Wr.dcP v hr (Wr.wv 0) (Wr.aj Wr.aq Wr.ak)))
  (Wr.aA (Wr.aW none (i:=3) o rfl zQ (Wr.mX rfl B.list B.range (Wr.aj (Wr.dv 1) Wr.ak)))
  (Wr.aA (Wr.cR (Wr.fQ hr.units (Wr.dv 2) Wr.aq) (Wr.aF (Wr.aJ (Wr.pP [be] [aa,av,bq,aE,ay,am,"",cb,bN,bu] rfl (Wr.bW (Wr.jW (Wr.dv 3) (Wr.dX Wr.aq) Wr.fV)) (λc=>(Wr.aH (i:=0) gZ rfl zQ)) (λc=>Wr.cM) (λc=>(Wr.aL (Wr.aj (Wr.jq (Wr.dv 0) Wr.aq) (Wr.aj (Wr.dv 0) Wr.ak)))) (hk:=rfl)))) Wr.aU)
  (Wr.aA (Wr.cR (Wr.fQ hr.units (Wr.dv 2) Wr.aq) (Wr.aF (Wr.aJ (Wr.pP [be] [aa,av,bq,aE,ay,am,"",cb,bN,bu] rfl (Wr.bW (Wr.jW (Wr.dv 3) (Wr.dX Wr.aq) Wr.fV)) (λc=>(Wr.aH (i:=0) gZ rfl zQ)) (λc=>Wr.cM) (λc=>(Wr.aL (Wr.aj (Wr.dcP v hr (Wr.wv 1) (Wr.aj (Wr.dv 0) Wr.ak)) (Wr.aj (Wr.dv 0) Wr.ak)))) (hk:=rfl)))) Wr.aU)
  (Wr.aA (Wr.cR (Wr.wpt (Wr.lN (Wr.fQ hr.units (Wr.dv 2) Wr.aq) (Wr.jU (Wr.jV (Wr.dv 1) Wr.aq)))) (Wr.aA (Wr.aW none (i:=4) o rfl zQ (Wr.bT Wr.aq (Wr.dcP v hr (Wr.wv 0) (Wr.aj (Wr.jq (Wr.dv 1) Wr.aq) Wr.ak))))
  (Wr.aF (Wr.aJ (Wr.bT (Wr.dc C hr (Wr.aj (Wr.jW (Wr.dv 3) Wr.fV (Wr.dX (Wr.dv 4))) Wr.ak)) (Wr.pP [be] [aa,av,bq,aE,ay,am,"",cb,bN,bu] rfl (Wr.bW (Wr.jW (Wr.dv 3) (Wr.dX (Wr.dv 4)) Wr.fV)) (λc=>(Wr.aH (i:=0) gZ rfl zQ)) (λc=>Wr.cM) (λc=>(Wr.aL (Wr.aj (Wr.dcP v hr (Wr.wv 1) (Wr.aj (Wr.dv 0) Wr.ak)) (Wr.aj (Wr.dv 0) Wr.ak)))) (hk:=rfl)))))) Wr.aU)
  (Wr.aQ [4] (Wr.aA (Wr.aW none (i:=5) o rfl zQ (Wr.cg Wr.ak))
  (Wr.aA (Wr.cR (Wr.fQ hr.units (Wr.dv 2) Wr.aq) (Wr.aA (Wr.d7 PassesOwn.never rfl (Wr.bW (Wr.wB (Wr.dv 3))) (Wr.aH (i:=6) o rfl zQ) (Wr.aA (Wr.aW none (i:=5) o rfl zQ (Wr.bT (Wr.dv 5) (Wr.dc C hr (Wr.aj (Wr.bT (Wr.cg (Wr.aj Wr.aq Wr.ak)) (Wr.jW (Wr.dv 3) (Wr.dX (Wr.dv 6)) (Wr.dX (Wr.bT (Wr.dv 6) Wr.aq)))) Wr.ak)))) (Wr.aQ [6] Wr.aU)))
  (Wr.aQ [6] (Wr.aF (Wr.aJ (Wr.dv 5))))) Wr.aU)
  (Wr.aQ [6] (Wr.aA (Wr.cR (Wr.fQ hr.units (Wr.dv 2) Wr.aq) (Wr.aA (Wr.d7 PassesOwn.never rfl (Wr.bW (Wr.aL (Wr.aj (Wr.jW (Wr.dv 3) Wr.fV (Wr.dX (Wr.qP (Wr.dv 1) Wr.aq))) (Wr.aj (Wr.jW (Wr.dv 3) (Wr.dX (Wr.qP (Wr.dv 1) Wr.aq)) Wr.fV) Wr.ak)))) (Wr.aH (i:=7) o rfl zQ) (Wr.aA (Wr.aW none (i:=5) o rfl zQ (Wr.bT (Wr.dv 5) (Wr.nO (Wr.dc C hr (Wr.aj (Wr.dv 7) Wr.ak)) (Wr.nU B.int Ta (Wr.aj (Wr.DP (Wr.cW B.len (Wr.aj (Wr.dv 7) Wr.ak)) Wr.aq) Wr.ak))))) (Wr.aQ [7] Wr.aU)))
  (Wr.aQ [7] (Wr.aF (Wr.aJ (Wr.dv 5))))) Wr.aU)
  (Wr.aQ [7] (Wr.aA (Wr.aW none (i:=8) o rfl zQ (Wr.jf (Wr.jV (Wr.dv 2) Wr.aq) (Wr.aG (Wr.cg (Wr.aj Wr.aq (Wr.aj Wr.aq (Wr.aj Wr.aq Wr.ak)))) (Wr.jq (Wr.dv 2) Wr.aq)) Wr.aq))
  (Wr.aA (Wr.d7 PassesOwn.never rfl (Wr.bW (Wr.dv 3)) (Wr.aH (i:=9) o rfl zQ) (Wr.aA (Wr.aW none (i:=5) o rfl zQ (Wr.bT (Wr.dv 5) (Wr.fX [di] rfl (Wr.bW (Wr.jW (Wr.dv 3) (Wr.dX (Wr.bT (Wr.dv 9) Wr.aq)) Wr.fV)) (λc=>(Wr.aH (i:=0) tD rfl zQ)) (λc=>(Wr.fU (Wr.fQ hr.units (Wr.dcP v hr (Wr.wv 1) (Wr.aj (Wr.dv 9) Wr.ak)) Wr.aq))) (λc=>(Wr.aL (Wr.aj (Wr.dv 10) (Wr.aj (Wr.dv 0) Wr.ak))))))) (Wr.aQ [9] Wr.aU)))
  (Wr.aQ [9] (Wr.aF (Wr.aJ (Wr.dv 5))))))))))))))))),enterQ h ?_⟩
 rintro ds P ⟨n,rfl,n1,n16,q⟩;obtain⟨N,rfl⟩:∃N:Nat,n=(~~~N):=⟨n.toNat,()⟩
 refine⟨[.im (.int (~~~N)),.any,.any,.any,.any,.any,.any,.any,.any],rfl,?_⟩;refine⟨rfl,8,rfl,∅,∅,λkd k0 k8=>?_⟩;refine⟨⟨(),()⟩,?_⟩;rw[show((~~~N) - 0).toNat=N by lia];show if decide (kd=0)=true then _ else _
 refine zu (λc=>?_) (λJ=>?_)
 ·have e:=uz (N:=N) (a:=1) (j:=1) rfl;refine mz (by rw[e];exact eE _ _) ?_;rw[e];refine⟨by rw[aY];lia,.imm,λi ys=>∃vs:eh,ys=vs.map pD/\⇑vs=i/\OkN N vs,⟨[],rfl,rfl,λ_ h=>(nomatch h)⟩,?_,?_⟩
  ·rintro i d ys hd ⟨vs,rfl,hv,g⟩;let⟨hi,rfl⟩:=cY hd;refine bC (B:=True) ⟨zK,rfl,vs++[(_,_)],app1 _ _ _,by rw[List.length_append,List.length_singleton,hv],g.snoc ⟨⟨(),()⟩,⟨(),()⟩,()⟩⟩
  rintro ys ⟨vs,rfl,hv,g⟩;rw[aY]at hv;exact⟨rfl,q _ g ()⟩
 show if decide (kd=1)=true then _ else _
 refine zu (λc=>?_) (λL=>?_)
 ·have e:=uz (N:=N) (a:=1) (j:=1) rfl;refine mz (by rw[e];exact eE _ _) ?_;rw[e];refine⟨by rw[aY];lia,.imm,λi ys=>∃vs:eh,ys=vs.map pD/\⇑vs=i/\OkN N vs,⟨[],rfl,rfl,λ_ h=>(nomatch h)⟩,?_,?_⟩
  ·rintro i d ys hd ⟨vs,rfl,hv,g⟩;let⟨hi,rfl⟩:=cY hd;refine bC (B:=True) ⟨rfl,_,rfl,(),(),λr r0 r1=>⟨zK,rfl,vs++[(r,_)],app1 _ _ _,by rw[List.length_append,List.length_singleton,hv],g.snoc ⟨⟨(),()⟩,⟨(),()⟩,()⟩⟩⟩
  rintro ys ⟨vs,rfl,hv,g⟩;rw[aY]at hv;exact⟨rfl,q _ g ()⟩
 have J:¬kd=0:=λz=>J (fy z);have L:¬kd=1:=λz=>L (fy z);by_cases D:kd=2/\1<N
 ·let⟨rfl,D⟩:=D;refine QV ?_;dsimp only;refine Nk ?_ ?_ ?_
  ·exact λ_ h=>h
  ·exact λQ h=>by
    show Q (decide (1<(~~~N)));rw[fy (():1<(~~~N))];exact h
  refine⟨rfl,_,rfl,(),(),λr r0 r1=>?_⟩;obtain⟨m,hm,m2,mN⟩:∃m:Nat,2+r=(~~~m)/\2<=m/\m<=N:=⟨(2+r).toNat,(),(),()⟩
  show Mr 4 none (λ_ P=>P .imm (.int (2+r))) _ _;rw[hm];have e:=Mw (N:=N) (a:=(~~~m)) (j:=m) rfl mN;refine mz (by rw[e];exact eE _ _) ?_;rw[e];refine⟨kZ 0 m,by rw[kW];rfl,by rw[fZ];lia,λus ru=>?_⟩;have l:=Dq (n:=(~~~N)) ru () () m2;have t:=ru.1;rw[fZ]at t;have e:=uz (N:=N) (a:=(~~~m)) (j:=m) rfl;refine mz (by rw[e];exact eE _ _) ?_;rw[e];refine⟨by rw[aY];lia,.imm,λi ys=>∃vs:eh,ys=vs.map pD/\⇑vs=i/\OkN N vs,⟨[],rfl,rfl,λ_ h=>(nomatch h)⟩,?_,?_⟩
  ·rintro i d ys hd ⟨vs,rfl,hv,g⟩;let⟨hi,rfl⟩:=cY hd;refine bC (B:=True) ⟨rfl,_,rfl,(),(),λr r0 r1=>⟨zK,rfl,vs++[(r,_)],app1 _ _ _,by rw[List.length_append,List.length_singleton,hv],g.snoc ⟨⟨(),()⟩,⟨(),()⟩,()⟩⟩⟩
  rintro ys ⟨vs,rfl,hv,g⟩;rw[aY]at hv;refine⟨by rw[List.length_map,List.length_map];lia,mz (by rw[←List.map_append];exact cQ _) ?_⟩;rw[←List.map_append];exact⟨rfl,q _ (l.app g) (by rw[List.length_append];lia)⟩
 refine QV ?_;dsimp only;refine Tr (p:=decide (kd=2)) (q:=decide (1<(~~~N))) ?_ ?_ ?_ ?_
 ·exact λ_ h=>h
 ·exact λ_ h=>h
 ·rw[Bool.and_eq_false_iff];by_cases z:kd=2
  ·exact .inr (dC λz2=>D ⟨z,()⟩)
  ·exact .inl (dC z)
 refine⟨zK,?_⟩;show if decide (kd=3)=true then _ else _
 refine zu (λc=>?_) (λM=>?_)
 ·let⟨p1,p2,p3⟩:=Gq (N:=N) ();refine⟨(),mz p2 ⟨rfl,λi ρ=>∃(us:eh)(s:Sl),ρ=[.pen (CP K),.im (.int (~~~N)),.im (.int kd),.sn (.list (bA 0 N)),.any,.sn (.list (us.map pD)),s,.any,.any,.any]/\OkN N us/\⇑us<=3 * i,⟨[],.any,rfl,λ_ h=>(nomatch h),Nat.le_refl _⟩,?_,?_⟩⟩
  ·rintro i d ρ hd ⟨us,s,rfl,l,t⟩;let⟨x,rfl,x1,xN⟩:=p3 i d hd;have hi:i<8:=by
    have:=(List.getElem?_eq_some_iff.mp hd).1;lia
   have e:=UW (N:=N) (a:=(~~~x)) (b:=(~~~x)+2) (i:=x) (j:=x+2) rfl () ();have lm:min (x+2 - x) (N - x)<=2/\1<=min (x+2 - x) (N - x)/\x+min (x+2 - x) (N - x)<=N:=()
   refine⟨zK,mz (by rw[e];exact eE _ _) ?_⟩;rw[e];generalize min (x+2 - x) (N - x)=m at lm;refine⟨by rw[aY];show 1+_<=_;lia,mz (Hi _ _) ?_⟩;refine⟨0::kZ (~~~x) m,by rw[kW];rfl,by rw[List.length_cons,fZ];lia,λvs rv=>?_⟩;have g:=uL.okn (n:=(~~~N)) rv (List.nodup_cons.mpr ⟨λh=>by have:=tZ h;lia,tY _ _⟩) (by rw[List.length_cons,fZ];lia) (λz hz=>(List.mem_cons.mp hz).elim (λh=>()) λh=>by have:=tZ h;lia);have G:=rv.1;rw[List.length_cons,fZ]at G;refine⟨by rw[List.length_map,List.length_map];lia,mz (by rw[←List.map_append];exact cQ _) ?_⟩;rw[←List.map_append];exact⟨us++vs,.any,rfl,l.app g,by rw[List.length_append];lia⟩
  ·rintro ρ ⟨us,s,rfl,l,t⟩;exact⟨rfl,q us l ()⟩
 have M:¬kd=3:=λz=>M (fy z);show if decide (kd=4)=true then _ else _
 refine zu (λc=>?_) (λO=>?_)
 ·have hd:(0:Int)<=(~~~N) / 2:=()
  obtain⟨h,hh,h1,h2⟩:∃h:Nat,(~~~N) / 2=(~~~h)/\2 * h<=N/\N<=2 * h+1:=⟨((~~~N) / 2).toNat,(),(),()⟩
  have R:=Mw (N:=N) (a:=(~~~N) / 2) (j:=h) hh ();have S:=uz (N:=N) (a:=(~~~N) / 2) (j:=h) hh;refine⟨⟨∅,∅⟩,?_⟩;refine mz (by rw[R];exact eE _ _) ?_;refine⟨⟨∅,∅⟩,?_⟩;refine mz (by rw[S];exact eE _ _) ?_;rw[R,S];refine⟨zK,rfl,λi ρ=>∃(us:eh)(s:Sl),ρ=[.pen (CP K),.im (.int (~~~N)),.im (.int kd),.sn (.list (bA 0 N)),.any,.sn (.list (us.map pD)),.any,s,.any,.any]/\OkN N us/\⇑us<=16 * i,⟨[],.any,rfl,λ_ h=>(nomatch h),Nat.le_refl _⟩,?_,?_⟩
  ·rintro i d ρ hd ⟨us,s,rfl,l,t⟩;obtain⟨a,k,rfl,hk,i2⟩:∃a k:Nat,d=.list (bA (~~~a) k)/\a+k<=N/\i<2:=by
    match i,hd with
    |0,hd=>exact⟨0,h,(Option.some.inj hd).symm,(),()⟩
    |1,hd=>exact⟨h,N - h,(Option.some.inj hd).symm,(),()⟩
   refine⟨kZ (~~~a) k,by rw[kW];rfl,by rw[fZ];lia,λvs rv=>?_⟩;have G:=rv.1;rw[fZ]at G;have V:decide ((~~~(1))<(⇑(bA (~~~a) k):Int))=decide (1<k):=by rw[aY];exact decide_eq_decide.mpr ()
   obtain⟨u,W,I,lw⟩:∃u:eh,(if decide (1<k)=true then vs else [])=u/\OkN N u/\⇑u<=k:=by
    by_cases z:1<k
    ·exact⟨vs,by rw[fy z];rfl,Dq rv () () (),()⟩
    ·exact⟨[],by rw[dC z];rfl,λ_ h=>(nomatch h),Nat.zero_le _⟩
   have T:=RV (decide (1<k)) vs;rw[W]at T;have key:∀b:Bool,b=decide (1<k)->(0:Int)<=(if b=true then 1 else 0)/\(if b=true then(1:Int)else 0)<1000/\⇑(vs.map pD) * (if b=true then(1:Int)else 0).toNat<=1000/\(List.replicate (if b=true then(1:Int)else 0).toNat (vs.map pD)).flatten=u.map pD:=by
    rintro _ rfl;refine⟨by split <;> decide,by split <;> decide,?_,T⟩;rw[List.length_map];split
    ·show _ * 1<=_;lia
    ·show _ * 0<=_;lia
   let⟨X,Y,Z,y⟩:=key (decide ((1:Int)<(⇑(bA (~~~a) k):Int))) V;refine⟨X,Y,Z,mz (by rw[y];exact cQ _) ⟨?_,mz ?_ ?_⟩⟩
   ·show(us.map pD).length+(List.replicate (if decide ((1:Int)<(⇑(bA (~~~a) k):Int))=true then(1:Int)else 0).toNat (vs.map pD)).flatten.length<=1000;rw[y,List.length_map,List.length_map];lia
   ·show cH (us.map pD++(List.replicate (if decide ((1:Int)<(⇑(bA (~~~a) k):Int))=true then(1:Int)else 0).toNat (vs.map pD)).flatten)=true;rw[y,←List.map_append];exact cQ _
   ·refine⟨us++u,.any,?_,l.app I,by rw[List.length_append];lia⟩;show [_,_,_,_,_,Sl.sn (.list (us.map pD++(List.replicate (if decide ((1:Int)<(⇑(bA (~~~a) k):Int))=true then(1:Int)else 0).toNat (vs.map pD)).flatten)),_,_,_,_]=_;rw[y,←List.map_append]
  ·rintro ρ ⟨us,s,rfl,l,t⟩;have t:⇑us<=16 * 2:=t;exact⟨rfl,q us l ()⟩
 have O:¬kd=4:=λz=>O (fy z);obtain⟨m,hm,m0,m1⟩:∃m:Int,(if decide (4<kd)=true then atI [PyData.int 9,.int 3,.int 2] (kd - 5)else some (.int 4))=some (.int m)/\0<m/\m<=9:=by
  by_cases z:4<kd
  ·rw[fy z,dP rfl];rcases(():kd=5\/kd=6\/kd=7)with rfl|rfl|rfl
   ·exact⟨9,rfl,(),()⟩
   ·exact⟨3,rfl,(),()⟩
   ·exact⟨2,rfl,(),()⟩
  ·rw[dC z,dQ Bool.false_ne_true];exact⟨4,rfl,(),()⟩
 have U:Cq (Uz (iSq (tV 3)) (gNm 9)
              (Cq
               (Mr 5 none
                (t2 Et (tV 5)
                 (dLC 1
                  (iSq (Rx (tV 3) (Km (t2 Et (tV 9) (tK (PyData.int 1)))) Ko)) (gNm 0)
                  (fu
                   (t2 (ni false) (Nu (CP K) Fg 1 (iz (tV 9) nj)) (tK (PyData.int 0))))
                  (Am (iz (tV 10) (iz (tV 0) nj))))))
               (xg [9] vK)))
             (xg [9] (Uw (tV 5))) { nx:=λ_=>P PyData.none,rt:=P } [.pen (CP K),.im (.int (~~~N)),.im (.int kd),.sn (.list (bA 0 N)),.any,.sn (.list []),.any,.any,.im (.int m),.any]:=by
  refine⟨rfl,λi ρ=>∃(us:eh)(s:Sl),ρ=[.pen (CP K),.im (.int (~~~N)),.im (.int kd),.sn (.list (bA 0 N)),.any,.sn (.list (us.map pD)),.any,.any,.im (.int m),s]/\OkN N us/\⇑us<=16 * i,⟨[],.any,rfl,λ_ h=>(nomatch h),Nat.le_refl _⟩,?_,?_⟩
  ·rintro i d ρ hd ⟨us,s,rfl,l,t⟩;let⟨hi,rfl⟩:=cY hd;have e:=uz (N:=N) (a:=0+(~~~i)+1) (j:=i+1) ();refine mz (by rw[e];exact eE _ _) ?_;rw[e];refine⟨by rw[aY];lia,.imm,λi' ys=>∃vs:eh,ys=vs.map pD/\⇑vs<=i'/\OkN N vs,⟨[],rfl,Nat.le_refl _,λ_ h=>(nomatch h)⟩,?_,?_⟩
   ·rintro j d ys hd ⟨vs,rfl,hv,g⟩;let⟨hj,rfl⟩:=cY hd;refine⟨rfl,m,rfl,m0,(),λr r0 r1=>?_⟩;show if decide (r=0)=true then _ else _
    refine zu (λc=>⟨zK,rfl,vs++[(_,_)],app1 _ _ _,by rw[List.length_append,List.length_singleton];lia,g.snoc ⟨⟨(),()⟩,⟨(),()⟩,()⟩⟩) (λc=>⟨vs,rfl,(),g⟩)
   rintro ys ⟨vs,rfl,hv,g⟩;rw[aY]at hv;refine⟨by rw[List.length_map,List.length_map];lia,mz (by rw[←List.map_append];exact cQ _) ?_⟩;rw[←List.map_append];exact⟨us++vs,.any,rfl,l.app g,by rw[List.length_append];lia⟩
  ·rintro ρ ⟨us,s,rfl,l,t⟩;rw[aY]at t;exact⟨rfl,q us l ()⟩
 show if decide (4<kd)=true then _ else _
 by_cases z:4<kd
 ·rw[fy z,dP rfl]at hm;refine T8 z ?_;exact⟨zK,_,hm,U⟩
 ·rw[dC z,dQ Bool.false_ne_true]at hm;obtain rfl:(4:Int)=m:=by injection hm with h;injection h
  rw[dC z];exact bw U
def rJ:FnScope [aa,av,"_law_ties",be,bu,"_law_turned"] [aa,av] (aC (top 46)):=zC
def oA:([bu,di,aa,av,"_law_ties",be,"","_law_turned"]:List Str).Nodup:=⋯
def Bk(F:Fun K cu cu (top 46) f fd)(B:Dl.Bn mg)(S:2∪bP∪[aa,av]∪spP (CP K) Ls)(I:kA8 P w K mg fw)(T:2∪bz∪[aa,av]∪spP (CP K) Lx):3∩[aa,av]∩spP (CP K) Wv:=by
 refine F.ok rJ qW (λcdv A outer s H vs Q E hr h=>?_);have C:=rJ.nd;refine⟨_,Wr.WDSs.h (Wr.aA (Wr.aW (some 0) (i:=2) C rfl zQ (Wr.jW (Wr.dcP S hr (Wr.wv 0) (Wr.aj (Wr.dv 1) Wr.ak)) Wr.fV (Wr.dX Wr.aq)))
  (Wr.aA (Wr.d7 PassesOwn.never rfl (Wr.cZ B.range (Wr.aj (Wr.nO (Wr.dcP I hr (Wr.wv 0) (Wr.aj Wr.aq Wr.ak)) (Wr.nU B.int Ta (Wr.aj (Wr.DP (Wr.dv 1) Wr.aq) Wr.ak))) Wr.ak)) (Wr.aH (i:=3) C rfl zQ) (Wr.aA (Wr.aW none (i:=4) C rfl zQ (Wr.dcP I hr (Wr.wv 0) (Wr.aj (Wr.dv 1) Wr.ak)))
  (Wr.aA (Wr.ji (Wr.wv 2) (Wr.aj (Wr.aL (Wr.aj (Wr.dv 4) (Wr.aj (Wr.wC (Wr.bT (Wr.bT (Wr.dv 4) Wr.aq) (Wr.dcP I hr (Wr.wv 0) (Wr.aj (Wr.jq (Wr.dv 1) Wr.aq) Wr.ak))) (Wr.dv 1)) Wr.ak))) Wr.ak)) (Wr.aQ [3,4] Wr.aU))))
  (Wr.aQ [3,4] (Wr.aA (Wr.aW none (i:=5) C rfl zQ (Wr.dcP T hr (Wr.wv 0) (Wr.aj (Wr.dv 1) Wr.ak)))
  (Wr.aF (Wr.aJ (Wr.aL (Wr.aj (Wr.dv 1) (Wr.aj (Wr.jo B.tuple (Wr.aj (Wr.nP B.sorted (Wr.aj (Wr.pP [bu,di] [aa,av,"_law_ties",be,"","_law_turned"] rfl (Wr.bW (Wr.dv 2)) (λc=>(Wr.lA (n:=2) rfl (Wr.cD (Wr.aH (i:=0) oA rfl zQ) (Wr.cD (Wr.aH (i:=1) oA rfl zQ) Wr.iQ)))) (λc=>Wr.cM) (λc=>(Wr.jo B.tuple (Wr.aj (Wr.rW B.sorted (Wr.aj (Wr.cg (Wr.aj (Wr.aG (Wr.dv 7) (Wr.dv 0)) (Wr.aj (Wr.aG (Wr.dv 7) (Wr.dv 1)) Wr.ak))) Wr.ak)) Wr.ak))) (hk:=rfl)) Wr.ak)) Wr.ak)) Wr.ak))))))))),enterQ h ?_⟩
 rintro ds P ⟨n,rfl,n1,L,q⟩;refine⟨[.im (.int n),.any,.any,.any,.any],rfl,?_⟩;refine⟨rfl,n,rfl,n1,L,λus g p=>?_⟩;have e:jE (us.map pD) none (some 34)=(us.take 34).map pD:=by rw[show(34:Int)=(~~~(34))from rfl,Mv,List.map_take]
 refine mz (by rw[e];exact cQ _) ?_;rw[e];have m:OkN n (us.take 34):=λt h=>g t (List.mem_of_mem_take h);have N:⇑(us.take 34)<=34:=by rw[List.length_take];lia
 generalize us.take 34=us at m N;refine⟨rfl,3,rfl,∅,∅,λr r0 r3=>?_⟩;obtain⟨j,W,j0,j2,Y⟩:∃j:Int,r * (if decide (1<n)=true then 1 else 0)=j/\0<=j/\j<=2/\(0<j->1<n):=by
  by_cases z:1<n
  ·exact⟨r,by rw[fy z,dP rfl];lia,(),(),λ_=>z⟩
  ·exact⟨0,by rw[dC z,dQ Bool.false_ne_true];lia,(),(),λh=>dS h ()⟩
 have o:∀xs:eh,⇑(xs.map pD)=⇑xs:=λxs=>List.length_map ..;refine⟨Tv r0 r3 _,?_⟩;rw[W];refine⟨⟨(),()⟩,rfl,λi ρ=>∃(us:eh)(s M:Sl),ρ=[.pen (CP K),.im (.int n),.dw 0 (.list (us.map pD)),s,M,.any]/\OkN n us/\⇑us<=34+i,⟨us,.any,.any,rfl,m,N⟩,?_,?_⟩
 ·rintro i d ρ hd ⟨us,s,M,rfl,g,p⟩;let⟨hi,rfl⟩:=cY hd;have n2:=Y ();refine⟨rfl,n,rfl,(),(),λa D G=>⟨rfl,_,rfl,(),(),λb b0 b1=>⟨(),zK,?_⟩⟩⟩;obtain⟨x,X,O,R,xa⟩:∃x:Int,(a+1+b) % n=x/\0<=x/\x<n/\a≠x:=by
   refine⟨_,rfl,Int.emod_nonneg _ (),Int.emod_lt_of_pos _ (),?_⟩;by_cases z:a+1+b<n
   ·rw[Int.emod_eq_of_lt () z];lia
   ·rw[show a+1+b=(a+1+b - n)+n by lia,Int.add_emod_right,Int.emod_eq_of_lt () ()];lia
  refine⟨rfl,by rw[o];lia,us++[(a,x)],.any,.any,?_,g.snoc ⟨⟨D,G⟩,⟨O,R⟩,xa⟩,by rw[List.length_append,List.length_singleton];lia⟩;show [_,_,Sl.dw 0 (.list (us.map pD++[PyData.tuple [.int a,.int ((a+1+b) % n)]])),_,_,_]=_;rw[X,app1];rfl
 ·rintro ρ ⟨us,s,M,rfl,g,p⟩;rw[aY]at p;have p:⇑us<=36:=()
  refine⟨rfl,n,rfl,(),(),λl hl=>?_⟩;refine⟨by rw[o];lia,.imm,λi ys=>∃vs:eh,ys=vs.map pD/\⇑vs=i/\OkW n vs,⟨[],rfl,rfl,λt ht=>nomatch ht⟩,?_,?_⟩
  ·rintro i d ys hd ⟨vs,rfl,hv,k⟩;let⟨t,ht,rfl⟩:=iJ hd;let⟨⟨D,G⟩,⟨b0,b1⟩,ne⟩:=g t (List.mem_of_getElem? ht);let⟨x,U,⟨O,R⟩,Z⟩:=DQ hl D G;let⟨y,V,⟨y0,y1⟩,my⟩:=DQ hl b0 b1;have xy:x≠y:=λz=>by
    have:=(List.getElem?_inj (by have:=hl.len;lia) hl.nd).mp (Z.trans (z ▸ my.symm));lia
   refine⟨rfl,bC (B:=True) ⟨.int x,U,.int y,V,zK,[x,y],rfl,(show 2<64 by decide),λout hp hs=>?_⟩⟩;let⟨u,v,rfl,uv,hu,J⟩:=Rq hp hs xy;refine⟨rfl,vs++[(u,v)],app1 _ _ _,by rw[List.length_append,List.length_singleton,hv],λt h=>?_⟩;rcases List.mem_append.mp h with z|z
   ·exact k t z
   ·rw[List.mem_singleton.mp z];rcases hu with rfl|rfl <;> rcases J with rfl|rfl <;> exact⟨(),(),()⟩
  rintro ys ⟨vs,rfl,hv,k⟩;refine⟨vs,.inl rfl,by rw[o]at hv;lia,λt ht=>?_,λws hp hs=>⟨zK,?_,q ws (λt ht=>k t (hp.mem_iff.mp ht)) hs (by rw[hp.length_eq];rw[o]at hv;lia)⟩⟩
  ·have:=k t ht;exact⟨(),()⟩
  ·have e:=jy n ws;show(norm _ (bB n ws)).le .n0=true;rw[eU e];rfl
end
def K1(d:D):Prop:=d=.none\/(∃b,d=.bool b)\/(∃i,d=.int i)\/∃z,d=.str z
def GA:Nat->D->Prop
 |0,d=>K1 d
 |k+1,d=>K1 d\/∃ds:ez,(d=.list ds\/d=.tuple ds)/\⇑ds<=100/\∀x∈ds,GA k x
def fAl:Nat->ed
 |0,_,_=>False
 |k+1,ds,P=>∃d,ds=[d,d]/\GA k d/\P (.bool true)
def nY{k:Kd}{T:D}(h:k=.imm\/k=.shr):norm k T=.imm\/norm k T=.shr:=by
 by_cases i:eV T=true
 ·exact .inl (eU i)
 ·rw[nZ i];exact h
def IK{k:Kd}{d:D}{s:Sl}(hk:k=.imm\/k=.shr)(e:s=xW (norm (norm k d) d) d):s=.im d\/s=.sh d:=by
 subst e;rcases nY (nY (T:=d) hk)with h|h
 ·exact .inl (by rw[h];rfl)
 ·exact .inr (by rw[h];rfl)
section
variable{P:Za}{w:Zb}{K:W.Frag}{mg:Str->ew}{fw:Heap}{f:Addr}{fd:Yt}{kk LL:Nat}
def nF:FnScope [am,aT] [am,aT] (aC (top 47)):=zC
def j6:(["_law_one","_law_other",am,aT]:List Str).Nodup:=⋯
def GF(F:Fun K ax ax (top 47) f fd)(B:Dl.Bn mg)(o:mg "zip"=none)(j:mg "str"=none)(m:LL∪ax∪[am,aT]∪spD (fAl kk)):LL.succ∩[am,aT]∩spD (fAl (kk+1)):=by
 refine okT F nF (λhr nd=>Wr.aA (Wr.cR (Wr.wA (Wr.dv 1) Wr.jX) (Wr.aF (Wr.aJ (Wr.Bg (Wr.dv 0) Wr.jX))) Wr.aU)
  (Wr.aA (Wr.cR (Wr.bR (Wr.nR B.isinstance (Wr.dv 1) (Wr.wty rfl B.list UE) (Wr.wty rfl B.tuple UF))) (Wr.aA (Wr.cR (Wr.wpt (Wr.iU (Wr.cC (Wr.bR (Wr.nR B.isinstance (Wr.dv 0) (Wr.wty rfl B.list UE) (Wr.wty rfl B.tuple UF)))) (Wr.fO (Wr.gB hr.units (Wr.bH zj B.isinstance (Wr.dv 0) (Wr.wty rfl B.list UE)) (Wr.bH zj B.isinstance (Wr.dv 1) (Wr.wty rfl B.list UE)))))) (Wr.aF (Wr.aJ Wr.iH)) Wr.aU)
  (Wr.aF (Wr.aJ (Wr.fC (Wr.jr hr.units (Wr.cW B.len (Wr.aj (Wr.dv 0) Wr.ak)) (Wr.cW B.len (Wr.aj (Wr.dv 1) Wr.ak))) (Wr.gW (Wr.sI rfl B.all Dl.boot_all (Wr.aj (Wr.fX ["_law_one","_law_other"] rfl (Wr.wZ o (Wr.aj (Wr.dv 0) (Wr.aj (Wr.dv 1) Wr.ak))) (λc=>(Wr.lA (n:=2) rfl (Wr.cD (Wr.aH (i:=0) j6 rfl zQ) (Wr.cD (Wr.aH (i:=1) j6 rfl zQ) Wr.iQ)))) (λc=>Wr.cM) (λc=>(Wr.dc (hk:=Nat.le_refl _) m hr (Wr.aj (Wr.dv 0) (Wr.aj (Wr.dv 1) Wr.ak))))) Wr.ak))))))) Wr.aU)
  (Wr.aA (Wr.cR (Wr.wpt (Wr.iU (Wr.bR (Wr.bH kJ B.isinstance (Wr.dv 1) (Wr.wty rfl B.bool Tb))) (Wr.fO (Wr.bR (Wr.bH kJ B.isinstance (Wr.dv 0) (Wr.wty rfl B.bool Tb)))))) (Wr.aF (Wr.aJ (Wr.fC (Wr.bH kJ B.isinstance (Wr.dv 1) (Wr.wty rfl B.bool Tb)) (Wr.fC (Wr.bH kJ B.isinstance (Wr.dv 0) (Wr.wty rfl B.bool Tb)) (Wr.gW (Wr.jr hr.units (Wr.dv 0) (Wr.dv 1))))))) Wr.aU)
  (Wr.aA (Wr.cR (Wr.bR (Wr.bH El B.isinstance (Wr.dv 1) (Wr.wty rfl j Dl.boot_str))) (Wr.aF (Wr.aJ (Wr.fC (Wr.bH El B.isinstance (Wr.dv 0) (Wr.wty rfl j Dl.boot_str)) (Wr.gW (Wr.jr hr.units (Wr.dv 0) (Wr.dv 1)))))) Wr.aU)
  (Wr.aF (Wr.aJ (Wr.fC (Wr.bH Em B.isinstance (Wr.dv 0) (Wr.wty rfl B.int Ta)) (Wr.gW (Wr.jr hr.units (Wr.dv 0) (Wr.dv 1)))))))))) ?_
 rintro ds P ⟨d,rfl,g,q⟩;refine⟨[dO d,dO d],rfl,?_⟩;have a:K1 d\/∃ds:ez,(d=.list ds\/d=.tuple ds)/\⇑ds<=100/\∃k,kk=k+1/\∀x∈ds,GA k x:=by
  cases kk with
  |zero=>exact .inl g
  |succ k =>
   rcases g with g|⟨ds,h1,h2,p⟩
   ·exact .inl g
   ·exact .inr ⟨ds,h1,h2,k,rfl,p⟩
 rcases a with(rfl|⟨b,rfl⟩|⟨i,rfl⟩|⟨z,rfl⟩)|⟨ds,rfl|rfl,r,k,rfl,l⟩
 ·exact bC (B:=True) ⟨rfl,q⟩
 ·refine bw (A:=True) (bw (A:=True) (bC (B:=True) (bC (B:=True) (bC (B:=True) ?_))));show _/\P (.bool (decide (b=b)));rw[fy rfl];exact⟨rfl,q⟩
 ·refine bw (A:=True) (bw (A:=True) (bw (A:=True) (bw (A:=True) (bw (A:=True) (bC (B:=True) ?_)))));show _/\P (.bool (decide (i=i)));rw[fy rfl];exact⟨rfl,q⟩
 ·refine bw (A:=True) (bw (A:=True) (bw (A:=True) (bw (A:=True) (bC (B:=True) (bC (B:=True) ?_)))));show _/\P (.bool (decide (z=z)));rw[fy rfl];exact⟨rfl,q⟩
 ·refine bw (A:=True) (bC (B:=True) (bw (A:=True) (bw (A:=True) ?_)));show if decide ((⇑ds:Int)=(⇑ds:Int))=true then _ else _
  rw[fy rfl];refine bC (B:=True) ?_;refine⟨by rw[List.length_map,List.length_zip];lia,.imm,λi ys=>ys=(ds.take i).map λ_=>PyData.bool true,rfl,λi d ys hd hy=>?_,λys hy=>?_⟩
  ·subst hy;rw[List.getElem?_map]at hd;cases hi:ds[i]? with
   |none =>
    rw[show(ds.zip ds)[i]?=none by rw[List.getElem?_eq_none_iff,List.length_zip];rw[List.getElem?_eq_none_iff]at hi;lia]at hd;cases hd
   |some x =>
    rw[List.getElem?_zip_eq_some (z:=(x,x)) |>.mpr ⟨hi,hi⟩]at hd;cases hd;refine⟨rfl,Le λs0 s1 e0 e1=>?_⟩;have h:s1=s0:=e1.trans e0.symm;subst h;rcases IK (nY (.inr rfl)) e0 with rfl|rfl
    all_goals exact bC (B:=True) ⟨x,rfl,l x (List.mem_of_getElem? hi),rfl,(Kw _ hi).symm⟩
  dsimp only at hy;rw[show((ds.zip ds).map prD).length=⇑ds by rw[List.length_map,List.length_zip];lia,List.take_length]at hy;subst hy;refine⟨ds.map λ_=>true,by rw[List.map_map];rfl,?_⟩;refine⟨rfl,?_⟩;rw[show(ds.map λ_=>true).all id=true from List.all_eq_true.mpr λx hx=>by
   let⟨_,_,rfl⟩:=List.mem_map.mp hx;rfl]
  exact q
 ·rcases Qn (.tuple ds)with e|e
  all_goals
   rw[e];refine bw (A:=True) (bC (B:=True) (bw (A:=True) (bw (A:=True) ?_)));show if decide ((⇑ds:Int)=(⇑ds:Int))=true then _ else _
   rw[fy rfl];refine bC (B:=True) ?_;refine⟨by rw[List.length_map,List.length_zip];lia,.imm,λi ys=>ys=(ds.take i).map λ_=>PyData.bool true,rfl,λi d ys hd hy=>?_,λys hy=>?_⟩
   ·subst hy;rw[List.getElem?_map]at hd;cases hi:ds[i]? with
    |none =>
     rw[show(ds.zip ds)[i]?=none by rw[List.getElem?_eq_none_iff,List.length_zip];rw[List.getElem?_eq_none_iff]at hi;lia]at hd;cases hd
    |some x =>
     rw[List.getElem?_zip_eq_some (z:=(x,x)) |>.mpr ⟨hi,hi⟩]at hd;cases hd;refine⟨rfl,Le λs0 s1 e0 e1=>?_⟩;have h:s1=s0:=e1.trans e0.symm;subst h;rcases IK (nY (by first|exact .inl rfl|exact .inr rfl)) e0 with rfl|rfl
     all_goals exact bC (B:=True) ⟨x,rfl,l x (List.mem_of_getElem? hi),rfl,(Kw _ hi).symm⟩
   dsimp only at hy;rw[show((ds.zip ds).map prD).length=⇑ds by rw[List.length_map,List.length_zip];lia,List.take_length]at hy;subst hy;refine⟨ds.map λ_=>true,by rw[List.map_map];rfl,?_⟩;refine⟨rfl,?_⟩;rw[show(ds.map λ_=>true).all id=true from List.all_eq_true.mpr λx hx=>by
    let⟨_,_,rfl⟩:=List.mem_map.mp hx;rfl]
   exact q
def GK(F:Fun K ax ax (top 47) f fd):FnOk P w K mg fw CX0 1 f fd [am,aT] (spD (fAl 0)) :=
 F.ok nF (Ei λds P h=>h.elim) (λcdv A outer s H vs Q E hr h=>by
  let⟨_,_,_,t,_⟩:=h;exact t.elim)
def Kg(k:Nat)(F:Fun K ax ax (top 47) f fd)(B:Dl.Bn mg)(c:mg "zip"=none)(a:mg "str"=none)(b:Binds K fd [am,aT] [])(m:mg ax=some (.ref f)):(k+1)∩[am,aT]∩spD (fAl k):=by
 induction k with
 |zero=>exact GK F
 |succ k d=>exact GF F B c a ⟨f,fd,d,b,F.kp,m⟩
def GJ(F:Fun K ax ax (top 47) f fd)(B:Dl.Bn mg)(c:mg "zip"=none)(a:mg "str"=none)(b:Binds K fd [am,aT] [])(m:mg ax=some (.ref f)):5∩[am,aT]∩spD (fAl 4):=Kg 4 F B c a b m
end
def sG(l:Addr)(b c:D)(ds:ez):FS:=[(ag,.nb b),(ah,.nb c),(aw,.ls l ds)]
def fB(l:Addr)(b c:D)(ds:ez):List.lookup (ag:Str) (sG l b c ds)=some (.nb b)/\List.lookup (ah:Str) (sG l b c ds)=some (.nb c)/\List.lookup (aw:Str) (sG l b c ds)=some (.ls l ds):=by
 let⟨h1,h2,a,d,e,f⟩:=K7;refine⟨?_,?_,?_⟩ <;> simp[sG,List.lookup,h1,h2,a,d,e,f]
def jK(l:Addr)(b c d:D)(ds es:ez):aZ ag (.nb d) (sG l b c ds)=sG l d c ds/\aZ ah (.nb d) (sG l b c ds)=sG l b d ds/\aZ aw (.ls l es) (sG l b c ds)=sG l b c es:=by
 have a:¬((ag:Str)=ah):=⋯
 have e:¬((ag:Str)=aw):=⋯
 have f:¬((ah:Str)=aw):=⋯
 refine⟨?_,?_,?_⟩ <;> simp[sG,aZ,a,e,f]
def sF(l:Addr)(b:List T3)(a:Int)(ps:List (List T3×Int)):FS:=sG l (.list (b.map rD)) (.int a) (ps.map fD)
structure SOk(M:Nat)(n:Int)(rs:List T3)(fr:Int)(ps:List (List T3×Int)):Prop where
 ok:KOk n rs fr
 f0:0<=fr
 fM:fr<=(~~~M)
 lp:⇑ps<=M
 past:∀q∈ps,KOk n q.1 q.2/\0<=q.2/\q.2<=(~~~M)
def Rg(a:Addr)(c:List AO)(P:List FS->D->Prop):Prop:=∃r1 r2 x1 x2 l1 l2 M n rs fr ps,c=[.p,.d (.int n),.b r1 (some a) x1 (kF l1 n rs fr ps),.b r2 none x2 (sF l2 rs fr ps)]/\r1≠r2/\r1≠99/\r2≠99/\M<800/\SOk M n rs fr ps /\
 ∀rs' fr' ps',SOk (M+1) n rs' fr' ps'->P [kF l1 n rs' fr' ps',sF l2 rs' fr' ps'] (.bool true)
def tO(k:Nat)(d:D):Prop:=d.canLay0=true/\d.depth<=k
def oR{k:Nat}{xs:ez}(h:∀x∈xs,tO k x):PyData.canLayAll0 xs=true/\PyData.depthAll xs<=k:=by
 induction xs with
 |nil=>exact⟨rfl,Nat.zero_le _⟩
 |cons x xs ih =>
  let⟨a,c⟩:=ih λy hy=>h y (List.mem_cons_of_mem _ hy);let⟨b,d⟩:=h x List.mem_cons_self;refine⟨?_,?_⟩
  ·show(x.canLay0&&PyData.canLayAll0 xs)=true;rw[b,a];rfl
  ·show max x.depth (PyData.depthAll xs)<=k;lia
def vD{k:Nat}{xs:ez}(h:∀x∈xs,tO k x):tO (k+1) (.list xs):=⟨(oR h).1,by show PyData.depthAll xs+1<=k+1;have:=(oR h).2;lia⟩
def g8{k:Nat}{xs:ez}(h:∀x∈xs,tO k x):tO (k+1) (.tuple xs):=⟨(oR h).1,by show PyData.depthAll xs+1<=k+1;have:=(oR h).2;lia⟩
def qY{k:Nat}{d:D}(h:tO k d)(hk:k<=60):okD d=true:=by
 show(d.canLay0&&decide (d.depth<=60))=true;rw[h.1,fy (by have:=h.2;lia)];rfl
def qX(k:Nat)(i:Int):tO k (.int i):=⟨rfl,Nat.zero_le _⟩
def Ph(r:T3):tO 1 (rD r):=g8 λx a=>by
 have a:x∈([.int r.1,.int r.2.1,.int r.2.2]:ez):=a;simp at a;rcases a with rfl|rfl|rfl <;> exact qX _ _
def yZ(a:List T3):tO 2 (.list (a.map rD)):=vD λx hx=>by
 let⟨r,_,rfl⟩:=List.mem_map.mp hx;exact Ph r
def K4(ps:List (List T3×Int)):tO 4 (.list (ps.map fD)):=vD λx a=>by
 let⟨r,_,rfl⟩:=List.mem_map.mp a;refine g8 λx a=>?_;have a:x∈([.list (r.1.map rD),.int r.2]:ez):=a;simp at a;rcases a with rfl|rfl
 ·exact yZ _
 ·exact qX _ _
theorem Nb{a b:DT}{ρ:List Sl}{p q:Bool}(ha:∀Q:Bool->Prop,Q p->a ρ Q)(hb:∀Q:Bool->Prop,Q q->b ρ Q):∀Q:Bool->Prop,Q (p&&q)->Hs a b ρ Q:=λQ h=>by
 refine ha _ ?_;cases p with
 |false=>exact bw (A:=True) h
 |true=>exact bC (B:=True) (hb _ h)
def Q5{a:DT}{t u:DJ}{E:JEnds}{ρ:List Sl}{b:Bool}(hc:∀Q:Bool->Prop,Q b->a ρ Q)(h1:b=true->t { nx:=u E,rt:=E.rt,rs:=E.rs } ρ)(h2:b=false->u E ρ):kO (jIf a t Q6) u E ρ:=by
 refine hc _ ?_;cases b with
 |false=>exact bw (A:=True) (h2 rfl)
 |true=>exact bC (B:=True) (h1 rfl)
abbrev RD(C:Pn->Prop)(n:Int)(r1 r2:Nat)(g1 g2:GS)(s4 s5 s6 s7 s8:Sl):List Sl:=[.pen C,.im (.int n),.gn r1 g1,.gn r2 g2,s4,s5,s6,s7,s8]
section
variable{C:Pn->Prop}{n:Int}{r1 r2:Nat}{g1 g2:GS}{s4 s5 s6 s7 s8:Sl}
def fg2(g:GS)(h:r1≠r2)(d:s4.region=none)(e:s5.region=none)(f:s6.region=none)(i:s7.region=none)(j:s8.region=none):(forget r2 (RD C n r1 r2 g1 g2 s4 s5 s6 s7 s8)).set 3 (.gn r2 g)=RD C n r1 r2 g1 g s4 s5 s6 s7 s8:=by
 have b:(Sl.gn r1 g1).region≠some r2:=λz=>h (by injection z);have a:(Sl.pen C).region≠some r2:=λz=>nomatch z;have c:(Sl.im (.int n)).region≠some r2:=λz=>nomatch z;simp[forget,RD,d,e,f,i,j,b,a,c]
def fg1(g:GS)(h:r1≠r2)(d:s4.region=none)(e:s5.region=none)(f:s6.region=none)(i:s7.region=none)(j:s8.region=none):(forget r1 (RD C n r1 r2 g1 g2 s4 s5 s6 s7 s8)).set 2 (.gn r1 g)=RD C n r1 r2 g g2 s4 s5 s6 s7 s8:=by
 have b:(Sl.gn r2 g2).region≠some r1:=λz=>h (by injection z with z;exact z.symm);have a:(Sl.pen C).region≠some r1:=λz=>nomatch z;have c:(Sl.im (.int n)).region≠some r1:=λz=>nomatch z;simp[forget,RD,d,e,f,i,j,b,a,c]
end
def Uj{a:List T3}{r:T3}(b:(a.map (·.1)).Nodup)(h:r∈a):a.filter (λq=>decide (q.1≠r.1))=a.filter (λq=>decide (q≠r)):=List.filter_congr λq hq=>by
 have:q.1=r.1↔q=r:=⟨λe=>by
  have h1:q∈a.filter (λq=>decide (q.1=r.1)):=List.mem_filter.mpr ⟨hq,fy e⟩;rw[Ew b h]at h1;exact List.mem_singleton.mp h1,λe=>by rw[e]⟩
 exact decide_eq_decide.mpr (not_congr this)
def Dj(l:Addr)(b c:D)(ds:ez):((sG l b c ds).map (·.1)).Nodup:=by
 show([ag,ah,aw]:List Str).Nodup;decide +kernel
def turned{n a b:Int}(e:1<n)(c:0<=a)(d:a<n)(b0:0<=b)(b1:b<n - 1):∃x:Int,(a+1+b) % n=x/\0<=x/\x<n/\a≠x:=by
 refine⟨_,rfl,Int.emod_nonneg _ (),Int.emod_lt_of_pos _ (),?_⟩;by_cases z:a+1+b<n
 ·rw[Int.emod_eq_of_lt () z];lia
 ·rw[show a+1+b=(a+1+b - n)+n by lia,Int.add_emod_right,Int.emod_eq_of_lt () ()];lia
section
variable{P:Za}{w:Zb}{K:W.Frag}{mg:Str->ew}{fw:Heap}{f:Addr}{fd:Yt} [Tt]
def qt:FnScope [aa,av,bc,bi,bq,dl,bu,di,"_law_name"] [aa,av,bc,bi] (aC (top 48)):=zC
def uV:(["_law_row",aa,av,bc,bi,bq,dl,bu,di,"_law_name"]:List Str).Nodup:=⋯
abbrev kA9(P w K mg fw):=5∪ax∪[am,aT]∪spD (fAl 4)
def yE{C:Addr}(F:Fun K cc cc (top 48) f fd)(B:Dl.Bn mg)(Y:kA8 P w K mg fw)(ae:kA9 P w K mg fw)(R:Dl.CalM P w K mg fw C 12 "put" [af,"a","b"] (spM C Ly))(O:Dl.CalM P w K mg fw C 12 "drop" [af,dt] (spM C Ce))(N:Dl.CalM P w K mg fw C 1 "back" [af] (spM C Cg)):13∩[aa,av,bc,bi]∩spO (CT (CP K) Tt.T) (Rg C):=by
 refine F.ok qt Pb (λcdv A outer s H vs Q E hr h=>?_);have X:=qt.nd;refine⟨_,Dl.WJs.h (Dl.bf (Dl.dN (Wr.aW none (i:=4) X rfl zQ (Wr.dcP (Dl.Cal.plus (T:=Tt.T) Y) hr (Wr.wv 0) (Wr.aj Wr.aq Wr.ak))))
  (Dl.bf (Dl.dN (Wr.aW none (i:=5) X rfl zQ (Dl.bU (Dl.dI (eX hr) (Wr.wv 3)))))
  (Dl.bf (Dl.T7 (Wr.wpt (Wr.lN (Wr.rT (Wr.dv 4) Wr.aq) (Wr.lN (Wr.jV (Wr.dv 1) Wr.aq) (Wr.jU (Wr.rT (Wr.cW B.len (Wr.aj (Wr.dv 5) Wr.ak)) Wr.aq))))) (Dl.bf (Dl.dN (Wr.aW none (i:=6) X rfl zQ (Wr.dcP (Dl.Cal.plus (T:=Tt.T) Y) hr (Wr.wv 0) (Wr.aj (Wr.dv 1) Wr.ak))))
  (Dl.bf (Dl.dN (Wr.aW none (i:=7) X rfl zQ (Wr.wC (Wr.bT (Wr.bT (Wr.dv 6) Wr.aq) (Wr.dcP (Dl.Cal.plus (T:=Tt.T) Y) hr (Wr.wv 0) (Wr.aj (Wr.jq (Wr.dv 1) Wr.aq) Wr.ak))) (Wr.dv 1))))
  (Dl.bf (Dl.dN (Dl.wX (gA (rR PySem.F.plainAttrs_list PySem.F.slot_list_append PySem.F.type_list_append gJ (Dl.dI (eX hr) (Wr.wv 3)) (Wr.aj (Wr.aL (Wr.aj (Wr.dv 5) (Wr.aj (Dl.bU (Dl.dI (eX hr) (Wr.wv 3))) Wr.ak))) Wr.ak).h))))
  (Dl.bf (Dl.dN (Dl.iW (Dl.rM (eX hr) (Wr.wv 3) (Wr.bT (Wr.dv 5) (Wr.cg (Wr.aj (Wr.aL (Wr.aj (Dl.bU (Dl.dI (eX hr) (Wr.wv 3))) (Wr.aj (Wr.qN rfl B.min (Wr.aj (Wr.dv 6) (Wr.aj (Wr.dv 7) Wr.ak))) (Wr.aj (Wr.qO rfl B.max (Wr.aj (Wr.dv 6) (Wr.aj (Wr.dv 7) Wr.ak))) Wr.ak)))) Wr.ak))))))
  (Dl.bf (Dl.dN (Dl.iW (Dl.rM (eX hr) (Wr.wv 3) (Wr.bT (Dl.bU (Dl.dI (eX hr) (Wr.wv 3))) Wr.aq))))
  (Dl.oU (Dl.Bw (Dl.Xe ae hr (Dl.Xd (Dl.Nm R hr (Wr.wv 2) (Wr.aj (Wr.dv 6) (Wr.aj (Wr.dv 7) Wr.ak)))) (Wr.aj (Wr.jq (Dl.bU (Dl.dI (eX hr) (Wr.wv 3))) Wr.aq) Wr.ak))))))))) Dl.La)
  (Dl.bf (Dl.T7 (Wr.wpt (Wr.lN (Wr.rT (Wr.dv 4) Wr.aq) (Wr.jU (Wr.gB hr.units (Wr.dv 5) (Wr.cg Wr.ak))))) (Dl.bf (Dl.dN (Wr.aW none (i:=8) X rfl zQ (Wr.aG (Wr.aG (Wr.dv 5) (Wr.dcP (Dl.Cal.plus (T:=Tt.T) Y) hr (Wr.wv 0) (Wr.aj (Wr.cW B.len (Wr.aj (Wr.dv 5) Wr.ak)) Wr.ak))) Wr.aq)))
  (Dl.bf (Dl.dN (Dl.wX (gA (rR PySem.F.plainAttrs_list PySem.F.slot_list_append PySem.F.type_list_append gJ (Dl.dI (eX hr) (Wr.wv 3)) (Wr.aj (Wr.aL (Wr.aj (Wr.dv 5) (Wr.aj (Dl.bU (Dl.dI (eX hr) (Wr.wv 3))) Wr.ak))) Wr.ak).h))))
  (Dl.bf (Dl.dN (Dl.iW (Dl.rM (eX hr) (Wr.wv 3) (Wr.fX ["_law_row"] rfl (Wr.bW (Wr.dv 5)) (λc=>(Wr.aH (i:=0) uV rfl zQ)) (λc=>(Wr.fU (Wr.gB hr.units (Wr.aG (Wr.dv 0) Wr.aq) (Wr.dv 9)))) (λc=>(Wr.dv 0))))))
  (Dl.oU (Dl.Bw (Dl.Qs Kc V9 (Dl.Ve B.len (Dl.Nm O hr (Wr.wv 2) (Wr.aj (Wr.dv 8) Wr.ak))) Wr.aq (dg _))))))) Dl.La)
  (Dl.bf (Dl.T7 (Wr.gB hr.units (Dl.bU (Dl.dI (eX hr) (Wr.wv 3))) (Wr.cg Wr.ak)) (Dl.bf (Dl.dN (Dl.Mh (Sq (JZ PySem.F.plainAttrs_list PySem.F.slot_list_pop PySem.F.type_list_pop Ks (Dl.dI (eX hr) (Wr.wv 3))) (JL rfl (rO (JM (Wr.wv 3).h cG (Dl.Jy (eX hr))) (rO (JM (Wr.wv 3).h cG (Dl.Jy (eX hr))) Dv))))))
  (Dl.oU (Dl.Bw (Dl.Qs J5 V8 (Dl.Vd N hr (Wr.wv 2)) Wr.iH (dg _))))) Dl.La)
  (Dl.oU (Dl.Eo Wr.iH))))))),Ur h ?_⟩
 rintro as P ⟨G,u,I,v,D,k,M,n,e,j,ps,rfl,x,S,r29,hM,ok,q⟩;refine⟨[.pen (CT (CP K) Tt.T),.im (.int n),.gn G (aM (some C) I (kF D n e j ps)),.gn u (aM none v (sF k e j ps)),.any,.any,.any,.any,.any],rfl,?_⟩;have L:=ok.ok;have ll:=L.len;have n16:=L.n16;have U:=ok.f0;have W:⇑(e.map rD)=⇑e:=List.length_map ..;have lp:⇑(ps.map fD)=⇑ps:=List.length_map ..;have lpM:=ok.lp;have fM:=ok.fM;refine⟨rfl,7,rfl,∅,∅,λJ p0 p7=>?_⟩;refine⟨_,_,⟨_,_,.inl rfl⟩,(fB ..).1,?_⟩;dsimp only;show kO _ _ _ (RD (CT (CP K) Tt.T) n G u (aM (some C) I (kF D n e j ps)) (aM none v (sF k e j ps)) (.im (.int J)) (.sh (.list (e.map rD))) .any .any .any);refine Q5 (b:=decide (J<4)&&(decide (1<n)&&decide ((⇑(e.map rD):Int)<40))) (Nb (λ_ h=>h) (Nb (λ_ h=>h) (λ_ h=>h))) (λhb=>?_) (λ_=>?_)
 ·rw[Bool.and_eq_true,Bool.and_eq_true,W]at hb;have n2:=dE hb.2.1;have l40:=dE hb.2.2;refine⟨rfl,n,rfl,(),(),λa a0 a1=>?_⟩;refine⟨rfl,n - 1,rfl,(),(),λb b0 b1=>⟨(),?_⟩⟩;let⟨c,hc,c0,c1,ac⟩:=turned n2 a0 a1 b0 b1;dsimp only;show kO _ _ _ (RD (CT (CP K) Tt.T) n G u (aM (some C) I (kF D n e j ps)) (aM none v (sF k e j ps)) (.im (.int J)) (.sh (.list (e.map rD))) (.im (.int a)) (.im (.int ((a+1+b) % n))) .any);rw[hc];refine⟨u,v,_,k,_,rfl,(fB ..).2.2,rfl,?_⟩;refine⟨_,_,⟨_,_,.inl rfl⟩,(fB ..).2.1,zK,rfl,by rw[lp];lia,?_⟩;have V:aZ aw (.ls k (ps.map fD++[.tuple [.list (e.map rD),.int j]])) (sF k e j ps)=sF k e j (ps++[(e,j)]):=by
   unfold sF;rw[(jK (d:=.none) ..).2.2,List.map_append];rfl
  dsimp only;show kO _ _ _ ((forget u (RD (CT (CP K) Tt.T) n G u (aM (some C) I (kF D n e j ps)) (aM none v (sF k e j ps)) (.im (.int J)) (.sh (.list (e.map rD))) (.im (.int a)) (.im (.int c)) .any)).set 3 (.gn u (aM none v (aZ aw (.ls k (ps.map fD++[.tuple [.list (e.map rD),.int j]])) (sF k e j ps)))));rw[V,fg2 _ x rfl rfl rfl rfl rfl];refine⟨_,_,⟨_,_,.inl rfl⟩,(fB ..).2.1,zK,zK,?_⟩;have ep:e.map rD++[.tuple [.int j,.int (if c<a then c else a),.int (if c > a then c else a)]]=(jl e j a c).map rD:=by
   unfold jl;rw[List.map_append];rfl
  refine⟨by show(e.map rD).length+1<=1000;rw[W];lia,.inl ⟨by show cH (e.map rD++[.tuple [.int j,.int (if c<a then c else a),.int (if c > a then c else a)]])=true;rw[ep];exact tU _,?_⟩⟩;refine⟨u,v,_,rfl,rfl,(show 3<900 by decide),(λ_=>Dj ..),?_⟩;have e2:aZ ag (.nb (.list (e.map rD++[.tuple [.int j,.int (if c<a then c else a),.int (if c > a then c else a)]]))) (sF k e j (ps++[(e,j)]))=sF k (jl e j a c) j (ps++[(e,j)]):=by rw[ep];exact(jK (es:=[]) ..).1
  dsimp only;show kO _ _ _ ((forget u (RD (CT (CP K) Tt.T) n G u (aM (some C) I (kF D n e j ps)) (aM none v (sF k e j (ps++[(e,j)]))) (.im (.int J)) (.sh (.list (e.map rD))) (.im (.int a)) (.im (.int c)) .any)).set 3 (.gn u (aM none v (aZ ag (.nb (.list (e.map rD++[.tuple [.int j,.int (if c<a then c else a),.int (if c > a then c else a)]]))) (sF k e j (ps++[(e,j)]))))));rw[e2,fg2 _ x rfl rfl rfl rfl rfl];refine⟨_,_,⟨_,_,.inl rfl⟩,(fB ..).2.1,u,v,_,rfl,rfl,(show 3<900 by decide),(λ_=>Dj ..),?_⟩;have e3:aZ ah (.nb (.int (j+1))) (sF k (jl e j a c) j (ps++[(e,j)]))=sF k (jl e j a c) (j+1) (ps++[(e,j)]):=(jK (es:=[]) ..).2.1;dsimp only;show zq _ _ ((forget u (RD (CT (CP K) Tt.T) n G u (aM (some C) I (kF D n e j ps)) (aM none v (sF k (jl e j a c) j (ps++[(e,j)]))) (.im (.int J)) (.sh (.list (e.map rD))) (.im (.int a)) (.im (.int c)) .any)).set 3 (.gn u (aM none v (aZ ah (.nb (.int (j+1))) (sF k (jl e j a c) j (ps++[(e,j)]))))));rw[e3,fg2 _ x rfl rfl rfl rfl rfl];refine⟨G,I,_,rfl,S,(cX ..).2.2.2.2.2.1,List.forall_mem_cons.mpr ⟨rfl,List.forall_mem_cons.mpr ⟨rfl,(λ_ h=>nomatch h)⟩⟩,D,n,e,j,ps,a,c,rfl,rfl,L,(),(),U,(),a0,a1,c0,c1,ac,λout out2 g ho ho2 hg hag=>⟨(λa h=>h),?_⟩⟩;dsimp only;rw[fg1 _ x rfl rfl rfl rfl rfl];refine⟨.int j,rfl,(λz=>nomatch z),_,_,⟨_,_,.inl rfl⟩,(fB ..).2.1,.int j,?_,.inl (.inr (.inr (.inl ⟨_,rfl⟩))),?_⟩
  ·show [PyData.int j,.int (j+1 - 1)]=_;rw[show j+1 - 1=j by lia]
  refine .inr ⟨rfl,(λz=>nomatch z),[kF D n (jl e j a c) (j+1) (ps++[(e,j)]),sF k (jl e j a c) (j+1) (ps++[(e,j)])],⟨rfl,rfl,trivial⟩,q _ _ _ ?_⟩;have J:=Js L () () U a0 a1 c0 c1 ac;exact⟨J,(),(),by rw[List.length_append,List.length_singleton];lia,λp hp=>(List.mem_append.mp hp).elim (λh=>by have:=ok.past p h;exact⟨this.1,this.2.1,()⟩) λh=>by rw[List.mem_singleton.mp h];exact⟨L,U,()⟩⟩
 refine Q5 (b:=decide (J<6)&&!(PyData.eqv (.list (e.map rD)) (.list []))) (Nb (λ_ h=>h) (λ_ h=>⟨zK,qY (yZ e) ∅,rfl,h⟩)) (λhb=>?_) (λ_=>?_)
 ·rw[Bool.and_eq_true]at hb;have ne:0<⇑e:=by
   cases e with
   |nil=>exact dS hb.2 ∅
   |cons r l=>exact Nat.succ_pos _
  refine⟨rfl,_,rfl,by rw[W];lia,by rw[W];lia,λi i0 i1=>?_⟩;rw[W]at i1;obtain⟨r,hr,er⟩:∃r,r∈e/\atI (e.map rD) i=some (rD r):=by
   have hk:i.toNat<⇑e:=()
   have z:atI (e.map rD) (~~~i.toNat)=some (rD e[i.toNat]):=fW (by rw[List.getElem?_map,List.getElem?_eq_getElem hk];rfl);rw[show(~~~i.toNat)=i by lia]at z;exact⟨_,List.getElem_mem hk,z⟩
  refine⟨rD r,er,_,at0 _ _,?_⟩;refine⟨u,v,_,k,_,rfl,(fB ..).2.2,rfl,?_⟩;refine⟨_,_,⟨_,_,.inl rfl⟩,(fB ..).2.1,zK,rfl,by rw[lp];lia,?_⟩;have V:aZ aw (.ls k (ps.map fD++[.tuple [.list (e.map rD),.int j]])) (sF k e j ps)=sF k e j (ps++[(e,j)]):=by
   unfold sF;rw[(jK (d:=.none) ..).2.2,List.map_append];rfl
  dsimp only;show kO _ _ _ ((forget u (RD (CT (CP K) Tt.T) n G u (aM (some C) I (kF D n e j ps)) (aM none v (sF k e j ps)) (.im (.int J)) (.sh (.list (e.map rD))) .any .any (.im (.int r.1)))).set 3 (.gn u (aM none v (aZ aw (.ls k (ps.map fD++[.tuple [.list (e.map rD),.int j]])) (sF k e j ps)))));rw[V,fg2 _ x rfl rfl rfl rfl rfl];refine tM e rD (λq=>decide (q.1≠r.1)) rD .imm rfl () (λy hy A B h1 h2=>?_) ?_
  ·refine⟨_,at0 _ _,?_⟩;show if(!(decide (y.1=r.1)))=true then _ else _
   by_cases hx:y.1=r.1
   ·rw[fy hx];exact bw (A:=True) (h2 (dC λz=>z hx))
   ·rw[dC hx];exact bC (B:=True) ⟨rfl,h1 (fy hx)⟩
  rw[Uj L.nd hr];refine⟨u,v,_,rfl,rfl,(show 3<900 by decide),(λ_=>Dj ..),?_⟩;have okd:=Fl (r:=r) L;have e2:aZ ag (.nb (.list ((e.filter λq=>decide (q≠r)).map rD))) (sF k e j (ps++[(e,j)]))=sF k (e.filter λq=>decide (q≠r)) j (ps++[(e,j)]):=(jK (es:=[]) ..).1;dsimp only;show zq _ _ ((forget u (RD (CT (CP K) Tt.T) n G u (aM (some C) I (kF D n e j ps)) (aM none v (sF k e j (ps++[(e,j)]))) (.im (.int J)) (.sh (.list (e.map rD))) .any .any (.im (.int r.1)))).set 3 (.gn u (aM none v (aZ ag (.nb (.list ((e.filter λq=>decide (q≠r)).map rD))) (sF k e j (ps++[(e,j)]))))));rw[e2,fg2 _ x rfl rfl rfl rfl rfl];refine⟨G,I,_,rfl,S,(cX ..).2.2.2.2.2.2.1,List.forall_mem_cons.mpr ⟨rfl,(λ_ h=>nomatch h)⟩,D,n,e,j,ps,r,rfl,rfl,L,(),hr,λout out2 g ho ho2 hg hag=>⟨(λa h=>h),?_⟩⟩;dsimp only;rw[fg1 _ x rfl rfl rfl rfl rfl];have fin:SOk (M+1) n (e.filter λq=>decide (q≠r)) j (ps++[(e,j)]):=⟨okd,U,(),by rw[List.length_append,List.length_singleton];lia,λp hp=>(List.mem_append.mp hp).elim (λh=>by have:=ok.past p h;exact⟨this.1,this.2.1,()⟩) λh=>by rw[List.mem_singleton.mp h];exact⟨L,U,()⟩⟩
  have Z:=q _ _ _ fin;have Z:zq (λρ P=>P ρ .imm (.bool true)) { nx:=λ_=>True,rt:=λ_ _=>False,rs:=λρ d=>∃fss,CV ρ 0 [AO.p,AO.d (.int n),AO.b G (some C) I (kF D n e j ps),AO.b u none v (sF k e j ps)] fss/\P fss d } (RD (CT (CP K) Tt.T) n G u (aM (some C) I (kF D n (e.filter λq=>decide (q≠r)) j (ps++[(e,j)]))) (aM none v (sF k (e.filter λq=>decide (q≠r)) j (ps++[(e,j)]))) (.im (.int J)) (.sh (.list (e.map rD))) .any .any (.im (.int r.1))):=.inr ⟨rfl,(λz=>nomatch z),[kF D n (e.filter λq=>decide (q≠r)) j (ps++[(e,j)]),sF k (e.filter λq=>decide (q≠r)) j (ps++[(e,j)])],⟨rfl,rfl,trivial⟩,Z⟩;by_cases z:1<⇑(inP (pcI (out2.map dY) n) g)
  ·rw[dP z];exact⟨(λz=>nomatch z),Z⟩
  ·rw[dQ z];exact⟨(λz=>nomatch z),Z⟩
 refine⟨_,_,⟨_,_,.inl rfl⟩,(fB ..).2.2,zK,qY (K4 ps) ∅,rfl,?_⟩;have hps:ps=[]\/∃o t m,ps=o++[(t,m)]:=by
  rcases List.eq_nil_or_concat ps with h|⟨o,⟨t,m⟩,h⟩
  ·exact .inl h
  ·exact .inr ⟨o,t,m,by rw[h,List.concat_eq_append]⟩
 obtain rfl|⟨o,t,m,rfl⟩:=hps
 ·exact bw (A:=True) (.inr (.inr ⟨rfl,[kF D n e j [],sF k e j []],⟨rfl,rfl,trivial⟩,q _ _ _ ⟨L,U,(),Nat.zero_le _,λ_ h=>nomatch h⟩⟩))
 ·have em:PyData.eqv (.list ((o++[(t,m)]).map fD)) (.list [])=false:=by
   cases o <;> rfl
  show if(!(PyData.eqv (.list ((o++[(t,m)]).map fD)) (.list [])))=true then _ else _
  rw[em];refine bC (B:=True) ?_;have lk:List.lookup (aw:Str) (sF k e j (o++[(t,m)]))=some (.ls k (o.map fD++[.tuple [.list (t.map rD),.int m]])):=(fB ..).2.2.trans (by rw[List.map_append];rfl);refine⟨u,v,_,k,o.map fD,.list (t.map rD),.int m,rfl,lk,rfl,Dj ..,(show 3<900 by decide),⟨?_,?_⟩,?_⟩
  ·show(ag:Str)∈([ag,ah,aw]:List Str);decide +kernel
  ·show(ah:Str)∈([ag,ah,aw]:List Str);decide +kernel
  have V:aZ ah (.nb (.int m)) (aZ ag (.nb (.list (t.map rD))) (aZ aw (.ls k (o.map fD)) (sF k e j (o++[(t,m)]))))=sF k t m o:=by
   unfold sF;rw[(jK (d:=.none) ..).2.2,(jK (es:=[]) ..).1,(jK (es:=[]) ..).2.1]
  dsimp only;show zq _ _ ((forget u (RD (CT (CP K) Tt.T) n G u (aM (some C) I (kF D n e j (o++[(t,m)]))) (aM none v (sF k e j (o++[(t,m)]))) (.im (.int J)) (.sh (.list (e.map rD))) .any .any .any)).set 3 (.gn u (aM none v (aZ ah (.nb (.int m)) (aZ ag (.nb (.list (t.map rD))) (aZ aw (.ls k (o.map fD)) (sF k e j (o++[(t,m)]))))))));rw[V,fg2 _ x rfl rfl rfl rfl rfl];refine⟨G,I,_,rfl,S,(cX ..).2.2.2.2.2.2.2.1,(λ_ h=>nomatch h),D,n,e,j,o,t,m,rfl,rfl,(λa h=>h),?_⟩;dsimp only;rw[fg1 _ x rfl rfl rfl rfl rfl];let⟨pk',pf,pM⟩:=ok.past (t,m) (by simp);rw[List.length_append,List.length_singleton]at lpM;refine⟨(λz=>nomatch z),.inr ⟨rfl,(λz=>nomatch z),[kF D n t m o,sF k t m o],⟨rfl,rfl,trivial⟩,q _ _ _ ⟨pk',pf,(),(),λp hp=>?_⟩⟩⟩;have:=ok.past p (by simp[hp]);exact⟨this.1,this.2.1,()⟩
def Iz(K:W.Frag)(T:Pn):Sp:=λvs H Q _=>∃(a:Addr)(ns:eg),vs=[.ref a]/\SqL K H a (ns.map V.int)/\T.PI H/\(∀p c ns b,Apart (Gu p c ns b) T)/\∀H',Q (.bl true) H'
def U6{p c PT:Addr}{ns:eg}{b:Bool}:Apart (Gu p c ns b) (yq PT):=λH ⟨⟨x,y,h1⟩,h2⟩ ⟨ps,h,_⟩ d hb a=>by
 have a:d=PT:=a;subst a;rcases hb with rfl|⟨e,rfl⟩
 ·rw[h1]at h;cases h
 ·rcases h2 e with z|⟨o,z⟩ <;> (rw[z]at h;cases h)
def Ir{T p:Pn}(h:Apart p T):Sub T (p.plus T):=⟨λa z=>.inr z,λH z=>z.2,λH H' z k t=>⟨p.mono H H' z.1 λb o y e=>k b o e (y.elim (h H z.1 z.2 b) λfx=>Bm z.2 e fx),t⟩⟩
def P0[Tt]{K:W.Frag}{T:DS}{N:List Str}{H:Hp}{Q:VK}{f:Addr}{ns:eg}(m:SqL K H f (ns.map V.int))(q:Tt.T.PI H/\(∀p c ns b,Apart (Gu p c ns b) Tt.T)/\∀H',Q (.bl true) H')(hN:2<=⇑N)(i:T { nx:=λ_=>False,rt:=λd=>d=.bool true } (.any::.pen (CT (CP K) Tt.T)::List.replicate (⇑N - 2) .any)) :
  Vm (rF (xQ Ar [] E0 (Ip (jJ 0) Nt)) (jC 1)) (j9 T) { nx:=λ_ H'=>Q .non H',rt:=Q } (L2.start N [.ref f]) H:=by
 refine⟨_,rfl,f,rfl,λp H1 hp sm hp1=>?_⟩;show j9 T _ ((L2.start N [.ref f]).set 1 (some (.ref p))) _;have g:∀b,(b=true->p≠f)->(b=false->∀H,SqL K H f (ns.map V.int))->(b=true->Rd H1 f (.lst (ns.map V.int)))->j9 T { nx:=λ_ H'=>Q .non H',rt:=Q } ((L2.start N [.ref f]).set 1 (some (.ref p))) H1:=by
  intro b h1 h2 l;refine⟨(Gu p f ns b).plus Tt.T,H1,λ_=>none,_,_,?_,i,⟨λ_ _ _ _ _ _ n=>n.elim,λd v H' n w=>?_,λ_ _ _ _ _ _ n=>n.elim,λ_ _ _ _ _ _ n=>n.elim⟩⟩
  ·have hl:⇑(L2.start N [.ref f])=⇑N:=by unfold L2.start;simp;lia
   refine⟨λb o e _=>e,⟨⟨⟨0,0,hp1⟩,l⟩,Tt.T.mono H H1 q.1 λb o _ e=>sm b o e⟩,λa r e=>(nomatch e),λj s e=>?_,by rw[List.length_set,hl,List.length_cons,List.length_cons,List.length_replicate];lia,Ir (q.2.1 _ _ _ _)⟩;rcases j with _|_|j
   ·cases e;trivial
   ·cases e;exact⟨List.getElem?_set_self (by rw[hl];lia),Gu p f ns b,⟨p,f,ns,b,h1,h2,rfl⟩,q.2.1 _ _ _ _,rfl⟩
   ·rw[List.getElem?_cons_succ,List.getElem?_cons_succ]at e;have k:=(List.mem_replicate.mp (List.mem_of_getElem? e)).2;subst k;trivial
  ·have n:d=.bool true:=n;subst n;have r:=w.rp;cases r;exact q.2.2 H'
 rcases m with h|h
 ·have hn:p≠f:=by
   rintro rfl;rcases h with z|⟨o,z⟩ <;> rw[hp]at z <;> cases z
  exact g true (λ_=>hn) (λz=>nomatch z) λ_=>h.elim (λz=>.inl (sm _ _ z)) λ⟨o,z⟩=>.inr ⟨o,sm _ _ z⟩
 ·exact g false (λz=>nomatch z) (λ_ H=>.inr h) λz=>nomatch z
theorem Fj{P:DEnds}{ρ:List Sl}{i:Nat}{k:Kd}{d:D}(e:eV d=true)(h:P.nx (ρ.set i (.im d))):(match Dl.stK none ρ i (norm k d) d with
 |some s=>P.nx (ρ.set i s)
 |none=>False):=by
 rw[eU e];exact h
def Ld(us:eh):bA 0 ⇑us=us.zipIdx.map λp=>PyData.int (~~~p.2):=by
 refine List.ext_getElem? λi=>?_;unfold bA;rw[List.getElem?_map,List.getElem?_map,List.getElem?_zipIdx];by_cases h:i<⇑us
 ·rw[List.getElem?_range h,List.getElem?_eq_getElem h];simp
 ·rw[List.getElem?_eq_none (by rw[List.length_range];lia),List.getElem?_eq_none ()];rfl
def N7{us:eh}{r:T3}(h:r∈bL us):∃k:Nat,r.1=(~~~k)/\us[k]?=some (r.2.1,r.2.2):=by
 unfold bL at h;let⟨⟨t,k⟩,hp,rfl⟩:=List.mem_map.mp h;exact⟨k,rfl,List.mem_zipIdx_iff_getElem?.mp hp⟩
def vm(us:eh):⇑(bL us)=⇑us:=by unfold bL;rw[List.length_map,List.length_zipIdx]
def Jg{n:Int}{us:eh}(b:1<=n)(a:n<=16)(ok:OkW n us)(l:⇑us<=36):KOk n (bL us) (⇑us:Int):=by
 refine⟨b,a,by rw[vm];lia,λr hr=>?_,?_,()⟩
 ·let⟨k,h1,h2⟩:=N7 hr;have c:=(List.getElem?_eq_some_iff.mp h2).1;have:=ok _ (List.mem_of_getElem? h2);exact⟨⟨(),()⟩,this⟩
 ·have e:(bL us).map (·.1)=(List.range ⇑us).map λk=>(~~~k):=by
   refine List.ext_getElem? λi=>?_;unfold bL;rw[List.getElem?_map,List.getElem?_map,List.getElem?_map,List.getElem?_zipIdx];by_cases h:i<⇑us
   ·rw[List.getElem?_range h,List.getElem?_eq_getElem h];simp
   ·rw[List.getElem?_eq_none (():⇑us<=i),List.getElem?_eq_none (by rw[List.length_range];lia)];rfl
  rw[e];exact List.pairwise_map.mpr (List.nodup_range.imp λh e=>h ())
def ga_int(k:Nat)(i:Int):GA k (.int i):=by
 cases k with
 |zero=>exact .inr (.inr (.inl ⟨_,rfl⟩))
 |succ k=>exact .inl (.inr (.inr (.inl ⟨_,rfl⟩)))
def wV{a:List T3}(h:⇑a<=100):GA 3 (.list (a.map rD)):=.inr ⟨_,.inl rfl,by rw[List.length_map];exact h,λx hx=>by
 let⟨r,_,rfl⟩:=List.mem_map.mp hx;refine .inr ⟨[.int r.1,.int r.2.1,.int r.2.2],.inr rfl,by show 3<=100;decide,λx hx=>?_⟩;simp at hx;rcases hx with rfl|rfl|rfl <;> exact ga_int _ _⟩
def Ej(n:Int)(us:eh):tO 3 (bB n us):=g8 λx a=>by
 simp at a;rcases a with rfl|rfl
 ·exact qX _ _
 ·refine g8 λx a=>?_;let⟨t,_,rfl⟩:=List.mem_map.mp a;refine g8 λx a=>?_;have a:x∈([.int t.1,.int t.2]:ez):=a;simp at a;rcases a with rfl|rfl <;> exact qX _ _
def Jb:FnScope [az,aa,av,"_law_web_here",dl,"_law_kept",bc,bi,"_law_turn",am] [az] (aC (top 49)):=zC
def Kr:([be,az,aa,av,"_law_web_here",dl,"_law_kept",bc,bi,"_law_turn",am]:List Str).Nodup:=⋯
def Ti{m:Addr}(F:Fun K "law" "law" (top 49) f fd)(B:Dl.Bn mg)(G:1∪ce∪[az]∪Ar)(u:kA8 P w K mg fw)(I:3∪cu∪[aa,av]∪spP (CP K) Wv)(v:kA9 P w K mg fw)(J:13∪cc∪[aa,av,bc,bi]∪spO (CT (CP K) Tt.T) (Rg m))(D:Dl.CalC P w K mg fw m 7 "Keeper" [af,ai] LC)(e:Dl.CalM P w K mg fw m 1 cn [af] (spQ m Cd)):14∩[az]∩Iz K Tt.T:=by
 refine F.ok Jb (λvs H Q E h=>by let⟨a,ns,rfl,_⟩:=h;rfl) (λcdv A outer s H vs Q E hr h=>?_);let⟨W,ns,rfl,O,q⟩:=h;have l:=Jb.nd;refine⟨_,(cA (eN (i:=1) l rfl zQ (pcS G hr (bV (pv 0) dG) ∅ rfl ∅ rfl rfl)) (Wr.WDSs.h (Wr.aA (Wr.aW none (i:=2) l rfl zQ (Wr.aG (Wr.cg (Wr.aj (Wr.bT Wr.aq (Wr.dcP (Dl.Cal.plus (T:=Tt.T) u) hr (Wr.wv 1) (Wr.aj Wr.aq Wr.ak))) (Wr.aj Wr.aq Wr.ak))) (Wr.nU B.int Ta (Wr.aj (Wr.jr hr.units (Wr.dcP (Dl.Cal.plus (T:=Tt.T) u) hr (Wr.wv 1) (Wr.aj Wr.aq Wr.ak)) Wr.aq) Wr.ak))))
  (Wr.aA (Wr.aW none (i:=3) l rfl zQ (Wr.dcP (Dl.Cal.plus (T:=Tt.T) I) hr (Wr.wv 1) (Wr.aj (Wr.dv 2) Wr.ak)))
  (Wr.aA (Wr.zM none [be] (i:=4) rfl l rfl zQ (Wr.cZ B.range (Wr.aj (Wr.cW B.len (Wr.aj (Wr.aG (Wr.dv 3) Wr.aq) Wr.ak)) Wr.ak)) (λc=>(Wr.aH (i:=0) Kr rfl zQ)) (λc=>Wr.cM) (λc=>(Wr.aL (Wr.aj (Wr.dv 0) (Wr.aj (Wr.aG (Wr.aG (Wr.aG (Wr.dv 4) Wr.aq) (Wr.dv 0)) Wr.aq) (Wr.aj (Wr.aG (Wr.aG (Wr.aG (Wr.dv 4) Wr.aq) (Wr.dv 0)) Wr.aq) Wr.ak))))))
  (Wr.aA (Wr.aW none (i:=5) l rfl zQ (Wr.aL (Wr.aj (Wr.aG (Wr.dv 3) Wr.aq) (Wr.aj (Wr.jo B.tuple (Wr.aj (Wr.nQ B.list (Wr.aj (Wr.aG (Wr.dv 3) Wr.aq) Wr.ak)) Wr.ak)) Wr.ak))))
  (Wr.aA (Dl.Qd (i:=6) (r:=56) D hr l rfl zQ (Wr.aj (Wr.dv 3) Wr.ak))
  (Wr.aA (Dl.Mi (i:=7) 57 l rfl zQ (Wr.dv 4) (Wr.cW B.len (Wr.aj (Wr.dv 4) Wr.ak)))
  (Wr.aA (Wr.d7 PassesOwn.never rfl (Wr.cZ B.range (Wr.aj (Wr.dcP (Dl.Cal.plus (T:=Tt.T) u) hr (Wr.wv 1) (Wr.aj Wr.aq Wr.ak)) Wr.ak)) (Wr.aH (i:=8) l rfl zQ) (Wr.aA (Wr.aW (some 0) (i:=9) l rfl zQ (Dl.uX e hr (Wr.wv 6)))
  (Wr.aA (Wr.cR (Wr.cC (Wr.bR (Wr.dc v hr (Wr.aj (Wr.dv 9) (Wr.aj (Dl.bU (Dl.dI (eX hr) (Wr.wv 7))) Wr.ak))))) (Wr.aF (Wr.aJ Wr.iH)) Wr.aU)
  (Wr.aA (Wr.ji (Wr.wv 9) (Wr.aj (Wr.aL (Wr.aj Wr.aq (Wr.aj Wr.aq (Wr.aj Wr.aq Wr.ak)))) Wr.ak))
  (Wr.aA (Dl.Uu (Dl.Vc (Wr.cC (Wr.bR (Wr.dc v hr (Wr.aj (Dl.uX e hr (Wr.wv 6)) (Wr.aj (Dl.bU (Dl.dI (eX hr) (Wr.wv 7))) Wr.ak))))) (Dl.Ro (Dl.Rm (Dl.y_o J hr (Dl.x_n (Wr.wv 1) (Dl.x_d (Wr.dv 2) (Dl.x_n (Wr.wv 6) (Dl.x_n (Wr.wv 7) Dl.Vg)))))))) (Wr.aF (Wr.aJ Wr.iH)) Wr.aU) (Wr.aQ [8,9] Wr.aU))))))
  (Wr.aQ [8,9] (Wr.aF (Wr.aJ (Wr.fC (Wr.dc v hr (Wr.aj (Dl.uX e hr (Wr.wv 6)) (Wr.aj (Dl.bU (Dl.dI (eX hr) (Wr.wv 7))) Wr.ak))) (Wr.gW (Wr.jr hr.units (Wr.dv 3) (Wr.dv 5)))))))))))))))),P0 O q ∅ ?_⟩
 refine⟨rfl,8,rfl,∅,∅,λr r0 r1=>⟨zK,rfl,16,rfl,∅,∅,λr2 a0 a1=>?_⟩⟩;obtain⟨n,hn,y,o⟩:∃n:Int,atI [PyData.int (1+r),PyData.int 16] (if decide (r2=15)=true then 1 else 0)=some (.int n)/\1<=n/\n<=16:=by
  by_cases c:r2=15
  ·rw[fy c];exact⟨16,rfl,∅,∅⟩
  ·rw[dC c];exact⟨1+r,rfl,(),()⟩
 refine⟨.int n,hn,?_⟩;refine⟨rfl,n,rfl,y,o,λus oku su lu=>?_⟩;refine Fj (d:=bB n us) (jy _ _) ?_;have x:⇑(us.map pD)=⇑us:=List.length_map ..;refine⟨.tuple (us.map pD),rfl,⟨by rw[x];lia,by rw[x];lia⟩,?_⟩;rw[show((⇑(us.map pD):Int)).toNat=⇑us by rw[x];lia];refine Bu us.zipIdx (λp=>PyData.int (~~~p.2)) (λp=>rD (~~~p.2,p.1.1,p.1.2)) .imm (Ld us) (by rw[List.length_zipIdx];lia) ?_ ?_
 ·rintro⟨t,k⟩ hk A B N;have hk:us[k]?=some t:=List.mem_zipIdx_iff_getElem?.mp hk;have z:atI (us.map pD) (~~~k)=some (pD t):=fW (by rw[List.getElem?_map,hk];rfl);exact bC (B:=True) ⟨_,rfl,_,z,_,rfl,_,rfl,_,z,_,rfl,zK,rfl,N⟩
 have M:(us.zipIdx.map λp:Tie×Nat=>rD (~~~p.2,p.1.1,p.1.2))=(bL us).map rD:=by
  unfold bL;rw[List.map_map];rfl
 rw[M];have C:=Jg y o oku lu;have S:=vm us;refine⟨_,rfl,_,rfl,.inl ⟨cQ us,zK,?_⟩⟩;refine Fj (d:=bB n us) (jy _ _) ?_;refine⟨List.forall_mem_cons.mpr ⟨?_,(λ_ h=>nomatch h)⟩,rfl,λx1=>⟨n,us,rfl,rfl,y,o,(),oku,su,λl1 hl1=>⟨rfl,?_⟩⟩⟩
 ·show(norm _ (bB n us)).le .shr=true;rw[eU (jy _ _)];rfl
 dsimp only;have R:⇑((bL us).map rD)=⇑us:=by rw[List.length_map,S]
 refine⟨rfl,⟨⋯,⋯,⋯⟩,rfl,rfl,λx2 l2 hl2=>?_⟩;have L:([(ag,.nb (.list ((bL us).map rD))),(ah,.nb (.int (⇑((bL us).map rD):Int))),(aw,.ls l2 [])]:FS)=sF l2 (bL us) (⇑us:Int) []:=by rw[R];rfl
 show Cq _ _ _ [.any,.pen (CT (CP K) Tt.T),.im (.int n),.im (bB n us),.sn (.list ((bL us).map rD)),.im (bB n us),.gn 56 (aM (some m) x1 (kF l1 n (bL us) (⇑us:Int) [])),.gn 57 (aM none x2 [(ag,.nb (.list ((bL us).map rD))),(ah,.nb (.int (⇑((bL us).map rD):Int))),(aw,.ls l2 [])]),.any,.any];rw[L];refine⟨rfl,15,rfl,∅,∅,λtn t0 t15=>⟨⟨(),()⟩,rfl,λi ρ=>∃(g:List T3)(j:Int)(ps:List (List T3×Int)),ρ=[.any,.pen (CT (CP K) Tt.T),.im (.int n),.im (bB n us),.sn (.list ((bL us).map rD)),.im (bB n us),.gn 56 (aM (some m) x1 (kF l1 n g j ps)),.gn 57 (aM none x2 (sF l2 g j ps)),.any,.any]/\SOk (36+i) n g j ps,⟨_,_,_,rfl,C,(),(),Nat.zero_le _,λ_ h=>nomatch h⟩,?_,?_⟩⟩
 ·rintro i d ρ hd ⟨g,j,ps,rfl,ok⟩;let⟨hi,rfl⟩:=cY hd;have U:=ok.ok.len;have V:⇑(g.map rD)=⇑g:=List.length_map ..;refine⟨_,⟨_,_,.inl rfl⟩,(cX ..).2.2.2.2.1,l1,n,g,j,ps,rfl,rfl,(),?_⟩;refine⟨_,_,⟨_,_,.inl rfl⟩,(fB ..).1,.list (g.map rD),rfl,wV (),bw (A:=True) ?_⟩;refine⟨zK,rfl,by rw[V];lia,?_⟩;dsimp only;refine⟨_,⟨_,_,.inl rfl⟩,(cX ..).2.2.2.2.1,l1,n,g,j,ps,rfl,rfl,(),?_⟩;refine⟨_,_,⟨_,_,.inl rfl⟩,(fB ..).1,.list (g.map rD),rfl,wV (),bw (A:=True) ?_⟩;refine⟨.inr ⟨_,rfl⟩,.inl ⟨_,_,rfl⟩,.inl ⟨_,_,rfl⟩,[.p,.d (.int n),.b 56 (some m) x1 (kF l1 n g j ps),.b 57 none x2 (sF l2 g j ps)],.p rfl (.d rfl (.b rfl (.b rfl .nil))),56,57,x1,x2,l1,l2,36+i,n,g,j,ps,rfl,∅,∅,∅,(),ok,λrs' fr' ps' ok'=>?_⟩;exact bw (A:=True) ⟨rs',fr',ps',rfl,ok'⟩
 ·rintro ρ ⟨g,j,ps,rfl,ok⟩;have U:=ok.ok.len;refine⟨_,⟨_,_,.inl rfl⟩,(cX ..).2.2.2.2.1,l1,n,g,j,ps,rfl,rfl,(),?_⟩;refine⟨_,_,⟨_,_,.inl rfl⟩,(fB ..).1,.list (g.map rD),rfl,wV (),bC (B:=True) ⟨qY (Ej n us) ∅,qY (Ej n us) ∅,rfl,?_⟩⟩;show PyData.bool (PyData.eqv (bB n us) (bB n us))=_;have:=PN n n us us;unfold bB;rw[this,fy ⟨rfl,rfl⟩]
end
theorem len1{α:Type}:∀us:List α,⇑us=1->∃a,us=[a]
 |[a],_=>⟨a,rfl⟩
theorem len2{α:Type}:∀us:List α,⇑us=2->∃a b,us=[a,b]
 |[a,b],_=>⟨a,b,rfl⟩
theorem XM{α:Type}:∀us:List α,⇑us=3->∃a b c,us=[a,b,c]
 |[a,b,c],_=>⟨a,b,c,rfl⟩
theorem XJ{α:Type}:∀us:List α,⇑us=4->∃a b c d,us=[a,b,c,d]
 |[a,b,c,d],_=>⟨a,b,c,d,rfl⟩
def aD{K:W.Frag}{f:Addr}{b:Value}{c:et}{a:Yt}{d:Array ew}(l:K.lookup f=some ⟨b,c,.func a,d⟩):W.keepIn K (.ref f)=true:=by
 unfold W.keepIn;simp only[l]
def U3{P:Za}{w:Zb}{K:W.Frag}{mg:Str->ew}{fw:Heap}{k:Nat}{x:Str}{st:ZF}{f:Addr}{a:Yt}{ps:List Str}{sp:Sp}(F:Fun K x x st f a)(b:Binds K a ps [])(m:mg x=some (.ref f))(h:FnOk P w K mg fw CX0 k f a ps sp) :
  k∪x∪ps∪sp:=⟨f,a,h,b,F.kp,m⟩
abbrev zl(K:W.Frag)(f:Addr)(x:Str)(st:ZF)(oc:Value)(od:et)(kV dc pm:Value)(an:et)(cd ct:Value)(sl:Array ew):Prop:=K.lookup f=some ⟨oc,od,.func (W.fnOf x x (cF st) (bG st) (aC st) .none kV dc pm an cd ct),sl⟩
abbrev za(K:W.Frag)(x:Str)(f:Addr):Prop:=W.nsIn K mainGlobals x=some (some (.ref f))
abbrev zc(K:W.Frag)(x:Str)(cd:Value):Prop:=W.codeIn K cd x=true
abbrev zn(K:W.Frag)(x:Str):Prop:=W.nsIn K mainGlobals x=some none
def all_mk{l:W.OpenLaw}{w:Zb}{K:W.Frag}{h:Heap}{mg:Str->ew}{d kb PT fa f0 f1 f2 f3 f4 f5 f6 f7 f8 f9 f10 f11 f12 f13 f14 f15 f16 f17 f18 f19 f20 f21 f22 f23 r t x y z A C D E f33 f34 f35 f36 f37 f38 f39 f40 f41:Addr}(hT:∀Q∈([PT]:List Addr),h.get? Q=some (W.tabObj #[]))(X:K.In h)(G:h.Ns mainGlobals mg)(hfa:mg "law"=some (.ref fa)){od0 an0 od1 an1 od2 an2 od3 an3 od4 an4 od5 an5 od6 an6 od7 an7 od8 an8 od9 an9 od10 an10 od11 an11 od12 an12 od13 an13 od14 an14 od15 an15 od16 an16 od17 an17 od18 an18 od19 an19 od20 an20 od21 an21 od22 an22 od23 an23 od24 an24 od25 an25 od26 an26 od27 an27 od28 an28 od29 an29 od30 an30 od31 an31 od32 an32 od33 an33 od34 an34 od35 an35 od36 an36 od37 an37 od38 an38 od39 an39 od40 an40 od41 R:et}{sl0 sl1 sl2 sl3 sl4 sl5 sl6 sl7 sl8 sl9 sl10 sl11 sl12 sl13 sl14 sl15 sl16 sl17 sl18 sl19 sl20 sl21 sl22 sl23 sl24 sl25 sl26 sl27 sl28 sl29 sl30 sl31 sl32 sl33 sl34 sl35 sl36 sl37 sl38 sl39 sl40 sl41:Array ew}{oc0 kV0 dc0 pm0 cd0 ct0 oc1 kV1 dc1 pm1 cd1 ct1 oc2 kV2 dc2 pm2 cd2 ct2 oc3 kV3 dc3 pm3 cd3 ct3 oc4 kV4 dc4 pm4 cd4 ct4 oc5 kV5 dc5 pm5 cd5 ct5 oc6 kV6 dc6 pm6 cd6 ct6 oc7 kV7 dc7 pm7 cd7 ct7 oc8 kV8 dc8 pm8 cd8 ct8 oc9 kV9 dc9 pm9 cd9 ct9 oc10 kV10 dc10 pm10 S ct10 oc11 kV11 dc11 pm11 U ct11 oc12 kV12 dc12 pm12 Y ct12 oc13 kV13 dc13 pm13 Z ct13 oc14 kV14 dc14 pm14 cd14 ct14 oc15 kV15 dc15 pm15 cd15 ct15 oc16 kV16 dc16 pm16 cd16 ct16 oc17 kV17 dc17 pm17 cd17 ct17 oc18 kV18 dc18 pm18 cd18 ct18 oc19 kV19 dc19 pm19 cd19 ct19 oc20 kV20 dc20 pm20 cd20 ct20 oc21 kV21 dc21 pm21 ct21 oc22 kV22 dc22 pm22 cd22 ct22 oc23 kV23 dc23 pm23 cd23 ct23 oc24 kV24 dc24 pm24 cd24 ct24 oc25 kV25 dc25 pm25 cd25 ct25 oc26 kV26 dc26 pm26 cd26 ct26 oc27 kV27 dc27 pm27 cd27 ct27 oc28 kV28 dc28 pm28 cd28 ct28 oc29 kV29 dc29 pm29 cd29 ct29 oc30 kV30 dc30 pm30 cd30 ct30 oc31 kV31 dc31 pm31 cd31 ct31 oc32 kV32 dc32 pm32 cd32 ct32 oc33 kV33 dc33 pm33 cd33 ct33 oc34 kV34 dc34 pm34 cd34 ct34 oc35 kV35 dc35 pm35 cd35 ct35 oc36 kV36 dc36 pm36 cd36 ct36 oc37 kV37 dc37 pm37 cd37 ct37 oc38 kV38 dc38 pm38 cd38 ct38 oc39 kV39 dc39 pm39 cd39 ct39 oc40 kV40 dc40 pm40 cd40 ct40 oc41 kV41 dc41 pm41 q ct41:Value}{g j:Tok}(aK:za K "Keeper" d)(zpg:W.plainGet K d Str.empty=true)(zhd:W.hasDictIn K d=true)(zpo:W.plainOver K d=true)(zsa:W.findIn K (.ref d) "__setattr__"=some (some (.builtin "object.__setattr__")))(zmk:W.makesIn K d=true)(zkp:W.keepIn K (.ref d)=true)(L:W.findIn K (.ref d) aS=some none)(J:W.findIn K (.ref d) ag=some none)(m:W.findIn K (.ref d) ah=some none)(I:W.findIn K (.ref d) aw=some none)(a0:za K cf f0)(l0:zl K f0 cf (top 11) oc0 od0 kV0 dc0 pm0 an0 cd0 ct0 sl0)(c0:zc K cf cd0)(a1:za K ci f1)(l1:zl K f1 ci (top 12) oc1 od1 kV1 dc1 pm1 an1 cd1 ct1 sl1)(c1:zc K ci cd1)(a2:za K ck f2)(l2:zl K f2 ck (top 13) oc2 od2 kV2 dc2 pm2 an2 cd2 ct2 sl2)(c2:zc K ck cd2)(a3:za K bj f3)(l3:zl K f3 bj (top 14) oc3 od3 kV3 dc3 pm3 an3 cd3 ct3 sl3)(c3:zc K bj cd3)(a4:za K br f4)(l4:zl K f4 br (top 15) oc4 od4 kV4 dc4 pm4 an4 cd4 ct4 sl4)(c4:zc K br cd4)(a5:za K aN f5)(l5:zl K f5 aN (top 16) oc5 od5 kV5 dc5 pm5 an5 cd5 ct5 sl5)(c5:zc K aN cd5)(a6:za K aI f6)(l6:zl K f6 aI (top 17) oc6 od6 kV6 dc6 pm6 an6 cd6 ct6 sl6)(c6:zc K aI cd6)(a7:za K de f7)(l7:zl K f7 de (top 18) oc7 od7 kV7 dc7 pm7 an7 cd7 ct7 sl7)(c7:zc K de cd7)(a8:za K bX f8)(l8:zl K f8 bX (top 19) oc8 od8 kV8 dc8 pm8 an8 cd8 ct8 sl8)(c8:zc K bX cd8)(a9:za K bE f9)(l9:zl K f9 bE (top 20) oc9 od9 kV9 dc9 pm9 an9 cd9 ct9 sl9)(c9:zc K bE cd9)(a10:za K df f10)(l10:zl K f10 df (top 21) oc10 od10 kV10 dc10 pm10 an10 S ct10 sl10)(c10:zc K df S)(a11:za K bo f11)(l11:zl K f11 bo (top 23) oc11 od11 kV11 dc11 pm11 an11 U ct11 sl11)(c11:zc K bo U)(a12:za K db f12)(l12:zl K f12 db (top 24) oc12 od12 kV12 dc12 pm12 an12 Y ct12 sl12)(c12:zc K db Y)(a13:za K cz f13)(l13:zl K f13 cz (top 25) oc13 od13 kV13 dc13 pm13 an13 Z ct13 sl13)(c13:zc K cz Z)(a14:za K dy f14)(l14:zl K f14 dy (top 26) oc14 od14 kV14 dc14 pm14 an14 cd14 ct14 sl14)(c14:zc K dy cd14)(a15:za K bp f15)(l15:zl K f15 bp (top 28) oc15 od15 kV15 dc15 pm15 an15 cd15 ct15 sl15)(c15:zc K bp cd15)(a16:za K cE f16)(l16:zl K f16 cE (top 29) oc16 od16 kV16 dc16 pm16 an16 cd16 ct16 sl16)(c16:zc K cE cd16)(a17:za K bS f17)(l17:zl K f17 bS (top 30) oc17 od17 kV17 dc17 pm17 an17 cd17 ct17 sl17)(c17:zc K bS cd17)(a18:za K bg f18)(l18:zl K f18 bg (top 32) oc18 od18 kV18 dc18 pm18 an18 cd18 ct18 sl18)(c18:zc K bg cd18)(a19:za K cm f19)(l19:zl K f19 cm (top 33) oc19 od19 kV19 dc19 pm19 an19 cd19 ct19 sl19)(c19:zc K cm cd19)(a20:za K "tree" f20)(l20:zl K f20 "tree" (top 34) oc20 od20 kV20 dc20 pm20 an20 cd20 ct20 sl20)(c20:zc K "tree" cd20)(a21:za K bb f21)(l21:zl K f21 bb (top 36) oc21 od21 kV21 dc21 pm21 an21 (.ref kb) ct21 sl21)(c21:zc K bb (.ref kb))(a22:za K cq f22)(l22:zl K f22 cq (top 37) oc22 od22 kV22 dc22 pm22 an22 cd22 ct22 sl22)(c22:zc K cq cd22)(a23:za K bt f23)(l23:zl K f23 bt (top 38) oc23 od23 kV23 dc23 pm23 an23 cd23 ct23 sl23)(c23:zc K bt cd23)(a24:W.findIn K (.ref d) cr=some (some (.ref r)))(l24:K.lookup r=some ⟨oc24,od24,.func (W.fnOf cr da (cF (inClass (top 39) 7)) (bG (inClass (top 39) 7)) (aC (inClass (top 39) 7)) .none kV24 dc24 pm24 an24 cd24 ct24),sl24⟩)(c24:zc K da cd24)(i24:W.isFn K (.ref r)=true)(a25:W.findIn K (.ref d) "back"=some (some (.ref t)))(l25:K.lookup t=some ⟨oc25,od25,.func (W.fnOf "back" "Keeper.back" (cF (inClass (top 39) 10)) (bG (inClass (top 39) 10)) (aC (inClass (top 39) 10)) .none kV25 dc25 pm25 an25 cd25 ct25),sl25⟩)(c25:zc K "Keeper.back" cd25)(i25:W.isFn K (.ref t)=true)(a26:W.findIn K (.ref d) cn=some (some (.ref x)))(l26:K.lookup x=some ⟨oc26,od26,.func (W.fnOf cn "Keeper.ties" (cF (inClass (top 39) 1)) (bG (inClass (top 39) 1)) (aC (inClass (top 39) 1)) .none kV26 dc26 pm26 an26 cd26 ct26),sl26⟩)(c26:zc K "Keeper.ties" cd26)(i26:W.isFn K (.ref x)=true)(a27:W.findIn K (.ref d) "__init__"=some (some (.ref y)))(l27:K.lookup y=some ⟨oc27,od27,.func (W.fnOf "__init__" cy (cF (inClass (top 39) 0)) (bG (inClass (top 39) 0)) (aC (inClass (top 39) 0)) .none kV27 dc27 pm27 an27 cd27 ct27),sl27⟩)(c27:zc K cy cd27)(i27:W.isFn K (.ref y)=true)(a28:W.findIn K (.ref d) ai=some (some (.ref z)))(l28:K.lookup z=some ⟨oc28,od28,.func (W.fnOf ai "Keeper.web" (cF (inClass (top 39) 2)) (bG (inClass (top 39) 2)) (aC (inClass (top 39) 2)) .none kV28 dc28 pm28 an28 cd28 ct28),sl28⟩)(c28:zc K "Keeper.web" cd28)(i28:W.isFn K (.ref z)=true)(a29:W.findIn K (.ref d) dn=some (some (.ref A)))(l29:K.lookup A=some ⟨oc29,od29,.func (W.fnOf dn "Keeper.names" (cF (inClass (top 39) 3)) (bG (inClass (top 39) 3)) (aC (inClass (top 39) 3)) .none kV29 dc29 pm29 an29 cd29 ct29),sl29⟩)(c29:zc K "Keeper.names" cd29)(i29:W.isFn K (.ref A)=true)(a30:W.findIn K (.ref d) bg=some (some (.ref C)))(l30:K.lookup C=some ⟨oc30,od30,.func (W.fnOf bg cK (cF (inClass (top 39) 4)) (bG (inClass (top 39) 4)) (aC (inClass (top 39) 4)) .none kV30 dc30 pm30 an30 cd30 ct30),sl30⟩)(c30:zc K cK cd30)(i30:W.isFn K (.ref C)=true)(a31:W.findIn K (.ref d) "put"=some (some (.ref D)))(l31:K.lookup D=some ⟨oc31,od31,.func (W.fnOf "put" "Keeper.put" (cF (inClass (top 39) 8)) (bG (inClass (top 39) 8)) (aC (inClass (top 39) 8)) .none kV31 dc31 pm31 an31 cd31 ct31),sl31⟩)(c31:zc K "Keeper.put" cd31)(i31:W.isFn K (.ref D)=true)(a32:W.findIn K (.ref d) "drop"=some (some (.ref E)))(l32:K.lookup E=some ⟨oc32,od32,.func (W.fnOf "drop" "Keeper.drop" (cF (inClass (top 39) 9)) (bG (inClass (top 39) 9)) (aC (inClass (top 39) 9)) .none kV32 dc32 pm32 an32 cd32 ct32),sl32⟩)(c32:zc K "Keeper.drop" cd32)(i32:W.isFn K (.ref E)=true)(a33:za K ce f33)(l33:zl K f33 ce (top 41) oc33 od33 kV33 dc33 pm33 an33 cd33 ct33 sl33)(c33:zc K ce cd33)(a34:za K bv f34)(l34:zl K f34 bv (top 42) oc34 od34 kV34 dc34 pm34 an34 cd34 ct34 sl34)(c34:zc K bv cd34)(a35:za K bz f35)(l35:zl K f35 bz (top 43) oc35 od35 kV35 dc35 pm35 an35 cd35 ct35 sl35)(c35:zc K bz cd35)(a36:za K ca f36)(l36:zl K f36 ca (top 44) oc36 od36 kV36 dc36 pm36 an36 cd36 ct36 sl36)(c36:zc K ca cd36)(a37:za K bP f37)(l37:zl K f37 bP (top 45) oc37 od37 kV37 dc37 pm37 an37 cd37 ct37 sl37)(c37:zc K bP cd37)(a38:za K cu f38)(l38:zl K f38 cu (top 46) oc38 od38 kV38 dc38 pm38 an38 cd38 ct38 sl38)(c38:zc K cu cd38)(a39:za K ax f39)(l39:zl K f39 ax (top 47) oc39 od39 kV39 dc39 pm39 an39 cd39 ct39 sl39)(c39:zc K ax cd39)(a40:za K cc f40)(l40:zl K f40 cc (top 48) oc40 od40 kV40 dc40 pm40 an40 cd40 ct40 sl40)(c40:zc K cc cd40)(a41:za K "law" f41)(l41:zl K f41 "law" (top 49) oc41 od41 kV41 dc41 pm41 R q ct41 sl41)(c41:zc K "law" q)(i:W.nsIn K mainGlobals "MOST_PLACES"=some (some (.int 16 g)))(f:W.nsIn K mainGlobals "MOST_TIES"=some (some (.int 40 j)))(z0:zn K "isinstance")(z1:zn K "int")(z2:zn K "bool")(z3:zn K "tuple")(z4:zn K "list")(z5:zn K "len")(z6:zn K "all")(z7:zn K "min")(z8:zn K "max")(z9:zn K "sorted")(z10:zn K "range")(z11:zn K "abs")(z12:zn K cw)(z13:zn K "zip")(z14:zn K "str"){oc_kb:Value}{od_kb:et}{F:el}{sl_kb:Array ew}(lc_kb:K.lookup kb=some ⟨oc_kb,od_kb,.fields F,sl_kb⟩)(v11_kb:F[11]?=some (.ref PT))(N:K.lookup PT=none)(O:W.codeHdIn K kb PT=true)
  :
  ∃(K':W.Frag)(Ps:List Addr)(fd:Yt)(sp:Sp),K'.In h/\(∀PT∈Ps,K'.lookup PT=none)/\(∀PT∈Ps,∃c,W.CodeHd h c PT)/\(∀PT∈Ps,h.get? PT=some (W.tabObj #[]))/\(∀(s:Shared)(u:Value),Yu s fd ⟨[u],[]⟩ [(az,u)]) /\
    (∀fw:Heap,K'.In fw->fw.Ns mainGlobals mg->(∀PT∈Ps,fw.BuiltinsAt mg PT)->(∃o,fw.get? Zn=some o)->FnOk l.prog w K' mg fw CX0 14 fa fd [az] sp)/\∀(H:Hp)(a:Addr)(ns:eg),SqL K' H a (ns.map V.int)->(∀PT∈Ps,H PT=some (.tbl #[]))->sp [.ref a] H (λv _=>v=.bl true) λ_ _ _=>False:=by
 have e:=hfa.symm.trans (W.mg_of X G a41);cases e;have F0:=aR (st:=top 11) l0 c0 (aD l0);have b0:=F0.binds (ps:=[ar]);have m0:=W.mg_of X G a0;have F1:=aR (st:=top 12) l1 c1 (aD l1);have b1:=F1.binds (ps:=["limit",ar]);have m1:=W.mg_of X G a1;have F2:=aR (st:=top 13) l2 c2 (aD l2);have b2:=F2.binds (ps:=[ai,ar]);have m2:=W.mg_of X G a2;have F3:=aR (st:=top 14) l3 c3 (aD l3);have b3:=F3.binds (ps:=[ai,ar]);have m3:=W.mg_of X G a3;have F4:=aR (st:=top 15) l4 c4 (aD l4);have b4:=F4.binds (ps:=[ai,ar]);have m4:=W.mg_of X G a4;have F5:=aR (st:=top 16) l5 c5 (aD l5);have b5:=F5.binds (ps:=[ai,"a","b"]);have m5:=W.mg_of X G a5;have F6:=aR (st:=top 17) l6 c6 (aD l6);have b6:=F6.binds (ps:=[ai,ar]);have m6:=W.mg_of X G a6;have F7:=aR (st:=top 18) l7 c7 (aD l7);have b7:=F7.binds (ps:=["n",ar]);have m7:=W.mg_of X G a7;have F8:=aR (st:=top 19) l8 c8 (aD l8);have b8:=F8.binds (ps:=["n",cn]);have m8:=W.mg_of X G a8;have F9:=aR (st:=top 20) l9 c9 (aD l9);have b9:=F9.binds (ps:=[ar]);have m9:=W.mg_of X G a9;have F10:=aR (st:=top 21) l10 c10 (aD l10);have b10:=F10.binds (ps:=[ar]);have m10:=W.mg_of X G a10;have F11:=aR (st:=top 23) l11 c11 (aD l11);have b11:=F11.binds (ps:=[ai]);have m11:=W.mg_of X G a11;have F12:=aR (st:=top 24) l12 c12 (aD l12);have b12:=F12.binds (ps:=[du,"start"]);have m12:=W.mg_of X G a12;have F13:=aR (st:=top 25) l13 c13 (aD l13);have b13:=F13.binds (ps:=[ai,bn]);have m13:=W.mg_of X G a13;have F14:=aR (st:=top 26) l14 c14 (aD l14);have b14:=F14.binds (ps:=[ai]);have m14:=W.mg_of X G a14;have F15:=aR (st:=top 28) l15 c15 (aD l15);have b15:=F15.binds (ps:=[ai,dm]);have m15:=W.mg_of X G a15;have F16:=aR (st:=top 29) l16 c16 (aD l16);have b16:=F16.binds (ps:=[ai,ba]);have m16:=W.mg_of X G a16;have F17:=aR (st:=top 30) l17 c17 (aD l17);have b17:=F17.binds (ps:=[ai]);have m17:=W.mg_of X G a17;have F18:=aR (st:=top 32) l18 c18 (aD l18);have b18:=F18.binds (ps:=[ai]);have m18:=W.mg_of X G a18;have F19:=aR (st:=top 33) l19 c19 (aD l19);have b19:=F19.binds (ps:=[bh]);have m19:=W.mg_of X G a19;have F20:=aR (st:=top 34) l20 c20 (aD l20);have b20:=F20.binds (ps:=[ai]);have m20:=W.mg_of X G a20;have F21:=aR (st:=top 36) l21 c21 (aD l21);have b21:=F21.binds (ps:=[ag]);have m21:=W.mg_of X G a21;have F22:=aR (st:=top 37) l22 c22 (aD l22);have b22:=F22.binds (ps:=[bh,bn]);have m22:=W.mg_of X G a22;have F23:=aR (st:=top 38) l23 c23 (aD l23);have b23:=F23.binds (ps:=[bh,dA]);have m23:=W.mg_of X G a23;have F24:=aR (st:=(inClass (top 39) 7)) l24 c24 (aD l24);have b24:=F24.binds (ps:=[af,ag,ah]);have m24:L2.Meth K d cr r:=⟨a24,i24,aD l24⟩
 have F25:=aR (st:=(inClass (top 39) 10)) l25 c25 (aD l25);have b25:=F25.binds (ps:=[af]);have m25:L2.Meth K d "back" t:=⟨a25,i25,aD l25⟩
 have F26:=aR (st:=(inClass (top 39) 1)) l26 c26 (aD l26);have b26:=F26.binds (ps:=[af]);have m26:L2.Meth K d cn x:=⟨a26,i26,aD l26⟩
 have F27:=aR (st:=(inClass (top 39) 0)) l27 c27 (aD l27);have b27:=F27.binds (ps:=[af,ai]);have m27:L2.Meth K d "__init__" y:=⟨a27,i27,aD l27⟩
 have F28:=aR (st:=(inClass (top 39) 2)) l28 c28 (aD l28);have b28:=F28.binds (ps:=[af]);have m28:L2.Meth K d ai z:=⟨a28,i28,aD l28⟩
 have F29:=aR (st:=(inClass (top 39) 3)) l29 c29 (aD l29);have b29:=F29.binds (ps:=[af]);have m29:L2.Meth K d dn A:=⟨a29,i29,aD l29⟩
 have F30:=aR (st:=(inClass (top 39) 4)) l30 c30 (aD l30);have b30:=F30.binds (ps:=[af]);have m30:L2.Meth K d bg C:=⟨a30,i30,aD l30⟩
 have F31:=aR (st:=(inClass (top 39) 8)) l31 c31 (aD l31);have b31:=F31.binds (ps:=[af,"a","b"]);have m31:L2.Meth K d "put" D:=⟨a31,i31,aD l31⟩
 have F32:=aR (st:=(inClass (top 39) 9)) l32 c32 (aD l32);have b32:=F32.binds (ps:=[af,dt]);have m32:L2.Meth K d "drop" E:=⟨a32,i32,aD l32⟩
 have F33:=aR (st:=top 41) l33 c33 (aD l33);have b33:=F33.binds (ps:=[az]);have m33:=W.mg_of X G a33;have F34:=aR (st:=top 42) l34 c34 (aD l34);have b34:=F34.binds (ps:=[aa,ay]);have m34:=W.mg_of X G a34;have F35:=aR (st:=top 43) l35 c35 (aD l35);have b35:=F35.binds (ps:=[aa,av]);have m35:=W.mg_of X G a35;have F36:=aR (st:=top 44) l36 c36 (aD l36);have b36:=F36.binds (ps:=[aE]);have m36:=W.mg_of X G a36;have F37:=aR (st:=top 45) l37 c37 (aD l37);have b37:=F37.binds (ps:=[aa,av]);have m37:=W.mg_of X G a37;have F38:=aR (st:=top 46) l38 c38 (aD l38);have b38:=F38.binds (ps:=[aa,av]);have m38:=W.mg_of X G a38;have F39:=aR (st:=top 47) l39 c39 (aD l39);have b39:=F39.binds (ps:=[am,aT]);have m39:=W.mg_of X G a39;have F40:=aR (st:=top 48) l40 c40 (aD l40);have b40:=F40.binds (ps:=[aa,av,bc,bi]) λ_ _ _ _ _ _ us hl=>by let⟨_,_,_,_,rfl⟩:=XJ us hl;rfl
 have m40:=W.mg_of X G a40;have F41:=aR (st:=top 49) l41 c41 (aD l41);have B:Dl.Bn mg:=⟨W.mg_none_of X G z0,W.mg_none_of X G z1,W.mg_none_of X G z2,W.mg_none_of X G z3,W.mg_none_of X G z4,W.mg_none_of X G z5,W.mg_none_of X G z6,W.mg_none_of X G z7,W.mg_none_of X G z8,W.mg_none_of X G z9,W.mg_none_of X G z10,W.mg_none_of X G z11⟩
 have M:=W.mg_none_of X G z12;have N13:=W.mg_none_of X G z13;have N14:=W.mg_none_of X G z14;have k:L2.Cls K d:=⟨zpg,zhd,zpo,zsa⟩
 have T:KT K d:=⟨k,L,J,m,I⟩
 have p:∀h:Heap,K.In h->W.CodeHd h kb PT:=λh X2=>W.codeHd_of_K X2 O;have HP0:∀Q∈([PT]:List Addr),K.lookup Q=none:=(λQ hQ=>by
  simp only[List.mem_cons,List.not_mem_nil,or_false]at hQ;rcases hQ with rfl
  ·exact N)
 have HCE:∀Q∈([PT]:List Addr),∃c,W.CodeHd h c Q:=(λQ hQ=>by
  simp only[List.mem_cons,List.not_mem_nil,or_false]at hQ;rcases hQ with rfl
  ·exact⟨_,p h X⟩)
 refine⟨K,[PT],W.fnOf "law" "law" (cF (top 49)) (bG (top 49)) (aC (top 49)) .none kV41 dc41 pm41 R q ct41,Iz K (yq PT),X,HP0,HCE,hT,λs v=>.of_eq rfl,λfw _ _ hBm SY=>?_,λH a ns hS hT=>⟨a,ns,rfl,hS,⟨_,hT PT List.mem_cons_self,.inl rfl⟩,λ_ _ _ _=>U6,λ_=>rfl⟩⟩;letI:Dl.Tt:=⟨yq PT⟩
 have zc:=λb=>@U3 l.prog w K mg b;have C0:=λfw=>zc fw F0 b0 m0 (yF F0 B);have C1:=λfw=>zc fw F1 b1 m1 (yH F1 B (C0 fw));have C2:=λfw=>zc fw F2 b2 m2 (yG F2 B (C1 fw));have C3:=λfw=>zc fw F3 b3 m3 (pR F3 B (C1 fw));have C4:=λfw=>zc fw F4 b4 m4 (sU F4 B (C2 fw));have C5:=λfw=>zc fw F5 b5 m5 (mj F5 B (C4 fw));have C6:=λfw=>zc fw F6 b6 m6 (mq F6 B (C3 fw));have C7:=λfw=>zc fw F7 b7 m7 (GD F7 B (C1 fw));have C8:=λfw=>zc fw F8 b8 m8 (wG F8 B (W.mg_of X G i) (W.mg_of X G f) (C0 fw) (C7 fw));have C9:=λfw=>zc fw F9 b9 m9 (uO F9 B (C8 fw));have C10:=λfw=>zc fw F10 b10 m10 (Gz F10 B (C9 fw));have C11:=λfw=>zc fw F11 b11 m11 (qD F11 B M);have C12:=λfw=>zc fw F12 b12 m12 (Gx F12 B);have C13:=λfw=>zc fw F13 b13 m13 (Bj F13 B (C12 fw) (C11 fw));have C14:=λfw=>zc fw F14 b14 m14 (Ke F14 B (C13 fw));have C15:=λfw=>zc fw F15 b15 m15 (qC F15 B M);have C16:=λfw=>zc fw F16 b16 m16 (Bh F16 B (C6 fw) (C13 fw) (C15 fw));have C17:=λfw=>zc fw F17 b17 m17 (yJ F17 B (C16 fw));have C18:=λfw=>zc fw F18 b18 m18 (Gy F18 B (C14 fw) (C15 fw) (C17 fw));have C19:=λfw=>zc fw F19 b19 m19 (yI F19 B M);have C20:=λfw=>zc fw F20 b20 m20 (Oz F20 B (C18 fw) (C19 fw) (C17 fw));have C21:=zc fw F21 b21 m21 (V5 l21 c21 p (hBm PT List.mem_cons_self) B);have C22:=λfw=>zc fw F22 b22 m22 (yC F22 B);have C23:=λfw=>zc fw F23 b23 m23 (sS F23 B);have C24:Dl.CalM l.prog w K mg fw d 1 cr [af,ag,ah] (spM d Fe):=⟨⟨r,_,(pW (P:=l.prog) (w:=w) (fw:=fw) F24 B T),b24,m24⟩,k⟩
 have C25:Dl.CalM l.prog w K mg fw d 1 "back" [af] (spM d Cg):=⟨⟨t,_,(sX (P:=l.prog) (w:=w) (fw:=fw) F25 B T),b25,m25⟩,k⟩
 have C26:Dl.CalM l.prog w K mg fw d 1 cn [af] (spQ d Cd):=⟨⟨x,_,(sV (P:=l.prog) (w:=w) (fw:=fw) F26 B T),b26,m26⟩,k⟩
 have C27:Dl.CalC l.prog w K mg fw d 7 "Keeper" [af,ai] LC:=⟨⟨y,_,⟨zmk,a27,i27,zkp⟩,(mY (P:=l.prog) (w:=w) (fw:=fw) F27 B M (C10 fw) T),b27,W.mg_of X G aK⟩⟩
 have C28:Dl.CalM l.prog w K mg fw d 10 ai [af] (spQ d EY):=⟨⟨z,_,(uQ (P:=l.prog) (w:=w) (fw:=fw) F28 B C21 T),b28,m28⟩,k⟩
 have C29:Dl.CalM l.prog w K mg fw d 10 dn [af] (spQ d Lz):=⟨⟨A,_,(qF (P:=l.prog) (w:=w) (fw:=fw) F29 B C21 T),b29,m29⟩,k⟩
 have C30:Dl.CalM l.prog w K mg fw d 11 bg [af] (spQ d Fb):=⟨⟨C,_,(pU (P:=l.prog) (w:=w) (fw:=fw) F30 B (C20 fw) C28),b30,m30⟩,k⟩
 have C31:Dl.CalM l.prog w K mg fw d 12 "put" [af,"a","b"] (spM d Ly):=⟨⟨D,_,(uR (P:=l.prog) (w:=w) (fw:=fw) F31 B (W.mg_of X G f) (C5 fw) (C23 fw) (C22 fw) T C28 C30 C24),b31,m31⟩,k⟩
 have C32:Dl.CalM l.prog w K mg fw d 12 "drop" [af,dt] (spM d Ce):=⟨⟨E,_,(sW (P:=l.prog) (w:=w) (fw:=fw) F32 B (C0 fw) (C22 fw) (C23 fw) T C29 C30 C24),b32,m32⟩,k⟩
 have C33:=λfw=>zc fw F33 b33 m33 (Tg F33 );have n:=λfw=>zc fw F34 b34 m34 (OD F34 B);have C35:=λfw=>zc fw F35 b35 m35 (Kf F35 B (n fw));have C36:=λfw=>zc fw F36 b36 m36 (yD F36 B);have C37:=λfw=>zc fw F37 b37 m37 (wH F37 B (n fw) (C36 fw));have C38:=λfw=>zc fw F38 b38 m38 (Bk F38 B (C37 fw) (n fw) (C35 fw));have C39:=λfw=>zc fw F39 b39 m39 (GJ F39 B N13 N14 b39 m39);have C40:=zc fw F40 b40 m40 (yE F40 B (n fw) (C39 fw) C31 C32 C25);exact Ti F41 B (C33 fw) (n fw) (C38 fw) (C39 fw) C40 C27 C26
end Nf
open PySem.W
local macro_rules
 |`(tactic| k_qdec)=>`(tactic| fail)
local macro_rules
 |`(tactic| o_head (kmHook $k $a $e $t))=>`(tactic| o_head (kHook (λP=>List.append (List.map (λa=>(a,PySem.W.tabObj #[])) $t) ($k P)) (List.append $t $a) (λ_=>by kernel_rfl)))
local macro_rules
 |`(tactic| o_head (kHook $k $a $e))=>`(tactic| (
  refine holds_open (q:=view PySem.Challenge.pw_nofall_k55_names_of_ties Nf.vG) (loose:=[]) (Xt:=λs=>xlAt (view PySem.Challenge.pw_nofall_k55_names_of_ties Nf.vG) [] s&&recOk [] s) (XP:=XL (view PySem.Challenge.pw_nofall_k55_names_of_ties Nf.vG) []) (Yf:=Hook.obs (kHook $k $a $e)) (Ya:=Hook.val (kHook $k $a $e)) (YP:=Hook.says (kHook $k $a $e)) (N:=5812) ?hl (Hook.of (kHook $k $a $e)) (Hook.keeps (kHook $k $a $e)) (λs e=>xl_of s (Bool.and_eq_true_iff.mp e).1) XL.keeps (by rfl) (by rfl) (by rfl) (λs e=>recFacts_of (Bool.and_eq_true_iff.mp e).2) (by rfl) (by first|assumption|decide +kernel) ⋯ ⟨rfl,rfl,rfl,rfl,rfl,⋯⟩ ?hw ?hc))
set_option maxRecDepth 100000 in
set_option maxHeartbeats 0 in
theorem PySem.Challenge.cw_nofall_k55_names_of_ties_holds : PySem.Challenge.rw_nofall_k55_names_of_ties.Holds := by
 w_on;refine PySem.W.holds_law Nf.well λsaid=>?_;k_head
 ·refine Nf.Pg 90 (boot_open (by kernel_rfl) rfl (λs=>by kernel_rfl)) Nf.O7 (λw os=>?_) (λw os=>?_)
  ·show Nf.tX PySem.Challenge.pw_nofall_k55_names_of_ties w os _ 90=Nf.frF _ 90;rw[PySem.W.Fast.frontQ_eq]
   kernel_rfl
  ·show Nf.Ad PySem.Challenge.pw_nofall_k55_names_of_ties w os _ 90=Nf.frB _ 90;rw[PySem.W.Fast.backQ_eq]
   kernel_rfl
 ·w_witness2
 k_fill
 refine L2.Ig (n:=63) (k:=14) (x:="_law_script") (l:=PySem.Challenge.rw_nofall_k55_names_of_ties) (by rfl) rfl ∅ rfl ⟨rfl,∅,∅,rfl⟩ (λw h Y=>PySem.W.kIn_of Y) ?F
 case F =>
  intro w mg fa h KX2 G hmg;let⟨KX,hPT⟩:=L2.Nq KX2 (by
   intro Q hQ;simp only[List.mem_cons,List.not_mem_nil,or_false]at hQ;rcases hQ with rfl <;> kernel_rfl)
  refine' Nf.all_mk hPT KX G hmg ?aK ?zpg ?zhd ?zpo ?zsa ?zmk ?zkp ?zn_size ?zn_rows ?zn_fresh ?zn_past ?a0 ?l0 ?c0 ?a1 ?l1 ?c1 ?a2 ?l2 ?c2 ?a3 ?l3 ?c3 ?a4 ?l4 ?c4 ?a5 ?l5 ?c5 ?a6 ?l6 ?c6 ?a7 ?l7 ?c7 ?a8 ?l8 ?c8 ?a9 ?l9 ?c9 ?a10 ?l10 ?c10 ?a11 ?l11 ?c11 ?a12 ?l12 ?c12 ?a13 ?l13 ?c13 ?a14 ?l14 ?c14 ?a15 ?l15 ?c15 ?a16 ?l16 ?c16 ?a17 ?l17 ?c17 ?a18 ?l18 ?c18 ?a19 ?l19 ?c19 ?a20 ?l20 ?c20 ?a21 ?l21 ?c21 ?a22 ?l22 ?c22 ?a23 ?l23 ?c23 ?a24 ?l24 ?c24 ?i24 ?a25 ?l25 ?c25 ?i25 ?a26 ?l26 ?c26 ?i26 ?a27 ?l27 ?c27 ?i27 ?a28 ?l28 ?c28 ?i28 ?a29 ?l29 ?c29 ?i29 ?a30 ?l30 ?c30 ?i30 ?a31 ?l31 ?c31 ?i31 ?a32 ?l32 ?c32 ?i32 ?a33 ?l33 ?c33 ?a34 ?l34 ?c34 ?a35 ?l35 ?c35 ?a36 ?l36 ?c36 ?a37 ?l37 ?c37 ?a38 ?l38 ?c38 ?a39 ?l39 ?c39 ?a40 ?l40 ?c40 ?a41 ?l41 ?c41 ?g_MOST_PLACES ?g_MOST_TIES ?z0 ?z1 ?z2 ?z3 ?z4 ?z5 ?z6 ?z7 ?z8 ?z9 ?z10 ?z11 ?z12 ?z13 ?z14 ?lc_kb ?v11_kb ?hP0_kb ?hcI_kb
  any_goals (show _=_;k_is)
  case v11_kb=>exact rfl
  case hP0_kb=>kernel_rfl
  case hcI_kb=>kernel_rfl
  all_goals rfl
end
