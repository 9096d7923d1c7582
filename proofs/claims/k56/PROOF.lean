import PyProof.Rows.All
import Wide.All
import OpenK.AllK
import Wide.FinOn
import Lean
import PyProof.EqAt
import PyProof.EqKinds
import PyProof.TupleCall
import PySem.Challenge.RW_nofall_k56_pieces_made_one
set_option genSizeOf false
set_option genSizeOfSpec false
set_option Elab.async false
set_option linter.all false
set_option maxRecDepth 100000
open PySem renaming Program → Za,World → Zb,Params → Zd,DictEntry → Ze,OsState → Zh,treeTable → Zk,importedModules → Zl,wpAny_eqBool_int → Zm,sysModules → Zn,tupleKind → Zo,builtinsNs → Zp,bootBuiltins → Zq,Around → Zr,Scope → Zs,Expr → Zt,starEach → Zu,eval → Zv,backTo → Zw,foldedSetIterable → Zx,backToKw → Zy,keywordEach → Zz,Keyword → ZA,GenState → ZC,Model → ZD,isTrue → ZE,Stmt → ZF,wpAny_mono → ZG,wpAny_Name → ZH,wpAny_Constant_int → ZI,CmpOp → ZJ,compareOp → ZK,behindInMarks → ZL,wpAny_isTrue_Compare1 → ZM,wpAny_truthy_bool → ZN,truthy → ZO,wpAny_execs_nil → ZP,swapsWith → ZQ,assign → ZR,assignEach → ZU,wpAny_assign_Name → ZV,PassesOwn → ZW,wpAny_passesOwn → ZX,pyNext → ZY,letOwnedTupleGo → ZZ,wpAny_pure → Z0,wpAny_load → Z1,rawInt → Z2,rangeSize_one → Z3,call → Z4,binaryOp → Z5,intBits_le_64 → Z6,lastMarks → Z8,sizeLine_eq → Z9,getMethod → Yb,codeAny → Yc,attributeBase → Yd,callWith → Ye,recursionLimit → Yg,cLine → Yh,FuncData → Yi,BindsTo → Yj,wpAny_call → Yk,codeAny_mono → Yl,bindL → Ym,bindC → Yn,Arguments → Yp,noFill_tuple_add → Yq,seq_tuple_add → Yr,IsPart → Ys,wpAny_field → Yu,getItem → Yv,wpAny_holding → Yw,wpAny_callSpecial?_slot → Yx,wpAny_call_entry → Yy,wpAny_newObj_type → Yz,evalPart_none → YA,evalPart_some → YB,subscripted → YE,sliceBounds → YG,slicePick → YH,wpAny_getItem_list_slice → YI,call_list_seq → YJ,typeIs_int → YK,call_meets → YL,cellOf → YM,closureFor → YN,wpAny_standAt → YO,pushCells → YQ,newFunctionEnv → YR,relabel → YS,newList → YT,wpAny_comprehension_free → YU,wpAny_pyIter_list → YV,wpAny_pyIter_tuple → YW,wpAny_newTuple → Xw,wpAny_newList → Xx,collect → Xz,wpAny_runValue → XA,codeAny_builtin → XB,checkCount → XH,PyData → XO,wpAny_loadPart' → XQ,field → XR,wpAny_seqItems → XS,wpAny_setField → XT,wpAny_rule → XU,firstArgMember → XV,wpAny_pyNext_enum_itemD → XW,wpAny_letOwnedTupleGo_enum → XX,wpAny_attempt → XY,wpAny_isInstance → XZ,isSubtype_stop → X0,wpAny_pyIter_slot → X1,valueAt → X3,atKey → X4,tupleKind_room_in1 → X5,ReadsAll → X6,Reads → X7,Const → Wp,SetTable → WA,wpAny_letGo → WP,ZipApart → WU,wpAny_pyIter_zip → WZ,wpAny_setField_rec → W1,wpAny_onRaise → VA,wpAny_updateSeq_pair → VC
open PySem.W renaming SharedT → Zc,boot_o_0 → Zf,boot_heap → Zg,boot_drawn → Zi,boot_toks → Zj,kas_rev → YX,kas_count → Y1,kas_st → Y8,kasC_bind → Y9,kasC_get → Xl,kasC_cons → Xm,kasC_pure → Xo
open PyProof.Rows renaming AllBare → ZB,lt_int → Z7,envOfC → Yo,slicePart_none → Yt,Subscript_ → YC,subscriptTail → YD,subscriptTail_builtinR → YF,bubble → YY,getElem?_mirror_all → YZ,getElem?_bubble → Y0,tuples' → Y2,SortKind → Y3,SortSt → Y4,arrOf → Y5,failedOf → Y6,sortRuns' → Y7,pendingOf → Xn,setPending → Xp,seqObj → Xq,listItems_at → Xr,listUpdate_at → Xs,get?_update_seq → Xu,seqEpoch_at → Xv,size_push' → Xy,entry_proto_collect' → XC,entry_list_iadd' → XD,kind_sorted → XE,plain_sorted → XF,entry_sorted → XG,slot_list_sort → XI,entry_list_sort → XJ,args_list_sort → XM,sortedAll_old → XN,boot_isinstance → X8,boot_list → X9,boot_tuple → We,boot_sorted → Wl,wpS_pure → WB,mirror → WE,wpS_get → WF,wpS_mono → WG,wpS_forRange → WH,wpS_modify → WI,wpS_lift → WN,KskOut → WO,ksk_rest → WS,boot_int → VE,boot_bool → VI
noncomputable section
local macro_rules|`(↑$x)=>`(by simpa using $x)
local macro_rules|`($a∩$b∩$c)=>let i:=Lean.mkIdent;`($(i `FnOk) $(i `P) $(i `w) $(i `K) $(i `mg) $(i `fw) $(i `CX0) $a $(i `f) $(i `fd) $b $c)
local macro_rules|`($a∪$b∪$c∪$d)=>let i:=Lean.mkIdent;`($(i `Dl.Cal) $(i `P) $(i `w) $(i `K) $(i `mg) $(i `fw) $a $b $c $d)
local macro_rules|`(~~~$x)=>`((($x :Nat):Int))
local macro_rules|`(())=>`(by lia)
local macro_rules|`(∅)=>`(by decide)
local macro_rules|`(⋯)=>`(by decide +kernel)
local macro_rules|`(⇑$x)=>`(($x).length)
local macro_rules|`(↥$x)=>`(($x).heap.objs.size)
local macro_rules|`(tactic|let $p:term:=$e)=>do
 let rec go(n:Nat)(p:Lean.Syntax):Lean.MacroM (Lean.TSyntax `rcasesPat):=match n with
  |0=>Lean.Macro.throwUnsupported
  |n+1=>match p with
   |`(⟨$xs,*⟩)=>do
    let ys<-xs.getElems.mapM λx=>do let y<-go n x;`(Lean.Parser.Tactic.rcasesPatLo|$y:rcasesPat)
    `(rcasesPat|⟨$ys,*⟩)
   |`(_)=>`(rcasesPat|_)
   |`($x:ident)=>`(rcasesPat|$x:ident)
   |_=>Lean.Macro.throwUnsupported
 let q<-go 50 p
 `(tactic|obtain $q:rcasesPat:=$e)
abbrev eo:=List PySem.PyData->(PySem.PyData->Prop)->Prop
abbrev er:=List (PySem.Addr×PySem.Obj)
abbrev et:=List (List Int)
abbrev ew:=List Int
abbrev ez:=List (Int×Int)
abbrev eA:=List Nat
abbrev eB:=Array PySem.Value
abbrev eC:=List PySem.Value
abbrev eD:=Option PySem.Addr
abbrev eH:=Option PySem.Value
abbrev eI:=List PySem.PyData
def fy:=@decide_eq_true
abbrev ZS:=PySem.Str
abbrev af:ZS:="_law_pen_here"
abbrev ag:ZS:="_law_found"
abbrev ah:ZS:="_law_ties"
abbrev ai:ZS:="_law_n"
abbrev ar:ZS:="web"
abbrev av:ZS:="thing"
abbrev aw:ZS:="rows"
abbrev ax:ZS:="_law_alike"
abbrev ay:ZS:="self"
abbrev az:ZS:="fresh"
abbrev aE:ZS:="_law_some"
abbrev aI:ZS:="_law_due"
abbrev aN:ZS:="_law_many"
abbrev aS:ZS:="_law_keeper"
abbrev aT:ZS:="_law_k"
abbrev ba:ZS:="check_tie_number"
abbrev bb:ZS:="check_two_places"
abbrev bc:ZS:="size"
abbrev be:ZS:="number"
abbrev bg:ZS:="pieces"
abbrev bh:ZS:="_law_script"
abbrev bi:ZS:="in_order"
abbrev bj:ZS:="_law_a"
abbrev bn:ZS:="is_tie_number"
abbrev bo:ZS:="sets"
abbrev bp:ZS:="past"
abbrev bq:ZS:="place"
abbrev br:ZS:="steps_of_web"
abbrev bt:ZS:="without_ties"
abbrev bu:ZS:="_law_reached"
abbrev bv:ZS:="check_place"
abbrev bz:ZS:="sets_within"
abbrev bE:ZS:="_law_pieces"
abbrev bN:ZS:="_law_draw"
abbrev bP:ZS:="_law_order"
abbrev bS:ZS:="is_one_way"
abbrev bX:ZS:="_law_share"
abbrev ca:ZS:="_law_shape"
abbrev cb:ZS:="_law_piece"
abbrev cc:ZS:="cut_ties"
abbrev ce:ZS:="makes_web"
abbrev cf:ZS:="_law_ring"
abbrev ci:ZS:="_law_pick"
abbrev ck:ZS:="_law_half"
abbrev cm:ZS:="_law_b"
abbrev cn:ZS:="_law_pen"
abbrev cq:ZS:="is_whole"
abbrev cr:ZS:="is_below"
abbrev cu:ZS:="is_place"
abbrev cw:ZS:="homes_of"
abbrev cy:ZS:="set_with"
abbrev cz:ZS:="_law_web"
abbrev cE:ZS:="_law_cut"
abbrev cK:ZS:="_law_put"
abbrev da:ZS:="enumerate"
abbrev db:ZS:="Keeper.__init__"
abbrev de:ZS:="_law_behind"
abbrev df:ZS:="part_of"
abbrev di:ZS:="side_of"
abbrev dl:ZS:="become"
abbrev dm:ZS:="_law_start"
abbrev dn:ZS:="_law_ahead"
abbrev dq:ZS:="_law_later"
abbrev dr:ZS:="Keeper.pieces"
abbrev dt:ZS:="Keeper.become"
abbrev du:ZS:="_law_cut_here"
abbrev dy:ZS:="search"
abbrev dA:ZS:="is_tie"
abbrev dC:ZS:="is_web"
abbrev dE:ZS:="_law_told"
abbrev dL:ZS:="numbers"
abbrev dP:ZS:="tie"
abbrev dQ:ZS:="steps"
abbrev dS:ZS:="parts"
abbrev dV:ZS:="great"
def d4:=@decide_eq_false
def d5:=@of_decide_eq_true
def d6:=@decide_eq_true_eq
def ed:=@if_pos
def ee:=@if_neg
def ef:=@absurd
def eh:=@congrArg
def ei:=@beq_self_eq_true
def el:=@eq_of_beq
abbrev em:=PySem.Value->PySem.Shared->Prop
open PySem PyProof.Rows
namespace Nf
open PySem.W
def qw(b:String->Option Builtin)(p:Za)(w:Zb)(m:Nat)(a:eH):Nat->Zc->Thread->Option Zc
 |0,_,_=>none
 |n+1,s,t=>match through t with
  |true=>some s
  |false=>match stepOk m a t with
   |false=>none
   |true=>match stepT (denote b) p w s t with
    |none=>none
    |some r=>qw b p w m a n r.1 r.2
theorem uD{c:String->Option Builtin}{p:Za}{w:Zb}{m:Nat}{a:eH}:∀{n:Nat}{s b:Zc}{t:Thread},qw c p w m a n s t=some b->topRun c p w m a n s.abs t=some b.abs
 |0,_,_,_,h=>by cases h
 |n+1,s,b,t,h=>by
  unfold qw at h;unfold topRun;cases he:through t with
  |true=>rw[he]at h;cases h;rfl
  |false =>
   rw[he]at h;cases hk:stepOk m a t with
   |false=>rw[hk]at h;cases h
   |true =>
    rw[hk]at h;cases hs:stepT (denote c) p w s t with
    |none=>rw[hs]at h;cases h
    |some r=>let⟨d,t2⟩:=r;rw[hs]at h;rw[stepT_spec hs];exact uD h
def sS(P:Zd):List Ze:=match(Zf P).data with|.dict es _=>es.toList|_=>[]
def iZ(P:Zd)(i:Nat):List Ze:=((sS P).drop i).take 16
def b0(P:Zd):List Ze:=by
 refine(?f:(l:List Ze)->l=iZ P 0->List Ze) ?l ?h
 case f=>exact λl _=>l
 case h=>unfold iZ sS Zf;dsimp only[List.drop,List.take];exact rfl
def b1(P:Zd):List Ze:=by
 refine(?f:(l:List Ze)->l=iZ P 16->List Ze) ?l ?h
 case f=>exact λl _=>l
 case h=>unfold iZ sS Zf;dsimp only[List.drop,List.take];exact rfl
def b2(P:Zd):List Ze:=by
 refine(?f:(l:List Ze)->l=iZ P 32->List Ze) ?l ?h
 case f=>exact λl _=>l
 case h=>unfold iZ sS Zf;dsimp only[List.drop,List.take];exact rfl
def b3(P:Zd):List Ze:=by
 refine(?f:(l:List Ze)->l=iZ P 48->List Ze) ?l ?h
 case f=>exact λl _=>l
 case h=>unfold iZ sS Zf;dsimp only[List.drop,List.take];exact rfl
def b4(P:Zd):List Ze:=by
 refine(?f:(l:List Ze)->l=iZ P 64->List Ze) ?l ?h
 case f=>exact λl _=>l
 case h=>unfold iZ sS Zf;dsimp only[List.drop,List.take];exact rfl
def b5(P:Zd):List Ze:=by
 refine(?f:(l:List Ze)->l=iZ P 80->List Ze) ?l ?h
 case f=>exact λl _=>l
 case h=>unfold iZ sS Zf;dsimp only[List.drop,List.take];exact rfl
def b6(P:Zd):List Ze:=by
 refine(?f:(l:List Ze)->l=iZ P 96->List Ze) ?l ?h
 case f=>exact λl _=>l
 case h=>unfold iZ sS Zf;dsimp only[List.drop,List.take];exact rfl
def b7(P:Zd):List Ze:=by
 refine(?f:(l:List Ze)->l=iZ P 112->List Ze) ?l ?h
 case f=>exact λl _=>l
 case h=>unfold iZ sS Zf;dsimp only[List.drop,List.take];exact rfl
def b8(P:Zd):List Ze:=by
 refine(?f:(l:List Ze)->l=iZ P 128->List Ze) ?l ?h
 case f=>exact λl _=>l
 case h=>unfold iZ sS Zf;dsimp only[List.drop,List.take];exact rfl
def b9(P:Zd):List Ze:=by
 refine(?f:(l:List Ze)->l=iZ P 144->List Ze) ?l ?h
 case f=>exact λl _=>l
 case h=>unfold iZ sS Zf;dsimp only[List.drop,List.take];exact rfl
def bo0(P:Zd):Obj:={ cls:=.type "dict",data:=.dict ⟨b0 P++(b1 P++(b2 P++(b3 P++(b4 P++(b5 P++(b6 P++(b7 P++(b8 P++(b9 P)))))))))⟩ 159 }
def TV:Zf=bo0:=by funext P;kernel_rfl
def Lz(P:Zd):Heap:={ objs:=⟨[bo0 P,boot_o_1 P,boot_o_2 P,boot_o_3 P,boot_o_4 P,boot_o_5 P,boot_o_6 P,boot_o_7 P,boot_o_8 P,boot_o_9 P,boot_o_10 P]⟩}
def zm:Zg=Lz:=by
 funext P;show Heap.mk ⟨Zf P::_⟩ _=_;rw[TV];rfl
def zj(P:Zd):BT:=((((((((((BT.nil.ins 0 (bo0 P)).ins 1 (boot_o_1 P)).ins 2 (boot_o_2 P)).ins 3 (boot_o_3 P)).ins 4 (boot_o_4 P)).ins 5 (boot_o_5 P)).ins 6 (boot_o_6 P)).ins 7 (boot_o_7 P)).ins 8 (boot_o_8 P)).ins 9 (boot_o_9 P)).ins 10 (boot_o_10 P)
def Qj:Life:={}
def G6(P:Zd):absHeap (zj P) 11 Qj=Zg P:=by rw[zm];kernel_rfl
def zR(w:Zb)(a:Zh):Zc:=⟨zj w.params,11,Qj,#[],Zi,Zj,a⟩
def Fg(w:Zb)(a:Zh):(zR w a).abs=⟨Zg w.params,#[],Zi,Zj,a⟩:=by
 unfold zR SharedT.abs;dsimp only;rw[G6]
def Cv(P:Zd):=((Zg P).isNs mainGlobals,(Zg P).objs.size,(Zg P).nsMap mainGlobals "__annotations__")
def zX:Cv=Cv:=rfl
end Nf
name_quick sizeQ for Nf.Cv by Nf.zX
namespace Nf
open PySem.W
def G7(w:Zb):((Zg w.params).isNs mainGlobals,(Zg w.params).objs.size,(Zg w.params).nsMap mainGlobals "__annotations__")=(true,11,some (.ref 6)):=by
 show Cv w.params=_;rw[W.Fast.sizeQ_eq]
 kernel_rfl
def Fo(p:Za)(N:Nat)(w:Zb)(a:Zh):=qw Zk p w 11 (some (.ref 6)) N (zR w a) (topStub p)
def HY(p q:Za)(Xt:Shared->Bool)(w:Zb)(s:Shared) :=
 (staticsOk (Zl p.main.body) (Lz w.params) s.heap&&namesBound p s.heap&&gensDone s&&laidKept (Lz w.params) s.heap,openSeen q [] (Zl p.main.body) Xt true s)
def Oc{p q:Za}{Xt:Shared->Bool}{β:Type}{Yf:Shared->List β}{Ya:Zb->List β}{N:Nat}(k:Nat)(c:∀w:Zb,(fencedOpening Zk p w N).map (λs=>(s.heap,s.gens,s.drawn,s.toks))=some (Zg w.params,Array.mk [],Zi,Zj))(g:∀(w:Zb)(a:Zh),(Fo p N w a).map (λs=>HY p q Xt w s.abs)=some (true,openGood q []))(b:∀(w:Zb)(a:Zh),(Fo p N w a).map (λs=>(Yf s.abs).take k)=some ((Ya w).take k))(f:∀(w:Zb)(a:Zh),(Fo p N w a).map (λs=>(Yf s.abs).drop k)=some ((Ya w).drop k)):LeftO p q [] Xt Yf Ya N:=λw=>by
 let⟨⟨h,m,d,j,a⟩,e,i⟩:=Option.map_eq_some_iff.mp (c w);obtain⟨rfl,rfl,rfl,rfl⟩:h=Zg w.params/\m=#[]/\d=Zi/\j=Zj:=↑i
 obtain⟨y,z,A⟩:_/\_/\_:=by simpa only[Prod.mk.injEq]using G7 w
 let⟨s,hs,l⟩:=Option.map_eq_some_iff.mp (g w a);have v:(Yf s.abs).take k=(Ya w).take k:=by
  have:=b w a;rw[hs]at this;exact Option.some.inj this
 have x:(Yf s.abs).drop k=(Ya w).drop k:=by
  have:=f w a;rw[hs]at this;exact Option.some.inj this
 have u:Yf s.abs=Ya w:=by rw[←List.take_append_drop k (Yf s.abs),v,x,List.take_append_drop]
 unfold HY at l;rw[←zm]at l;let⟨n,o⟩:=Prod.mk.inj l;have r:=uD hs;rw[Fg]at r;have t:topFrom Zk p w N ⟨Zg w.params,#[],Zi,Zj,a⟩=some s.abs:=by
  unfold topFrom;dsimp only;rw[y,z,A,r];show(match staticsOk (Zl p.main.body) (Zg w.params) s.abs.heap&&namesBound p s.abs.heap&&gensDone s.abs&&laidKept (Zg w.params) s.abs.heap with|true=>_|false=>_)=_;rw[n]
 unfold openEnds;rw[e];show(topFrom Zk p w N _).map _=_;rw[t];exact eh some (Prod.ext o u)
def uN:eA:=[0,2,3,4,5,6,8,9,10,11,12,13,14,15,16,17,18,19,20,22,23,24,25,27,28,29,31,32,33,35,36,37,38,40,41,42,43,44,45,46,47,48,49,50,51]
def yj(p:Za)(w:Zb)(a:Zh):=(Fo p 5590 w a).map (λs=>HY p (view p uN) (λs=>xlAt (view p uN) [] s&&recOk [] s) w s.abs)
def goodW(p:Za):=some (true,openGood (view p uN) [])
def frF(a:Frag)(k:Nat):=some ((a.map λp=>some p.2).take k)
def frB(a:Frag)(k:Nat):=some ((a.map λp=>some p.2).drop k)
def sH(p:Za)(w:Zb)(b:Zh)(a:List Addr)(k:Nat):=(Fo p 5590 w b).map (λs=>(a.map s.abs.heap.get?).take k)
def zq(p:Za)(w:Zb)(b:Zh)(a:List Addr)(k:Nat):=(Fo p 5590 w b).map (λs=>(a.map s.abs.heap.get?).drop k)
def Ba:yj=yj:=rfl
def Bl:goodW=goodW:=rfl
def yF:sH=sH:=rfl
def BX:zq=zq:=rfl
end Nf
lay_quick Nf.yj Nf.goodW Nf.sH Nf.zq
name_quick lookQ for Nf.yj by Nf.Ba
name_quick goodQ for Nf.goodW by Nf.Bl
name_quick frontQ for Nf.sH by Nf.yF
name_quick backQ for Nf.zq by Nf.BX
set_option maxHeartbeats 0 in
def Nf.N6(w:PySem.World)(a:PySem.OsState):Nf.yj PySem.Challenge.pw_nofall_k56_pieces_made_one w a=Nf.goodW PySem.Challenge.pw_nofall_k56_pieces_made_one:=by
 rw[PySem.W.Fast.lookQ_eq,PySem.W.Fast.goodQ_eq]
 kernel_rfl
def Nf.well:PySem.Challenge.rw_nofall_k56_pieces_made_one.wellSaid=true:=by kernel_rfl
namespace L2
open PySem.Spec
def zK{n:Nat}(h:Nat.ble n 1000=true:=by rfl):n<=1000:=Nat.le_of_ble_eq_true h
abbrev Key:=Sum Int Str
def rY:Key->Value->Bool
 |.inl k,v=>Value.isInt k v
 |.inr x,v=>Value.isStrOf x v
def W2(w:Zb):Key->Int
 |.inl k=>hashInt k
 |.inr x=>hashStr w x
theorem bY:∀{k:Key}{v:Value},rY k v=true->(∃i t,k=Sum.inl i/\v=Value.int i t)\/(∃x t,k=Sum.inr x/\v=Value.str x t)
 |.inl i,v,h=>by
  let⟨t,e⟩:=Value.isInt_shape (k:=i) (v:=v) h;exact .inl ⟨i,t,rfl,e⟩
 |.inr x,v,h=>by
  let⟨t,e⟩:=Value.isStrOf_shape (x:=x) (v:=v) h;exact .inr ⟨x,t,rfl,e⟩
def Gn(i:Int)(t:Tok):rY (.inl i) (.int i t)=true:=by simp[rY,Value.isInt]
def Gm(x:Str)(t:Tok):rY (.inr x) (.str x t)=true:=by simp[rY,Value.isStrOf]
def Sy(a b:Int):decide ((Sum.inl a:Key)=Sum.inl b)=(a==b):=by
 by_cases e:a=b
 ·subst e;simp
 ·have h:¬(Sum.inl a:Key)=Sum.inl b:=λq=>e (Sum.inl.inj q);rw[d4 h];exact(beq_eq_false_iff_ne.mpr e).symm
def Sv(a b:Str):decide ((Sum.inr a:Key)=Sum.inr b)=decide (a=b):=by
 by_cases e:a=b
 ·subst e;simp
 ·have h:¬(Sum.inr a:Key)=Sum.inr b:=λq=>e (Sum.inr.inj q);rw[d4 h,d4 e]
def Sx(a:Int)(b:Str):decide ((Sum.inl a:Key)=Sum.inr b)=false:=d4 (λq=>nomatch q)
def Sw(a:Str)(b:Int):decide ((Sum.inr a:Key)=Sum.inl b)=false:=d4 (λq=>nomatch q)
def cg(prog:Za)(w:Zb):PySem.KeyKind prog w Key where
 is:=rY
 hash:=W2 w
 inj:=λv a b ha hb=>by
  rcases bY ha with⟨i,t,rfl,rfl⟩|⟨x,t,rfl,rfl⟩
  ·rcases bY hb with⟨j,u,rfl,e⟩|⟨y,u,rfl,e⟩
   ·injection e with e1 _;rw[e1]
   ·exact nomatch e
  ·rcases bY hb with⟨j,u,rfl,e⟩|⟨y,u,rfl,e⟩
   ·exact nomatch e
   ·injection e with e1 _;rw[e1]
 byValue:=λk v h=>by
  rcases bY h with⟨i,t,rfl,rfl⟩|⟨x,t,rfl,rfl⟩ <;> rfl
 pyHash:=λhv h=>by
  rcases bY hv with⟨i,t,rfl,rfl⟩|⟨x,t,rfl,rfl⟩
  ·exact wpAny_pyHash_int h
  ·exact wpAny_pyHash_str h
 eqBool:=λhu hv h=>by
  rcases bY hu with⟨i,t,rfl,rfl⟩|⟨x,t,rfl,rfl⟩
  ·rcases bY hv with⟨j,u,rfl,rfl⟩|⟨y,u,rfl,rfl⟩
   ·rw[Sy]at h;exact Zm h
   ·rw[Sx]at h;exact SeqAt.EqAt.int_str i t y u _ _ _ _ h
  ·rcases bY hv with⟨j,u,rfl,rfl⟩|⟨y,u,rfl,rfl⟩
   ·rw[Sw]at h;exact SeqAt.EqAt.str_int x t j u _ _ _ _ h
   ·rw[Sv]at h;exact wpAny_eqBool_str h
 «strs»:=λk x t v h=>by
  rcases bY h with⟨i,u,rfl,e⟩|⟨y,u,rfl,e⟩
  ·exact nomatch e
  ·injection e with e1 _;subst e1;cases v <;> rfl
def yd(prog:Za)(w:Zb)(i:Int)(t:Tok):(cg prog w).is (.inl i) (.int i t)=true:=Gn i t
def yc(prog:Za)(w:Zb)(x:Str)(t:Tok):(cg prog w).is (.inr x) (.str x t)=true:=Gm x t
inductive V where
 |non|bl (b:Bool)|int (i:Int)|str (x:Str)|byt (b:Array UInt8)|flt (b:UInt64)|ref (a:Addr)|ty (n:String)
 deriving DecidableEq
def RelV:V->Value->Prop
 |.non,u=>u=Value.none
 |.bl b,u=>u=Value.bool b
 |.int i,u=>∃t,u=Value.int i t
 |.str x,u=>∃t,u=Value.str x t
 |.byt b,u=>∃t,u=Value.bytes b t
 |.flt b,u=>∃t,u=Value.float b t
 |.ref a,u=>u=Value.ref a
 |.ty n,u=>u=Value.type n
abbrev Vals:List V->eC->Prop:=Paired RelV
def Vals.length{xs:List V}{us:eC}(r:Vals xs us):⇑xs=⇑us:=Paired.length r
theorem Vals.get:∀{xs:List V}{us:eC}{i:Nat}{x:V},Vals xs us->xs[i]?=some x->∃u,us[i]?=some u/\RelV x u
 |_,_,_,_,.nil,e=>by simp at e
 |_,_,0,_,.cons r _,e=>by simp at e;subst e;exact⟨_,rfl,r⟩
 |_,_,i+1,x,.cons _ t,e=>by
  let⟨u,h1,h2⟩:=Vals.get (i:=i) (x:=x) t ↑e;exact⟨u,↑h1,h2⟩
theorem Vals.append:∀{xs ys:List V}{us a:eC},Vals xs us->Vals ys a->Vals (xs++ys) (us++a)
 |_,_,_,_,.nil,s=>s
 |_,_,_,_,.cons r t,s=>.cons r (Vals.append t s)
theorem Vals.take:∀{xs:List V}{us:eC} (n:Nat),Vals xs us->Vals (xs.take n) (us.take n)
 |_,_,0,_=>.nil
 |_,_,_+1,.nil=>.nil
 |_,_,n+1,.cons r t=>.cons r (Vals.take n t)
theorem Vals.drop:∀{xs:List V}{us:eC} (n:Nat),Vals xs us->Vals (xs.drop n) (us.drop n)
 |_,_,0,r=>r
 |_,_,_+1,.nil=>.nil
 |_,_,n+1,.cons _ t=>Vals.drop n t
def Vals.none_of:∀{xs:List V}{us:eC}{i:Nat},Vals xs us->xs[i]?=none->us[i]?=none:=λ{xs us i} r e=>by
 have h1:=⇑r;have h2:⇑xs<=i:=List.getElem?_eq_none_iff.mp e;exact List.getElem?_eq_none_iff.mpr ()
def lV:Option V->eH->Prop
 |some v,some u=>RelV v u
 |none,none=>True
 |_,_=>False
def KV{κ:Type}:List (κ×V)->List (κ×Value)->Prop:=Paired λ(p:κ×V) (q:κ×Value)=>p.1=q.1/\RelV p.2 q.2
def kV:Key->V
 |.inl i=>.int i
 |.inr x=>.str x
inductive HO where
 |lst (xs:List V)
 |tup (xs:List V)
 |dK (kvs:List (Key×V))|dT (kvs:List (List Key×V))
 |set (S:Int->Bool) (n:Nat)
 |ins (C dx:Addr) (fs:List (Str×V))
 |own (x:Addr)
 |xd (fs:List (Str×V))
 |met (f x:Addr)
 |rng (lo hi:Int)
 |frz (o:Obj) (u:HO)
 |tbl (ps:eB)
 |ext (φ:Heap->Prop)
abbrev Hp:=Addr->Option HO
def upd(H:Hp)(a:Addr)(o:HO):Hp:=λb=>if b=a then some o else H b
def aB{H:Hp}{a:Addr}{o:HO}:upd H a o a=some o:=by unfold upd;rw[ed rfl]
def ao{H:Hp}{a b:Addr}{o:HO}(h:b≠a):upd H a o b=H b:=by unfold upd;rw[ee h]
def Vi{H:Hp}{a b:Addr}{o u:HO}(h:H a=some o)(h':H b=some u)(d:o≠u):a≠b:=by
 intro e;subst e;rw[h]at h';exact d (Option.some.inj h')
def aA{H:Hp}{a b:Addr}{o:HO}(h:H a=some o)(h':H b=none):a≠b:=by
 intro e;subst e;rw[h]at h';cases h'
section
variable(P:Za) (w:Zb)
def bR(H:Hp)(h:Heap)(a:Addr):HO->Prop
 |.lst xs=>⇑xs<=sizeLine/\∃(its:eC)(n:Nat),Vals xs its/\h.get? a=some { cls:=.type "list",data:=.seq its.toArray n }
 |.tup xs=>⇑xs<=sizeLine/\∃its:eC,Vals xs its/\IsTup h a its.toArray
 |.dK b=>⇑b<=sizeLine/\(a==Zn)=false/\∃vs,KV b vs/\h.DictOf (cg P w) a vs
 |.dT b=>⇑b<=sizeLine/\(a==Zn)=false/\∃xs:List (List Key×Addr×Value),
   Paired (λ(p:List Key×V) (q:List Key×Addr×Value)=>p.1=q.1/\H q.2.1=some (.tup (p.1.map kV))/\RelV p.2 q.2.2) b xs /\
   ∃o es ep,h.get? a=some o/\o.ExactDict/\o.data=.dict es ep/\es.toList=xs.map (entryOfKey (Zo (cg P w)))/\(xs.map (·.1)).Nodup
 |.set S n=>h.SetOf (intKind P w) a S n
 |.ins C d c=>H d=some (.own a)/\⇑c<=1000/\d≠a/\h.get? a=some (W.instObj C d) /\
   ∃mA,h.Ns1 d mA/\(∀f,lV (c.lookup f) (mA f))/\PySem.Within mA (c.map (·.1))
 |.own _=>∃o,h.get? a=some o
 |.xd c=>∃mA,h.Ns1 a mA/\∀f,lV (c.lookup f) (mA f)
 |.rng lo hi=>∃t u v,h.get? a=some { cls:=.type "range",data:=.fields #[.int lo t,.int hi u,.int 1 v]}
 |.frz o u=>h.get? a=some o/\bR H h a u
 |.tbl ps=>h.get? a=some { cls:=.none,data:=.fields ps }
 |.met f x=>h.get? a=some (W.methodObj (.ref f) (.ref x))
 |.ext φ=>φ h/\(∃o,h.get? a=some o)/\∀h1 h2:Heap,φ h1->(∀o,h1.get? a=some o->h2.get? a=some o)->φ h2
def HOk(H:Hp)(h:Heap):Prop:=∀a o,H a=some o->bR P w H h a o
end
section
variable{P:Za}{w:Zb}{H H':Hp}{h h':Heap}{a:Addr}{o:HO}
def bR.lt(x:bR P w H h a o):a<h.objs.size:=by
 cases o with
 |lst xs=>let⟨_,_,_,_,e⟩:=x;exact Heap.lt_size e
 |tup xs=>let⟨_,_,_,p⟩:=x;exact p.lt
 |dK b=>let⟨_,_,_,_,o,_,_,e,_⟩:=x;exact Heap.lt_size e
 |dT b=>let⟨_,_,_,_,o,_,_,e,_⟩:=x;exact Heap.lt_size e
 |set S n=>let⟨o,_,_,_,e,_⟩:=x;exact Heap.lt_size e
 |ins C d c=>let⟨_,_,_,e,_⟩:=x;exact Heap.lt_size e
 |own y=>let⟨_,e⟩:=x;exact Heap.lt_size e
 |xd c=>let⟨_,⟨_,_,_,e,_⟩,_⟩:=x;exact Heap.lt_size e
 |rng lo hi=>let⟨_,_,_,e⟩:=x;exact Heap.lt_size e
 |frz g u=>let⟨e,_⟩:=x;exact Heap.lt_size e
 |tbl ps=>exact Heap.lt_size (show h.get? a=some _ from x)
 |met f y=>exact Heap.lt_size (show h.get? a=some _ from x)
 |ext φ=>let⟨_,⟨_,e⟩,_⟩:=x;exact Heap.lt_size e
theorem Paired.Ax{α β:Type}{F G:α->β->Prop}:∀{c:List α}{d:List β},Paired F c d->(∀a b,F a b->G a b)->Paired G c d
 |_,_,.nil,_=>.nil
 |_,_,.cons r t,f=>.cons (f _ _ r) (Paired.Ax t f)
def bR.stay(x:bR P w H h a o)(k:∀b u,(b=a\/H b=some (.own a))->h.get? b=some u->h'.get? b=some u)(A:∀b,H b=some (.own a)->H' b=some (.own a))(ht:∀b xs,H b=some (.tup xs)->H' b=some (.tup xs)):bR P w H' h' a o:=by
 induction o with
 |lst xs=>let⟨z,its,n,r,e⟩:=x;exact⟨z,its,n,r,k _ _ (.inl rfl) e⟩
 |tup xs=>let⟨z,its,r,g,e,c⟩:=x;exact⟨z,its,r,g,k _ _ (.inl rfl) e,c⟩
 |dK i=>let⟨z,y,vs,r,g,es,ep,e,c⟩:=x;exact⟨z,y,vs,r,g,es,ep,k _ _ (.inl rfl) e,c⟩
 |dT i =>
  let⟨z,y,xs,r,g,es,ep,e,c⟩:=x;exact⟨z,y,xs,Paired.Ax r λp q z=>⟨z.1,ht _ _ z.2.1,z.2.2⟩,g,es,ep,k _ _ (.inl rfl) e,c⟩
 |set S n=>let⟨g,es,ep,t,e,c⟩:=x;exact⟨g,es,ep,t,k _ _ (.inl rfl) e,c⟩
 |ins C dx s =>
  let⟨d,z,D,e,j,⟨l,es,ep,m,c⟩,r⟩:=x;exact⟨A _ d,z,D,k _ _ (.inl rfl) e,j,⟨l,es,ep,k _ _ (.inr d) m,c⟩,r⟩
 |own y=>let⟨g,e⟩:=x;exact⟨g,k _ _ (.inl rfl) e⟩
 |xd s=>let⟨j,⟨l,es,ep,e,c⟩,r⟩:=x;exact⟨j,⟨l,es,ep,k _ _ (.inl rfl) e,c⟩,r⟩
 |rng lo hi=>let⟨t,u,v,e⟩:=x;exact⟨t,u,v,k _ _ (.inl rfl) e⟩
 |frz g u B=>let⟨e,q⟩:=x;exact⟨k _ _ (.inl rfl) e,B q⟩
 |tbl ps =>
  have e:h.get? a=some { cls:=.none,data:=.fields ps }:=x;show h'.get? a=some { cls:=.none,data:=.fields ps };exact k a _ (.inl rfl) e
 |met f y =>
  have e:h.get? a=some (W.methodObj (.ref f) (.ref y)):=x;show h'.get? a=some (W.methodObj (.ref f) (.ref y));exact k a _ (.inl rfl) e
 |ext φ=>let⟨p,⟨o,e⟩,st⟩:=x;exact⟨st _ _ p λo q=>k _ _ (.inl rfl) q,⟨o,k _ _ (.inl rfl) e⟩,st⟩
def HOk.lt(x:HOk P w H h)(e:H a=some o):a<h.objs.size:=(x a o e).lt
def HOk.fresh(x:HOk P w H h)(e:h.objs.size<=a):H a=none:=by
 cases q:H a with
 |none=>rfl
 |some u=>exact ef (Nat.lt_of_lt_of_le (x.lt q) e) (Nat.lt_irrefl _)
def HOk.kept(x:HOk P w H h)(k:∀b u,h.get? b=some u->h'.get? b=some u):HOk P w H h':=λa o e =>
 (x a o e).stay (λb u _ q=>k b u q) (λ_ q=>q) λ_ _ q=>q
def HOk.laid(x:HOk P w H h)(k:∀b u,h.get? b=some u->h'.get? b=some u)(hp:h.objs.size<=a)(new:bR P w (upd H a o) h' a o):HOk P w (upd H a o) h':=λb u e=>by
 have hn:=x.fresh hp;by_cases hb:b=a
 ·subst hb;rw[aB]at e;cases e;exact new
 ·rw[ao hb]at e;exact(x b u e).stay (λc v _ q=>k c v q) (λc q=>by rw[ao (aA q hn)];exact q) λc xs q=>by rw[ao (aA q hn)];exact q
end
def Rd(H:Hp)(a:Addr)(u:HO):Prop:=H a=some u\/∃o,H a=some (.frz o u)
def Rd.ok{P:Za}{w:Zb}{H:Hp}{h:Heap}{a:Addr}{u:HO}(r:Rd H a u)(x:HOk P w H h):bR P w H h a u:=by
 rcases r with r|⟨o,r⟩
 ·exact x a u r
 ·let⟨_,q⟩:=x a _ r;exact q
def Mut:Option HO->Prop
 |some (.lst _)=>True
 |some (.dK _)=>True
 |some (.dT _)=>True
 |some (.set _ _)=>True
 |some (.ins _ _ _)=>True
 |some (.ext _)=>True
 |_=>False
section
variable{P:Za}{w:Zb}{H:Hp}{h h':Heap}{x e:Addr}{o':HO}
def HOk.write(ok:HOk P w H h)(g:Mut (H x))(he:e=x\/H e=some (.own x))(k:∀b u,b≠e->h.get? b=some u->h'.get? b=some u)(i:∃u,h'.get? e=some u)(new:bR P w (upd H x o') h' x o'):HOk P w (upd H x o') h':=λb u q=>by
 have d:∀c y,H c=some (.own y)->c≠x:=λc y r z=>by subst z;rw[r]at g;exact g
 have f:∀c xs,H c=some (.tup xs)->c≠x:=λc xs r z=>by subst z;rw[r]at g;exact g
 by_cases hb:b=x
 ·subst hb;rw[aB]at q;cases q;exact new
 ·rw[ao hb]at q;by_cases a:b=e
  ·have j:H b=some (.own x):=by
    rcases he with z|z
    ·exact ef (a.trans z) hb
    ·rw[a];exact z
   rw[q]at j;cases j;let⟨v,hv⟩:=i;exact⟨v,by rw[a];exact hv⟩
  ·refine(ok b u q).stay (λc v hc r=>k c v ?_ r) (λc r=>by rw[ao (d c b r)];exact r) λc xs r=>by rw[ao (f c xs r)];exact r
   rcases hc with rfl|hc
   ·exact a
   ·rintro rfl;rcases he with z|z
    ·exact d c b hc z
    ·rw[hc]at z;cases z;exact hb rfl
end
structure Un(fs ex:List Addr)(H H':Hp)(h h':Heap):Prop where
 keep:∀b o,h.get? b=some o->H b=none->b∉fs->b∉ex->h'.get? b=some o
 slot:∀b o,h.get? b=some o->H b=none->b∈fs->b∉ex->∃sl,h'.get? b=some { o with slots:=sl }
 free:∀b o,h.get? b=some o->H b=none->b∉ex->H' b=none
 there:∀b o,h.get? b=some o->b∉ex->∃o',h'.get? b=some o'
 tups:∀b xs,H b=some (.tup xs)->H' b=some (.tup xs)
 frzs:∀b o u,H b=some (.frz o u)->H' b=some (.frz o u)
 tbls:∀b ps,H b=some (.tbl ps)->∃more,H' b=some (.tbl (ps++more))
section
variable{fs fs' ex ex':List Addr}{H H1 H2:Hp}{h h1 h2 h':Heap}{a x e:Addr}{o:HO}
def Un.any(u:Un fs ex H H1 h h1){b:Addr}{c:Obj}(q:h.get? b=some c)(n:H b=none)(d:b∉ex):∃sl,h1.get? b=some { c with slots:=sl }:=by
 by_cases hb:b∈fs
 ·exact u.slot b c q n hb d
 ·exact⟨c.slots,u.keep b c q n hb d⟩
def Un.kept(k:∀b u,h.get? b=some u->h'.get? b=some u):Un fs ex H H h h' :=
 ⟨λb ob q _ _ _=>k b ob q,λb ob q _ _ _=>⟨ob.slots,k b ob q⟩,λ_ _ _ n _=>n,λb ob q _=>⟨ob,k b ob q⟩,λ_ _ q=>q,λ_ _ _ q=>q,λ_ ps q=>⟨#[],by rw[q];simp⟩⟩
def Un.refl:Un fs ex H H h h:=Un.kept λ_ _ q=>q
def Un.laid(k:∀b u,h.get? b=some u->h'.get? b=some u)(hp:h.objs.size<=a)(hn:H a=none):Un fs ex H (upd H a o) h h' where
 keep:=λb u q _ _ _=>k b u q
 slot:=λb u q _ _ _=>⟨u.slots,k b u q⟩
 free:=λb u q n _=>by rw[ao (Nat.ne_of_lt (Nat.lt_of_lt_of_le (Heap.lt_size q) hp))];exact n
 there:=λb u q _=>⟨u,k b u q⟩
 tups:=λb xs q=>by rw[ao (aA q hn)];exact q
 frzs:=λb u xs q=>by rw[ao (aA q hn)];exact q
 tbls:=λb ps q=>⟨#[],by rw[ao (aA q hn),q];simp⟩
def Un.write(d:Mut (H x))(he:e=x\/H e=some (.own x))(k:∀b u,b≠e->h.get? b=some u->h'.get? b=some u)(f:∃u,h'.get? e=some u):Un fs ex H (upd H x o) h h':=by
 have g:∀b,H b=none->b≠x:=λb n z=>by subst z;rw[n]at d;exact d
 have hb:∀b,H b=none->b≠e:=λb n z=>by
  subst z;rcases he with r|r
  ·exact g b n r
  ·rw[n]at r;cases r
 have hm:∀b u,H b=some u->¬Mut (some u)->b≠x:=λb u q nm z=>by subst z;rw[q]at d;exact nm d
 refine⟨λb u q n _ _=>k b u (hb b n) q,λb u q n _ _=>⟨u.slots,k b u (hb b n) q⟩,λb u q n _=>by rw[ao (g b n)];exact n,λb u q _=>?_,
  λb xs q=>by rw[ao (hm b _ q λz=>z)];exact q,λb u xs q=>by rw[ao (hm b _ q λz=>z)];exact q,λb ps q=>⟨#[],by rw[ao (hm b _ q λz=>z),q];simp⟩⟩
 by_cases c:b=e
 ·subst c;exact f
 ·exact⟨u,k b u c q⟩
end
def trk(h:Heap)(H:Hp):List Addr:=(List.range h.objs.size).filter λa=>(H a).isSome
def vZ(h:Heap)(H:Hp):Heap:=W.hideAll h (trk h H)
def Gv(h:Heap)(H:Hp):(vZ h H).objs.size=h.objs.size:=W.hideAll_size _ _
def sE{h:Heap}{H:Hp}{b:Addr}{o:Obj}(e:h.get? b=some o)(n:H b=none):(vZ h H).get? b=some o :=
 W.hideAll_get _ e λhm=>by
  have q:(H b).isSome=true:=(List.mem_filter.mp hm).2;rw[n]at q;simp at q
def NP{h:Heap}{H:Hp}{b:Addr}{o:Obj}(e:(vZ h H).get? b=some o):h.get? b=some o/\H b=none:=by
 have a:h.get? b=some o:=W.of_hideAll (trk h H) e;refine⟨a,?_⟩;cases q:H b with
 |none=>rfl
 |some x =>
  have hm:b∈trk h H:=List.mem_filter.mpr ⟨List.mem_range.mpr (Heap.lt_size a),by simp[q]⟩;have z:(vZ h H).get? b=none:=W.hideAll_none (trk h H) hm;rw[z]at e;cases e
def wJ(g h:Heap)(L:Addr):er:=(List.range h.objs.size).filterMap λa=>if a=L\/(g.get? a).isSome=true then none else(h.get? a).map λo=>(a,o)
def rN{g h:Heap}{L:Addr}{p:Addr×Obj}(hp:p∈wJ g h L):p.1≠L/\g.get? p.1=none/\h.get? p.1=some p.2:=by
 let⟨b,_,e⟩:=List.mem_filterMap.mp hp;split at e
 ·cases e
 ·rename_i hn;cases q:h.get? b with
  |none=>rw[q]at e;simp at e
  |some u =>
   rw[q]at e;simp only[Option.map_some,Option.some.injEq]at e;subst e;refine⟨λz=>hn (.inl z),?_,q⟩;show g.get? b=none;cases r:g.get? b with
   |none=>rfl
   |some v=>exact(hn (.inr (by simp[r]))).elim
def rest(g h:Heap)(L d:Addr):er:=(wJ g h L).filter λp=>decide (p.1≠d)
def JQ{g h:Heap}{L:Addr}:News g L h (wJ g h L):=λp hp=>let⟨a,b,c⟩:=rN hp;⟨c,a,b⟩
structure Mod(K:W.Frag)(mg:Str->eH)(fw:Heap):Prop where
 kin:K.In fw
 glob:fw.Ns mainGlobals mg
 blt:∃mb,fw.Ns Zp mb/\∀x:Str,x≠"__name__"->mb x=Zq x
 nolimit:fw.NoLimit
structure Cx where
 prog:Za
 w:Zb
 K:W.Frag
 mg:Str->eH
 fw:Heap
 A:Zr
 N:List Str
 s₀:Shared
 H₀:Hp
 env:Env
 outer:List Env
 stack:List Env
 ex:List Addr
 fn:Str->Bool
 calm:Bool
 pn:er
 xe:em
 sf:List (Addr×Obj×HO):=[]
variable{X:Cx}
def frs(l:List Env):List Addr:=l.filterMap (·.frame)
abbrev Cx.fs(X:Cx):List Addr:=frs X.outer
def Vis(a:Zs)(x:Str):Prop:=a.names.lookup x=some .local\/a.names.lookup x=some .cell\/a.names.lookup x=some .free
def Loc(a:Zs)(x:Str):Prop:=a.names.lookup x=some .local\/a.names.lookup x=some .cell
def Look(env:Env)(h:Heap)(m:Str->eH)(x:Str)(u:Value):Prop :=
 (env.kindOf x=some .local/\m x=some u)\/((env.kindOf x=some .cell\/env.kindOf x=some .free)/\∃c,env.cells.lookup x=some c/\h.IsCell c (some u))
abbrev zS(X:Cx)(e:Zt)(es:List Zt):Prop:=Zu (e::es) X.env=(false,Zv e X.env)::Zu es X.env
abbrev zP(X:Cx)(p:Pos)(es:List Zt):Prop:=(Zw p (Zu es X.env)).any (·.1)=false
abbrev zB(x:Str):Prop:=(x==("__debug__":Str))=false
abbrev zF(X:Cx)(e:Zt):Prop:=∀x,Zx e X.env x=pure x
abbrev zL(X:Cx)(x:Str):Prop:=X.fn x=true\/X.env.scope.names.lookup x=some .local
abbrev zW(X:Cx)(p:Pos)(es:List Zt):Prop:=((Zw p (Zu es X.env)).all (λx=>!x.1)&&(Zy p (Zz [] X.env)).all (λx=>x.1.isSome)&&decide (⇑es+⇑([]:List ZA)+(if([]:List ZA).isEmpty then 0 else 1)<30))=true
def zQ{a:Zs}{x:Str}(h:(a.names.lookup x==some .local||a.names.lookup x==some .cell)=true:=by rfl):Loc a x:=(Bool.or_eq_true_iff.mp h).imp (λz=>el z) λz=>el z
structure Cx.Ok(X:Cx):Prop where
 mod:Mod X.K X.mg X.fw
 kind:X.env.scope.kind=.function
 glob:X.env.globals=mainGlobals
 blt:X.env.builtins=Zp
 above:X.s₀.heap.objs.size<=X.env.locals
 inj:∀x y c,X.env.cells.lookup x=some c->X.env.cells.lookup y=some c->x=y
 has:∀x,(X.env.kindOf x=some .cell\/X.env.kindOf x=some .free)->∃c,X.env.cells.lookup x=some c
 cab:∀x c,X.fn x=true->X.env.cells.lookup x=some c->X.s₀.heap.objs.size<=c
 hd:X.calm=true->X.A.handled=none
 frames:X.A.frames=some X.stack
 stk:X.stack=X.outer\/(X.stack=X.env::X.outer/\X.env.frame=some X.env.locals)
 exf:∀b∈X.ex,b≠X.env.locals/\∀x c,X.env.cells.lookup x=some c->c≠b
 bs:∀b o,X.fw.get? b=some o->X.s₀.heap.get? b=some o/\X.H₀ b=none
 bsz:X.fw.objs.size<=X.s₀.heap.objs.size
 noex:∀b o,X.fw.get? b=some o->b∉X.ex
 exfs:∀b∈X.ex,b∉X.fs
 lO:X.s₀.heap.FunFrames X.fw X.outer
 frf:∀b∈X.fs,X.H₀ b=none
 sof:∀q∈X.sf,X.A.handled=some (.ref q.1)/\X.H₀ q.1=some (.frz q.2.1 q.2.2)/\∃ws,q.2.1.data=.fields ws/\ws[2]?=some .none
structure Inv(X:Cx)(pins:er)(σ:List (Option V))(H:Hp)(s:Shared):Prop where
 ok:X.Ok
 os:s.os=X.s₀.os
 bare:ZB s.gens
 fw:Un X.fs X.ex X.H₀ H X.s₀.heap s.heap
 loc:∃m,s.heap.Ns X.env.locals m/\∀(i:Nat)(x:Str)(v:V),X.N[i]?=some x->σ[i]?=some (some v)->Vis X.env.scope x->∃u,RelV v u/\Look X.env s.heap m x u
 cell:∀x c,X.env.cells.lookup x=some c->∃v,s.heap.IsCell c v
 free:H X.env.locals=none
 freeC:∀x c,X.env.cells.lookup x=some c->H c=none
 pin:∀p∈X.pn++pins,s.heap.get? p.1=some p.2/\H p.1=none/\p.1≠X.env.locals/\p.1∉X.fs/\∀v,p.2.data≠.cell v
 hok:HOk X.prog X.w H s.heap
 len:⇑σ=⇑X.N
section
variable{pins:er}{σ:List (Option V)}{H H':Hp}{s:Shared}{h':Heap}
def Cx.Ok.WT(ok:X.Ok){b:Addr}{o:Obj}(e:X.fw.get? b=some o):b∉X.fs:=λhb=>by
 have:=(ok.lO.mem hb).1;rw[e]at this;cases this
def Inv.bs(I:Inv X pins σ H s):∀b o,X.fw.get? b=some o->s.heap.get? b=some o/\H b=none:=λb o e =>
 ⟨I.fw.keep b o (I.ok.bs b o e).1 (I.ok.bs b o e).2 (I.ok.WT e) (I.ok.noex b o e),I.fw.free b o (I.ok.bs b o e).1 (I.ok.bs b o e).2 (I.ok.noex b o e)⟩
def Inv.bk(I:Inv X pins σ H s):∀b o,X.fw.get? b=some o->s.heap.get? b=some o:=λb o e=>(I.bs b o e).1
def Inv.mod(I:Inv X pins σ H s):Mod X.K X.mg X.fw:=I.ok.mod
def Inv.kIn(I:Inv X pins σ H s):X.K.In s.heap:=I.ok.mod.kin.keeps I.bk
def Inv.fr(I:Inv X pins σ H s):∃m,Fr X.fw X.env.locals s.heap m :=
 let⟨m,hn,_⟩:=I.loc
 ⟨m,hn,I.bk,Nat.le_trans I.ok.bsz I.ok.above⟩
def Inv.lt(I:Inv X pins σ H s):X.env.locals<↥s:=let⟨_,hn,_⟩:=I.loc;hn.lt
def Inv.sz(I:Inv X pins σ H s):X.s₀.heap.objs.size<=↥s:=Nat.le_trans I.ok.above (Nat.le_of_lt I.lt)
def Inv.WQ(I:Inv X pins σ H s){a:Addr}(h:↥s<=a):a∉X.fs:=λhb=>by
 let⟨_,o,b,_⟩:=I.ok.lO.mem hb;exact ef (Nat.lt_of_lt_of_le (Heap.lt_size b) (Nat.le_trans I.sz h)) (Nat.lt_irrefl _)
def Inv.cne(I:Inv X pins σ H s):∀x c,X.env.cells.lookup x=some c->c≠X.env.locals:=λx c e z=>by
 let⟨v,o,d,hd⟩:=I.cell x c e;let⟨m,⟨o',es,ep,b,a,_⟩,_⟩:=I.loc;rw[z,b]at d;cases d;rw[a]at hd;cases hd
def Inv.lO(I:Inv X pins σ H s):s.heap.FunFrames X.fw X.outer:=by
 have a:∀(l:List Env),(∀b∈frs l,b∈X.fs)->X.s₀.heap.FunFrames X.fw l->s.heap.FunFrames X.fw l:=by
  intro l;induction l with
  |nil=>intro _ _;trivial
  |cons env r ih =>
   intro hs hl;let⟨hk,⟨L,o,d,hn,f,hd⟩,hr⟩:=hl;have c:L∈X.fs:=hs L (by unfold frs;rw[List.filterMap_cons,d];exact List.mem_cons_self);let⟨g,e⟩:=I.fw.slot L o f (I.ok.frf L c) c λz=>I.ok.exfs L z c;exact⟨hk,⟨L,_,d,hn,e,hd⟩,ih (λb hb=>hs b (by unfold frs;rw[List.filterMap_cons,d];exact List.mem_cons_of_mem _ hb)) hr⟩
 exact a X.outer (λ_ hb=>hb) I.ok.lO
def Inv.stack(I:Inv X pins σ H s):s.heap.FunFrames X.fw X.stack:=by
 rcases I.ok.stk with e|⟨e,a⟩
 ·rw[e];exact I.lO
 ·rw[e];let⟨m,hn,_⟩:=I.loc;refine .cons (by rw[I.ok.kind];decide) a hn ?_ I.lO;exact Heap.get?_none_of_le (Nat.le_trans I.ok.bsz I.ok.above)
def Inv.vh(I:Inv X pins σ H s):∀b∈frs X.stack,b∈X.env.locals::X.fs:=λb hb=>by
 rcases I.ok.stk with e|⟨e,a⟩
 ·rw[e]at hb;exact List.mem_cons_of_mem _ hb
 ·rw[e]at hb;unfold frs at hb;rw[List.filterMap_cons,a]at hb;exact hb
def Inv.Cu(I:Inv X pins σ H s):∀b∈frs X.stack,H b=none:=λb hb=>by
 rcases List.mem_cons.mp (I.vh b hb)with e|hb
 ·rw[e];exact I.free
 ·let⟨_,o,a,_⟩:=I.ok.lO.mem hb;exact I.fw.free b o a (I.ok.frf b hb) λz=>I.ok.exfs b z hb
def Inv.step{g':Array ZC}{t':Nat}{d':Drawn}{ch:List Addr}(I:Inv X pins σ H s)(g:∀b∈ch,(b∈X.ex\/X.s₀.heap.objs.size<=b)/\b≠X.env.locals/\(∀x c,X.env.cells.lookup x=some c->c≠b)/\∀p∈X.pn++pins,p.1≠b)(h:∀b o,b≠X.env.locals->b∉X.fs->b∉ch->s.heap.get? b=some o->H b=none->h'.get? b=some o)(A:∀b o,b≠X.env.locals->b∈X.fs->b∉ch->s.heap.get? b=some o->H b=none->∃sl,h'.get? b=some { o with slots:=sl })(a:∀b o,b∉ch->s.heap.get? b=some o->H b=none->H' b=none)(B:∀b o,b∉ch->s.heap.get? b=some o->∃o',h'.get? b=some o')(J:∀b xs,H b=some (.tup xs)->H' b=some (.tup xs))(E:∀b o u,H b=some (.frz o u)->H' b=some (.frz o u))(G:∀b ps,H b=some (.tbl ps)->∃more,H' b=some (.tbl (ps++more)))(ns:∀m,s.heap.Ns X.env.locals m->h'.Ns X.env.locals m)(K:HOk X.prog X.w H' h')(hg:ZB g') :
  Inv X pins σ H' { s with heap:=h',gens:=g',drawn:=d',toks:=t' }:=by
 have F:∀b o,X.s₀.heap.get? b=some o->b≠X.env.locals:=λb o e=>Nat.ne_of_lt (Nat.lt_of_lt_of_le (Heap.lt_size e) I.ok.above);have y:∀b o,X.s₀.heap.get? b=some o->b∉X.ex->b∉ch:=λb o e hx hb=>by
  rcases(g b hb).1 with z|z
  ·exact hx z
  ·exact ef (Nat.lt_of_lt_of_le (Heap.lt_size e) z) (Nat.lt_irrefl _)
 have f:∀x c,X.env.cells.lookup x=some c->∀v,s.heap.IsCell c v->h'.IsCell c v:=λx c e v ⟨o,C,hd⟩=>by
  have j:c∉ch:=λz=>(g c z).2.2.1 x c e rfl;by_cases hc:c∈X.fs
  ·let⟨sl,q⟩:=A c o (I.cne x c e) hc j C (I.freeC x c e);exact⟨_,q,hd⟩
  ·exact⟨o,h c o (I.cne x c e) hc j C (I.freeC x c e),hd⟩
 refine⟨I.ok,I.os,hg,⟨λb o e n hb hx=>?_,λb o e n hb hx=>?_,λb o e n hx=>?_,λb o e hx=>?_,λb xs e=>J b xs (I.fw.tups b xs e),λb o xs e=>E b o xs (I.fw.frzs b o xs e),λb ps e=>?_⟩,?_,λx c e=>?_,?_,λx c e=>?_,λp hp=>?_,K,I.len⟩
 ·exact h b o (F b o e) hb (y b o e hx) (I.fw.keep b o e n hb hx) (I.fw.free b o e n hx)
 ·let⟨sl,t⟩:=I.fw.slot b o e n hb hx;let⟨L,D⟩:=A b _ (F b o e) hb (y b o e hx) t (I.fw.free b o e n hx);exact⟨L,D⟩
 ·let⟨o',t⟩:=I.fw.there b o e hx;exact a b o' (y b o e hx) t (I.fw.free b o e n hx)
 ·let⟨o',t⟩:=I.fw.there b o e hx;exact B b o' (y b o e hx) t
 ·let⟨O,t⟩:=I.fw.tbls b ps e;let⟨P,D⟩:=G b _ t;exact⟨O++P,by rw[D,Array.append_assoc]⟩
 ·let⟨m,hn,hl⟩:=I.loc;refine⟨m,ns m hn,λi x v t D e3=>?_⟩;let⟨u,r,l⟩:=hl i x v t D e3;refine⟨u,r,?_⟩;rcases l with l|⟨k,c,e,z⟩
  ·exact .inl l
  ·exact .inr ⟨k,c,e,f x c e _ z⟩
 ·let⟨v,z⟩:=I.cell x c e;exact⟨v,f x c e v z⟩
 ·let⟨m,⟨o,_,_,C,_⟩,_⟩:=I.loc;exact a _ o (λz=>(g _ z).2.1 rfl) C I.free
 ·let⟨v,o,C,hd⟩:=I.cell x c e;exact a c o (λz=>(g c z).2.2.1 x c e rfl) C (I.freeC x c e)
 ·let⟨e,n,M,N,d⟩:=I.pin p hp;have j:p.1∉ch:=λz=>(g p.1 z).2.2.2 p hp rfl;exact⟨h p.1 p.2 M N j e n,a p.1 p.2 j e n,M,N,d⟩
def Inv.un{t':Nat}(I:Inv X pins σ H s)(u:Un X.fs [] H H' s.heap h')(f:HOk X.prog X.w H' h'):Inv X pins σ H' { s with heap:=h',toks:=t' }:=by
 let⟨m,⟨o,es,ep,g,r⟩,_⟩:=id I.loc;let⟨j,h⟩:=u.any g I.free (by simp);exact I.step (g':=s.gens) (d':=s.drawn) (ch:=[]) (λ_ z=>nomatch z) (λb o _ hb _ e n=>u.keep b o e n hb (by simp)) (λb o _ hb _ e n=>u.slot b o e n hb (by simp)) (λb o _ e n=>u.free b o e n (by simp)) (λb o _ e=>u.there b o e (by simp)) u.tups u.frzs u.tbls (λm' hm=>by
  let⟨o',d,c,a,i⟩:=hm;rw[g]at a;cases a;exact⟨_,d,c,h,i⟩) f I.bare
def Inv.call{g':Array ZC}{t':Nat}{d':Drawn}{ch:List Addr}(I:Inv X pins σ H s)(u:Un (frs X.stack) ch H H' s.heap h')(i:HOk X.prog X.w H' h')(hg:ZB g')(a:∀b∈ch,(b∈X.ex\/X.s₀.heap.objs.size<=b)/\b≠X.env.locals/\(∀x c,X.env.cells.lookup x=some c->c≠b)/\∀p∈X.pn++pins,p.1≠b) :
  Inv X pins σ H' { s with heap:=h',gens:=g',drawn:=d',toks:=t' }:=by
 let⟨m,⟨o,es,ep,j,r⟩,_⟩:=id I.loc;let⟨l,h⟩:=u.any j I.free λz=>(a _ z).2.1 rfl;exact I.step (ch:=ch) a (λb o h hb hc e n=>u.keep b o e n (λz=>(List.mem_cons.mp (I.vh b z)).elim h hb) hc) (λb o _ _ hc e n=>u.any e n hc) (λb o hc e n=>u.free b o e n hc) (λb o hc e=>u.there b o e hc) u.tups u.frzs u.tbls (λm' hm=>by
  let⟨o',g,f,d,k⟩:=hm;rw[j]at d;cases d;exact⟨_,g,f,h,k⟩) i hg
def Inv.turned{t':Nat}{it:Addr}(I:Inv X pins σ H s)(k:∀b o,b≠it->s.heap.get? b=some o->h'.get? b=some o)(hn:H it=none)(d:it≠X.env.locals)(h1:it∈X.ex\/X.s₀.heap.objs.size<=it)(h2:∀x c,X.env.cells.lookup x=some c->c≠it)(f:∀p∈X.pn++pins,p.1≠it):Inv X pins σ H { s with heap:=h',toks:=t' }:=by
 have a:∀b u,H b=some u->b≠it:=λb u e z=>by rw[z,hn]at e;cases e
 refine I.step (g':=s.gens) (d':=s.drawn) (ch:=[it]) (λb hb=>?_) (λb o _ _ hc e _=>k b o (λz=>hc (by simp[z])) e) (λb o _ _ hc e _=>⟨o.slots,k b o (λz=>hc (by simp[z])) e⟩) (λ_ _ _ _ n=>n)
  (λb o hc e=>⟨o,k b o (λz=>hc (by simp[z])) e⟩) (λ_ _ e=>e) (λ_ _ _ e=>e) (λb ps e=>⟨#[],by rw[e];simp⟩) (λm hm=>?_) (λb u e=>?_) I.bare
 ·have e:b=it:=↑hb
  subst e;exact⟨h1,d,h2,f⟩
 ·let⟨o,es,ep,g,r⟩:=hm;exact⟨o,es,ep,k _ o (Ne.symm d) g,r⟩
 ·refine(I.hok b u e).stay (λc v hc q=>k c v ?_ q) (λ_ q=>q) λ_ _ q=>q;rcases hc with z|z
  ·rw[z];exact a b u e
  ·exact a c _ z
def Inv.tok(I:Inv X pins σ H s)(t:Nat):Inv X pins σ H { s with toks:=t }:=I.un (h':=s.heap) (t':=t) Un.refl I.hok
def Inv.kept{t':Nat}(I:Inv X pins σ H s)(k:∀b u,s.heap.get? b=some u->h'.get? b=some u):Inv X pins σ H { s with heap:=h',toks:=t' }:=I.un (Un.kept k) (I.hok.kept k)
def Inv.laid{a:Addr}{o:HO}{t':Nat}(I:Inv X pins σ H s)(k:∀b u,s.heap.get? b=some u->h'.get? b=some u)(hp:↥s<=a)(new:bR X.prog X.w (upd H a o) h' a o) :
  Inv X pins σ (upd H a o) { s with heap:=h',toks:=t' }:=I.un (Un.laid k hp (I.hok.fresh hp)) (I.hok.laid k hp new)
def Inv.write{x e:Addr}{o:HO}{t':Nat}(I:Inv X pins σ H s)(c:Mut (H x))(he:e=x\/H e=some (.own x))(k:∀b u,b≠e->s.heap.get? b=some u->h'.get? b=some u)(a:∃u,h'.get? e=some u)(new:bR X.prog X.w (upd H x o) h' x o):Inv X pins σ (upd H x o) { s with heap:=h',toks:=t' }:=I.un (Un.write c he k a) (I.hok.write c he k a new)
def Inv.qC{a:er}(I:Inv X pins σ H s)(h:∀p∈a,s.heap.get? p.1=some p.2/\H p.1=none/\p.1≠X.env.locals/\p.1∉X.fs/\∀v,p.2.data≠.cell v):Inv X a σ H s :=
 ⟨I.ok,I.os,I.bare,I.fw,I.loc,I.cell,I.free,I.freeC,λp hp=>(List.mem_append.mp hp).elim (λz=>I.pin p (List.mem_append_left _ z)) (h p),I.hok,I.len⟩
def xY{N:List Str}(hN:N.Nodup){i j:Nat}{x:Str}(a:N[i]?=some x)(b:N[j]?=some x):i=j:=by
 let⟨h1,c⟩:=List.getElem?_eq_some_iff.mp a;let⟨h2,d⟩:=List.getElem?_eq_some_iff.mp b;exact(List.getElem_inj hN).mp (c.trans d.symm)
def uF{M:ZD}{A:Zr}{E:em}{i:Nat}{x:Str}{v:V}{u:Value}{Q:Unit->Shared->Prop}(I:Inv X pins σ H s)(Z:∀j,X.N[j]?=some x->j=i)(hi:X.N[i]?=some x)(l:Loc X.env.scope x)(r:RelV v u)(h:∀s',Inv X pins (σ.set i (some v)) H s'->(∃a,Heap.SameBut a s.heap s'.heap/\(a=X.env.locals\/X.env.cells.lookup x=some a))->Q .unit s')(hf:X.fn x=true\/X.env.scope.names.lookup x=some .local:=by first|exact .inl rfl|exact .inr rfl|assumption):wpAny M A (storeName X.env x u) Q E s:=by
 let⟨m,hn,hl⟩:=id I.loc;have J:(X.env.scope.kind==.class || (X.env.scope.kind==.module&&X.env.locals != X.env.globals))=false:=by rw[I.ok.kind];rfl
 have B:i<⇑σ:=by rw[I.len];exact(List.getElem?_eq_some_iff.mp hi).1
 have C:=I.cne;have g:∀{a:Addr}{h':Heap},(∃o,s.heap.get? a=some o/\H a=none)->Heap.SameBut a s.heap h'->HOk X.prog X.w H h':=λ{a h'} ha hs b ob e=>by
  let⟨_,_,t⟩:=ha;refine(I.hok b ob e).stay (λc R hc q=>(hs.2 c ?_).trans q) (λ_ q=>q) λ_ _ q=>q;rintro rfl;rcases hc with rfl|hc
  ·rw[t]at e;cases e
  ·rw[t]at hc;cases hc
 rcases l with hk|hk
 ·refine wpAny_storeName_local hk hn (λh' hn' hs=>?_) J;let⟨oL,_,_,S,_⟩:=id hn;refine h _ ⟨I.ok,I.os,I.bare,⟨λb o e n hb l=>?_,λb o e n hb l=>?_,I.fw.free,λb o e l=>?_,I.fw.tups,I.fw.frzs,I.fw.tbls⟩,⟨_,hn',λj y v' f e2 e3=>?_⟩,λy c e=>?_,I.free,I.freeC,λp hp=>?_,g ⟨oL,S,I.free⟩ hs,↑I.len⟩ ⟨_,hs,.inl rfl⟩
  ·exact(hs.2 b (Nat.ne_of_lt (Nat.lt_of_lt_of_le (Heap.lt_size e) I.ok.above))).trans (I.fw.keep b o e n hb l)
  ·let⟨W,f⟩:=I.fw.slot b o e n hb l;exact⟨W,(hs.2 b (Nat.ne_of_lt (Nat.lt_of_lt_of_le (Heap.lt_size e) I.ok.above))).trans f⟩
  ·let⟨o',f⟩:=I.fw.there b o e l;exact⟨o',(hs.2 b (Nat.ne_of_lt (Nat.lt_of_lt_of_le (Heap.lt_size e) I.ok.above))).trans f⟩
  ·by_cases F:j=i
   ·subst F;rw[hi]at f;cases f;rw[List.getElem?_set_self B]at e2;cases e2;exact⟨u,r,.inl ⟨hk,by simp⟩⟩
   ·rw[List.getElem?_set_ne (Ne.symm F)]at e2;let⟨Y,U,q⟩:=hl j y v' f e2 e3;refine⟨Y,U,?_⟩;rcases q with⟨k,e⟩|⟨k,c,e,z⟩
    ·refine .inl ⟨k,?_⟩;have:y≠x:=λe=>F (Z _ (e ▸ f));simp[this,e]
    ·exact .inr ⟨k,c,e,z.sameBut hs (C y c e)⟩
  ·let⟨R,z⟩:=I.cell y c e;exact⟨R,z.sameBut hs (C y c e)⟩
  ·let⟨e,n,P,T,d⟩:=I.pin p hp;exact⟨(hs.2 p.1 P).trans e,n,P,T,d⟩
 ·have D:X.fn x=true:=by
   rcases hf with z|z
   ·exact z
   ·rw[z]at hk;cases hk
  let⟨c,hc⟩:=I.ok.has x (.inl hk);let⟨R,z⟩:=I.cell x c hc;refine wpAny_storeName_cell I.ok.kind hk hc z (λh' hc' hs=>?_);let⟨oc,K,L⟩:=id z;refine h { s with heap:=h' } ⟨I.ok,I.os,I.bare,⟨λb o e n hb l=>?_,λb o e n hb l=>?_,I.fw.free,λb o e l=>?_,I.fw.tups,I.fw.frzs,I.fw.tbls⟩,⟨m,hn.sameBut hs (Ne.symm (C x c hc)),λj y v' f e2 e3=>?_⟩,λy O e=>?_,I.free,I.freeC,λp hp=>?_,g ⟨oc,K,I.freeC x c hc⟩ hs,↑I.len⟩ ⟨c,hs,.inr hc⟩
  ·exact(hs.2 b (Nat.ne_of_lt (Nat.lt_of_lt_of_le (Heap.lt_size e) (I.ok.cab x c D hc)))).trans (I.fw.keep b o e n hb l)
  ·let⟨W,f⟩:=I.fw.slot b o e n hb l;exact⟨W,(hs.2 b (Nat.ne_of_lt (Nat.lt_of_lt_of_le (Heap.lt_size e) (I.ok.cab x c D hc)))).trans f⟩
  ·let⟨o',f⟩:=I.fw.there b o e l;exact⟨o',(hs.2 b (Nat.ne_of_lt (Nat.lt_of_lt_of_le (Heap.lt_size e) (I.ok.cab x c D hc)))).trans f⟩
  ·by_cases F:j=i
   ·subst F;rw[hi]at f;cases f;rw[List.getElem?_set_self B]at e2;cases e2;exact⟨u,r,.inr ⟨.inl hk,c,hc,hc'⟩⟩
   ·rw[List.getElem?_set_ne (Ne.symm F)]at e2;let⟨Y,U,q⟩:=hl j y v' f e2 e3;refine⟨Y,U,?_⟩;rcases q with q|⟨k,O,e,z'⟩
    ·exact .inl q
    ·refine .inr ⟨k,O,e,z'.sameBut hs ?_⟩;rintro rfl;exact F (Z _ (I.ok.inj _ _ _ e hc ▸ f))
  ·by_cases G:O=c
   ·subst G;exact⟨_,hc'⟩
   ·let⟨w2,z2⟩:=I.cell y O e;exact⟨w2,z2.sameBut hs G⟩
  ·let⟨e,n,P,T,d⟩:=I.pin p hp;refine⟨(hs.2 p.1 ?_).trans e,n,P,T,d⟩;intro q;rw[q,K]at e;have q':oc=p.2:=Option.some.inj e;exact d R (by rw[←q'];exact L)
def wR{M:ZD}{A:Zr}{E:em}{i:Nat}{x:Str}{v:V}{u:Value}{Q:Unit->Shared->Prop}(I:Inv X pins σ H s)(hN:X.N.Nodup)(hi:X.N[i]?=some x)(b:Loc X.env.scope x)(r:RelV v u)(h:∀s',Inv X pins (σ.set i (some v)) H s'->Q .unit s')(a:X.fn x=true\/X.env.scope.names.lookup x=some .local:=by first|exact .inl rfl|exact .inr rfl|assumption):wpAny M A (storeName X.env x u) Q E s :=
 uF I (λj h=>xY hN h hi) hi b r (λs' I' _=>h s' I') a
def Inv.call'{a:Shared}{ch:List Addr}(I:Inv X pins σ H s)(g:a.os=s.os)(u:Un (frs X.stack) ch H H' s.heap a.heap)(f:HOk X.prog X.w H' a.heap)(hg:ZB a.gens)(d:∀b∈ch,(b∈X.ex\/X.s₀.heap.objs.size<=b)/\b≠X.env.locals/\(∀x c,X.env.cells.lookup x=some c->c≠b)/\∀p∈X.pn++pins,p.1≠b):Inv X pins σ H' a:=by
 let⟨h',g',d',t',o'⟩:=a;have e:o'=s.os:=g;subst e;exact I.call (g':=g') (t':=t') (d':=d') u f hg d
end
abbrev XK:=Value->eD->Hp->Prop
abbrev St:=List (Option V)
abbrev VK:=V->Hp->Prop
abbrev TE:=St->Hp->VK->Prop
abbrev TT:=St->Hp->(Bool->Hp->Prop)->Prop
abbrev TA:=St->Hp->(List V->Hp->Prop)->Prop
structure Ends where
 nx:St->Hp->Prop
 rt:VK
 bk:St->Hp->Prop:=λ_ _=>False
 ct:St->Hp->Prop:=λ_ _=>False
abbrev TS:=Ends->St->Hp->Prop
def EP(X:Cx)(a:er)(σ:St)(Q:VK)(u:Value)(b:Shared):Prop:=∃v H',Inv X a σ H' b/\RelV v u/\Q v H'
def TP(X:Cx)(a:er)(σ:St)(Q:Bool->Hp->Prop)(b:Bool)(c:Shared):Prop:=∃H',Inv X a σ H' c/\Q b H'
def AP(X:Cx)(a:er)(σ:St)(Q:List V->Hp->Prop)(us:eC)(b:Shared):Prop:=∃vs H',Inv X a σ H' b/\Vals vs us/\Q vs H'
def SP(X:Cx)(a:er)(D:Ends)(f:Flow)(b:Shared):Prop :=
 match f with
 |.next=>∃σ' H',Inv X a σ' H' b/\D.nx σ' H'
 |.brk=>∃σ' H',Inv X a σ' H' b/\D.bk σ' H'
 |.cont=>∃σ' H',Inv X a σ' H' b/\D.ct σ' H'
 |.ret u=>∃v σ' H',Inv X a σ' H' b/\RelV v u/\D.rt v H'
def PE(X:Cx)(e:Zt)(t:TE):Prop :=
 ∀(pins:er)(s:Shared)(σ:St)(H:Hp)(Q:VK),Inv X pins σ H s->t σ H Q->wpAny (model X.prog X.w) X.A (Zv e X.env) (EP X pins σ Q) X.xe s
def PT(X:Cx)(e:Zt)(t:TT):Prop :=
 ∀(pins:er)(s:Shared)(σ:St)(H:Hp)(Q:Bool->Hp->Prop),Inv X pins σ H s->t σ H Q->wpAny (model X.prog X.w) X.A (ZE e X.env (Zv e X.env)) (TP X pins σ Q) X.xe s
def PW(X:Cx)(e:Zt)(t:TT):Prop :=
 ∀(whole:Sem Value)(pins:er)(s:Shared)(σ:St)(H:Hp)(Q:Bool->Hp->Prop),Inv X pins σ H s->t σ H Q->wpAny (model X.prog X.w) X.A (ZE e X.env whole) (TP X pins σ Q) X.xe s
def PW.pt{X:Cx}{e:Zt}{t:TT}(h:PW X e t):PT X e t:=h _
def PA(X:Cx)(es:List Zt)(t:TA):Prop :=
 ∀(pos:Pos)(pins:er)(s:Shared)(σ:St)(H:Hp)(Q:List V->Hp->Prop),Inv X pins σ H s->t σ H Q->wpAny (model X.prog X.w) X.A (spliced (Zw pos (Zu es X.env))) (AP X pins σ Q) X.xe s
def PS(X:Cx)(st:ZF)(t:TS):Prop :=
 ∀(pins:er)(s:Shared)(σ:St)(H:Hp)(D:Ends),Inv X pins σ H s->t D σ H->wpAny (model X.prog X.w) X.A (exec st X.env) (SP X pins D) X.xe s
def PSs(X:Cx)(st:List ZF)(t:TS):Prop :=
 ∀(pins:er)(s:Shared)(σ:St)(H:Hp)(D:Ends),Inv X pins σ H s->t D σ H->wpAny (model X.prog X.w) X.A (execs st X.env) (SP X pins D) X.xe s
def thn{α:Type}{t:Sem α}{Q b:α->Shared->Prop}{M:ZD}{A:Zr}{E:em}{s:Shared}(h:wpAny M A t Q E s)(c:∀a s,Q a s->b a s):wpAny M A t b E s:=ZG h c λ_ _ x=>x
section
def bin{a b:Zt}{d e:TE}(ha:PE X a d)(hb:PE X b e){c:er}{s:Shared}{σ:St}{H:Hp}{R:V->V->Hp->Prop}(I:Inv X c σ H s)(h:d σ H λx H1=>e σ H1 λy H2=>R x y H2){α:Type}{Q:α->Shared->Prop}{f:Value->Value->Sem α}(g:∀v u s2 x y H2,Inv X c σ H2 s2->RelV x v->RelV y u->R x y H2->wpAny (model X.prog X.w) X.A (f v u) Q X.xe s2) :
  wpAny (model X.prog X.w) X.A (Zv a X.env) (λv s₁=>wpAny (model X.prog X.w) X.A (Zv b X.env) (λu s₂=>wpAny (model X.prog X.w) X.A (f v u) Q X.xe s₂) X.xe s₁) X.xe s:=by
 refine thn (ha c s σ H _ I h) λv s1 ⟨x,H1,I1,r1,q1⟩=>?_;refine thn (hb c s1 σ H1 _ I1 q1) λu s2 ⟨y,H2,I2,r2,q2⟩=>?_;exact g v u s2 x y H2 I2 r1 r2 q2
def jw(i:Nat):TE:=λσ H Q=>∃v,σ[i]?=some (some v)/\Q v H
def tC(v:V):TE:=λ_ H Q=>Q v H
def Ri{i:Nat}{x:Str}{pos:Pos}(hN:X.N[i]?=some x)(hv:Vis X.env.scope x)(hd:(x==("__debug__":Str))=false:=by decide)(hcd:(x==("__classdict__":Str))=false:=by decide):PE X (.Name x pos) (jw i):=by
 intro d s σ H Q I h;let⟨v,e,h⟩:=h;let⟨m,hn,hl⟩:=I.loc;let⟨u,r,l⟩:=hl i x v hN e hv;have b:EP X d σ Q u s:=⟨v,H,I,r,h⟩
 rcases l with⟨hk,hm⟩|⟨hk,c,hc,a⟩
 ·exact ZH (wpAny_loadName_local I.ok.kind hk hn hm b) hd
 ·rcases hk with hk|hk
  ·exact ZH (wpAny_loadName_cell I.ok.kind hk hc a b) hd
  ·exact ZH (wpAny_loadName_free I.ok.kind hk hc a b hcd) hd
def cL{i j pos}:PE X (.Constant (.int i) j pos) (tC (.int i)):=λ_ _ _ H _ I h=>ZI ⟨.int i,H,I.tok _,⟨_,rfl⟩,h⟩
def Vb{b j pos}:PE X (.Constant (.bool b) j pos) (tC (.bl b)):=λ_ _ _ H _ I h=>Constant_bool ⟨.bl b,H,I,rfl,h⟩
def Rm{j pos}:PE X (.Constant .none j pos) (tC .non):=λ_ _ _ H _ I h=>Constant_none ⟨.non,H,I,rfl,h⟩
def eU{x j pos}:PE X (.Constant (.str x) j pos) (tC (.str x)):=λ_ _ _ H _ I h=>Calls.Constant_str ⟨.str x,H,I.tok _,⟨_,rfl⟩,h⟩
def Gl(X:Cx)(x:Str):Prop:=X.env.kindOf x=some .globalImplicit
def vU{E:em}{a:er}{s:Shared}{σ:St}{H:Hp}{x:Str}{u:Value}{pos:Pos}{Q:em}(I:Inv X a σ H s)(hg:Gl X x)(hm:X.mg x=some u)(h:Q u s)(hd:(x==("__debug__":Str))=false:=by decide):wpAny (model X.prog X.w) X.A (Zv (.Name x pos) X.env) Q E s :=
 Calls.Name_function_global I.ok.kind hg (Calls.loadGlobal_global (by rw[I.ok.glob];exact I.mod.glob.keeps I.bk) hm h) hd
def jV{E:em}{a:er}{s:Shared}{σ:St}{H:Hp}{x:Str}{u:Value}{pos:Pos}{Q:em}(I:Inv X a σ H s)(hg:Gl X x)(hm:X.mg x=none)(hv:Zq x=some u)(h:Q u s)(hn:x≠"__name__":=by decide)(hd:(x==("__debug__":Str))=false:=by decide):wpAny (model X.prog X.w) X.A (Zv (.Name x pos) X.env) Q E s:=by
 let⟨b,h1,h2⟩:=I.mod.blt;exact Calls.Name_function_global I.ok.kind hg (Calls.loadGlobal_builtin (by rw[I.ok.glob];exact I.mod.glob.keeps I.bk) hm (by rw[I.ok.blt];exact h1.keeps I.bk) ((h2 x hn).trans hv) h) hd
def Np{x:Str}{v:V}{u:Value}{pos:Pos}(hg:Gl X x)(hm:X.mg x=some u)(r:RelV v u)(hd:(x==("__debug__":Str))=false:=by decide):PE X (.Name x pos) (tC v) :=
 λ_ _ _ H _ I h=>vU I hg hm ⟨v,H,I,r,h⟩ hd
def Nt{x:Str}{v:V}{u:Value}{pos:Pos}(hg:Gl X x)(hm:X.mg x=none)(hv:Zq x=some u)(r:RelV v u)(hn:x≠"__name__":=by decide)(hd:(x==("__debug__":Str))=false:=by decide):PE X (.Name x pos) (tC v) :=
 λ_ _ _ H _ I h=>jV I hg hm hv ⟨v,H,I,r,h⟩ hn hd
variable{a b:Zt}{ta tb:TE}{pos:Pos}
def PC(X:Cx)(c:ZJ)(a b:Zt)(t:TE):Prop :=
 ∀(pins:er)(s:Shared)(σ:St)(H:Hp)(Q:VK),Inv X pins σ H s->t σ H Q ->
  wpAny (model X.prog X.w) X.A (Zv a X.env) (λv s₁=>wpAny (model X.prog X.w) X.A (Zv b X.env) (λu s₂=>wpAny (model X.prog X.w) X.A (ZK c v u) (EP X pins σ Q) X.xe s₂) X.xe s₁) X.xe s
def tB(t:TE):TT:=λσ H Q=>t σ H λx H1=>∃c,x=.bl c/\Q c H1
def Ra{f:ZJ}{t:TE}(h:PC X f a b t)(h1:ZL f b=false:=by first|exact nobehind _ ∅ ∅|rfl):PT X (.Compare a [f] [b] pos) (tB t):=by
 intro e s σ H Q I g;refine ZM (thn (h e s σ H _ I g) λv s1 h1=>thn h1 λu s2 h2=>thn h2 λc s3 ⟨x,H1,I1,r1,q1⟩=>?_) h1;let⟨d,rfl,q⟩:=q1;cases r1;exact ZN ⟨H1,I1,q⟩
def Q8{e:Zt}{t:TE}(h:PE X e t)(he:∀whole,ZE e X.env whole=(do let v ←whole;standAt e.pos;holding [v] (ZO v)):=by intro _;rfl):PT X e (tB t):=by
 intro c s σ H Q I f;refine isTrue_plain (thn (h c s σ H _ I f) λv s1 ⟨x,H1,I1,r1,q1⟩=>?_) (he _);let⟨d,rfl,q⟩:=q1;cases r1;exact ZN ⟨H1,I1,q⟩
variable{tA tB':TT}{rest:List Zt}
def UJ(t u:TT):TT:=λσ H Q=>t σ H λc H1=>if c=true then u σ H1 Q else Q false H1
def tOr(t u:TT):TT:=λσ H Q=>t σ H λc H1=>if c=true then Q true H1 else u σ H1 Q
def Wo(t:TT):TT:=λσ H Q=>t σ H λc H1=>Q (!c) H1
def CV(ha:PT X a tA):PW X (.BoolOp .And [a] pos) tA:=by
 intro f d s σ H Q I h;refine isTrue_and (thn (ha d s σ H Q I h) λc s1 e=>?_);cases c with
 |true=>exact isTrue_and_nil e
 |false=>exact e
def Q6(ha:PT X a tA):PW X (.BoolOp .Or [a] pos) tA:=by
 intro f d s σ H Q I h;refine isTrue_or (thn (ha d s σ H Q I h) λc s1 e=>?_);cases c with
 |false=>exact isTrue_or_nil e
 |true=>exact e
def IK(ha:PT X a tA)(hb:PW X (.BoolOp .And (b::rest) pos) tB'):PW X (.BoolOp .And (a::b::rest) pos) (UJ tA tB'):=by
 intro e d s σ H Q I h;refine isTrue_and (thn (ha d s σ H _ I h) λc s1 ⟨H1,I1,q1⟩=>?_);cases c with
 |true=>exact hb e d s1 σ H1 Q I1 q1
 |false=>exact⟨H1,I1,q1⟩
def U8(ha:PT X a tA)(hb:PW X (.BoolOp .Or (b::rest) pos) tB'):PW X (.BoolOp .Or (a::b::rest) pos) (tOr tA tB'):=by
 intro e d s σ H Q I h;refine isTrue_or (thn (ha d s σ H _ I h) λc s1 ⟨H1,I1,q1⟩=>?_);cases c with
 |true=>exact⟨H1,I1,q1⟩
 |false=>exact hb e d s1 σ H1 Q I1 q1
def Q9(ha:PT X a tA):PT X (.UnaryOp .Not a pos) (Wo tA):=by
 intro d s σ H Q I h;exact isTrue_not (ha d s σ H (λc H1=>Q (!c) H1) I h)
def UG(ta tb:TE):TE:=λσ H Q=>ta σ H λx H1=>∃c,x=.bl c/\if c=true then tb σ H1 Q else Q (.bl false) H1
def Ul(ta:TE):TE:=λσ H Q=>ta σ H λx H1=>∃c,x=.bl c/\Q (.bl (!c)) H1
def Rj{op}{t:TE}(h:PE X a t):PE X (.BoolOp op [a] pos) t:=λpins s σ H Q I hw=>BoolOp_one (h pins s σ H Q I hw)
def Rr(ha:PE X a ta)(hb:PE X (.BoolOp .And (b::rest) pos) tb):PE X (.BoolOp .And (a::b::rest) pos) (UG ta tb):=by
 intro d s σ H Q I h;refine BoolOp_and (thn (ha d s σ H _ I h) λv s1 ⟨x,H1,I1,r1,e⟩=>?_);let⟨c,rfl,e⟩:=e;cases r1;refine ZN ?_;cases c with
 |true=>exact hb d s1 σ H1 Q I1 e
 |false=>exact⟨.bl false,H1,I1,rfl,e⟩
def Rk(ha:PE X a ta):PE X (.UnaryOp .Not a pos) (Ul ta):=by
 intro d s σ H Q I h;refine UnaryOp_ (thn (ha d s σ H _ I h) λv s1 ⟨x,H1,I1,r1,e⟩=>?_);let⟨c,rfl,e⟩:=e;cases r1;exact not_of (ZN ⟨.bl (!c),H1,I1,rfl,e⟩)
def tIf(t:TT)(ta tb:TE):TE:=λσ H Q=>t σ H λc H1=>if c=true then ta σ H1 Q else tb σ H1 Q
def Jt{c:Zt}(hc:PT X c tA)(ha:PE X a ta)(hb:PE X b tb):PE X (.IfExp c a b pos) (tIf tA ta tb):=by
 intro e s σ H Q I h;refine wpAny_IfExp (thn (hc e s σ H _ I h) λd s1 ⟨H1,I1,q1⟩=>?_);cases d with
 |true=>exact ha e s1 σ H1 Q I1 q1
 |false=>exact hb e s1 σ H1 Q I1 q1
end
def SqL(K:W.Frag)(H:Hp)(a:Addr)(xs:List V):Prop :=
 Rd H a (.lst xs)∨
  ∃(o:Obj)(its:eB)(n:Nat),K.lookup a=some o/\o.cls=.type "list"/\o.dict=none/\o.data=.seq its n/\its.size<=sizeLine/\Vals xs its.toList
def SqT(K:W.Frag)(H:Hp)(a:Addr)(xs:List V):Prop :=
 Rd H a (.tup xs)∨
  ∃(o:Obj)(its:eB)(n:Nat),K.lookup a=some o/\o.cls=.type "tuple"/\o.data=.seq its n/\its.size<=sizeLine/\Vals xs its.toList
def Xb:Value->Option V
 |.none=>some .non
 |.bool b=>some (.bl b)
 |.int i _=>some (.int i)
 |.str x _=>some (.str x)
 |.bytes b _=>some (.byt b)
 |.float b _=>some (.flt b)
 |.ref a=>some (.ref a)
 |.type n=>some (.ty n)
 |_=>none
def RelV.abs{x:V}{u:Value}(r:RelV x u):Xb u=some x:=by
 cases x with
 |non=>cases r;rfl
 |bl _=>cases r;rfl
 |int _=>let⟨t,rfl⟩:=r;rfl
 |str _=>let⟨t,rfl⟩:=r;rfl
 |byt _=>let⟨t,rfl⟩:=r;rfl
 |flt _=>let⟨t,rfl⟩:=r;rfl
 |ref _=>cases r;rfl
 |ty _=>cases r;rfl
def RelV.inj{x y:V}{u:Value}(r:RelV x u)(q:RelV y u):x=y:=Option.some.inj (r.abs.symm.trans q.abs)
theorem Vals.inj:∀{xs ys:List V}{us:eC},Vals xs us->Vals ys us->xs=ys
 |_,_,_,.nil,.nil=>rfl
 |_,_,_,.cons r t,.cons r' t'=>by rw[r.inj r',Vals.inj t t']
section
variable{pins:er}{σ:St}{H:Hp}{s:Shared}{a:Addr}{xs ys:List V}
def SqL.of{K:W.Frag}(h:H a=some (.lst xs)):SqL K H a xs:=.inl (.inl h)
def SqT.of{K:W.Frag}(h:H a=some (.tup xs)):SqT K H a xs:=.inl (.inl h)
def Inv.list(I:Inv X pins σ H s)(h:SqL X.K H a xs):∃its:eC,Vals xs its/\PlainL s.heap a its.toArray/\⇑xs<=sizeLine:=by
 rcases h with h|⟨o,its,n,hk,hc,hd,hs,b,r⟩
 ·let⟨z,its,n,r,e⟩:=h.ok I.hok;exact⟨its,r,⟨_,n,e,rfl,rfl,rfl⟩,z⟩
 ·refine⟨its.toList,r,⟨o,n,I.kIn a o hk,hc,hd,↑hs⟩,?_⟩;have e:=⇑r;simp only[Array.length_toList]at e;lia
def Inv.tuple(I:Inv X pins σ H s)(h:SqT X.K H a xs):∃its:eC,Vals xs its/\IsTup s.heap a its.toArray/\⇑xs<=sizeLine:=by
 rcases h with h|⟨o,its,n,hk,hc,hs,b,r⟩
 ·let⟨z,its,r,p⟩:=h.ok I.hok;exact⟨its,r,p,z⟩
 ·refine⟨its.toList,r,⟨o,I.kIn a o hk,hc,n,↑hs⟩,?_⟩;have e:=⇑r;simp only[Array.length_toList]at e;lia
def Inv.n8(I:Inv X pins σ H s)(h:SqL X.K H a xs)(h':SqL X.K H a ys):xs=ys:=by
 let⟨its,r,⟨o,n,e,_,_,d⟩,_⟩:=I.list h;let⟨its',c,⟨o',f,b,_,_,d'⟩,_⟩:=I.list h';rw[e]at b;cases b;rw[d]at d';injection d' with d1 _;have:its=its':=↑(eh Array.toList d1)
 subst this;exact r.inj c
def Inv.kJ(I:Inv X pins σ H s)(h:SqT X.K H a xs)(h':SqT X.K H a ys):xs=ys:=by
 let⟨its,r,⟨o,e,_,n,d⟩,_⟩:=I.tuple h;let⟨its',c,⟨o',b,_,f,d'⟩,_⟩:=I.tuple h';rw[e]at b;cases b;rw[d]at d';injection d' with d1 _;have:its=its':=↑(eh Array.toList d1)
 subst this;exact r.inj c
end
abbrev Cx.wish(X:Cx)(E:em):Cx:={ X with xe:=E }
abbrev Cx.nox(X:Cx):Cx:=X.wish λ_ _=>False
def Cx.Ok.wish{X:Cx}(ok:X.Ok)(E:em):(X.wish E).Ok :=
 ⟨ok.mod,ok.kind,ok.glob,ok.blt,ok.above,ok.inj,ok.has,ok.cab,ok.hd,ok.frames,ok.stk,ok.exf,ok.bs,ok.bsz,ok.noex,ok.exfs,ok.lO,ok.frf,ok.sof⟩
def Cx.Ok.jx{X:Cx}{E:em}(ok:(X.wish E).Ok):X.Ok :=
 ⟨ok.mod,ok.kind,ok.glob,ok.blt,ok.above,ok.inj,ok.has,ok.cab,ok.hd,ok.frames,ok.stk,ok.exf,ok.bs,ok.bsz,ok.noex,ok.exfs,ok.lO,ok.frf,ok.sof⟩
section
variable{pins:er}{σ:St}{H:Hp}{s:Shared}{E:em}
def Inv.wish(I:Inv X pins σ H s)(E:em):Inv (X.wish E) pins σ H s:=⟨I.ok.wish E,I.os,I.bare,I.fw,I.loc,I.cell,I.free,I.freeC,I.pin,I.hok,I.len⟩
def Inv.jx(I:Inv (X.wish E) pins σ H s):Inv X pins σ H s:=⟨I.ok.jx,I.os,I.bare,I.fw,I.loc,I.cell,I.free,I.freeC,I.pin,I.hok,I.len⟩
def SP.jx{D:Ends}{f:Flow}{b:Shared}(h:SP (X.wish E) pins D f b):SP X pins D f b:=by
 cases f with
 |next=>let⟨a,H',I,q⟩:=h;exact⟨a,H',I.jx,q⟩
 |brk=>let⟨a,H',I,q⟩:=h;exact⟨a,H',I.jx,q⟩
 |cont=>let⟨a,H',I,q⟩:=h;exact⟨a,H',I.jx,q⟩
 |ret u=>let⟨v,a,H',I,r,q⟩:=h;exact⟨v,a,H',I.jx,r,q⟩
def PSs.nox{st:List ZF}{t:TS}(h:PSs X.nox st t):PSs X st t:=λpins s σ H D I hw =>
 ZG (h pins s σ H D (I.wish _) hw) (λ_ _ q=>q.jx) λ_ _ z=>False.elim z
end
section
variable{st:ZF}{rest:List ZF}{t u:TS}{e:Zt}{te:TE}{pos:Pos}
def Um:TS:=λD σ H=>D.nx σ H
def Ui(t u:TS):TS:=λD σ H=>t { D with nx:=u D } σ H
def nA:PSs X [] Um:=λ_ _ σ H _ I h=>ZP ⟨σ,H,I,h⟩
def cC(h1:PS X st t)(h2:PSs X rest u):PSs X (st::rest) (Ui t u):=by
 intro a s σ H D I h;refine wpAny_execs_cons (thn (h1 a s σ H { D with nx:=u D } I h) λf s1 q=>?_);cases f with
 |next =>
  let⟨b,H',c,q⟩:=q;exact h2 a s1 b H' D c q
 |ret v=>exact q
 |brk=>exact q
 |cont=>exact q
def fZ(h1:PS X st t):PSs X [st] t:=by
 intro a s σ H D I h;refine wpAny_execs_cons (thn (h1 a s σ H D I h) λf s1 q=>?_);cases f with
 |next=>exact ZP q
 |ret v=>exact q
 |brk=>exact q
 |cont=>exact q
def Inv.quiet{a:er}{σ:St}{H:Hp}{s:Shared}(I:Inv X a σ H s):interactive X.env=false:=by simp[interactive,I.ok.kind]
def pX(te:TE):TS:=λD σ H=>te σ H λ_ H1=>D.nx σ H1
def gb(he:PE X e te)(hs:ZQ e none pos.line X.env=pure false:=by rfl):PS X (.Expr e pos) (pX te):=by
 intro a s σ H D I h;exact wpAny_Expr_any (thn (he a s σ H _ I h) λv s1 ⟨x,H1,I1,r1,q1⟩=>⟨σ,H1,I1,q1⟩) I.quiet hs
def Wn(te:TE):TS:=λD σ H=>te σ H D.rt
def mD(he:PE X e te):PS X (.Return (some e) pos) (Wn te):=by
 intro a s σ H D I h;exact wpAny_Return_some (thn (he a s σ H _ I h) λv s1 ⟨x,H1,I1,r1,q1⟩=>⟨x,σ,H1,I1,r1,q1⟩)
def Wq(c:TT)(t u:TS):TS:=λD σ H=>c σ H λb H1=>if b=true then t D σ H1 else u D σ H1
def xu{c:Zt}{a b:List ZF}{g:TT}(hc:PT X c g)(ha:PSs X a t)(hb:PSs X b u):PS X (.If c a b pos) (Wq g t u):=by
 intro f s σ H D I h;refine wpAny_If (thn (hc f s σ H _ I h) λd s1 ⟨H1,I1,q1⟩=>?_);cases d with
 |true=>exact ha f s1 σ H1 D I1 q1
 |false=>exact hb f s1 σ H1 D I1 q1
def QD:TS:=λ_ _ _=>False
def Jd:PS X st QD:=λ_ _ _ _ _ _ h=>h.elim
end
abbrev TG:=V->St->Hp->(St->Hp->Prop)->Prop
abbrev TGs:=List V->St->Hp->(St->Hp->Prop)->Prop
def PG(X:Cx)(a:Zt)(t:TG):Prop :=
 ∀(pins:er)(s:Shared)(σ:St)(H:Hp)(v:V)(u:Value)(Q:St->Hp->Prop),Inv X pins σ H s->RelV v u->t v σ H Q ->
  wpAny (model X.prog X.w) X.A (ZR a X.env u) (λ_ s'=>∃σ' H',Inv X pins σ' H' s'/\Q σ' H') X.xe s
def PGs(X:Cx)(a:List Zt)(t:TGs):Prop :=
 ∀(pins:er)(s:Shared)(σ:St)(H:Hp)(vs:List V)(us:eC)(Q:St->Hp->Prop),Inv X pins σ H s->Vals vs us->t vs σ H Q ->
  wpAny (model X.prog X.w) X.A (assignInOrder ((ZU a X.env).map (·.2)) us) (λ_ s'=>∃σ' H',Inv X pins σ' H' s'/\Q σ' H') X.xe s
section
variable{pos:Pos}
def iW(i:Nat):TG:=λv σ H Q=>Q (σ.set i (some v)) H
def vB{i:Nat}{x:Str}(hN:X.N.Nodup)(hi:X.N[i]?=some x)(c:Loc X.env.scope x)(b:X.fn x=true\/X.env.scope.names.lookup x=some .local:=by first|exact .inl rfl|exact .inr rfl|assumption):PG X (.Name x pos) (iW i):=by
 intro a s σ H v u Q I r h;exact ZV (wR I hN hi c r (λs' I'=>⟨_,H,I',h⟩) b)
def W7:TGs:=λvs σ H Q=>vs=[]/\Q σ H
def Vy(t:TG)(u:TGs):TGs:=λvs σ H Q=>∃v r,vs=v::r/\t v σ H λσ' H'=>u r σ' H' Q
def Ni:PGs X [] W7:=by
 intro a s σ H vs us Q I r h;let⟨e,h⟩:=h;subst e;cases r;exact assignInOrder_nil ⟨σ,H,I,h⟩
def Jm{e:Zt}{es:List Zt}{t:TG}{u:TGs}(h1:PG X e t)(h2:PGs X es u)(hs:(ZU (e::es) X.env).map (·.2)=ZR e X.env::(ZU es X.env).map (·.2):=by rfl):PGs X (e::es) (Vy t u):=by
 intro a s σ H vs us Q I r h;let⟨v,c,b,h⟩:=h;subst b;cases r with
 |cons r rr =>
  rw[hs];refine assignInOrder_cons (thn (h1 a s σ H _ _ _ I r h) λ_ s1 ⟨σ1,H1,I1,q1⟩=>?_);exact h2 a s1 σ1 H1 _ _ Q I1 rr q1
def W6(K:W.Frag)(n:Nat)(t:TGs):TG:=λv σ H Q=>∃a xs,v=.ref a/\SqT K H a xs/\⇑xs=n/\t xs σ H Q
def Rf{es:List Zt}{k:Nat}{t:TGs}{n:Nat}(hc:X.calm=true)(h:PGs X es t)(hn:⇑(ZU es X.env)=n:=by rfl)(hst:(ZU es X.env).findIdx? (·.1)=none:=by rfl):PG X (.Tuple es k pos) (W6 X.K n t):=by
 intro c s σ H v u Q I r d;let⟨a,xs,i,j,hl,d⟩:=d;subst i;cases r;let⟨its,f,ht,l⟩:=I.tuple j;refine assign_Tuple_tuple (I.ok.hd hc) ht (by simp[hn,←hl,⇑f]) hst λh' hx=>?_;have g:Inv X c σ H { s with heap:=h' }:=I.kept (t':=s.toks) λb o e=>hx b o (Nat.ne_of_lt (Heap.lt_size e)) e;exact h c _ σ H xs _ Q g ↑f d
def vg(a:TE)(g:TG):TS:=λD σ H=>a σ H λx H1=>g x σ H1 D.nx
def eY{i:Nat}{x:Str}{e:Zt}{c:TE}{a:Pos}(hN:X.N.Nodup)(hi:X.N[i]?=some x)(f:Loc X.env.scope x)(he:PE X e c)(hs:ZQ e (some (.Name x a)) pos.line X.env=pure false:=by rfl)(d:X.fn x=true\/X.env.scope.names.lookup x=some .local:=by first|exact .inl rfl|exact .inr rfl|assumption) :
  PS X (.Assign [.Name x a] e pos) (vg c (iW i)):=by
 intro b s σ H D I h;refine wpAny_Assign_Name (thn (he b s σ H _ I h) λv s1 ⟨y,H1,I1,r1,q1⟩=>?_) hs;exact wR I1 hN hi f r1 (λs2 I2=>⟨_,H1,I2,q1⟩) d
def QB(c:TT)(a:TS):TS:=λD σ H=>∃W:Nat->St->Hp->Prop,(∃m,W m σ H)/\∀m σ H,W m σ H ->
 c σ H λb H1=>if b=true then ∃N:St->Hp->Prop,(∀σ' H',N σ' H'->∃m',m'<m/\W m' σ' H')/\a { D with nx:=N,ct:=N,bk:=D.nx } σ H1 else D.nx σ H1
def Jb{c:Zt}{g:List ZF}{t:TT}{r:TS}(hp:ZW (model X.prog X.w) X.A X.env X.xe)(hc:PT X c t)(hb:PSs X g r):PS X (.While c g [] pos) (QB t r):=by
 intro a s σ H D I h;let⟨W,⟨x,z⟩,j⟩:=h;refine wpAny_While (codeAny_whileLoop (λn s'=>∃σ' H',Inv X a σ' H' s'/\W n σ' H') ?_ x ⟨σ,H,I,z⟩);rintro n y ⟨e,q,u,B⟩;refine ZX hp (thn (hc a y e q _ u (j n e q B)) λb s2 ⟨H2,I2,k⟩=>?_);cases b with
 |true =>
  let⟨N,hN,k⟩:=k;rw[ed rfl];refine ZX hp (thn (hb a s2 e H2 _ I2 k) λf s3 q3=>?_);cases f with
  |next =>
   let⟨d,i,l,o⟩:=q3;let⟨m,hm,p⟩:=hN d i o;exact⟨m,hm,d,i,l,p⟩
  |cont =>
   let⟨d,i,l,o⟩:=q3;let⟨m,hm,p⟩:=hN d i o;exact⟨m,hm,d,i,l,p⟩
  |brk=>exact q3
  |ret v=>exact q3
 |false =>
  rw[ee Bool.false_ne_true];exact ZP ⟨e,H2,I2,k⟩
end
structure It where
 go:Nat->Hp->Prop
 yld:Nat->Hp->V->Hp->Prop
 stop:Nat->Hp->Prop
def lX(X:Cx)(a:er)(H:Hp)(b:Addr):Prop :=
 H b=none/\b≠X.env.locals/\b∉X.fs/\(b∈X.ex\/X.s₀.heap.objs.size<=b)/\(∀x c,X.env.cells.lookup x=some c->c≠b)/\∀p∈X.pn++a,p.1≠b
def Inv.yH{X:Cx}{a:er}{σ:St}{H H':Hp}{s:Shared}{b:Addr}(I:Inv X a σ H s)(hb:↥s<=b)(hn:H' b=none):lX X a H' b:=by
 refine⟨hn,Nat.ne_of_gt (Nat.lt_of_lt_of_le I.lt hb),I.WQ hb,.inr (Nat.le_trans I.sz hb),λx c e z=>?_,λp hp z=>?_⟩
 ·let⟨v,q⟩:=I.cell x c e;exact ef (Nat.lt_of_lt_of_le q.lt (by rw[z];exact hb)) (Nat.lt_irrefl _)
 ·exact ef (Nat.lt_of_lt_of_le (Heap.lt_size (I.pin p hp).1) (by rw[z];exact hb)) (Nat.lt_irrefl _)
structure TurnG(Cm:Cx->Prop)(P:Za)(w:Zb)(K:W.Frag)(tg:Zt)(J:It)(fp:List Addr)(it:Addr)(tn:Nat->Heap->Prop):Prop where
 mem:it∈fp
 obj:∀i h,tn i h->∀b∈fp,∃o,h.get? b=some o/\∀v,o.data≠.cell v
 keep:∀i h h',tn i h->(∀b∈fp,∀o,h.get? b=some o->h'.get? b=some o)->tn i h'
 item:∀(X:Cx),X.prog=P->X.w=w->X.K=K->Cm X->∀(i:Nat)(pins:er)(s:Shared)(σ:St)(H:Hp)(E:em),Inv X pins σ H s->(∀b∈fp,lX X pins H b)->tn i s.heap->J.go i H ->
  wpAny (model P w) X.A (ZY (.ref it)) (λr s1=>∃u,r=some u /\
   wpAny (model P w) X.A (ZZ tg (.ref it) u) (λ_ s2=>∃x H',Inv X pins σ H' s2/\RelV x u/\J.yld i H x H'/\tn (i+1) s2.heap/\∀b∈fp,H' b=none) E s1) E s
 done:∀(X:Cx),X.prog=P->X.w=w->X.K=K->Cm X->∀(i:Nat)(pins:er)(s:Shared)(σ:St)(H:Hp)(E:em),Inv X pins σ H s->(∀b∈fp,lX X pins H b)->tn i s.heap->J.stop i H ->
  wpAny (model P w) X.A (ZY (.ref it)) (λr s1=>r=none/\Inv X pins σ H s1) E s
 self:∀(A:Zr)(i:Nat)(s:Shared)(Q:em)(E:em),tn i s.heap->Q (.ref it) s->wpAny (model P w) A (pyIter (.ref it)) Q E s
abbrev Turn(P:Za)(w:Zb)(K:W.Frag)(tg:Zt)(J:It)(fp:List Addr)(it:Addr)(tn:Nat->Heap->Prop):Prop:=TurnG (λX=>X.calm=true) P w K tg J fp it tn
abbrev TI:=St->Hp->(It->Hp->Prop)->Prop
def Wg(e:Cx->Prop)(X:Cx)(a:er)(σ:St)(f:Zt)(R:It->Hp->Prop)(c:Value)(d:Shared):Prop :=
 ∃(it:Addr)(fp:List Addr)(tn:Nat->Heap->Prop)(J:It)(H':Hp),c=.ref it/\Inv X a σ H' d/\TurnG e X.prog X.w X.K f J fp it tn/\tn 0 d.heap/\(∀b∈fp,lX X a H' b)/\R J H'
def PIG(b:Cx->Prop)(X:Cx)(c a:Zt)(d:TI):Prop :=
 ∀(pins:er)(s:Shared)(σ:St)(H:Hp)(R:It->Hp->Prop),Inv X pins σ H s->d σ H R ->
  wpAny (model X.prog X.w) X.A (Zv a X.env) (λv s1=>wpAny (model X.prog X.w) X.A (pyIter v) (Wg b X pins σ c R) X.xe s1) X.xe s
abbrev PIE(X:Cx):=Wg (λX=>X.calm=true) X
abbrev PI(X:Cx):=PIG (λX=>X.calm=true) X
def Kq{M:ZD}{A:Zr}{E:em}{s:Shared}{b:Zt}{it:Addr}{u:Value}{o:Obj}{n:String}{vs:eB}{Q:Unit->Shared->Prop}(c:s.heap.get? it=some o)(hc:o.cls=.type n)(hd:o.data=.fields vs)(hn:["enumerate","zip","dict_itemiterator","dict_reverseitemiterator","odict_iterator","itertools.zip_longest","itertools.pairwise"].contains n=false)(a:Q .unit s):wpAny M A (ZZ b (.ref it) u) Q E s:=by
 unfold ZZ;cases b <;> first
  |exact Z0 a
  | (cases u <;> first
    |exact Z0 a
    | (refine wpAny_bind (Z1 c ?_)
       rw[hc,hd];show wpAny M A (if(["enumerate","zip","dict_itemiterator","dict_reverseitemiterator","odict_iterator","itertools.zip_longest","itertools.pairwise"].contains n&&vs[0]?==some (Z2 _))=true then _ else _) Q E s;rw[ee (by intro h;rw[hn,Bool.false_and]at h;cases h)];exact Z0 a))
def Itl(K:W.Frag)(a:Addr):It :=
 ⟨λi H=>∃xs x,SqL K H a xs/\xs[i]?=some x,λi H x H'=>H'=H/\∀xs,SqL K H a xs->xs[i]?=some x,λi H=>∃xs,SqL K H a xs/\⇑xs<=i⟩
def Itt(K:W.Frag)(a:Addr):It :=
 ⟨λi H=>∃xs x,SqT K H a xs/\xs[i]?=some x,λi H x H'=>H'=H/\∀xs,SqT K H a xs->xs[i]?=some x,λi H=>∃xs,SqT K H a xs/\⇑xs<=i⟩
def Itr(lo:Int)(n:Nat):It:=⟨λi _=>i<n,λi H x H'=>H'=H/\x=.int (lo+i),λi _=>n<=i⟩
def Fb{P:Za}{w:Zb}{K:W.Frag}{tg:Zt}(a it:Addr):Turn P w K tg (Itl K a) [it] it (λi h=>h.IsListIter it a i) where
 mem:=by simp
 obj:=λi h st b hb=>by
  have e:b=it:=↑hb
  subst e;let⟨o,e,c,d⟩:=st;exact⟨o,e,λv z=>by rw[d]at z;cases z⟩
 keep:=λi h h' st k=>st.at λo e=>k it (by simp) o e
 item:=by
  intro X hP hw hK hc i pins s σ H E I hf st hg;subst hP hw hK;let⟨xs,x,hq,hx⟩:=hg;let⟨its,rv,p,hz⟩:=I.list hq;let⟨u,hu,ru⟩:=rv.get hx;let⟨f0,f1,f2,f3,f4,f5⟩:=hf it (by simp);refine wpAny_pyNext_list_item st p.isList (x:=u) ↑hu λh' st' sb=>?_;have I1:Inv X pins σ H { s with heap:=h' }:=I.turned (t':=s.toks) (λb o hb e=>(sb.2 b hb).trans e) f0 f1 f3 f4 f5;let⟨o,e,c,d⟩:=id st';exact⟨u,rfl,Kq (s:={ s with heap:=h' }) e c d ∅ ⟨x,H,I1,ru,⟨rfl,λys hy=>by rw[I.n8 hy hq];exact hx⟩,st',λb hb=>(hf b hb).1⟩⟩
 done:=by
  intro X hP hw hK hc i pins s σ H E I hf st hg;subst hP hw hK;let⟨xs,hq,hx⟩:=hg;let⟨its,rv,p,hz⟩:=I.list hq;let⟨f0,f1,f2,f3,f4,f5⟩:=hf it (by simp);have hl:=⇑rv;exact wpAny_pyNext_list_end (I.ok.hd hc) st p.isList (by simp;lia) λh' eb=>⟨rfl,I.turned (t':=s.toks) (λb o hb e=>eb b o hb e) f0 f1 f3 f4 f5⟩
 self:=λ_ _ _ _ _ st h=>wpAny_pyIter_listiter st h
def zH{P:Za}{w:Zb}{K:W.Frag}{tg:Zt}(a it:Addr):Turn P w K tg (Itt K a) [it] it (λi h=>h.IsTupleIter it a i) where
 mem:=by simp
 obj:=λi h st b hb=>by
  have e:b=it:=↑hb
  subst e;let⟨o,e,c,d⟩:=st;exact⟨o,e,λv z=>by rw[d]at z;cases z⟩
 keep:=λi h h' st k=>st.at λo e=>k it (by simp) o e
 item:=by
  intro X hP hw hK hc i pins s σ H E I hf st hg;subst hP hw hK;let⟨xs,x,hq,hx⟩:=hg;let⟨its,rv,p,hz⟩:=I.tuple hq;let⟨u,hu,ru⟩:=rv.get hx;let⟨f0,f1,f2,f3,f4,f5⟩:=hf it (by simp);refine wpAny_pyNext_tuple_item st (show s.heap.IsTuple a its.toArray from p) (x:=u) ↑hu λh' st' sb=>?_;have I1:Inv X pins σ H { s with heap:=h' }:=I.turned (t':=s.toks) (λb o hb e=>(sb.2 b hb).trans e) f0 f1 f3 f4 f5;let⟨o,e,c,d⟩:=id st';exact⟨u,rfl,Kq (s:={ s with heap:=h' }) e c d ∅ ⟨x,H,I1,ru,⟨rfl,λys hy=>by rw[I.kJ hy hq];exact hx⟩,st',λb hb=>(hf b hb).1⟩⟩
 done:=by
  intro X hP hw hK hc i pins s σ H E I hf st hg;subst hP hw hK;let⟨xs,hq,hx⟩:=hg;let⟨its,rv,p,hz⟩:=I.tuple hq;let⟨f0,f1,f2,f3,f4,f5⟩:=hf it (by simp);have hl:=⇑rv;exact wpAny_pyNext_tuple_end (I.ok.hd hc) st (show s.heap.IsTuple a its.toArray from p) (by simp;lia) λh' eb=>⟨rfl,I.turned (t':=s.toks) (λb o hb e=>eb b o hb e) f0 f1 f3 f4 f5⟩
 self:=λ_ _ _ _ _ st h=>wpAny_pyIter_tupleiter st h
def zJ{P:Za}{w:Zb}{K:W.Frag}{tg:Zt}(it:Addr)(lo:Int)(n:Nat):Turn P w K tg (Itr lo n) [it] it (λi h=>IsRangeIter h it (lo+(i:Nat) * 1) ((n:Int) - (i:Nat)) 1) where
 mem:=by simp
 obj:=λi h st b hb=>by
  have e:b=it:=↑hb
  subst e;exact⟨_,st,λv z=>by
   have z':Data.fields _=Data.cell v:=z;cases z'⟩
 keep:=λi h h' st k=>k it (by simp) _ st
 item:=by
  intro X hP hw hK hc i pins s σ H E I hf st hg;subst hP hw hK;let⟨f0,f1,f2,f3,f4,f5⟩:=hf it (by simp);have W:=Walks.range (prog:=X.prog) (w:=X.w) (I.ok.hd hc) it lo 1 n;refine W.item i s _ _ hg st λv h' tk hv st' kk=>?_;let⟨t,rfl⟩:=hv;have I1:Inv X pins σ H { s with heap:=h',toks:=tk }:=I.turned (λb o hb e=>kk b o ↑hb e) f0 f1 f3 f4 f5;refine⟨_,rfl,Kq (s:={ s with heap:=h',toks:=tk }) (n:="range_iterator") st' rfl rfl ∅ ⟨.int (lo+i),H,I1,⟨t,?_⟩,⟨rfl,rfl⟩,st',λb hb=>(hf b hb).1⟩⟩;rw[Int.mul_one]
 done:=by
  intro X hP hw hK hc i pins s σ H E I hf st hg;subst hP hw hK;let⟨f0,f1,f2,f3,f4,f5⟩:=hf it (by simp);exact wpAny_pyNext_range_end (I.ok.hd hc) st (by have:n<=i:=hg;lia) λh' eb=>⟨rfl,I.turned (t':=s.toks) (λb o hb e=>eb b o hb e) f0 f1 f3 f4 f5⟩
 self:=λ_ _ _ _ _ st h=>wpAny_pyIter_rangeiter st h
section
variable{tg:Zt}
def Ir{a:er}{σ:St}{H:Hp}{s:Shared}{R:It->Hp->Prop}{E:em}{lo hi:Int}{t u v:Tok}{tk:Nat}(I:Inv X a σ H s)(h1:-(2 ^ 62)<=lo)(h2:lo<2 ^ 62)(g:-(2 ^ 62)<=hi)(h:hi<2 ^ 62)(q:R (Itr lo (hi - lo).toNat) H):wpAny (model X.prog X.w) X.A (pyIter (.ref ↥s)) (PIE X a σ tg R) E { s with heap:=s.heap.push { cls:=.type "range",data:=.fields #[.int lo t,.int hi u,.int 1 v]},toks:=tk }:=by
 refine wpAny_pyIter_range (IsRange.new ..) (small_one h1 h2 g h) ?_;have c:Inv X a σ H { s with heap:=s.heap.push { cls:=.type "range",data:=.fields #[.int lo t,.int hi u,.int 1 v]},toks:=tk }:=I.kept λb o e=>Heap.get?_push_of_some _ e;refine⟨(s.heap.push { cls:=.type "range",data:=.fields #[.int lo t,.int hi u,.int 1 v]}).objs.size,[(s.heap.push { cls:=.type "range",data:=.fields #[.int lo t,.int hi u,.int 1 v]}).objs.size],_,_,H,rfl,
  c.kept (t':=tk) λb o e=>Heap.get?_push_of_some _ e,zJ _ lo (hi - lo).toNat,?_,λb hb=>?_,q⟩
 ·have d:lo+(~~~(0)) * 1=lo:=by simp
  have f:(~~~((hi - lo).toNat)) - (~~~(0))=Builtin.Range.rangeSize lo hi 1:=by rw[Z3];split <;> lia
  show IsRangeIter _ _ (lo+(~~~(0)) * 1) ((~~~((hi - lo).toNat)) - (~~~(0))) 1;rw[d,f];exact Heap.get?_push_size _ rfl
 ·have e:b=(s.heap.push { cls:=.type "range",data:=.fields #[.int lo t,.int hi u,.int 1 v]}).objs.size:=↑hb
  subst e;exact c.yH (Nat.le_refl _) (c.hok.fresh (Nat.le_refl _))
def Vs(a:TA):TI:=λσ H R=>a σ H λvs H1=>∃j:Int,vs=[.int j]/\-(2 ^ 62)<=j/\j<2 ^ 62/\R (Itr 0 j.toNat) H1
def Ft{a:Zt}{d:TA}{p pos:Pos}(hg:Gl X "range")(hm:X.mg "range"=none)(ha:PA X [a] d)(hs:Zu [a] X.env=[(false,Zv a X.env)]:=by rfl):PI X tg (.Call (.Name "range" p) [a] [] pos) (Vs d):=by
 intro b s σ H R I h;refine Call_ (jV I hg hm boot_range (PyProof.Rows.callWith_type1 (thn (ha pos b s σ H _ I h) λus s1 ⟨vs,H1,I1,r1,c⟩=>?_) hs rfl));let⟨j,e,c,f,q⟩:=c;subst e;cases r1 with
 |cons r rr =>
  cases rr;let⟨t,rfl⟩:=r;exact call_range_1 (Ir I1 () () c f ↑q)
def Uu(b:TI)(g:TG)(a:TS):TS:=λD σ H=>b σ H λJ H1=>∃W:Nat->Nat->St->Hp->Prop,(∃m,W 0 m σ H1)/\∀i m σ H,W i m σ H ->
 (J.stop i H/\D.nx σ H)\/(J.go i H/\∃N:St->Hp->Prop,(∀σ' H',N σ' H'->∃m',m'<m/\W (i+1) m' σ' H')/\∀x H',J.yld i H x H'->g x σ H' λσ2 H2=>a { D with nx:=N,ct:=N,bk:=D.nx } σ2 H2)
def jB(a:List Addr)(h:Heap):er:=a.filterMap λb=>(h.get? b).map λo=>(b,o)
def ji{a:List Addr}{h:Heap}{b:Addr}{o:Obj}(hb:b∈a)(e:h.get? b=some o):(b,o)∈jB a h:=List.mem_filterMap.mpr ⟨b,hb,by rw[e];rfl⟩
def uM{a:List Addr}{h:Heap}{p:Addr×Obj}(hp:p∈jB a h):p.1∈a/\h.get? p.1=some p.2:=by
 let⟨b,hb,e⟩:=List.mem_filterMap.mp hp;cases q:h.get? b with
 |none=>rw[q]at e;cases e
 |some o =>
  rw[q]at e;have c:(b,o)=p:=Option.some.inj e;subst c;exact⟨hb,q⟩
def Inv.pinned{a:er}{σ:St}{H:Hp}{s:Shared}{c:List Addr}(I:Inv X a σ H s)(j:∀b∈c,lX X a H b)(k:∀b∈c,∃o,s.heap.get? b=some o/\∀v,o.data≠.cell v):Inv X (a++jB c s.heap) σ H s :=
 I.qC λp hp=>(List.mem_append.mp hp).elim (λz=>I.pin p (List.mem_append_right _ z)) λz=>by
  let⟨hb,e⟩:=uM z;let⟨g,h,i,_⟩:=j p.1 hb;let⟨o,f,d⟩:=k p.1 hb;rw[e]at f;cases f;exact⟨e,g,h,i,d⟩
def Inv.mZ{a pl:er}{σ:St}{H:Hp}{s:Shared}(I:Inv X (a++pl) σ H s):Inv X a σ H s:=I.qC λp hp=>I.pin p (List.mem_append_right _ (List.mem_append_left _ hp))
def Jf{p:Zt}{y:List ZF}{V:TI}{g:TG}{S:TS}{pos:Pos}(hp:ZW (model X.prog X.w) X.A X.env X.xe)(hc:X.calm=true)(hi:PI X tg p V)(hg:PG X tg g)(hb:PSs X y S)(hs:∀x,Zx p X.env x=pure x:=by intro _;rfl):PS X (.For tg p y [] pos) (Uu V g S):=by
 intro a s σ H D I h;refine wpAny_For (thn (hi a s σ H _ I h) λv s1 h1=>thn h1 λitv s2 h2=>?_) hs;let⟨it,B,U,J,Y,e,Z,T,O,Q,W,⟨m0,w0⟩,K⟩:=h2;subst e
 -- what stays true of the iterator's objects through the loop
 have q:∀{H':Hp},(∀b∈B,H' b=none)->∀b∈B,lX X a H' b:=λhn b hb=>⟨hn b hb,(Q b hb).2⟩
 refine codeAny_forLoop_any (λn s'=>∃i σ' H',Inv X a σ' H' s'/\U i s'.heap/\(∀b∈B,H' b=none)/\W i n σ' H') ?_ m0 ⟨0,σ,Y,Z,O,λb hb=>(Q b hb).1,w0⟩;rintro n R ⟨i,t,L,P,F,C,w3⟩;rcases K i n t L w3 with⟨G,qn⟩|⟨go,N,hN,step⟩
 ·refine ZX hp (thn (T.done X rfl rfl rfl hc i a R t L X.xe P (q C) F G) λr s4 ⟨hr,I4⟩=>?_);subst hr;exact ZP ⟨t,L,I4,qn⟩
 ·refine ZX hp (thn (T.item X rfl rfl rfl hc i a R t L X.xe P (q C) F go) λr s4 ⟨u,hr,h4⟩=>?_);subst hr;refine ZX hp (thn h4 λ_ s5 ⟨x,H5,I5,r5,y5,st5,fr5⟩=>?_);have M:=I5.pinned (q fr5) (T.obj _ _ st5);refine ZX hp (thn (hg _ s5 t H5 x u _ M r5 (step x H5 y5)) λ_ s6 ⟨σ6,H6,I6,q6⟩=>?_);refine ZX hp (thn (hb _ s6 σ6 H6 _ I6 q6) λf s7 z=>?_);have l:∀{c:St}{j:Hp},Inv X (a++jB B s5.heap) c j s7->N c j->∃m,m<n/\∃i σ' H',Inv X a σ' H' s7/\U i s7.heap/\(∀b∈B,H' b=none)/\W i m σ' H':=λ{c j} k E=>by
   let⟨m',hm,w7⟩:=hN c j E;refine⟨m',hm,i+1,c,j,k.mZ,T.keep _ _ _ st5 λb hb o e=>(k.pin (b,o) (List.mem_append_right _ (List.mem_append_right _ (ji hb e)))).1,λb hb=>?_,w7⟩;let⟨o,e,d⟩:=T.obj _ _ st5 b hb;exact(k.pin (b,o) (List.mem_append_right _ (List.mem_append_right _ (ji hb e)))).2.1
  cases f with
  |next=>let⟨c,j,k,E⟩:=z;exact l k E
  |cont=>let⟨c,j,k,E⟩:=z;exact l k E
  |brk=>let⟨c,j,k,z⟩:=z;exact⟨c,j,k.mZ,z⟩
  |ret v=>let⟨x7,c,j,k,r7,z⟩:=z;exact⟨x7,c,j,k.mZ,r7,z⟩
end
abbrev R2:=V->V->Hp->VK->Prop
def OpR(X:Cx)(f:Value->Value->Sem Value)(r:R2):Prop :=
 ∀(pins:er)(s:Shared)(σ:St)(H:Hp)(x y:V)(v u:Value)(Q:VK),Inv X pins σ H s->RelV x v->RelV y u->r x y H Q ->
  wpAny (model X.prog X.w) X.A (f v u) (EP X pins σ Q) X.xe s
def eX(X:Cx)(f:Value)(r:List V->Hp->VK->Prop):Prop :=
 ∀(pins:er)(s:Shared)(σ:St)(H:Hp)(xs:List V)(us:eC)(Q:VK),Inv X pins σ H s->Vals xs us->r xs H Q ->
  wpAny (model X.prog X.w) X.A (Z4 f us) (EP X pins σ Q) X.xe s
def Xc(X:Cx)(r:V->Hp->(Bool->Hp->Prop)->Prop):Prop :=
 ∀(pins:er)(s:Shared)(σ:St)(H:Hp)(x:V)(v:Value)(Q:Bool->Hp->Prop),Inv X pins σ H s->RelV x v->r x H Q ->
  wpAny (model X.prog X.w) X.A (ZO v) (TP X pins σ Q) X.xe s
def tOp(r:R2)(a b:TE):TE:=λσ H Q=>a σ H λx H1=>b σ H1 λy H2=>r x y H2 Q
def rI(C:Int->Int->Prop)(g:Int->Int->V):R2:=λx y H Q=>∃i j,x=.int i/\y=.int j/\C i j/\Q (g i j) H
def rI0(g:Int->Int->V):R2:=λx y H Q=>∃i j,x=.int i/\y=.int j/\Q (g i j) H
section
variable{a b c:Zt}{ta tb tc:TE}{pos:Pos}
def TX(ha:PE X a ta)(hb:PE X b tb){d:er}{s:Shared}{σ:St}{H:Hp}{R:V->V->Hp->Prop}(I:Inv X d σ H s)(h:ta σ H λx H1=>tb σ H1 λy H2=>R x y H2){Q:em}{f:Value->Value->Sem Value}(e:∀v u s2 x y H2,Inv X d σ H2 s2->RelV x v->RelV y u->R x y H2->wpAny (model X.prog X.w) X.A (f v u) Q X.xe s2) :
  wpAny (model X.prog X.w) X.A (Zv a X.env) (λv s₁=>wpAny (model X.prog X.w) X.A (Zv b X.env) (λu s₂=>wpAny (model X.prog X.w) X.A (f v u) Q X.xe s₂) X.xe s₁) X.xe s:=by
 refine thn (ha d s σ H _ I h) λv s1 ⟨x,H1,I1,r1,q1⟩=>?_;refine thn (hb d s1 σ H1 _ I1 q1) λu s2 ⟨y,H2,I2,r2,q2⟩=>?_;exact e v u s2 x y H2 I2 r1 r2 q2
def dB{e:Operator}{r:R2}(f:OpR X (Z5 e) r)(ha:PE X a ta)(hb:PE X b tb):PE X (.BinOp a e b pos) (tOp r ta tb):=by
 intro d s σ H Q I h;exact wpAny_BinOp (TX ha hb I h λv u s2 x y H2 I2 rx ry q=>f d s2 σ H2 x y v u Q I2 rx ry q)
def opI{f:Value->Value->Sem Value}{C:Int->Int->Prop}{g:Int->Int->Int}(d:∀(i j:Int)(t u:Tok)(s:Shared)(Q:em)(E:em),C i j->Q (.int (g i j) s.toks) { s with toks:=s.toks+1 }->wpAny (model X.prog X.w) X.A (f (.int i t) (.int j u)) Q E s) :
  OpR X f (rI C λi j=>.int (g i j)):=by
 intro e s σ H x y v u Q I k l h;let⟨i,j,rfl,rfl,hc,q⟩:=h;let⟨t,rfl⟩:=k;let⟨t',rfl⟩:=l;exact d i j t t' s _ _ hc ⟨.int (g i j),H,I.tok _,⟨_,rfl⟩,q⟩
def Vc{f:Value->Value->Sem Value}{g:Int->Int->Int}(d:∀(i j:Int)(t u:Tok)(s:Shared)(Q:em)(E:em),Q (.int (g i j) s.toks) { s with toks:=s.toks+1 }->wpAny (model X.prog X.w) X.A (f (.int i t) (.int j u)) Q E s) :
  OpR X f (rI0 λi j=>.int (g i j)):=by
 intro e s σ H x y v u Q I k l h;let⟨i,j,rfl,rfl,q⟩:=h;let⟨t,rfl⟩:=k;let⟨t',rfl⟩:=l;exact d i j t t' s _ _ ⟨.int (g i j),H,I.tok _,⟨_,rfl⟩,q⟩
def Ny{f:Value->Value->Sem Value}{g:Int->Int->Bool}(d:∀(i j:Int)(t u:Tok)(s:Shared)(Q:em)(E:em),Q (.bool (g i j)) s->wpAny (model X.prog X.w) X.A (f (.int i t) (.int j u)) Q E s) :
  OpR X f (rI0 λi j=>.bl (g i j)):=by
 intro e s σ H x y v u Q I k l h;let⟨i,j,rfl,rfl,q⟩:=h;let⟨t,rfl⟩:=k;let⟨t',rfl⟩:=l;exact d i j t t' s _ _ ⟨.bl (g i j),H,I,rfl,q⟩
def T6(i j:Int):Prop:=0<j/\j<1073741824
def Xf(i j:Int):Prop:=0<=j/\j<=1000000/\i.natAbs<2 ^ 64
def Hf(i j:Int):Prop:=(-(2 ^ 64)<i/\i<2 ^ 64)\/(-(2 ^ 64)<j/\j<2 ^ 64)
def Hf.ok{i j:Int}(h:Hf i j):IntMulOk i j:=by
 rcases h with⟨h1,h2⟩|⟨h1,h2⟩
 ·exact .of_left (Z6 h1 h2)
 ·exact .of_right (Z6 h1 h2)
def jM:OpR X (Z5 .Add) (rI0 λi j=>.int (i+j)):=Vc λ_ _ _ _ _ _ _ q=>add_int q
def RD:OpR X (Z5 .Sub) (rI0 λi j=>.int (i - j)):=Vc λ_ _ _ _ _ _ _ q=>sub_int q
def pH:OpR X (Z5 .Mult) (rI Hf λi j=>.int (i * j)):=opI λ_ _ _ _ _ _ _ hc q=>mul_int q hc.ok
def qK:OpR X (Z5 .FloorDiv) (rI T6 λi j=>.int (i / j)):=opI λi j _ _ _ _ _ hc q=>by
 have h1:(0:Int)<j:=hc.1;have h2:j<1073741824:=hc.2;exact floordiv_int () (by rw[Int.fdiv_eq_ediv_of_nonneg i ()];exact q) (.inl (PyProof.noPylong_small ()))
def jL:OpR X (Z5 .Mod) (rI (λ_ j=>0<j) λi j=>.int (i % j)):=opI λi j _ _ _ _ _ hc q=>by
 have h1:(0:Int)<j:=hc;exact mod_int' () (by rw[Int.fmod_eq_emod_of_nonneg i ()];exact q)
def RJ:OpR X (Z5 .Pow) (rI Xf λi j=>.int (i ^ j.toNat)):=opI λ_ _ _ _ _ _ _ hc q=>pow_int_small hc.1 hc.2.1 hc.2.2 q
def UW:V->V->Bool
 |.non,.non=>true|.non,.int _=>true|.int _,.non=>true|.non,.bl _=>true|.bl _,.non=>true|.non,.str _=>true|.str _,.non=>true
 |.int _,.int _=>true|.bl _,.bl _=>true|.str _,.str _=>true|.byt _,.byt _=>true
 |.int _,.str _=>true|.str _,.int _=>true|.bl _,.str _=>true|.str _,.bl _=>true
 |_,_=>false
def rEq:R2:=λx y H Q=>UW x y=true/\Q (.bl (decide (x=y))) H
def rNe:R2:=λx y H Q=>UW x y=true/\Q (.bl (!decide (x=y))) H
def Em{i j:Int}:decide (V.int i=V.int j)=(i==j):=by
 rw[Bool.eq_iff_iff];simp
def Lf{i j:Bool}:decide (V.bl i=V.bl j)=(i==j):=by
 rw[Bool.eq_iff_iff];simp
def El{i j:Str}:decide (V.str i=V.str j)=(i==j):=by
 rw[Bool.eq_iff_iff];simp
def En{i j:Array UInt8}:decide (V.byt i=V.byt j)=(i.toList==j.toList):=by
 rw[Bool.eq_iff_iff];cases i;cases j;simp
def bf{d:er}{σ:St}{H:Hp}{s:Shared}{Q:VK}{k f:Bool}(I:Inv X d σ H s)(q:Q (.bl k) H)(e:k=f):EP X d σ Q (.bool f) s:=by
 subst e;exact⟨.bl k,H,I,rfl,q⟩
def PN:OpR X (ZK .Eq) rEq:=by
 intro f s σ H x y v u Q I e d h;let⟨hs,q⟩:=h;cases x with
 |non =>
  cases e;cases y with
  |non=>cases d;exact PySem.EqNone.eq_none_none (bf I q (by simp))
  |bl j=>cases d;exact PySem.EqNone.eq_none_bool (bf I q (by simp))
  |int j=>let⟨t',rfl⟩:=d;exact PySem.EqNone.eq_none_int (bf I q (by simp))
  |str j=>let⟨t',rfl⟩:=d;exact PySem.EqNone.eq_none_str (bf I q (by simp))
  |_=>exact ef (show false=true from hs) Bool.false_ne_true
 |bl i =>
  cases e;cases y with
  |non=>cases d;exact PySem.EqNone.eq_bool_none (bf I q (by simp))
  |bl j=>cases d;exact eq_bool (bf I q Lf)
  |str j=>let⟨t',rfl⟩:=d;exact PySem.EqMixed.eq_bool_str (bf I q (by simp))
  |_=>exact ef (show false=true from hs) Bool.false_ne_true
 |int i =>
  let⟨t,rfl⟩:=e;cases y with
  |non=>cases d;exact PySem.EqNone.eq_int_none (bf I q (by simp))
  |int j=>let⟨t',rfl⟩:=d;exact eq_int (bf I q Em)
  |str j=>let⟨t',rfl⟩:=d;exact PySem.EqMixed.eq_int_str (bf I q (by simp))
  |_=>exact ef (show false=true from hs) Bool.false_ne_true
 |str i =>
  let⟨t,rfl⟩:=e;cases y with
  |non=>cases d;exact PySem.EqNone.eq_str_none (bf I q (by simp))
  |bl j=>cases d;exact PySem.EqMixed.eq_str_bool (bf I q (by simp))
  |int j=>let⟨t',rfl⟩:=d;exact PySem.EqMixed.eq_str_int (bf I q (by simp))
  |str j=>let⟨t',rfl⟩:=d;exact eq_str (bf I q El)
  |_=>exact ef (show false=true from hs) Bool.false_ne_true
 |byt i =>
  let⟨t,rfl⟩:=e;cases y with
  |byt j=>let⟨t',rfl⟩:=d;exact W.eq_bytes (bf I q En)
  |_=>exact ef (show false=true from hs) Bool.false_ne_true
 |_=>cases y <;> exact ef (show false=true from hs) Bool.false_ne_true
def PK:OpR X (ZK .NotEq) rNe:=by
 intro f s σ H x y v u Q I e d h;let⟨hs,q⟩:=h;cases x with
 |non =>
  cases e;cases y with
  |non=>cases d;exact PySem.EqNone.ne_none_none (bf I q (by simp))
  |bl j=>cases d;exact PySem.EqNone.ne_none_bool (bf I q (by simp))
  |int j=>let⟨t',rfl⟩:=d;exact PySem.EqNone.ne_none_int (bf I q (by simp))
  |str j=>let⟨t',rfl⟩:=d;exact PySem.EqNone.ne_none_str (bf I q (by simp))
  |_=>exact ef (show false=true from hs) Bool.false_ne_true
 |bl i =>
  cases e;cases y with
  |non=>cases d;exact PySem.EqNone.ne_bool_none (bf I q (by simp))
  |bl j=>cases d;exact ne_bool (bf I q (eh not Lf))
  |str j=>let⟨t',rfl⟩:=d;exact PySem.EqMixed.ne_bool_str (bf I q (by simp))
  |_=>exact ef (show false=true from hs) Bool.false_ne_true
 |int i =>
  let⟨t,rfl⟩:=e;cases y with
  |non=>cases d;exact PySem.EqNone.ne_int_none (bf I q (by simp))
  |int j=>let⟨t',rfl⟩:=d;exact ne_int (bf I q (eh not Em))
  |str j=>let⟨t',rfl⟩:=d;exact PySem.EqMixed.ne_int_str (bf I q (by simp))
  |_=>exact ef (show false=true from hs) Bool.false_ne_true
 |str i =>
  let⟨t,rfl⟩:=e;cases y with
  |non=>cases d;exact PySem.EqNone.ne_str_none (bf I q (by simp))
  |bl j=>cases d;exact PySem.EqMixed.ne_str_bool (bf I q (by simp))
  |int j=>let⟨t',rfl⟩:=d;exact PySem.EqMixed.ne_str_int (bf I q (by simp))
  |str j=>let⟨t',rfl⟩:=d;exact ne_str (bf I q (eh not El))
  |_=>exact ef (show false=true from hs) Bool.false_ne_true
 |byt i =>
  let⟨t,rfl⟩:=e;cases y with
  |byt j=>let⟨t',rfl⟩:=d;exact W.ne_bytes (bf I q (eh not En))
  |_=>exact ef (show false=true from hs) Bool.false_ne_true
 |_=>cases y <;> exact ef (show false=true from hs) Bool.false_ne_true
def Dg:OpR X (ZK .Lt) (rI0 λi j=>.bl (decide (i<j))):=Ny λ_ _ _ _ _ _ _ q=>Z7 q
def Jz:OpR X (ZK .LtE) (rI0 λi j=>.bl (decide (i<=j))):=Ny λ_ _ _ _ _ _ _ q=>le_int q
def JC:OpR X (ZK .Gt) (rI0 λi j=>.bl (decide (j<i))):=Ny λ_ _ _ _ _ _ _ q=>gt_int q
def PL:OpR X (ZK .GtE) (rI0 λi j=>.bl (decide (j<=i))):=Ny λ_ _ _ _ _ _ _ q=>ge_int q
def JB:OpR X (ZK .Is) (λx y H Q=>y=.non/\Q (.bl (decide (x=.non))) H):=by
 intro d s σ H x y v u Q I e f h;let⟨rfl,q⟩:=h;cases f;refine is_none_gen (bf I q ?_);cases x <;> first
  |(cases e;rfl)
  |(let⟨t,rfl⟩:=e;rfl)
def Nu:OpR X (ZK .IsNot) (λx y H Q=>y=.non/\Q (.bl (!decide (x=.non))) H):=by
 intro d s σ H x y v u Q I e f h;let⟨rfl,q⟩:=h;cases f;refine isnot_none_gen (bf I q ?_);cases x <;> first
  |(cases e;rfl)
  |(let⟨t,rfl⟩:=e;rfl)
def dJ(b:Zt){d:ZJ}(h:d≠.In:=by decide)(h2:d≠.NotIn:=by decide):ZL d b=false:=by
 have e:(d==CmpOp.In)=false:=by cases d <;> first|rfl|exact ef rfl h
 have f:(d==CmpOp.NotIn)=false:=by cases d <;> first|rfl|exact ef rfl h2
 cases b <;> simp[ZL,e,f]
def Nq{e:ZJ}{r:R2}(f:OpR X (ZK e) r)(ha:PE X a ta)(hb:PE X b tb)(hm:ZL e b=false):PE X (.Compare a [e] [b] pos) (tOp r ta tb):=by
 intro d s σ H Q I h;exact wpAny_Compare1 (TX ha hb I h λv u s2 x y H2 I2 rx ry q=>f d s2 σ H2 x y v u Q I2 rx ry q) hm
def Hy(t:TE):TT:=λσ H Q=>t σ H λx H'=>∃k,x=.bl k/\Q k H'
def nu{f:ZJ}{r:R2}(g:OpR X (ZK f) r)(ha:PE X a ta)(hb:PE X b tb)(hm:ZL f b=false):PT X (.Compare a [f] [b] pos) (Hy (tOp r ta tb)):=by
 intro d s σ H Q I h;refine ZM (thn (ha d s σ H _ I h) λv s1 ⟨x,H1,I1,r1,q1⟩=>thn (hb d s1 σ H1 _ I1 q1) λu s2 ⟨y,H2,I2,r2,q2⟩ =>
  thn (g d s2 σ H2 x y v u _ I2 r1 r2 q2) λc s3 ⟨z,H3,I3,r3,k,e,q3⟩=>?_) hm
 subst e;cases r3;exact ZN ⟨H3,I3,q3⟩
def qX(r d:R2)(ta tb tc:TE):TE:=λσ H Q=>ta σ H λx H1=>tb σ H1 λy H2=>r x y H2 λz H3=>∃k,z=.bl k /\
 (if k=true then tc σ H3 λw' H4=>d y w' H4 Q else Q (.bl false) H3)
def Jv{j g:ZJ}{r l:R2}(m:OpR X (ZK j) r)(i:OpR X (ZK g) l)(ha:PE X a ta)(hb:PE X b tb)(hc:PE X c tc)(hm:Z8 [j,g] [b,c]=false:=by with_unfolding_all rfl):PE X (.Compare a [j,g] [b,c] pos) (qX r l ta tb tc):=by
 intro f s σ H Q I h;refine Compare_chain (thn (ha f s σ H _ I h) λv s1 ⟨x,H1,I1,r1,q1⟩=>chain_link (thn (hb f s1 σ H1 _ I1 q1) λu s2 ⟨y,H2,I2,r2,q2⟩ =>
  thn (m f s2 σ H2 x y v u _ I2 r1 r2 q2) λd s3 ⟨z,H3,I3,r3,k,e,q3⟩=>?_)) hm
 subst e;cases r3;refine ZN ?_;cases k with
 |false=>exact ite_ff ⟨.bl false,H3,I3,rfl,q3⟩
 |true=>exact ite_tt (chain_last (thn (hc f s3 σ H3 _ I3 q3) λw' s4 ⟨z',H4,I4,r4,q4⟩=>i f s4 σ H4 y z' u w' Q I4 r2 r4 q4))
def Ja{j g:ZJ}{r l:R2}(n:OpR X (ZK j) r)(i:OpR X (ZK g) l)(ha:PE X a ta)(hb:PE X b tb)(hc:PE X c tc)(hm:Z8 [j,g] [b,c]=false:=by with_unfolding_all rfl):PT X (.Compare a [j,g] [b,c] pos) (Hy (qX r l ta tb tc)):=by
 intro f s σ H Q I h;refine isTrue_chain (thn (ha f s σ H _ I h) λv s1 ⟨x,H1,I1,r1,q1⟩=>test_link (thn (hb f s1 σ H1 _ I1 q1) λu s2 ⟨y,H2,I2,r2,q2⟩ =>
  thn (n f s2 σ H2 x y v u _ I2 r1 r2 q2) λd s3 ⟨z,H3,I3,r3,k,e,q3⟩=>?_)) hm
 subst e;cases r3;refine ZN ?_;cases k with
 |false =>
  let⟨p,m,o⟩:=q3;cases m;exact ite_ff ⟨H3,I3,o⟩
 |true =>
  refine ite_tt (test_last (thn (hc f s3 σ H3 _ I3 q3) λw' s4 ⟨z',H4,I4,r4,q4⟩=>thn (i f s4 σ H4 y z' u w' _ I4 r2 r4 q4) λd' s5 ⟨z2,H5,I5,r5,k2,e2,q5⟩=>?_));subst e2;cases r5;exact ZN ⟨H5,I5,q5⟩
def Wf(K:W.Frag)(x:V)(H:Hp)(k:Bool):Prop :=
 match x with
 |.non=>k=false
 |.bl b=>k=b
 |.int i=>k=(i != 0)
 |.str y=>⇑y<=sizeLine/\k=((⇑y:Int) != 0)
 |.byt y=>y.size<=sizeLine/\k=((y.size:Int) != 0)
 |.ref p=>(∃xs,SqL K H p xs/\k=!xs.isEmpty)\/(∃xs,SqT K H p xs/\k=!xs.isEmpty)\/∃kvs,H p=some (.dK kvs)/\k=!kvs.isEmpty
 |_=>False
def Bg{κ:Type}{d:List (κ×V)}{vs:List (κ×Value)}(r:KV d vs):(!vs.isEmpty)=!d.isEmpty:=by
 cases r <;> rfl
def rZ{xs:List V}{its:eC}(r:Vals xs its):(!its.toArray.isEmpty)=!xs.isEmpty:=by
 cases r <;> simp
def vQ:(sizeLine:Nat)<2 ^ 63:=by rw[Z9];decide
def Qy:Xc X (λx H Q=>∃k,Wf X.K x H k/\Q k H):=by
 intro o s σ H x v Q I j h;let⟨k,e,q⟩:=h;have hl:=vQ;have hs:sizeLine=16777216:=Z9;cases x with
 |non =>
  cases j;have d:k=false:=e;subst d;exact truthy_none ⟨H,I,q⟩
 |bl b =>
  cases j;have d:k=b:=e;subst d;exact ZN ⟨H,I,q⟩
 |int i =>
  let⟨t,rfl⟩:=j;have d:k=(i != 0):=e;subst d;exact PySem.P.truthy_int ⟨H,I,q⟩
 |str y =>
  let⟨t,rfl⟩:=j;obtain⟨z,d⟩:⇑y<=sizeLine/\k=((⇑y:Int) != 0):=e;subst d;exact PySem.P.truthy_str () ⟨H,I.tok _,q⟩
 |byt y =>
  let⟨t,rfl⟩:=j;obtain⟨z,d⟩:y.size<=sizeLine/\k=((y.size:Int) != 0):=e;subst d;exact W.truthy_bytes () ⟨H,I.tok _,q⟩
 |ref p =>
  cases j;have d:(∃xs,SqL X.K H p xs/\k=!xs.isEmpty)\/(∃xs,SqT X.K H p xs/\k=!xs.isEmpty)\/∃f,H p=some (.dK f)/\k=!f.isEmpty:=e;rcases d with⟨xs,l,d⟩|⟨xs,l,d⟩|⟨f,l,d⟩
  ·subst d;let⟨its,r,pl,n⟩:=I.list l;have g:=⇑r;exact wpAny_truthy_list pl.isList (by simp only[List.size_toArray];lia) ⟨H,I.tok _,by rw[rZ r];exact q⟩
  ·subst d;let⟨its,r,pl,n⟩:=I.tuple l;have g:=⇑r;exact truthy_tuple pl (by simp only[List.size_toArray];lia) ⟨H,I.tok _,by rw[rZ r];exact q⟩
  ·subst d;obtain⟨n,u,vs,r,m⟩:⇑f<=sizeLine/\(p==Zn)=false/\∃vs,KV f vs/\s.heap.DictOf (cg X.prog X.w) p vs:=I.hok p _ l;have g:⇑f=⇑vs:=Paired.length r;exact wpAny_truthy_dict u m () ⟨H,I.tok _,by rw[Bg r];exact q⟩
 |_=>exact(show False from e).elim
def I9(ha:PE X a ta)(he:∀whole,ZE a X.env whole=(do let v ←whole;standAt a.pos;holding [v] (ZO v))) :
  PT X a (λσ H Q=>ta σ H λx H'=>∃k,Wf X.K x H' k/\Q k H'):=by
 intro d s σ H Q I h;exact isTrue_plain (thn (ha d s σ H _ I h) λv s1 ⟨x,H1,I1,r1,q1⟩=>Qy d s1 σ H1 x v Q I1 r1 q1) (he _)
def vals1{x:V}{us:eC}(r:Vals [x] us):∃u,us=[u]/\RelV x u:=by
 cases r with
 |cons d e=>cases e;exact⟨_,rfl,d⟩
def vals2{x y:V}{us:eC}(r:Vals [x,y] us):∃u w',us=[u,w']/\RelV x u/\RelV y w':=by
 cases r with
 |cons r1 r2 =>
  cases r2 with
  |cons d e=>cases e;exact⟨_,_,rfl,r1,d⟩
def tM:eX X (.builtin "abs") (λxs H Q=>∃i,xs=[.int i]/\Q (.int (if i<0 then -i else i)) H):=by
 intro d s σ H xs us Q I r h;let⟨i,rfl,q⟩:=h;let⟨u,rfl,t,rfl⟩:=vals1 r;exact call_abs_int λu tk=>⟨.int (if i<0 then -i else i),H,I.tok _,⟨_,rfl⟩,q⟩
def G3(hc:X.calm=true):eX X (.builtin "max") (λxs H Q=>∃i j,xs=[.int i,.int j]/\Q (.int (if j > i then j else i)) H):=by
 intro e s σ H xs us Q I r h;let⟨i,j,rfl,q⟩:=h;let⟨u,f,rfl,⟨t,rfl⟩,⟨t',rfl⟩⟩:=vals2 r;refine max_two_ints (I.ok.hd hc) λh' tk k=>⟨_,H,I.kept k,?_,q⟩
 by_cases d:j > i
 ·rw[ed d,ed d];exact⟨_,rfl⟩
 ·rw[ee d,ee d];exact⟨_,rfl⟩
def GZ(hc:X.calm=true):eX X (.builtin "min") (λxs H Q=>∃i j,xs=[.int i,.int j]/\Q (.int (if j<i then j else i)) H):=by
 intro e s σ H xs us Q I r h;let⟨i,j,rfl,q⟩:=h;let⟨u,f,rfl,⟨t,rfl⟩,⟨t',rfl⟩⟩:=vals2 r;refine min_two_ints (I.ok.hd hc) λh' tk k=>⟨_,H,I.kept k,?_,q⟩
 by_cases d:j<i
 ·rw[ed d,ed d];exact⟨_,rfl⟩
 ·rw[ee d,ee d];exact⟨_,rfl⟩
def G4:eX X (.type "int") (λxs H Q=>(∃i,xs=[.int i]/\Q (.int i) H)\/∃k,xs=[.bl k]/\Q (.int (if k then 1 else 0)) H):=by
 intro d s σ H xs us Q I r h;rcases h with⟨i,rfl,q⟩|⟨k,rfl,q⟩
 ·let⟨u,rfl,t,rfl⟩:=vals1 r;exact call_int_int ⟨.int i,H,I,⟨_,rfl⟩,q⟩
 ·let⟨u,rfl,e⟩:=vals1 r;cases e;exact call_int_bool ⟨.int (if k then 1 else 0),H,I.tok _,⟨_,rfl⟩,q⟩
end
structure ObjM(h:Heap)(x dx C:Addr)(mA:Str->eH):Prop where
 obj:h.get? x=some (W.instObj C dx)
 ns:h.Ns1 dx mA
 ne:dx≠x
def Gg{h:Heap}{c:Addr}{d:Str->eH}(n:h.Ns1 c d):∃od,h.get? c=some od/\∀name,W.lookIn name od=some (d name):=by
 let⟨o,es,ep,g,hd,hk,_,hm⟩:=n;refine⟨o,g,λname=>?_⟩;have e:=hm name;unfold nsFind findBy at e;rw[←Array.find?_toList]at e;unfold W.lookIn;rw[hd];dsimp only;split
 ·rename_i y q;rw[q]at e;exact eh some e
 ·rename_i q;rw[q]at e;have a:es.toList.any (·.refKey)=false:=by
   rw[List.any_eq_false];intro y i;let⟨z,t,b⟩:=hk y (Array.mem_toList_iff.mp i);simp[DictEntry.refKey,b]
  have f:¬es.toList.any (·.refKey)=true:=by rw[a];exact Bool.false_ne_true
  rw[ee f];exact eh some e
def ObjM.look{h:Heap}{x a C:Addr}{b:Str->eH}(I:ObjM h x a C b):∃od,W.InstAt h x (W.instObj C a) C (some od)/\∀name,W.lookIn name od=some (b name) :=
 let⟨od,ho,hl⟩:=Gg I.ns
 ⟨od,⟨I.obj,rfl,rfl,ho⟩,hl⟩
section
variable{prog:Za}{w:Zb}{A:Zr}{E:em}{s:Shared}{K:W.Frag}{x dx C f:Addr}{mA:Str->eH}{name:Str}{v:Value}
def get_map{a:Bool}{Q:em}(X:K.In s.heap)(I:ObjM s.heap x dx C mA)(hg:W.plainGet K C name=true)(hh:W.hasDictIn K C=true)(ha:W.findIn K (.ref C) name=some none)(hv:mA name=some v)(b:W.handedIn v=true)(h:Q v { s with toks:=s.toks+1 }) :
  wpAny (model prog w) A (getAttr (.ref x) name a) Q E s:=by
 let⟨c,J,hl⟩:=I.look;exact W.get_value X J (W.plainGet_of hg).1 (W.findObj_own hh ha rfl (by rw[hl,hv])) b h
def Kr{pl:Sem Bool}{Q:Value×eC->Shared->Prop}(X:K.In s.heap)(I:ObjM s.heap x dx C mA)(hg:W.plainGet K C name=true)(a:W.findIn K (.ref C) name=some (some (.ref f)))(ht:W.isFn K (.ref f)=true)(hv:mA name=none)(h:Q (.ref f,[.ref x]) s) :
  wpAny (model prog w) A (Yb (.ref x) name pl) Q E s:=by
 let⟨b,J,hl⟩:=I.look;exact W.method_fn X J (W.plainGet_of hg).1 (W.plainGet_of hg).2 a (beq_iff_eq.mp ht) (by show(W.lookIn name b).map (·.isSome)=some false;rw[hl,hv];rfl) h
def Mt{ns:List Str}{Q:Unit->Shared->Prop}(X:K.In s.heap)(I:ObjM s.heap x dx C mA)(hs:W.findIn K (.ref C) "__setattr__"=some (some (.builtin "object.__setattr__")))(hp:W.plainOver K C=true)(ht:W.takerIn K C name=some none)(hh:W.hasDictIn K C=true)(k:PySem.Within mA ns)(hsz:⇑ns<=sizeLine)(h:∀h',ObjM h' x dx C (λy=>if y=name then some v else mA y)->Heap.SameBut dx s.heap h'->Q .unit { s with heap:=h',toks:=s.toks+2 }) :
  wpAny (model prog w) A (setAttr (.ref x) name v) Q E s:=by
 let⟨o,J,hl⟩:=I.look;refine W.set_plain X J hs (W.osa_open (s:={ s with toks:=s.toks+1 }) (r:=none) X J hp ht λb=>?_);let⟨m,hc,d⟩:=W.any_some hh;have l:s.heap.get? x=some ⟨.ref C,some dx,.plain,#[]⟩:=I.obj;refine wpAny_bind (Z0 (wpAny_bind (wpAny_bind (wpAny_loadPart l (wpAny_bind (W.Looks.here (s:={ s with toks:=s.toks+1 }) (W.looks_clsIn X hc) ?_))))));rw[d];refine Z0 (a:=some dx) (wpAny_bind (Z0 (wpAny_bind ?_)));refine wpAny_nsSet1 (s:={ s with toks:=s.toks+1 }) I.ns λh' hn2 hs2=>?_;let⟨n,j,i,g,e,c⟩:=hn2.count (PySem.Within.cons name v k);refine wpAny_bind (wpAny_lookBehind g (by rw[e];exact pastItsLine_dict (Nat.le_trans c (by rw[List.length_cons];lia))) ?_);exact Z0 (h _ ⟨(hs2.2 _ (Ne.symm I.ne)).trans I.obj,hn2,I.ne⟩ hs2)
def JV{R:Result->Shared->Prop}{vs:eC}{a:List (Str×Value)}(X:K.In s.heap)(hm:W.makesIn K C=true)(hi:W.findIn K (.ref C) "__init__"=some (some (.ref f)))(b:W.typeIn K (.ref f)=some (.type "function"))(h:Yc (model prog w) (A.under (.builtin "type.__call__" ⟨.ref C::vs,a⟩)) (.call (.ref f) ⟨.ref (↥s+1)::vs,a⟩) (W.InitBack (↥s+1) R)
   { s with heap:=(s.heap.push W.emptyDict).push (W.instObj C ↥s)}) :
  Yc (model prog w) A (.call (.ref C) ⟨vs,a⟩) R s:=by
 let⟨hh,g,d,t,c⟩:=s;exact W.make_core (W.makes_of X hm) (W.looks_findIn X hi) (λself=>W.bind_fn X self b) (.inl rfl) h
end
def iM(f:Str)(v:V):List (Str×V)->List (Str×V)
 |[]=>[(f,v)]
 |(g,x)::r=>if g=f then(g,v)::r else(g,x)::iM f v r
theorem p7(f g:Str)(v:V):∀fs:List (Str×V),(iM f v fs).lookup g=if g=f then some v else fs.lookup g
 |[]=>by
  show List.lookup g [(f,v)]=_;by_cases h:g=f
  ·have hb:(g==f)=true:=beq_iff_eq.mpr h;simp only[List.lookup,hb,ed h]
  ·have hb:(g==f)=false:=beq_eq_false_iff_ne.mpr h;simp only[List.lookup,hb,ee h]
 |(k,x)::r=>by
  have a:=p7 f g v r;rw[show iM f v ((k,x)::r)=(if k=f then(k,v)::r else(k,x)::iM f v r)from rfl];by_cases hk:k=f
  ·rw[ed hk];by_cases h:g=k
   ·have hb:(g==k)=true:=beq_iff_eq.mpr h;simp only[List.lookup,hb,ed (h.trans hk)]
   ·have hb:(g==k)=false:=beq_eq_false_iff_ne.mpr h;simp only[List.lookup,hb,ee (λe:g=f=>h (e.trans hk.symm))]
  ·rw[ee hk];by_cases h:g=k
   ·have hb:(g==k)=true:=beq_iff_eq.mpr h;simp only[List.lookup,hb,ee (λe:g=f=>hk (h.symm.trans e))]
   ·have hb:(g==k)=false:=beq_eq_false_iff_ne.mpr h;simp only[List.lookup,hb];exact a
theorem pN(f:Str)(v:V):∀fs:List (Str×V),f∈(iM f v fs).map (·.1)/\∀g,g∈fs.map (·.1)->g∈(iM f v fs).map (·.1)
 |[]=>⟨by simp[iM],λg h=>by simp at h⟩
 |(k,x)::r=>by
  let⟨a,b⟩:=pN f v r;rw[show iM f v ((k,x)::r)=(if k=f then(k,v)::r else(k,x)::iM f v r)from rfl];by_cases hk:k=f
  ·rw[ed hk];subst hk;exact⟨by simp,λg h=>↑h⟩
  ·rw[ee hk];refine⟨?_,λg h=>?_⟩
   ·rw[List.map_cons];exact List.mem_cons_of_mem _ a
   ·rw[List.map_cons]at h ⊢;rcases List.mem_cons.mp h with e|e
    ·exact List.mem_cons.mpr (.inl e)
    ·exact List.mem_cons_of_mem _ (b g e)
theorem p8(f:Str)(v:V):∀fs:List (Str×V),⇑(iM f v fs)<=⇑fs+1
 |[]=>by simp[iM]
 |(k,x)::r=>by
  have a:=p8 f v r;rw[show iM f v ((k,x)::r)=(if k=f then(k,v)::r else(k,x)::iM f v r)from rfl];by_cases hk:k=f
  ·rw[ed hk,List.length_cons,List.length_cons];lia
  ·rw[ee hk,List.length_cons,List.length_cons];lia
def lV.some_of{v:V}{o:eH}(r:lV (some v) o):∃u,o=some u/\RelV v u:=by
 cases o with
 |none=>exact(show False from r).elim
 |some u=>exact⟨u,rfl,r⟩
def lV.none_of{o:eH}(r:lV none o):o=none:=by
 cases o with
 |none=>rfl
 |some u=>exact(show False from r).elim
def Gw{v:V}{u:Value}(r:RelV v u):W.handedIn u=true:=by
 cases v with
 |non=>cases (show u=Value.none from r);rfl
 |bl b=>cases (show u=Value.bool b from r);rfl
 |int i=>let⟨t,e⟩:=(show ∃t,u=Value.int i t from r);cases e;rfl
 |str x=>let⟨t,e⟩:=(show ∃t,u=Value.str x t from r);cases e;rfl
 |byt b=>let⟨t,e⟩:=(show ∃t,u=Value.bytes b t from r);cases e;rfl
 |flt b=>let⟨t,e⟩:=(show ∃t,u=Value.float b t from r);cases e;rfl
 |ref a=>cases (show u=Value.ref a from r);rfl
 |ty n=>cases (show u=Value.type n from r);rfl
section
variable{P:Za}{w:Zb}{H H':Hp}{h h':Heap}{a C dx:Addr}{fs fs':List (Str×V)}
def oA(b:HOk P w H h)(e:H a=some (.ins C dx fs)):∃mA,ObjM h a dx C mA/\(∀f,lV (fs.lookup f) (mA f))/\PySem.Within mA (fs.map (·.1))/\⇑fs<=1000/\H dx=some (.own a):=by
 let⟨d,z,c,g,mA,n,r,q⟩:=(show bR P w H h a (.ins C dx fs)from b a _ e)
 exact⟨mA,⟨g,n,c⟩,r,q,z,d⟩
end
structure Cls(K:W.Frag)(C:Addr):Prop where
 pg:W.plainGet K C Str.empty=true
 hd:W.hasDictIn K C=true
 po:W.plainOver K C=true
 sa:W.findIn K (.ref C) "__setattr__"=some (some (.builtin "object.__setattr__"))
def Cls.get{K:W.Frag}{C:Addr}(c:Cls K C)(f:Str):W.plainGet K C f=true:=c.pg
def fD(K:W.Frag)(C:Addr)(f:Str):Prop:=W.findIn K (.ref C) f=some none
def fD.taker{K:W.Frag}{C:Addr}{f:Str}(n:fD K C f):W.takerIn K C f=some none:=by
 unfold W.takerIn;rw[show W.findIn K (.ref C) f=some none from n];rfl
structure Con(K:W.Frag)(C:Addr)(f:Str)(v:V)(u:Value):Prop where
 at_:W.findIn K (.ref C) f=some (some u)
 rel:RelV v u
 get:W.specialIn K u "__get__"=some none
 cp:W.copiedNames.contains f=false
structure Meth(K:W.Frag)(C:Addr)(m:Str)(f:Addr):Prop where
 at_:W.findIn K (.ref C) m=some (some (.ref f))
 fn:W.isFn K (.ref f)=true
 kp:W.keepIn K (.ref f)=true
section
variable{pins:er}{σ:St}{H:Hp}{s:Shared}{a C dx:Addr}{fs:List (Str×V)}{f:Str}{v:V}{A:Zr}{E:em}
def Bm{b:Bool}{Q:em}(I:Inv X pins σ H s)(e:H a=some (.ins C dx fs))(c:Cls X.K C)(n:fD X.K C f)(l:fs.lookup f=some v)(h:∀u s',Inv X pins σ H s'->RelV v u->Q u s'):wpAny (model X.prog X.w) A (getAttr (.ref a) f b) Q E s:=by
 let⟨g,O,r,_,_,_⟩:=oA I.hok e;let⟨u,hu,d⟩:=lV.some_of (v:=v) (o:=g f) (by rw[←l];exact r f);exact get_map I.kIn O (c.get f) c.hd n hu (Gw d) (h u _ (I.tok _) d)
def mR{m:Str}{g:Addr}{pl:Sem Bool}{Q:Value×eC->Shared->Prop}(I:Inv X pins σ H s)(e:H a=some (.ins C dx fs))(c:Cls X.K C)(k:Meth X.K C m g)(l:fs.lookup m=none)(h:Q (.ref g,[.ref a]) s):wpAny (model X.prog X.w) A (Yb (.ref a) m pl) Q E s:=by
 let⟨b,O,r,_,_,_⟩:=oA I.hok e;have hn:b m=none:=lV.none_of (by rw[←l];exact r m);exact Kr I.kIn O (c.get m) k.at_ k.fn hn h
def zY{y:V}{u:Value}{Q:Unit->Shared->Prop}(I:Inv X pins σ H s)(e:H a=some (.ins C dx fs))(c:Cls X.K C)(n:fD X.K C f)(hl:⇑fs<1000)(l:RelV y u)(h:∀s',Inv X pins σ (upd H a (.ins C dx (iM f y fs))) s'->Q .unit s'):wpAny (model X.prog X.w) A (setAttr (.ref a) f u) Q E s:=by
 let⟨i,O,r,j,_,d⟩:=oA I.hok e;have k:⇑(fs.map (·.1))<=sizeLine:=by rw[List.length_map,Z9];lia
 refine Mt I.kIn O c.sa c.po n.taker c.hd j k λh' O' m=>h _ ?_;have hd:∃o,h'.get? dx=some o:=let⟨o,_,_,e',_⟩:=O'.ns;⟨o,e'⟩
 refine I.write (x:=a) (e:=dx) (by rw[e];exact True.intro) (.inr d) (λb q hb z=>(m.2 b hb).trans z) hd ?_;refine⟨by rw[ao O.ne];exact d,?_,O.ne,O'.obj,_,O'.ns,λg=>?_,λg hg=>?_⟩
 ·have:=p8 f y fs;lia
 ·show lV ((iM f y fs).lookup g) (if g=f then some u else i g);rw[p7];by_cases q:g=f
  ·rw[ed q,ed q];exact l
  ·rw[ee q,ee q];exact r g
 ·by_cases q:g=f
  ·rw[q];exact(pN f y fs).1
  ·refine(pN f y fs).2 g (j g λz=>hg ?_);show(if g=f then some u else i g)=none;rw[ee q];exact z
def Inv.made(I:Inv X pins σ H s):Inv X pins σ (upd (upd H ↥s (.own (↥s+1))) (↥s+1) (.ins C ↥s []))
  { s with heap:=(s.heap.push W.emptyDict).push (W.instObj C ↥s)}:=by
 have c:(s.heap.push W.emptyDict).get? ↥s=some W.emptyDict:=Heap.get?_push_size s.heap rfl;have h:((s.heap.push W.emptyDict).push (W.instObj C ↥s)).get? (↥s+1)=some (W.instObj C ↥s):=by
  have:=Heap.get?_push_size (s.heap.push W.emptyDict) (o:=W.instObj C ↥s) rfl
  rwa [Heap.size_push]at this
 have i:(s.heap.push W.emptyDict).Ns ↥s (λ_=>none):=⟨W.emptyDict,#[],_,c,rfl,(λe he=>ef he (by simp)),λ_=>rfl⟩
 have g:=I.laid (a:=↥s) (o:=.own (↥s+1)) (h':=s.heap.push W.emptyDict) (t':=s.toks) (λb u q=>Heap.get?_push_of_some _ q) (Nat.le_refl _) ⟨_,c⟩;refine g.laid (a:=↥s+1) (o:=.ins C ↥s []) (t':=s.toks) (λb u q=>Heap.get?_push_of_some _ q) (Nat.le_of_eq (Heap.size_push _ _)) ?_;have d:↥s≠↥s+1:=Nat.ne_of_lt (Nat.lt_succ_self _);refine⟨by rw[ao d,aB],Nat.zero_le _,d,h,λ_=>none,(Heap.Ns1.of_empty i).at λo q=>Heap.get?_push_of_some _ q,λ_=>True.intro,λy j=>ef rfl j⟩
def O9{prog:Za}{w:Zb}{env:Env}{e:Zt}{f:Str}{pos:Pos}{s:Shared}{Q:em}(hb:Yd e f env (Zv e env)=Zv e env)(h:wpAny (model prog w) A (Zv e env) (λo s₁=>wpAny (model prog w) A (getAttr o f true) Q E s₁) E s):wpAny (model prog w) A (Zv (.Attribute e f pos) env) Q E s :=
 Attribute_any_ h (by rw[arm_eval_Attribute,hb])
end
def Ws(K:W.Frag)(b:TE)(f:Str):TE:=λσ H Q=>b σ H λx H1=>∃a C dx fs v,x=.ref a/\H1 a=some (.ins C dx fs)/\Cls K C/\fD K C f/\fs.lookup f=some v/\Q v H1
def Wt(K:W.Frag)(b c:TE)(f:Str):TS:=λD σ H=>c σ H λy H1=>b σ H1 λx H2=>∃a C dx fs,x=.ref a/\H2 a=some (.ins C dx fs)/\Cls K C/\fD K C f/\⇑fs<1000 /\
 D.nx σ (upd H2 a (.ins C dx (iM f y fs)))
section
variable{o e value:Zt}{f:Str}{pos pos' tpos:Pos}{ta tv:TE}
def Ro(he:PE X e ta)(hb:Yd e f X.env (Zv e X.env)=Zv e X.env):PE X (.Attribute e f pos) (Ws X.K ta f):=by
 intro b s σ H Q I h;refine O9 hb (thn (he b s σ H _ I h) λu s1 ⟨x,H1,I1,rx,a,C,dx,fs,v,ex,ea,c,n,l,q⟩=>?_);subst ex;obtain rfl:u=Value.ref a:=rx;exact Bm I1 ea c n l λu' s2 I2 ru=>⟨v,H1,I2,ru,q⟩
def Jg(ha:PE X o ta)(hv:PE X value tv)(hs:ZQ value (some (.Attribute o f pos')) pos.line X.env=pure false):PS X (.Assign [.Attribute o f pos'] value pos) (Wt X.K ta tv f):=by
 intro b s σ H D I h;refine plainObj_wpAny_Assign_Attribute (thn (hv b s σ H _ I h) λu s1 ⟨y,H1,I1,ry,q⟩=>thn (ha b s1 σ H1 _ I1 q) λov s2 ⟨x,H2,I2,rx,a,C,dx,fs,ex,ea,c,n,l,q2⟩=>?_) hs;subst ex;obtain rfl:ov=Value.ref a:=rx;exact zY I2 ea c n l ry λs3 I3=>⟨σ,_,I3,q2⟩
def Qf{pl:Sem Bool}{m:Str}{d:Pos}{b:List Zt}{i:er}{s:Shared}{σ:St}{H:Hp}{Q:em}{j:TE}(he:PE X e j)(I:Inv X i σ H s)(h:j σ H λx H1=>∃a C dx fs g,x=.ref a/\H1 a=some (.ins C dx fs)/\Cls X.K C/\Meth X.K C m g/\fs.lookup m=none /\
   ∀s1,Inv X i σ H1 s1->wpAny (model X.prog X.w) X.A (Ye pos (.ref g) [.ref a] (Zw pos (Zu b X.env)) (Zy pos (Zz [] X.env))) Q X.xe s1)(ht:Zv (.Call (.Attribute e m d) b [] pos) X.env=(do
   let ov ←Zv e X.env
   standAt d.atName
   let(f,first) ←holding [ov] (Yb ov m pl)
   Ye pos f first (Zw pos (Zu b X.env)) (Zy pos (Zz [] X.env)))) :
  wpAny (model X.prog X.w) X.A (Zv (.Call (.Attribute e m d) b [] pos) X.env) Q X.xe s:=by
 refine W.methodCall_KW (pl:=pl) (thn (he i s σ H _ I h) λu s1 ⟨x,H1,I1,rx,a,C,dx,fs,g,ex,ea,c,k,l,q⟩=>?_) ht;subst ex;obtain rfl:u=Value.ref a:=rx;exact mR I1 ea c k l (q s1 I1)
end
section
variable{pins:er}{σ:St}{H:Hp}{s:Shared}{A:Zr}{E:em}{Q:em}{c:Value}{b:Bool}
inductive TyOf(K:W.Frag)(H:Hp):V->Value->Prop where
 |non:TyOf K H .non (.type "NoneType")
 |bl (x:Bool):TyOf K H (.bl x) (.type "bool")
 |int (i:Int):TyOf K H (.int i) (.type "int")
 |str (x:Str):TyOf K H (.str x) (.type "str")
 |flt (x:UInt64):TyOf K H (.flt x) (.type "float")
 |lst {a:Addr}{xs:List V} (e:H a=some (.lst xs)):TyOf K H (.ref a) (.type "list")
 |frz {a:Addr}{o:Obj}{xs:List V} (e:H a=some (.frz o (.lst xs))):TyOf K H (.ref a) (.type "list")
 |tup {a:Addr}{xs:List V} (e:H a=some (.tup xs)):TyOf K H (.ref a) (.type "tuple")
 |dK {a:Addr}{kvs:List (Key×V)} (e:H a=some (.dK kvs)):TyOf K H (.ref a) (.type "dict")
 |dT {a:Addr}{kvs:List (List Key×V)} (e:H a=some (.dT kvs)):TyOf K H (.ref a) (.type "dict")
 |ins {a C dx:Addr}{fs:List (Str×V)} (e:H a=some (.ins C dx fs)) (cl:Cls K C) (ha:W.findIn K (.ref C) "__class__"=some (some (.builtin "object.__class__")))
   (hn:W.specialIn K (.builtin "object.__class__") "__get__"=some (some (.builtin "getset_descriptor.__get__"))) (htk:W.takesIn K (.builtin "object.__class__")=some true)
   (hm:W.mroIn K C (.type "object")=some true):TyOf K H (.ref a) (.ref C)
def Gp{x:V}{u t:Value}(I:Inv X pins σ H s)(d:RelV x u)(ty:TyOf X.K H x t)(e:W.kitOne X.K t c=some b)(h:∀tk,Q (.bool b) { s with toks:=tk }) :
  wpAny (model X.prog X.w) A (Z4 (.builtin "isinstance") [u,c]) Q E s:=by
 cases ty with
 |non=>cases (show u=Value.none from d);exact W.kia_one W.kitx_none I.kIn True.intro e (λz=>nomatch z) h
 |bl y=>cases (show u=Value.bool y from d);exact W.kia_one W.kitx_bool I.kIn True.intro e (λz=>nomatch z) h
 |int i=>let⟨t,q⟩:=(show ∃t,u=Value.int i t from d);cases q;exact W.kia_one W.kitx_int I.kIn True.intro e (λz=>nomatch z) h
 |str y=>let⟨t,q⟩:=(show ∃t,u=Value.str y t from d);cases q;exact W.kia_one W.kitx_str I.kIn True.intro e (λz=>nomatch z) h
 |flt y=>let⟨t,q⟩:=(show ∃t,u=Value.float y t from d);cases q;exact W.kia_one W.kitx_float I.kIn True.intro e (λz=>nomatch z) h
 |@lst a xs ea =>
  cases (show u=Value.ref a from d);let⟨_,_,n,_,h1⟩:=(show bR X.prog X.w H s.heap a (.lst xs)from I.hok a _ ea)
  exact W.kia_one W.kitx_list I.kIn ⟨_,h1,rfl⟩ e (λz=>nomatch z) h
 |@frz a ob xs ea =>
  cases (show u=Value.ref a from d);let⟨_,_,_,n,_,h1⟩:=(show bR X.prog X.w H s.heap a (.frz ob (.lst xs))from I.hok a _ ea)
  exact W.kia_one W.kitx_list I.kIn ⟨_,h1,rfl⟩ e (λz=>nomatch z) h
 |@tup a xs ea =>
  cases (show u=Value.ref a from d);let⟨_,_,_,p⟩:=(show bR X.prog X.w H s.heap a (.tup xs)from I.hok a _ ea)
  let⟨o,h1,h2,_⟩:=p;exact W.kia_one W.kitx_tuple I.kIn ⟨o,h1,h2⟩ e (λz=>nomatch z) h
 |@dK a kvs ea =>
  cases (show u=Value.ref a from d);let⟨_,_,vs,_,p⟩:=(show bR X.prog X.w H s.heap a (.dK kvs)from I.hok a _ ea)
  let⟨o,es,ep,h1,h2,_⟩:=p;exact W.kia_one W.kitx_dict I.kIn ⟨o,h1,h2.1⟩ e (λz=>nomatch z) h
 |@dT a kvs ea =>
  cases (show u=Value.ref a from d);let⟨_,_,xs,_,o,es,ep,h1,h2,_⟩:=(show bR X.prog X.w H s.heap a (.dT kvs)from I.hok a _ ea)
  exact W.kia_one W.kitx_dict I.kIn ⟨o,h1,h2.1⟩ e (λz=>nomatch z) h
 |@ins a C dx fs ea cl ha hn htk hm =>
  cases (show u=Value.ref a from d);let⟨f,O,_⟩:=oA I.hok ea;let⟨g,J,_⟩:=O.look;exact W.kia_one (W.kitx_own (cl.get _) cl.hd ha hn htk hm) I.kIn J e (λz=>nomatch z) h
end
structure Room(k:Nat)(A:Zr):Prop where
 hd:A.handled=none
 dp:A.depth+3 * k+5<Yg
 un:A.units+16 * k+200<Yh
 gd:A.guards=some []
def Room.mono{j k:Nat}{A:Zr}(r:Room k A)(h:j<=k):Room j A:=⟨r.hd,by have:=r.dp;lia,by have:=r.un;lia,r.gd⟩
def Room.deeper{k:Nat}{A:Zr}(r:Room (k+1) A)(env:Env):Room k (A.deeper env) :=
 ⟨r.hd,by have:=r.dp;show A.depth+1+3 * k+5<_;lia,by have:=r.un;show A.units+3+16 * k+200<_;lia,r.gd⟩
def Room.in1{k:Nat}{A:Zr}(r:Room (k+1) A):Room k A.in1 :=
 ⟨r.hd,by have:=r.dp;show A.depth+3 * k+5<_;lia,by have:=r.un;show A.units+1+16 * k+200<_;lia,r.gd⟩
def Az{A:Zr}{C:Addr}{us:eC}{a:List (Str×Value)}:(A.under (.builtin "type.__call__" ⟨.ref C::us,a⟩)).depth=A.depth+1:=by
 first|rfl|simp[Around.under,Code.weight,Code.isCreation,Code.isGuard,Code.isCaller,Code.frames,Code.isFrame,guardIds]
def Ay{A:Zr}{C:Addr}{us:eC}{a:List (Str×Value)}:(A.under (.builtin "type.__call__" ⟨.ref C::us,a⟩)).units=A.units+1:=by
 first|rfl|simp[Around.under,Code.cUnits,Code.frames,Code.isFrame]
def Room.make{k:Nat}{A:Zr}(r:Room (k+1) A)(C:Addr)(us:eC)(a:List (Str×Value)):Room k (A.under (.builtin "type.__call__" ⟨.ref C::us,a⟩)) :=
 ⟨r.hd,by have:=r.dp;rw[Az];lia,by have:=r.un;rw[Ay];lia,r.gd⟩
def Room.depth{k:Nat}{A:Zr}(r:Room k A):A.depth<Yg:=by have:=r.dp;lia
def Room.units{k:Nat}{A:Zr}(r:Room k A):A.units+64<Yh:=by have:=r.un;lia
def Mj:TA:=λ_ H Q=>Q [] H
def Hz(a:TE)(b:TA):TA:=λσ H Q=>a σ H λx H1=>b σ H1 λxs H2=>Q (x::xs) H2
section
variable{e:Zt}{es:List Zt}{te:TE}{t:TA}{pos:Pos}
def dZ:PA X [] Mj:=λ_ _ _ _ H Q I h=>Calls.spliced_nil ⟨[],H,I,.nil,h⟩
def cD(ha:PE X e te)(hr:PA X es t)(hs:Zu (e::es) X.env=(false,Zv e X.env)::Zu es X.env:=by rfl):PA X (e::es) (Hz te t):=by
 intro pos a s σ H Q I h;rw[hs];show wpAny _ _ (spliced ((false,Zv e X.env)::Zw pos (Zu es X.env))) _ _ s;refine Calls.spliced_cons (thn (ha a s σ H _ I h) λu s1 ⟨x,H1,I1,r1,q1⟩=>?_);exact thn (hr pos a s1 σ H1 _ I1 q1) λus s2 ⟨xs,H2,I2,r2,q2⟩=>⟨x::xs,H2,I2,.cons r1 r2,q2⟩
def Wm(t:TA):TE:=λσ H Q=>t σ H λxs H1=>⇑xs<=sizeLine/\∀p,H1 p=none->Q (.ref p) (upd H1 p (.tup xs))
def Uq(t:TA):TE:=λσ H Q=>t σ H λxs H1=>⇑xs<=sizeLine/\∀p,H1 p=none->Q (.ref p) (upd H1 p (.lst xs))
def Jp{x1}(h:PA X es t):PE X (.Tuple es x1 pos) (Wm t):=by
 intro a s σ H Q I d;refine wpAny_Tuple_spliced (thn (h pos a s σ H _ I d) λus s1 ⟨xs,H1,I1,r,z,q⟩=>⟨by rw[←⇑r];exact z,?_⟩);have c:H1 ↥s1=none:=I1.hok.fresh (Nat.le_refl _);refine⟨.ref ↥s1,upd H1 ↥s1 (.tup xs),I1.laid (t':=s1.toks) (λb u e=>Heap.get?_push_of_some _ e) (Nat.le_refl _) ?_,rfl,q _ c⟩;exact⟨z,us,r,⟨_,Heap.get?_push_size _ rfl,rfl,_,rfl⟩⟩
def vC(h:PA X es t):PE X (.List es pos) (Uq t):=by
 intro a s σ H Q I d;refine wpAny_List_spliced (thn (h pos a s σ H _ I d) λus s1 ⟨xs,H1,I1,r,z,q⟩=>⟨by rw[←⇑r];exact z,?_⟩);have c:H1 ↥s1=none:=I1.hok.fresh (Nat.le_refl _);refine⟨.ref ↥s1,upd H1 ↥s1 (.lst xs),I1.laid (t':=s1.toks) (λb u e=>Heap.get?_push_of_some _ e) (Nat.le_refl _) ?_,rfl,q _ c⟩;exact⟨z,us,0,r,Heap.get?_push_size _ rfl⟩
end
abbrev Sp:=List V->Hp->VK->XK->Prop
abbrev CXT:=List Env->Hp->Shared->XK->em
structure Env0(P:Za)(w:Zb)(K:W.Frag)(mg:Str->eH)(fw:Heap)(A:Zr)(outer:List Env)(s:Shared)(H:Hp):Prop where
 frames:A.frames=some outer
 mod:Mod K mg fw
 bs:∀b o,fw.get? b=some o->s.heap.get? b=some o/\H b=none
 bsz:fw.objs.size<=↥s
 lO:s.heap.FunFrames fw outer
 frf:∀b∈frs outer,H b=none
 hok:HOk P w H s.heap
 bare:ZB s.gens
def CE(a:List Env)(P:Za)(w:Zb)(H:Hp)(s:Shared)(Q:VK)(u:Value)(b:Shared):Prop :=
 ∃v H',b.os=s.os/\ZB b.gens/\Un (frs a) [] H H' s.heap b.heap/\HOk P w H' b.heap/\RelV v u/\Q v H'
def CR(c:CXT)(a:List Env)(P:Za)(w:Zb)(H:Hp)(s:Shared)(Q:VK)(E:XK)(r:Result)(b:Shared):Prop :=
 match r with
 |.ok (.ret u)=>CE a P w H s Q u b
 |.ok _=>False
 |.error e=>c a H s E e b
structure FnOk(P:Za)(w:Zb)(K:W.Frag)(mg:Str->eH)(fw:Heap)(CX:CXT)(k:Nat)(f:Addr)(fd:Yi)(ps:List Str)(sp:Sp):Prop where
 len:∀vs H Q E,sp vs H Q E->⇑vs=⇑ps
 run:∀(A:Zr)(outer:List Env)(s:Shared)(H:Hp)(args:Args)(us:eC)(vs:List V)(Q:VK)(E:XK),Room k A->Env0 P w K mg fw A outer s H->Yj s fd args (ps.zip us)->Vals vs us->sp vs H Q E ->
  Yc (model P w) A (.call (.ref f) args) (CR CX outer P w H s Q E) s
def FnOk.imp{P:Za}{w:Zb}{K:W.Frag}{mg:Str->eH}{fw:Heap}{b:CXT}{k:Nat}{f:Addr}{c:Yi}{ps:List Str}{sp a:Sp}(F:FnOk P w K mg fw b k f c ps sp)(h:∀vs H Q E,a vs H Q E->sp vs H Q E):FnOk P w K mg fw b k f c ps a :=
 ⟨λvs H Q E q=>F.len vs H Q E (h _ _ _ _ q),λA outer s H args us vs Q E hr he hb hv hs=>F.run A outer s H args us vs Q E hr he hb hv (h _ _ _ _ hs)⟩
def Env0.make{P:Za}{w:Zb}{K:W.Frag}{mg:Str->eH}{fw:Heap}{A:Zr}{a:List Env}{s:Shared}{H:Hp}(e:Env0 P w K mg fw A a s H)(C:Addr)(us:eC)(b:List (Str×Value)) :
  Env0 P w K mg fw (A.under (.builtin "type.__call__" ⟨.ref C::us,b⟩)) a s H:=⟨by first|exact e.frames|(simpa[Around.under,Code.envs,Code.isFrame,pushEnvs]using e.frames),e.mod,e.bs,e.bsz,e.lO,e.frf,e.hok,e.bare⟩
def Env0.in1{P:Za}{w:Zb}{K:W.Frag}{mg:Str->eH}{fw:Heap}{A:Zr}{a:List Env}{s:Shared}{H:Hp}(e:Env0 P w K mg fw A a s H) :
  Env0 P w K mg fw A.in1 a s H:=⟨e.frames,e.mod,e.bs,e.bsz,e.lO,e.frf,e.hok,e.bare⟩
section
variable{pins:er}{σ:St}{H:Hp}{s s':Shared}
def Inv.env0(I:Inv X pins σ H s):Env0 X.prog X.w X.K X.mg X.fw X.A X.stack s H :=
 ⟨I.ok.frames,I.ok.mod,I.bs,Nat.le_trans I.ok.bsz I.sz,I.stack,I.Cu,I.hok,I.bare⟩
def Inv.after{Q:VK}{u:Value}(I:Inv X pins σ H s)(h:CE X.stack X.prog X.w H s Q u s'):EP X pins σ Q u s':=by
 let⟨v,H',f,a,i,c,r,q⟩:=h;let⟨hh,g,d,t,e⟩:=s';obtain rfl:e=s.os:=f;exact⟨v,H',I.call (h':=hh) (g':=g) (d':=d) (t':=t) (ch:=[]) i c a (λb z=>ef z (by simp)),r,q⟩
end
def wQ(sp:Sp)(a:List V)(E:XK)(t:TA):TE:=λσ H Q=>t σ H λvs H1=>sp (vs++a) H1 Q E
def Cq(C:Addr)(m:Str)(sp:Sp)(b:List V)(E:XK)(c:TE)(t:TA):TE:=λσ H Q=>c σ H λx H1=>∃a dx fs,x=.ref a/\H1 a=some (.ins C dx fs)/\fs.lookup m=none /\
 t σ H1 λvs H2=>sp (x::(vs++b)) H2 Q E
def Uo(C:Addr)(sp:Sp)(a:List V)(E:XK)(t:TA):TE:=λσ H Q=>t σ H λvs H1=>∀x dx,H1 x=none->H1 dx=none->dx≠x ->
 sp (.ref x::(vs++a)) (upd (upd H1 dx (.own x)) x (.ins C dx [])) (λv H2=>v=.non/\Q (.ref x) H2) E
def Binds(K:W.Frag)(a:Yi)(ps:List Str)(ds:eC):Prop :=
 ∀(s:Shared)(us:eC),K.In s.heap->⇑(us++ds)=⇑ps->Yj s a ⟨us,[]⟩ (ps.zip (us++ds))
def Binds.all{K:W.Frag}{a:Yi}{ps:List Str}(h:∀us:eC,⇑us=⇑ps->bindArgs a ⟨us,[]⟩=pure (ps.zip us)):Binds K a ps []:=λs us _ hl=>by
 rw[List.append_nil]at hl ⊢;exact .of_eq (h us hl)
def Passes(a:CXT)(X:Cx)(E:XK):Prop:=∀(pins:er)(σ:St)(H:Hp)(s:Shared)(e:Value)(s':Shared),Inv X pins σ H s->a X.stack H s E e s'->X.xe e s'
section
variable{CX:CXT}{k:Nat}{f C:Addr}{fd:Yi}{ps:List Str}{sp:Sp}{dvs:List V}{ds:eC}{E:XK}{x m:Str}{p pos apos:Pos}{e o:Zt}{es:List Zt}{ta:TE}{t:TA}
def zZ{a:er}{σ:St}{H:Hp}{s:Shared}{Q:VK}{us:eC}{vs:List V}(F:FnOk X.prog X.w X.K X.mg X.fw CX k f fd ps sp)(hr:Room k X.A)(hb:Binds X.K fd ps ds)(hd:Vals dvs ds)(c:Passes CX X E)(I:Inv X a σ H s)(r:Vals vs us)(h:sp (vs++dvs) H Q E):wpAny (model X.prog X.w) X.A (Z4 (.ref f) us) (EP X a σ Q) X.xe s:=by
 have b:Vals (vs++dvs) (us++ds):=r.append hd;have hl:⇑(us++ds)=⇑ps:=by rw[←⇑b];exact F.len _ _ _ _ h
 refine Yk (Yl (F.run X.A X.stack s H ⟨us,[]⟩ (us++ds) (vs++dvs) Q E hr I.env0 (hb s us I.kIn hl) b h) λr s' hq=>?_);cases r with
 |error e=>exact c a σ H s e s' I hq
 |ok fl =>
  cases fl with
  |ret u=>exact I.after hq
  |next=>exact False.elim hq
  |brk=>exact False.elim hq
  |cont=>exact False.elim hq
def Nr(F:FnOk X.prog X.w X.K X.mg X.fw CX k f fd ps sp)(hr:Room k X.A)(hg:Gl X x)(hm:X.mg x=some (.ref f))(hk:W.keepIn X.K (.ref f)=true)(hb:Binds X.K fd ps ds)(hd:Vals dvs ds)(b:Passes CX X E)(ha:PA X (e::es) t)(hdb:(x==("__debug__":Str))=false:=by decide)(he:Zu (e::es) X.env=(false,Zv e X.env)::Zu es X.env:=by rfl)(hpl:(Zw pos (Zu es X.env)).any (·.1)=false:=by rfl) :
  PE X (.Call (.Name x p) (e::es) [] pos) (wQ sp dvs E t):=by
 intro a s σ H Q I h;refine wpAny_Call_Name_kw (vU I hg hm ?_ hdb);refine W.callWith_K (h₀:=X.fw) I.ok.mod.kin hk (thn (ha pos a s σ H _ I h) λus s1 ⟨vs,H1,I1,r,q⟩=>⟨I1.kIn,?_⟩) he hpl;exact zZ F hr hb hd b I1 r q
def Dc{pl:Sem Bool}(he:PE X o ta)(c:Cls X.K C)(hm:Meth X.K C m f)(F:FnOk X.prog X.w X.K X.mg X.fw CX k f fd ps sp)(hr:Room k X.A)(hb:Binds X.K fd ps ds)(hd:Vals dvs ds)(d:Passes CX X E)(ha:PA X (e::es) t)(hst:Zu (e::es) X.env=(false,Zv e X.env)::Zu es X.env:=by rfl)(hpl:(Zw pos (Zu es X.env)).any (·.1)=false:=by rfl)(ht:Zv (.Call (.Attribute o m apos) (e::es) [] pos) X.env=(do
   let ov ←Zv o X.env
   standAt apos.atName
   let(f,first) ←holding [ov] (Yb ov m pl)
   Ye pos f first (Zw pos (Zu (e::es) X.env)) (Zy pos (Zz [] X.env))):=by rfl) :
  PE X (.Call (.Attribute o m apos) (e::es) [] pos) (Cq C m sp dvs E ta t):=by
 intro b s σ H Q I h;refine W.methodCall_KW (pl:=pl) (thn (he b s σ H _ I h) λu s1 ⟨x,H1,I1,rx,a,dx,fs,ex,ea,l,q⟩=>?_) ht;subst ex;obtain rfl:u=Value.ref a:=rx;refine mR I1 ea c hm l ?_;refine W.callWith_K (first:=[.ref a]) (h₀:=X.fw) I.ok.mod.kin hm.kp (thn (ha pos b s1 σ H1 _ I1 q) λus s2 ⟨vs,H2,I2,r,q2⟩=>⟨I2.kIn,?_⟩) hst hpl;exact zZ (us:=.ref a::us) (vs:=.ref a::vs) F hr hb hd d I2 (.cons rfl r) q2
def Jr{pl:Sem Bool}(he:PE X o ta)(c:Cls X.K C)(hm:Meth X.K C m f)(F:FnOk X.prog X.w X.K X.mg X.fw CX k f fd ps sp)(hr:Room k X.A)(hb:Binds X.K fd ps ds)(hd:Vals dvs ds)(d:Passes CX X E)(ht:Zv (.Call (.Attribute o m apos) [] [] pos) X.env=(do
   let ov ←Zv o X.env
   standAt apos.atName
   let(f,first) ←holding [ov] (Yb ov m pl)
   Ye pos f first (Zw pos (Zu [] X.env)) (Zy pos (Zz [] X.env))):=by rfl) :
  PE X (.Call (.Attribute o m apos) [] [] pos) (Cq C m sp dvs E ta Mj):=by
 intro b s σ H Q I h;refine W.methodCall_KW (pl:=pl) (thn (he b s σ H _ I h) λu s1 ⟨x,H1,I1,rx,a,dx,fs,ex,ea,l,q⟩=>?_) ht;subst ex;obtain rfl:u=Value.ref a:=rx;refine mR I1 ea c hm l ?_;exact W.callWith_K0 (first:=[.ref a]) I1.kIn hm.kp (zZ (us:=[.ref a]) (vs:=[.ref a]) F hr hb hd d I1 (.cons rfl .nil) q)
structure Mk(K:W.Frag)(C f:Addr):Prop where
 makes:W.makesIn K C=true
 init:W.findIn K (.ref C) "__init__"=some (some (.ref f))
 fn:W.isFn K (.ref f)=true
 kp:W.keepIn K (.ref C)=true
def Ib{a:er}{σ:St}{H:Hp}{s:Shared}{Q:VK}{us:eC}{vs:List V}(M:Mk X.K C f)(F:FnOk X.prog X.w X.K X.mg X.fw CX k f fd ps sp)(hr:Room (k+1) X.A)(hb:Binds X.K fd ps ds)(hd:Vals dvs ds)(j:Passes CX X E)(I:Inv X a σ H s)(r:Vals vs us)(h:∀x dx,H x=none->H dx=none->dx≠x->sp (.ref x::(vs++dvs)) (upd (upd H dx (.own x)) x (.ins C dx [])) (λv H2=>v=.non/\Q (.ref x) H2) E) :
  wpAny (model X.prog X.w) X.A (Z4 (.ref C) us) (EP X a σ Q) X.xe s:=by
 have c:=h (↥s+1) ↥s (I.hok.fresh (Nat.le_succ _)) (I.hok.fresh (Nat.le_refl _)) (Nat.ne_of_lt (Nat.lt_succ_self _));have b:=Inv.made (C:=C) I;have d:Vals (V.ref (↥s+1)::(vs++dvs)) (Value.ref (↥s+1)::(us++ds)):=.cons rfl (r.append hd);have hl:⇑(Value.ref (↥s+1)::us++ds)=⇑ps:=by
  have e:=⇑d;rw[F.len _ _ _ _ c]at e;exact e.symm
 refine Yk (JV (f:=f) I.kIn M.makes M.init (beq_iff_eq.mp M.fn) (Yl (F.run _ X.stack _ _ ⟨Value.ref (↥s+1)::us,[]⟩ (Value.ref (↥s+1)::(us++ds)) _ _ E (hr.make C us [])
  (b.env0.make C us []) (hb _ (Value.ref (↥s+1)::us) b.kIn hl) d c) λr s' hq'=>?_))
 cases r with
 |error e=>exact j a σ _ _ e s' b hq'
 |ok fl =>
  cases fl with
  |ret u =>
   let⟨v,H',g,n,i,l⟩:=b.after hq';subst i;exact⟨n,⟨V.ref (↥s+1),H',g,rfl,l⟩⟩
  |next=>exact False.elim hq'
  |brk=>exact False.elim hq'
  |cont=>exact False.elim hq'
def Nm(M:Mk X.K C f)(F:FnOk X.prog X.w X.K X.mg X.fw CX k f fd ps sp)(hr:Room (k+1) X.A)(hg:Gl X x)(hm:X.mg x=some (.ref C))(hb:Binds X.K fd ps ds)(hd:Vals dvs ds)(b:Passes CX X E)(ha:PA X (e::es) t)(hdb:(x==("__debug__":Str))=false:=by decide)(he:Zu (e::es) X.env=(false,Zv e X.env)::Zu es X.env:=by rfl)(hpl:(Zw pos (Zu es X.env)).any (·.1)=false:=by rfl) :
  PE X (.Call (.Name x p) (e::es) [] pos) (Uo C sp dvs E t):=by
 intro a s σ H Q I h;refine wpAny_Call_Name_kw (vU I hg hm ?_ hdb);refine W.callWith_K (h₀:=X.fw) I.ok.mod.kin M.kp (thn (ha pos a s σ H _ I h) λus s1 ⟨vs,H1,I1,r,q⟩=>⟨I1.kIn,?_⟩) he hpl;exact Ib M F hr hb hd b I1 r q
end
section
variable{CX:CXT}{k:Nat}{f C:Addr}{fd:Yi}{ps ks:List Str}{sp:Sp}{E:XK}{x m:Str}{p pos apos kpos:Pos}{e o:Zt}{es:List Zt}{kws:List ZA}{te ta:TE}{t tk:TA}{nm:Option Str}
structure KBinds(K:W.Frag)(fd:Yi)(ps ks:List Str)(g:eC->eC->eC)(gV:List V->List V->List V):Prop where
 to:∀(s:Shared)(us ws:eC),K.In s.heap->⇑(g us ws)=⇑ps->Yj s fd ⟨us,ks.zip ws⟩ (ps.zip (g us ws))
 rel:∀{vs:List V}{us:eC}{zs:List V}{ws:eC},Vals vs us->Vals zs ws->Vals (gV vs zs) (g us ws)
variable{g:eC->eC->eC}{gV:List V->List V->List V}
end
structure FnScope(N P:List Str)(sc:Zs):Prop where
 kind:sc.kind=.function
 co:sc.isCoroutine=false
 gen:sc.isGenerator=false
 nd:N.Nodup
 pre:N.take ⇑P=P
 par:∀x∈P,sc.names.lookup x=some .local\/sc.names.lookup x=some .cell
 nofree:∀y∈sc.names,y.2≠.free
def zC{N P:List Str}{h:Zs}(a:h.kind=.function:=by rfl)(b:h.isCoroutine=false:=by rfl)(c:h.isGenerator=false:=by rfl)(d:N.Nodup:=by decide +kernel)(e:N.take ⇑P=P:=by rfl)(f:∀x∈P,h.names.lookup x=some .local\/h.names.lookup x=some .cell:=by decide +kernel)(g:∀y∈h.names,y.2≠.free:=by decide +kernel):FnScope N P h:=⟨a,b,c,d,e,f,g⟩
theorem uX{b:Str->Option NameKind}{x:Str}:∀{a:List (Str×Value)}{m:Str->eH},(∀v,(x,v)∉a)->Ym b a m x=m x
 |[],_,_=>rfl
 |(n,v)::r,m,h=>by
  unfold Ym;rw[uX λw hw=>h w (List.mem_cons_of_mem _ hw)];split
  ·have:x≠n:=by rintro rfl;exact h v List.mem_cons_self
   simp[this]
  ·rfl
theorem uZ{b:Str->Option NameKind}{x:Str}:∀{a:List (Str×Value)}{m:Str->eH},(∀v,(x,v)∉a)->Yn b a m x=m x
 |[],_,_=>rfl
 |(n,v)::r,m,h=>by
  unfold Yn;rw[uZ λw hw=>h w (List.mem_cons_of_mem _ hw)];split
  ·rfl
  ·have:x≠n:=by rintro rfl;exact h v List.mem_cons_self
   simp[this]
theorem uY{a:Str->Option NameKind}{x:Str}{v:Value}:∀{P:List Str}{vs:eC}{i:Nat}{m:Str->eH},P.Nodup->P[i]?=some x->vs[i]?=some v->a x=some .local ->
  Ym a (P.zip vs) m x=some v
 |[],_,_,_,_,h,_,_=>by simp at h
 |_::_,[],_,_,_,_,h,_=>by simp at h
 |p::P,w::vs,0,m,nd,h1,h2,hk=>by
  simp at h1 h2;subst h1;subst h2;show Ym a ((p,w)::P.zip vs) m p=_;unfold Ym;rw[uX λv hv=>(List.nodup_cons.mp nd).1 (List.of_mem_zip hv).1,ed hk];simp
 |p::P,w::vs,i+1,m,nd,h1,h2,hk=>by
  show Ym a ((p,w)::P.zip vs) m x=_;unfold Ym;exact uY (i:=i) (List.nodup_cons.mp nd).2 ↑h1 ↑h2 hk
theorem u5{a:Str->Option NameKind}{x:Str}{v:Value}:∀{P:List Str}{vs:eC}{i:Nat}{m:Str->eH},P.Nodup->P[i]?=some x->vs[i]?=some v->a x≠some .local ->
  Yn a (P.zip vs) m x=some v
 |[],_,_,_,_,h,_,_=>by simp at h
 |_::_,[],_,_,_,_,h,_=>by simp at h
 |p::P,w::vs,0,m,nd,h1,h2,hk=>by
  simp at h1 h2;subst h1;subst h2;show Yn a ((p,w)::P.zip vs) m p=_;unfold Yn;rw[uZ λv hv=>(List.nodup_cons.mp nd).1 (List.of_mem_zip hv).1,ee hk];simp
 |p::P,w::vs,i+1,m,nd,h1,h2,hk=>by
  show Yn a ((p,w)::P.zip vs) m x=_;unfold Yn;exact u5 (i:=i) (List.nodup_cons.mp nd).2 ↑h1 ↑h2 hk
def start(N:List Str)(vs:List V):St:=vs.map some++List.replicate (⇑N - ⇑vs) none
def yQ(CX:CXT)(P:Za)(w:Zb)(K:W.Frag)(mg:Str->eH)(fw:Heap)(N:List Str)(qual:Str)(scope:Zs)(f:Addr)(cd:Value)(A:Zr)(outer:List Env)(s:Shared)(H:Hp)(E:XK):Cx where
 prog:=P
 w:=w
 K:=K
 mg:=mg
 fw:=fw
 A:=A.deeper (Yo qual scope ↥s f cd)
 N:=N
 s₀:=s
 H₀:=H
 env:=Yo qual scope ↥s f cd
 outer:=outer
 stack:=Yo qual scope ↥s f cd::outer
 ex:=[]
 calm:=true
 fn:=λ_=>true
 pn:=[]
 xe:=λe s'=>wpAny (model P w) (A.deeper (Yo qual scope ↥s f cd)) (leaving (Yo qual scope ↥s f cd) e) (λ_ s''=>CX outer H s E e s'') (λe' s''=>CX outer H s E e' s'') s'
def yZ{a:Zs}{n:Nat}{x:Str}(h:a.names.lookup x=some .cell):∃c,(cellsFrom n a.names []).lookup x=some c:=by
 have q:=W.cellsFrom_some a.names n [] (.inl h);exact Option.isSome_iff_exists.mp q
def Gq{B:CXT}{P:Za}{w:Zb}{K:W.Frag}{mg:Str->eH}{fw:Heap}{N ps:List Str}{qual:Str}{d:Zs}{f:Addr}{t:Value}{A:Zr}{g:List Env}{s C:Shared}{H:Hp}{E:XK}{us:eC}{vs:List V}(S:FnScope N ps d)(hd:A.handled=none)(j:Env0 P w K mg fw A g s H)(hl:⇑vs=⇑ps)(r:Vals vs us)(x:InCallC s ↥s (Ym (Yo qual d ↥s f t).kindOf (ps.zip us) λ_=>none) (cellsFrom (↥s+1) d.names []) (Yn (Yo qual d ↥s f t).kindOf (ps.zip us) λ_=>none) C) :
  Inv (yQ B P w K mg fw N qual d f t A g s H E) [] (start N vs) H C:=by
 have hpl:⇑ps<=⇑N:=by have:=eh List.length S.pre;rw[List.length_take]at this;lia
 let⟨h1,tk,rfl,hk⟩:=x.done;have m:∀b:Addr,b∉(yQ B P w K mg fw N qual d f t A g s H E).ex:=λb z=>ef (show b∈([]:List Addr)from z) (by simp);refine⟨⟨j.mod,S.kind,rfl,rfl,Nat.le_refl _,λy z c h1 h2=>?_,λy l=>?_,λy c _ h=>?_,λ_=>hd,Around.frames_deeper j.frames,.inr ⟨rfl,rfl⟩,λb z=>ef z (m b),j.bs,j.bsz,λb _ _=>m b,λb z=>ef z (m b),j.lO,j.frf,λq z=>nomatch (show q∈([]:List (Addr×Obj×HO))from z)⟩,
  rfl,j.bare,Un.kept hk,⟨_,x.toInCall.ns,λi y v h1 h2 h3=>?_⟩,λy c h=>⟨_,x.cell y c h⟩,j.hok.fresh (Nat.le_refl _),λy c h=>?_,λp hp=>ef (show p∈([]:er)from hp) (by simp),j.hok.kept hk,?_⟩
 ·exact name_of_addr x.apart (PySem.mem_of_lookup h1) (PySem.mem_of_lookup h2)
 ·have l:d.names.lookup y=some .cell\/d.names.lookup y=some .free:=l;rcases l with l|l
  ·exact yZ l
  ·exact ef rfl (S.nofree _ (PySem.mem_of_lookup l))
 ·exact Nat.le_of_lt (x.above y c (PySem.mem_of_lookup h))
 ·have hi:i<⇑vs:=by
   unfold start at h2;by_cases hi:i<⇑vs
   ·exact hi
   ·rw[List.getElem?_append_right ↑hi]at h2;rw[List.getElem?_replicate]at h2;split at h2 <;> cases h2
  have ha:vs[i]?=some v:=by
   unfold start at h2;rw[List.getElem?_append_left ↑hi,List.getElem?_map]at h2;cases e:vs[i]? with
   |none=>rw[e]at h2;cases h2
   |some a=>rw[e]at h2;cases h2;rfl
  let⟨u,hu,D⟩:=r.get ha;have hp:ps[i]?=some y:=by
   rw[←S.pre,List.getElem?_take_of_lt ()];exact h1
  have o:ps.Nodup:=by rw[←S.pre];exact S.nd.sublist (List.take_sublist _ _)
  refine⟨u,D,?_⟩;rcases S.par y (List.mem_of_getElem? hp)with k|k
  ·exact .inl ⟨k,uY o hp hu k⟩
  ·let⟨c,e⟩:=yZ (n:=↥s+1) k;refine .inr ⟨.inl k,c,e,?_⟩;have q:=x.cell y c e;rw[u5 o hp hu (by show d.names.lookup y≠_;rw[k];decide)]at q;exact q
 ·exact j.hok.fresh (Nat.le_of_lt (x.above y c (PySem.mem_of_lookup h)))
 ·unfold start;show _=⇑N;rw[List.length_append,List.length_map,List.length_replicate];lia
def Qm{B:CXT}{P:Za}{w:Zb}{K:W.Frag}{mg:Str->eH}{fw:Heap}{k:Nat}{f:Addr}{name qual:Str}{g:Yp}{h:List ZF}{a:Zs}{O kV m R d M X:Value}{L Y:eD}{D:Array eH}{N ps:List Str}{sp:Sp}(U:K.lookup f=some ⟨X,Y,.func (W.fnOf name qual g h a O kV m R L d M),D⟩)(hcd:W.codeIn K d qual=true)(S:FnScope N ps a)(z:∀vs H Q E,sp vs H Q E->⇑vs=⇑ps)(j:∀(A:Zr)(c:List Env)(s:Shared)(H:Hp)(vs:List V)(Q:VK)(E:XK),Room k (A.deeper (Yo qual a ↥s f d))->sp vs H Q E ->
   ∃t,PSs (yQ B P w K mg fw N qual a f d A c s H E) h t/\t { nx:=λ_ H'=>Q .non H',rt:=Q } (start N vs) H) :
  FnOk P w K mg fw B (k+1) f (W.fnOf name qual g h a O kV m R L d M) ps sp:=by
 refine⟨z,λA c s H args us vs Q E hr e0 hb r hsp=>?_⟩;have hl:=z _ _ _ _ hsp;have G:K.In s.heap:=e0.mod.kin.keeps λb o e=>(e0.bs b o e).1;have C:s.heap.NoLimit:=e0.mod.nolimit.keeps λb o e=>(e0.bs b o e).1;have l:∀y∈ps.zip us,a.names.lookup y.1=some .local\/(a.names.lookup y.1=some .cell/\((cellsFrom (↥s+1) a.names []).lookup y.1).isSome=true):=λ⟨n,v⟩ hy=>by
  rcases S.par n (List.of_mem_zip hy).1 with q|q
  ·exact .inl q
  ·exact .inr ⟨q,W.cellsFrom_some _ _ _ (.inl q)⟩
 refine codeAny_call_function hr.depth (G _ _ U) rfl S.co S.gen rfl (W.codeRec_of G hcd) (hb _ _ _ _ ?_);refine wpAny_newFunctionEnv_cells S.kind l λenv he s1 x=>?_;subst he;refine⟨C.keeps x.toInCall.keep,codeAny_func ?_⟩;let⟨t,ht,T⟩:=j A c s H vs Q E (hr.deeper _) hsp;have I:Inv (yQ B P w K mg fw N qual a f d A c s H E) [] (start N vs) H s1:=Gq S hr.hd e0 hl r x;refine ZG (ht [] s1 (start N vs) H _ I T) (λfl s' hs=>?_) λe s' hs=>hs;have p:∀{i:St}{H':Hp}{v:V}{u:Value},Inv (yQ B P w K mg fw N qual a f d A c s H E) [] i H' s'->RelV v u->Q v H'->CE c P w H s Q u s' :=
  λ{i H' v u} J F q=>⟨v,H',J.os,J.bare,J.fw,J.hok,F,q⟩
 cases fl with
 |ret u =>
  let⟨v,i,H',J,F,q⟩:=hs;exact p J F q
 |next =>
  let⟨i,H',J,q⟩:=hs;exact p (v:=V.non) (u:=Value.none) J rfl q
 |brk =>
  let⟨_,_,_,q⟩:=hs;exact False.elim q
 |cont =>
  let⟨_,_,_,q⟩:=hs;exact False.elim q
section
variable{x:Str}{p pos:Pos}{e:Zt}{es:List Zt}{t:TA}{id T:String}{r:List V->Hp->VK->Prop}
def tCB(r:List V->Hp->VK->Prop)(t:TA):TE:=λσ H Q=>t σ H λvs H1=>r vs H1 Q
def fK(hc:eX X (.builtin id) r)(hg:Gl X x)(hm:X.mg x=none)(hv:Zq x=some (.builtin id))(ha:PA X (e::es) t)(hn:x≠"__name__":=by decide)(hdb:(x==("__debug__":Str))=false:=by decide)(he:Zu (e::es) X.env=(false,Zv e X.env)::Zu es X.env:=by rfl)(hpl:(Zw pos (Zu es X.env)).any (·.1)=false:=by rfl):PE X (.Call (.Name x p) (e::es) [] pos) (tCB r t):=by
 intro a s σ H Q I h;refine wpAny_Call_Name_kw (jV I hg hm hv ?_ hn hdb);exact PyProof.Rows.callWith_builtin1 (thn (ha pos a s σ H _ I h) λus s1 ⟨vs,H1,I1,r1,q1⟩=>hc a s1 σ H1 vs us Q I1 r1 q1) he hpl
def pC(hc:eX X (.type T) r)(hg:Gl X x)(hm:X.mg x=none)(hv:Zq x=some (.type T))(ha:PA X (e::es) t)(hn:x≠"__name__":=by decide)(hdb:(x==("__debug__":Str))=false:=by decide)(he:Zu (e::es) X.env=(false,Zv e X.env)::Zu es X.env:=by rfl)(hpl:(Zw pos (Zu es X.env)).any (·.1)=false:=by rfl):PE X (.Call (.Name x p) (e::es) [] pos) (tCB r t):=by
 intro a s σ H Q I h;refine wpAny_Call_Name_kw (jV I hg hm hv ?_ hn hdb);exact PyProof.Rows.callWith_type1 (thn (ha pos a s σ H _ I h) λus s1 ⟨vs,H1,I1,r1,q1⟩=>hc a s1 σ H1 vs us Q I1 r1 q1) he hpl
end
end L2
namespace HT
section
open PySem.SeqAt
open PySem.AutoSeq1 (wpAny_loadPart')
open PySem.MeetsSeq PySem.MeetsSeq2 PySem.MeetsSeq3
end
section
variable{prog:Za}{w:Zb}{A:Zr}{E:em}{s:Shared}
def O8{t b:Addr}{vs a:eC}{Q:em}(ht:IsTup s.heap t vs.toArray)(hb:IsTup s.heap b a.toArray)(hv:vs≠[])(h1:a=[]->Q (.ref t) s)(h2:a≠[]->Q (.ref ↥s) { s with heap:=s.heap.push { cls:=.type "tuple",data:=.seq (vs++a).toArray }})(hsz:⇑vs+⇑a<=sizeLine):wpAny (model prog w) A (Z5 .Add (.ref t) (.ref b)) Q E s:=by
 let⟨⟨cls,m,data,p⟩,i,hc,n,hd⟩:=id ht;let⟨⟨l,d,k,h⟩,c,f,o,g⟩:=id hb;simp only at hc hd f g;subst hc hd f g;have e:vs.toArray++a.toArray=(vs++a).toArray:=by simp
 by_cases j:a=[]
 ·exact concat_meets ⟨_,i,rfl⟩ ⟨_,c,rfl⟩ Yq Yr PySem.F.slot_tuple_add PySem.F.entry_tuple_add (PySem.F.args_tuple_add_2 _ _)
   (tuple_addW1 t b vs.toArray a.toArray n o m d p h ↑hv (by simp[j])) ⟨i,c,h1 j⟩
 ·refine concat_meets ⟨_,i,rfl⟩ ⟨_,c,rfl⟩ Yq Yr PySem.F.slot_tuple_add PySem.F.entry_tuple_add (PySem.F.args_tuple_add_2 _ _)
   (tuple_addW2 t b vs.toArray a.toArray n o m d p h ↑hv ↑j (by rw[List.size_toArray,List.size_toArray];exact hsz)) ⟨i,c,?_⟩
  rw[e];exact h2 j
def sIx(n d:Nat):Option Int->Nat
 |none=>d
 |some v=>if v<0 then(v+(n:Int)).toNat else min v.toNat n
def qx(n d k:Nat):sIx n d (some (k:Int))=min k n:=by
 show(if(k:Int)<0 then((k:Int)+(n:Int)).toNat else min (k:Int).toNat n)=min k n;rw[ee (),Int.toNat_natCast]
def QV(n d:Nat)(hd:d<=n)(o:Option Int):sIx n d o<=n:=by
 cases o with
 |none=>exact hd
 |some v =>
  show(if v<0 then(v+(n:Int)).toNat else min v.toNat n)<=n;by_cases hv:v<0
  ·rw[ed hv];lia
  ·rw[ee hv];exact Nat.min_le_right _ _
def Er(v:Int)(n d:Nat):(if v<0 then max (v+(n:Int)) 0 else min v (n:Int))=(~~~(sIx n d (some v))):=by
 show(if v<0 then max (v+(n:Int)) 0 else min v (n:Int))=(((if v<0 then(v+(n:Int)).toNat else min v.toNat n):Nat):Int)
 by_cases hv:v<0
 ·simp only[ed hv];lia
 ·simp only[ee hv];lia
def Cd(lo hi:Option Int)(n:Nat):Builtin.Slice.sliceAdjust lo hi 1 (n:Int)=((~~~(sIx n 0 lo)),(~~~(sIx n n hi))):=by
 have h1:¬((1:Int)<0):=()
 unfold Builtin.Slice.sliceAdjust;simp only[h1,if_false];refine Prod.ext ?_ ?_
 ·cases lo with
  |none=>rfl
  |some v=>exact Er v n 0
 ·cases hi with
  |none=>rfl
  |some v=>exact Er v n n
def Ab(i j:Nat):Builtin.Slice.slicePlaces (i:Int) (j:Int) 1=j - i:=by
 unfold Builtin.Slice.slicePlaces;have h1:(1:Int) > 0:=()
 simp only[h1,if_true,Int.ediv_one];split <;> lia
def qZ{v:Value}{o:Option Int}{Q:Option Int->Shared->Prop}(p:Ys v o)(h:Q o s):wpAny (model prog w) A (Builtin.Slice.slicePartIndex v) Q E s:=by
 cases p with
 |none=>exact Yt h
 |int i t=>exact slicePart_int h
def o8{e:Addr}{c d:Value}{lo hi:Option Int}{n:Nat}{Q:Int×Int×Nat->Shared->Prop}(hs:s.heap.IsSliceOf e c d .none)(pl:Ys c lo)(g:Ys d hi)(h:Q ((~~~(sIx n 0 lo)),1,sIx n n hi - sIx n 0 lo) s):wpAny (model prog w) A (Builtin.Slice.sliceApplied (.ref e) (pure (n:Int))) Q E s:=by
 let⟨i,b,f,a⟩:=id hs;unfold Builtin.Slice.sliceApplied Builtin.Slice.sliceFields;refine wpAny_bind (wpAny_bind (Yu b a (x:=c) rfl (wpAny_bind (Yu b a (x:=d) rfl (wpAny_bind (Yu b a (x:=.none) rfl (Z0 ?_)))))));refine wpAny_bind (Yt ?_);show wpAny _ _ (if((1:Int)==0)=true then _ else _) _ _ s;rw[ee ∅];refine wpAny_bind (qZ pl (wpAny_bind (qZ g (wpAny_bind (Z0 ?_)))));show wpAny _ _ (match Builtin.Slice.sliceAdjust lo hi 1 (n:Int)with|(lo,hi)=>pure (lo,(1:Int),Builtin.Slice.slicePlaces lo hi 1)) _ _ s;rw[Cd lo hi n];show wpAny _ _ (pure ((~~~(sIx n 0 lo)),(1:Int),Builtin.Slice.slicePlaces (~~~(sIx n 0 lo)) (~~~(sIx n n hi)) 1)) _ _ s;rw[Ab];exact Z0 h
def Jj(xs:eB)(i k:Nat):((List.range k).filterMap λ(m:Nat)=>xs[((i:Int)+(m:Int) * 1).toNat]?).toArray=((xs.toList.drop i).take k).toArray:=by
 have e:(λ(m:Nat)=>xs[((i:Int)+(m:Int) * 1).toNat]?)=λm=>xs[i+m]?:=by
  funext m;have:((i:Int)+(m:Int) * 1).toNat=i+m:=()
  rw[this]
 rw[e];have:=pick_run xs i k;rw[List.filterMap_map]at this;have a:((λx=>xs[x]?) ∘ λx=>i+x)=λm=>xs[i+m]?:=rfl;rw[a]at this;rw[this]
def oG{t g:Addr}{a:eB}{i j:Value}{lo hi:Option Int}{Q:em}(ht:IsTup s.heap t a)(hs:s.heap.IsSliceOf g i j .none)(pl:Ys i lo)(o:Ys j hi)(l:¬(sIx a.size 0 lo=0/\sIx a.size a.size hi=a.size))(h:Q (.ref ↥s) { s with heap:=s.heap.push { cls:=.type "tuple",data:=.seq ((a.toList.drop (sIx a.size 0 lo)).take (sIx a.size a.size hi - sIx a.size 0 lo)).toArray }})(hsz:a.size<=sizeLine):wpAny (model prog w) A (Yv (.ref t) (.ref g)) Q E s:=by
 have b:sizeOk (.seq ((a.toList.drop (sIx a.size 0 lo)).take (sIx a.size a.size hi - sIx a.size 0 lo)).toArray):=by
  show((a.toList.drop (sIx a.size 0 lo)).take (sIx a.size a.size hi - sIx a.size 0 lo)).toArray.size<=sizeLine;rw[List.size_toArray,List.length_take,List.length_drop,Array.length_toList];lia
 have p:sIx a.size a.size hi<=a.size:=QV _ _ (Nat.le_refl _) hi;let⟨n,f,d,k⟩:=id hs;have c:s.TypeIs (.ref g) "slice":=⟨n,f,d⟩
 unfold Yv
 try with_reducible refine Yw ?_
 first|refine wpAny_bind (Z0 ?_)|skip
 refine wpAny_bind (wpAny_sequenceKey ht.typeIs ∅ ?_);refine wpAny_bind (Yx (name:=Str.ofString "__getitem__") ht.typeIs PyProof.Rows.slot_tuple_getitem
  (Yy PyProof.Rows.slot_tuple_getitem ht.typeIs entry_tuple_getitem ?_ (args_tuple_getitem _ _)))
 show wpAny _ _ (Builtin.Tuple.tupleItemsOf (.ref t) >>=_) _ _ s;refine wpAny_bind (tupleItemsOf_ ht ?_);refine wpAny_bind (wpAny_typeOf c ?_);rw[ed ∅];refine wpAny_bind (o8 hs pl o ?_);have e:¬(((~~~(sIx a.size 0 lo))==0&&(1:Int)==1&&(sIx a.size a.size hi - sIx a.size 0 lo)==a.size)=true):=by
  intro q;rw[Bool.and_eq_true,Bool.and_eq_true]at q;have r:(~~~(sIx a.size 0 lo))=0:=el q.1.1;have u:sIx a.size a.size hi - sIx a.size 0 lo=a.size:=el q.2;exact l ⟨(),()⟩
 show wpAny _ _ (if((~~~(sIx a.size 0 lo))==0&&(1:Int)==1&&(sIx a.size a.size hi - sIx a.size 0 lo)==a.size)=true then _ else _) _ _ s;rw[ee e,Jj]
 first
  |exact wpAny_bind (m:=Builtin.Tuple.tupleExact _) (Yz (Z0 ⟨_,rfl,Z0 h⟩) b)
  |exact wpAny_bind (m:=Builtin.Tuple.tupleExact _) (Yz (wpAny_bind (Z0 (Z0 ⟨_,rfl,Z0 h⟩))) b)
  |exact wpAny_bind (wpAny_bind (m:=Builtin.Tuple.tupleExact _) (Yz (Z0 (Z0 ⟨_,rfl,Z0 h⟩)) b))
  |exact wpAny_bind (wpAny_bind (m:=Builtin.Tuple.tupleExact _) (Yz (Z0 ⟨_,rfl,Z0 h⟩) b))
end
end HT
namespace L2
open PySem.Spec
variable{X:Cx}
abbrev TO:=St->Hp->(Option Int->Hp->Prop)->Prop
def PO(X:Cx)(e:Option Zt)(t:TO):Prop :=
 ∀(pins:er)(s:Shared)(σ:St)(H:Hp)(Q:Option Int->Hp->Prop),Inv X pins σ H s->t σ H Q ->
  wpAny (model X.prog X.w) X.A (evalPart e X.env) (λu s'=>∃o H',Inv X pins σ H' s'/\Ys u o/\Q o H') X.xe s
def Mi:TO:=λ_ H Q=>Q none H
def Uk(t:TE):TO:=λσ H Q=>t σ H λx H1=>∃i,x=.int i/\Q (some i) H1
def intsAre_of{ns:ew}:∀{us:eC},Vals (ns.map V.int) us->IntsAre us ns:=by
 induction ns with
 |nil=>intro us r;rw[List.map_nil]at r;cases r;exact .nil
 |cons n ns ih =>
  intro us r;rw[List.map_cons]at r;cases r with
  |cons r1 r2 =>
   let⟨t,e⟩:=r1;subst e;exact .cons n t (ih r2)
section
variable{e:Zt}{te:TE}{lo hi:Option Zt}{tl th:TO}{pos p2:Pos}
def Nb:PO X none Mi:=by
 intro a s σ H Q I h;rw[YA];exact Z0 ⟨none,H,I,.none,h⟩
def M9(h:PE X e te):PO X (some e) (Uk te):=by
 intro a s σ H Q I b;rw[YB];refine thn (h a s σ H _ I b) λu s1 ⟨x,H1,I1,r1,q1⟩=>?_;let⟨i,rfl,q⟩:=q1;let⟨t,rfl⟩:=r1;exact⟨some i,H1,I1,.int i t,q⟩
def SlR(X:Cx)(r:V->Option Int->Option Int->Hp->VK->Prop):Prop :=
 ∀(pins:er)(s:Shared)(σ:St)(H:Hp)(x:V)(v vl vu:Value)(lo hi:Option Int)(sl:Addr)(Q:VK),Inv X pins σ H s->RelV x v->s.heap.IsSliceOf sl vl vu .none->Ys vl lo->Ys vu hi->r x lo hi H Q ->
  ∃T id,typeLookup (.type T) "__getitem__"=pure (some (.builtin id))/\s.TypeIs v T/\wpAny (model X.prog X.w) X.A (Yv v (.ref sl)) (EP X pins σ Q) X.xe s
def SlR.or{r c:V->Option Int->Option Int->Hp->VK->Prop}(h:SlR X r)(h':SlR X c):SlR X (λx lo hi H Q=>r x lo hi H Q\/c x lo hi H Q):=by
 intro a s σ H x v g i lo hi f Q I d hs pl b q;rcases q with q|q
 ·exact h a s σ H x v g i lo hi f Q I d hs pl b q
 ·exact h' a s σ H x v g i lo hi f Q I d hs pl b q
def tSl(r:V->Option Int->Option Int->Hp->VK->Prop)(te:TE)(tl th:TO):TE:=λσ H Q=>te σ H λx H1=>tl σ H1 λl H2=>th σ H2 λu H3=>r x l u H3 Q
def Jq{r:V->Option Int->Option Int->Hp->VK->Prop}(hr:SlR X r)(he:PE X e te)(hl:PO X lo tl)(hu:PO X hi th):PE X (.Subscript e (.Slice lo hi none p2) pos) (tSl r te tl th):=by
 intro a s σ H Q I h;refine YC (thn (he a s σ H _ I h) λv s1 ⟨x,H1,I1,r1,q1⟩=>?_);refine wpAny_Slice (thn (hl a s1 σ H1 _ I1 q1) λvl s2 ⟨l,H2,I2,pl,q2⟩=>thn (hu a s2 σ H2 _ I2 q2) λvu s3 ⟨u,H3,I3,pu,q3⟩=>?_);rw[YA];refine Z0 ?_;have c:Inv X a σ H3 { s3 with heap:=s3.heap.push { cls:=.type "slice",data:=.fields #[vl,vu,.none]}}:=I3.kept (t':=s3.toks) λb ob q=>Heap.get?_push_of_some _ q;let⟨T,id,d,ht,hg⟩:=hr a { s3 with heap:=s3.heap.push { cls:=.type "slice",data:=.fields #[vl,vu,.none]}} σ H3 x v vl vu l u ↥s3 Q c r1 (Heap.IsSliceOf.new ..) pl pu q3;show wpAny (model X.prog X.w) X.A (YD e (.Slice lo hi none p2) v (.ref ↥s3)) (EP X a σ Q) X.xe { s3 with heap:=s3.heap.push { cls:=.type "slice",data:=.fields #[vl,vu,.none]}};exact tail_any (ops:=[.ref ↥s3,v]) ht d hg (by with_unfolding_all rfl)
def uw(xs:List V)(lo hi:Option Int):List V:=(xs.drop (HT.sIx ⇑xs 0 lo)).take (HT.sIx ⇑xs ⇑xs hi - HT.sIx ⇑xs 0 lo)
def qg(xs:List V)(lo hi:Option Int):⇑(uw xs lo hi)<=⇑xs:=by
 unfold uw;rw[List.length_take,List.length_drop];lia
def Wu(K:W.Frag):V->Option Int->Option Int->Hp->VK->Prop:=λx lo hi H Q=>∃a xs,x=.ref a/\SqT K H a xs /\
 ¬(HT.sIx ⇑xs 0 lo=0/\HT.sIx ⇑xs ⇑xs hi=⇑xs)/\∀p,H p=none->Q (.ref p) (upd H p (.tup (uw xs lo hi)))
def QM:SlR X (Wu X.K):=by
 intro f s σ H x v m n lo hi l Q I k hs pl j h;let⟨a,xs,rfl,i,g,q⟩:=h;cases k;let⟨its,r,ht,d⟩:=I.tuple i;have c:its.toArray.size=⇑xs:=by rw[List.size_toArray];exact r.length.symm
 refine⟨"tuple",_,PyProof.Rows.slot_tuple_getitem.lookup,ht.typeIs,?_⟩;refine HT.oG ht hs pl j (by rw[c];exact g) ?_ (by rw[c];exact d);rw[c];refine⟨.ref ↥s,_,I.laid (t':=s.toks) (o:=.tup (uw xs lo hi)) (λb ob q=>Heap.get?_push_of_some _ q) (Nat.le_refl _) ?_,rfl,q _ (I.hok.fresh (Nat.le_refl _))⟩;exact⟨Nat.le_trans (qg xs lo hi) d,_,(r.drop (HT.sIx ⇑xs 0 lo)).take (HT.sIx ⇑xs ⇑xs hi - HT.sIx ⇑xs 0 lo),IsTup.new _ _⟩
def U6(K:W.Frag):R2:=λx y H Q=>∃a b xs ys,x=.ref a/\y=.ref b/\SqT K H a xs/\SqT K H b ys/\xs≠[]/\⇑xs+⇑ys<=sizeLine /\
 (ys=[]->Q (.ref a) H)/\(ys≠[]->∀p,H p=none->Q (.ref p) (upd H p (.tup (xs++ys))))
def Vals.vN{xs:List V}{us:eC}(r:Vals xs us):us=[]↔xs=[]:=by
 cases r with
 |nil=>simp
 |cons _ _=>simp
def Nv:OpR X (Z5 .Add) (U6 X.K):=by
 intro i s σ H x y v u Q I n p h;let⟨a,b,xs,ys,rfl,rfl,ha,hb,j,f,l,m⟩:=h;cases n;cases p;let⟨its,d,k,_⟩:=I.tuple ha;let⟨g,c,p2,_⟩:=I.tuple hb;refine HT.O8 k p2 (λz=>j (d.vN.mp z)) (λz=>⟨.ref a,H,I,rfl,l (c.vN.mp z)⟩) (λz=>?_) (by rw[←⇑d,←⇑c];exact f);refine⟨.ref ↥s,_,I.laid (t':=s.toks) (o:=.tup (xs++ys)) (λb ob q=>Heap.get?_push_of_some _ q) (Nat.le_refl _) ?_,rfl,m (λw=>z (c.vN.mpr w)) _ (I.hok.fresh (Nat.le_refl _))⟩;exact⟨by rw[List.length_append];exact f,_,d.append c,IsTup.new _ _⟩
end
def ixN(n:Nat)(i:Int):Option Nat:=if 0<=i then(if i<n then some i.toNat else none)else if -(n:Int)<=i then some (i+n).toNat else none
def atI{α:Type}(xs:List α)(i:Int):Option α:=(ixN ⇑xs i).bind λj=>xs[j]?
def Oi{n:Nat}{i:Int}{j:Nat}(h:ixN n i=some j):seqIndex? i n=some j/\j<n/\-(n:Int)<=i/\i<n:=by
 unfold ixN at h;by_cases a:0<=i
 ·rw[ed a]at h;by_cases h1:i<n
  ·rw[ed h1]at h;have e:i.toNat=j:=Option.some.inj h;exact⟨by rw[seqIndex_of a h1,e],(),(),h1⟩
  ·rw[ee h1]at h;cases h
 ·rw[ee a]at h;by_cases h1:-(n:Int)<=i
  ·rw[ed h1]at h;have e:(i+n).toNat=j:=Option.some.inj h;exact⟨by rw[seqIndex_neg () h1,e],(),h1,()⟩
  ·rw[ee h1]at h;cases h
def Es{α:Type}{xs:List α}{i:Int}{v:α}(h:atI xs i=some v):∃j,seqIndex? i ⇑xs=some j/\xs[j]?=some v/\j<⇑xs/\-(⇑xs:Int)<=i/\i<⇑xs:=by
 unfold atI at h;cases e:ixN ⇑xs i with
 |none=>rw[e]at h;cases h
 |some j =>
  rw[e]at h;let⟨h1,h2,a,b⟩:=Oi e;exact⟨j,h1,h,h2,a,b⟩
def dh{α:Type}{xs:List α}{j:Nat}{v:α}(h:xs[j]?=some v):atI xs (j:Int)=some v:=by
 have a:j<⇑xs:=(List.getElem?_eq_some_iff.mp h).1;have e:ixN ⇑xs (j:Int)=some j:=by
  unfold ixN;rw[ed (),ed ()];simp
 unfold atI;rw[e];exact h
def qR(b:Zt):Prop:=∀o i,YE b false o i=operate [o,i] (Yv o i)
def IxR(X:Cx)(r:R2):Prop :=
 ∀(value slice:Zt)(pins:er)(s:Shared)(σ:St)(H:Hp)(x y:V)(v u:Value)(Q:VK),Inv X pins σ H s->RelV x v->RelV y u->r x y H Q ->
  YE slice false v u=operate [v,u] (Yv v u)->wpAny (model X.prog X.w) X.A (YD value slice v u) (EP X pins σ Q) X.xe s
def MtR(X:Cx)(id:String)(r:V->List V->Hp->VK->Prop):Prop :=
 ∀(pins:er)(s:Shared)(σ:St)(H:Hp)(x:V)(xs:List V)(v:Value)(us:eC)(Q:VK),Inv X pins σ H s->RelV x v->Vals xs us->r x xs H Q ->
  wpAny (model X.prog X.w) X.A (Z4 (.builtin id) (v::us)) (EP X pins σ Q) X.xe s
section
variable{a b:Zt}{ta tb:TE}{pos:Pos}
def IxR.or{r f:R2}(h:IxR X r)(h':IxR X f):IxR X (λx y H Q=>r x y H Q\/f x y H Q):=by
 intro d c e s σ H x y v u Q I g i q hs;rcases q with q|q
 ·exact h d c e s σ H x y v u Q I g i q hs
 ·exact h' d c e s σ H x y v u Q I g i q hs
def xK{r:R2}(hr:IxR X r)(ha:PE X a ta)(hb:PE X b tb)(hs:qR b):PE X (.Subscript a b pos) (tOp r ta tb):=by
 intro c s σ H Q I h;exact YC (TX ha hb I h λv u s2 x y H2 I2 rx ry q=>hr a b c s2 σ H2 x y v u Q I2 rx ry q (hs _ _))
def Q0(K:W.Frag):R2:=λx y H Q=>∃p xs i v,x=.ref p/\y=.int i/\SqL K H p xs/\atI xs i=some v/\Q v H
def U4(K:W.Frag):R2:=λx y H Q=>∃p xs i v,x=.ref p/\y=.int i/\SqT K H p xs/\atI xs i=some v/\Q v H
def qO:IxR X (Q0 X.K):=by
 intro k g c s σ H x y v u Q I B C h hs;let⟨p,xs,i,z,rfl,rfl,A,he,q⟩:=h;cases B;let⟨t,rfl⟩:=C;let⟨its,r,pl,E⟩:=I.list A;let⟨j,h1,h2,D,n,o⟩:=Es he;let⟨w,l,f⟩:=r.get h2;have hl:=⇑r;have hn:=vQ;have d:EP X c σ Q w s:=⟨z,H,I,f,q⟩
 by_cases m:0<=i
 ·have e:i.toNat=j:=by
   rw[seqIndex_of m o]at h1;exact Option.some.inj h1
  exact item_listR pl.isList m () (by rw[e];simpa using l) d hs
 ·have e:(i+(its.toArray.size:Int)).toNat=j:=by
   rw[seqIndex_neg () n]at h1;rw[List.size_toArray,←hl];exact Option.some.inj h1
  exact YF (x:=w) pl.isList.typeIs slot_list_getitem.lookup
   (wpAny_getItem_list_neg (Q:=λr s'=>r=w/\EP X c σ Q r s') pl.isList () (by rw[List.size_toArray] <;> lia) () (by rw[e];simpa using l) ⟨rfl,d⟩) hs
def Kl:IxR X (U4 X.K):=by
 intro g f c s σ H x y v u Q I m n h hs;let⟨p,xs,i,z,rfl,rfl,l,he,q⟩:=h;cases m;let⟨t,rfl⟩:=n;let⟨its,r,pl,C⟩:=I.tuple l;let⟨j,h1,h2,o,A,B⟩:=Es he;let⟨w,k,e⟩:=r.get h2;have hl:=⇑r;have hn:=vQ;have d:EP X c σ Q w s:=⟨z,H,I,e,q⟩
 exact YF (x:=w) pl.typeIs slot_tuple_getitem.lookup
  (getItem_tuple (j:=j) (Q:=λr s'=>r=w/\EP X c σ Q r s') pl () () (by rw[List.size_toArray,←hl];exact h1) ↑k ⟨rfl,d⟩) hs
def vo(lo hi:Option Int)(n:Nat):(YG lo hi none n).1=(~~~(HT.sIx n 0 lo))/\(YG lo hi none n).2.1=(~~~(HT.sIx n n hi))/\(YG lo hi none n).2.2=1:=by
 refine⟨?_,?_,rfl⟩
 ·cases lo with
  |none=>simp[YG,HT.sIx]
  |some i =>
   simp only[YG,HT.sIx,Option.getD_none,show(1:Int) > 0 by decide,if_true];by_cases h:i<0
   ·simp only[h,if_true] <;> lia
   ·simp only[h,if_false] <;> lia
 ·cases hi with
  |none=>simp[YG,HT.sIx]
  |some i =>
   simp only[YG,HT.sIx,Option.getD_none,show(1:Int) > 0 by decide,if_true];by_cases h:i<0
   ·simp only[h,if_true] <;> lia
   ·simp only[h,if_false] <;> lia
def tW(its:eC)(lo hi:Option Int):YH its.toArray lo hi none=((its.drop (HT.sIx ⇑its 0 lo)).take (HT.sIx ⇑its ⇑its hi - HT.sIx ⇑its 0 lo)).toArray:=by
 let⟨h1,h2,c⟩:=vo lo hi its.toArray.size;unfold YH;rw[h1,h2,c];simp only[sliceRange_one,pick_run,List.size_toArray] <;> rfl
def Wv(K:W.Frag):V->Option Int->Option Int->Hp->VK->Prop:=λx lo hi H Q=>∃a xs,x=.ref a/\SqL K H a xs/\∀p,H p=none->Q (.ref p) (upd H p (.lst (uw xs lo hi)))
def Mr:SlR X (Wv X.K):=by
 intro d s σ H x v k l lo hi j Q I i hs pl g h;let⟨a,xs,rfl,e,q⟩:=h;cases i;let⟨its,r,ht,f⟩:=I.list e;have c:=⇑r;refine⟨"list",_,slot_list_getitem.lookup,ht.isList.typeIs,?_⟩;refine YI ht.isList hs pl g .none (by simp) ?_ (by rw[List.size_toArray] <;> lia);rw[tW,←c];refine⟨.ref ↥s,_,I.laid (t':=s.toks) (o:=.lst (uw xs lo hi)) (λb ob q=>Heap.get?_push_of_some _ q) (Nat.le_refl _) ?_,rfl,q _ (I.hok.fresh (Nat.le_refl _))⟩;exact⟨Nat.le_trans (qg xs lo hi) f,_,0,(r.drop (HT.sIx ⇑xs 0 lo)).take (HT.sIx ⇑xs ⇑xs hi - HT.sIx ⇑xs 0 lo),Heap.get?_push_size _ rfl⟩
def jr:eX X (.builtin "len") (λxs H Q=>∃p ys,xs=[.ref p]/\(SqL X.K H p ys\/SqT X.K H p ys)/\Q (.int ⇑ys) H):=by
 intro f s σ H xs us Q I r h;let⟨p,ys,rfl,d,q⟩:=h;let⟨u,rfl,i⟩:=vals1 r;cases i;have hn:=vQ;rcases d with d|d
 ·let⟨its,e,pl,g⟩:=I.list d;have c:=⇑e;exact Calls.call_len_list pl.isList (by simp only[List.size_toArray] <;> lia) ⟨.int ⇑ys,H,I.tok _,⟨s.toks+1,by rw[List.size_toArray,c]⟩,q⟩
 ·let⟨its,e,pl,g⟩:=I.tuple d;have c:=⇑e;exact len_tuple pl (by simp only[List.size_toArray] <;> lia) ⟨.int ⇑ys,H,I.tok _,⟨s.toks+1,by rw[List.size_toArray,c]⟩,q⟩
def wG:eX X (.type "list") (λxs H Q=>∃p ys,xs=[.ref p]/\(SqL X.K H p ys\/SqT X.K H p ys)/\∀l,H l=none->Q (.ref l) (upd H l (.lst ys))):=by
 intro j s σ H xs us Q I r h;let⟨p,ys,rfl,g,q⟩:=h;let⟨u,rfl,m⟩:=vals1 r;cases m;have d:∀(its:eC),Vals ys its->⇑ys<=sizeLine->∀(h':Heap)(c':Nat),(∀b o',s.heap.get? b=some o'->h'.get? b=some o') ->
   h'.get? ↥s=some { cls:=.type "list",dict:=none,data:=.seq its.toArray c',slots:=#[]}->EP X j σ Q (.ref ↥s) { s with heap:=h' }:=λits c i h' c' kp e =>
  ⟨.ref ↥s,_,I.laid (t':=s.toks) kp (Nat.le_refl _) (show bR X.prog X.w _ h' _ (.lst ys)from⟨i,its,c',c,e⟩),rfl,q _ (I.hok.fresh (Nat.le_refl _))⟩
 rcases g with g|g
 ·let⟨its,c,pl,i⟩:=I.list g;have f:=⇑c;let⟨o,k,hc,n,hd⟩:=pl.isList;exact YJ p (.inl rfl) k hc hd (λh' c' kp e=>d its c i h' c' kp e) (by simp only[List.size_toArray] <;> lia)
 ·let⟨its,c,pl,i⟩:=I.tuple g;have f:=⇑c;let⟨o,k,hc,n,hd⟩:=pl;exact YJ p (.inr rfl) k hc hd (λh' c' kp e=>d its c i h' c' kp e) (by simp only[List.size_toArray] <;> lia)
def ux:eX X (.type "tuple") (λxs H Q=>∃p ys,xs=[.ref p]/\((SqL X.K H p ys/\∀l,H l=none->Q (.ref l) (upd H l (.tup ys)))\/(SqT X.K H p ys/\Q (.ref p) H))):=by
 intro c s σ H xs us Q I r h;let⟨p,ys,rfl,h⟩:=h;let⟨u,rfl,m⟩:=vals1 r;cases m;rcases h with⟨d,q⟩|⟨d,q⟩
 ·let⟨its,f,pl,j⟩:=I.list d;have i:=⇑f;refine call_tuple_list pl.isList (λh' kp=>?_) (by simp only[List.size_toArray] <;> lia);have g:Inv X c σ H { s with heap:=h' }:=I.kept (t':=s.toks) kp;have k:Inv X c σ (upd H h'.objs.size (.tup ys)) { s with heap:=h'.push { cls:=.type "tuple",data:=.seq its.toArray }} :=
   g.laid (t':=s.toks) (λb o e=>Heap.get?_push_of_some _ e) (Nat.le_refl _) (show bR X.prog X.w _ _ _ (.tup ys)from⟨j,its,f,IsTup.new _ _⟩)
  exact⟨.ref h'.objs.size,_,k,rfl,q _ (g.hok.fresh (Nat.le_refl _))⟩
 ·let⟨its,f,pl,j⟩:=I.tuple d;exact call_tuple_same pl ⟨.ref p,H,I,rfl,q⟩
def tyV(K:W.Frag)(T:String)(x:V)(H:Hp):Prop:=match x with
 |.str _=>T="str"
 |.int _=>T="int"
 |.ref p=>(T="list"/\∃xs,SqL K H p xs)\/(T="tuple"/\∃o,K.lookup p=some o/\o.cls=.type "tuple"/\o.dict=none)∨
   (T="dict"/\((∃kvs,H p=some (.dK kvs))\/∃kvs,H p=some (.dT kvs)))\/(T="set"/\∃S n,H p=some (.set S n))
 |_=>False
def Hw{f:er}{σ:St}{H:Hp}{s:Shared}{T:String}{x:V}{v:Value}(I:Inv X f σ H s)(r:RelV x v)(ty:tyV X.K T x H) :
  s.TypeIs v T/\∀a,v=.ref a->∃ob,s.heap.get? a=some ob/\ob.dict=none:=by
 cases x with
 |str z =>
  let⟨t,rfl⟩:=r;cases (show T="str" from ty);exact⟨typeIs_str s z t,λ_ e=>nomatch e⟩
 |int i =>
  let⟨t,rfl⟩:=r;cases (show T="int" from ty);exact⟨YK s i t,λ_ e=>nomatch e⟩
 |ref p =>
  cases r;rcases ty with⟨rfl,xs,h⟩|⟨rfl,o,hk,hc,hd⟩|⟨rfl,hk⟩|⟨rfl,S,n,hk⟩
  ·let⟨its,_,pl,_⟩:=I.list h;refine⟨pl.isList.typeIs,λa e=>?_⟩;cases e;let⟨o,n,e,c,hd,_⟩:=pl;exact⟨o,e,hd⟩
  ·refine⟨⟨o,I.kIn p o hk,hc⟩,λa e=>?_⟩;cases e;exact⟨o,I.kIn _ o hk,hd⟩
  ·have z:∃o,s.heap.get? p=some o/\o.ExactDict:=by
    rcases hk with⟨g,hk⟩|⟨g,hk⟩
    ·let⟨_,_,_,_,o,_,_,e,d,_⟩:=I.hok p _ hk;exact⟨o,e,d⟩
    ·let⟨_,_,_,_,o,_,_,e,d,_⟩:=I.hok p _ hk;exact⟨o,e,d⟩
   let⟨o,e,d⟩:=z;refine⟨⟨o,e,d.1⟩,λa e2=>?_⟩;cases e2;exact⟨o,e,d.2.1⟩
  ·let⟨o,_,_,_,e,d,_⟩:=I.hok p _ hk;refine⟨⟨o,e,d.1⟩,λa e2=>?_⟩;cases e2;exact⟨o,e,d.2.1⟩
 |_=>exact False.elim ty
def Uz(K:W.Frag)(T:String)(r:V->List V->Hp->VK->Prop)(c:TE):TE:=λσ H Q=>c σ H λx H1=>tyV K T x H1/\r x [] H1 Q
def tBM(K:W.Frag)(T:String)(r:V->List V->Hp->VK->Prop)(c:TE)(t:TA):TE:=λσ H Q=>c σ H λx H1=>tyV K T x H1/\t σ H1 λxs H2=>r x xs H2 Q
variable{o e:Zt}{es:List Zt}{to:TE}{t:TA}{name:Str}{apos cpos:Pos}{T id:String}{r:V->List V->Hp->VK->Prop}
def Rq(k:PlainAttrs T)(g:Slot T name id)(i:typeOf (.builtin id)=pure (.type "method_descriptor"))(hm:MtR X id r)(j:PE X o to)(d:Yd o name X.env (Zv o X.env)=Zv o X.env:=by rfl)(f:(apos.endLine==cpos.line)=true:=by rfl):PE X (.Call (.Attribute o name apos) [] [] cpos) (Uz X.K T r to):=by
 intro c s σ H Q I h;refine wpAny_Call_method0_late d f (thn (j c s σ H _ I h) λv s1 ⟨x,H1,I1,r1,ty,q1⟩=>?_);let⟨h1,h2⟩:=Hw I1 r1 ty;exact⟨T,id,k,g,i,h1,h2,Calls.callWith_builtin rfl (PySem.evalArgs_none (hm c s1 σ H1 x [] v [] Q I1 r1 .nil q1))⟩
def uJ(n:PlainAttrs T)(j:Slot T name id)(k:typeOf (.builtin id)=pure (.type "method_descriptor"))(hm:MtR X id r)(m:PE X o to)(ha:PA X (e::es) t)(f:Yd o name X.env (Zv o X.env)=Zv o X.env:=by rfl)(i:((Zw cpos (Zu (e::es) X.env)).all (λx=>!x.1)&&(Zy cpos (Zz [] X.env)).all (λx=>x.1.isSome)
  &&decide (⇑(e::es)+⇑([]:List ZA)+(if([]:List ZA).isEmpty then 0 else 1)<30))=true:=by rfl)(g:(apos.endLine==cpos.line)=true:=by rfl)(hs:Zu (e::es) X.env=(false,Zv e X.env)::Zu es X.env:=by rfl)(d:(Zw cpos (Zu es X.env)).any (·.1)=false:=by rfl) :
  PE X (.Call (.Attribute o name apos) (e::es) [] cpos) (tBM X.K T r to t):=by
 intro c s σ H Q I h;refine wpAny_Call_method_late f i g rfl (thn (m c s σ H _ I h) λv s1 ⟨x,H1,I1,r1,ty,q1⟩=>?_);let⟨h1,h2⟩:=Hw I1 r1 ty;refine⟨T,id,n,j,k,h1,h2,?_⟩;have l:=ha cpos c s1 σ H1 _ I1 q1;rw[hs]at l ⊢;refine Calls.callWith_builtin (by show(false || (Zw cpos (Zu es X.env)).any (·.1))=false;rw[d] <;> rfl) (Calls.evalArgs_plain ?_);exact thn l λus s2 ⟨vs,H2,I2,r2,q2⟩=>hm c s2 σ H2 x vs v us Q I2 r1 r2 q2
/- xs.append(e),list.index on a module's tuple .. are MtR facts of 06m -/
end
def MtM(X:Cx)(id:String)(r:V->List V->Hp->VK->Prop):Prop :=
 ∀(pins:er)(s:Shared)(σ:St)(H:Hp)(x:V)(xs:List V)(v:Value)(us:eC)(Q:VK),Inv X pins σ H s->RelV x v->Vals xs us->r x xs H Q ->
  wpAny (model X.prog X.w) X.A (Z4 (.builtin id) (v::us)) (EP X pins σ Q) X.xe s
theorem Vals.one:∀{x:V}{us:eC},Vals [x] us->∃u,us=[u]/\RelV x u
 |_,_,.cons r .nil=>⟨_,rfl,r⟩
theorem Vals.two:∀{x y:V}{us:eC},Vals [x,y] us->∃u v,us=[u,v]/\RelV x u/\RelV y v
 |_,_,_,.cons r (.cons q .nil)=>⟨_,_,rfl,r,q⟩
theorem Vals.zero:∀{us:eC},Vals [] us->us=[]
 |_,.nil=>rfl
def Vals.dropLast{xs:List V}{us:eC}(h:Vals xs us):Vals xs.dropLast us.dropLast:=by
 induction h with
 |nil=>exact .nil
 |cons r t ih =>
  cases t with
  |nil=>exact .nil
  |cons q t'=>exact .cons r ih
theorem Vals.rep{xs:List V}{us:eC}(h:Vals xs us):∀k:Nat,Vals (List.replicate k xs).flatten (List.replicate k us).flatten
 |0=>.nil
 |k+1=>by
  rw[List.replicate_succ,List.replicate_succ,List.flatten_cons,List.flatten_cons];exact Vals.append h (Vals.rep h k)
def Bv{α:Type}(l:List α):l.eraseIdx (⇑l - 1)=l.dropLast:=by
 induction l with
 |nil=>rfl
 |cons a r ih =>
  cases r with
  |nil=>rfl
  |cons b r =>
   have e:⇑(a::b::r) - 1=(⇑(b::r) - 1)+1:=by
    have h1:⇑(a::b::r)=⇑r+2:=rfl;have h2:⇑(b::r)=⇑r+1:=rfl;lia
   rw[e,List.eraseIdx_cons_succ,ih]
   all_goals rfl
theorem foldl_rep(its:eC):∀(k:Nat)(acc:eC),
  List.foldl (λx1 x2=>x1++x2) acc.toArray (List.replicate k its.toArray)=(acc++(List.replicate k its).flatten).toArray
 |0,acc=>by simp
 |k+1,acc=>by
  have e:acc.toArray++its.toArray=(acc++its).toArray:=by simp
  have a:(acc++its)++(List.replicate k its).flatten=acc++(List.replicate (k+1) its).flatten:=by
   rw[List.replicate_succ,List.flatten_cons,List.append_assoc]
  rw[←a,←foldl_rep its k (acc++its),←e,List.replicate_succ,List.foldl_cons]
section
variable{pins:er}{σ:St}{H:Hp}{s:Shared}{l b:Addr}{xs ys zs:List V}
def Inv.J0{its its':eC}{n:Nat}{f:eB->eB}{t':Nat}(I:Inv X pins σ H s)(a:H l=some (.lst xs))(e:s.heap.get? l=some { cls:=.type "list",data:=.seq its.toArray n })(c:f its.toArray=its'.toArray)(hv:Vals ys its')(d:⇑ys<=sizeLine) :
  Inv X pins σ (upd H l (.lst ys)) { s with heap:=s.heap.update l (Obj.mapSeq f),toks:=t' }:=by
 have q:=PySem.IsL.update e f;rw[c]at q;refine I.write (x:=l) (e:=l) (by rw[a];exact trivial) (.inl rfl) (λb' u hb hu=>(Heap.get?_update_other s.heap (Obj.mapSeq f) (Ne.symm hb)).trans hu) ⟨_,q⟩ ?_;exact⟨d,its',_,hv,q⟩
def Inv.Vk{its:eC}{t':Nat}(I:Inv X pins σ H s)(hv:Vals ys its)(a:⇑ys<=sizeLine) :
  Inv X pins σ (upd H ↥s (.lst ys)) { s with heap:=s.heap.push { cls:=.type "list",data:=.seq its.toArray },toks:=t' } :=
 I.laid (λ_ _ q=>Heap.get?_push_of_some _ q) (Nat.le_refl _) ⟨a,its,0,hv,Heap.get?_push_size _ rfl⟩
def Inv.fresh(I:Inv X pins σ H s):H ↥s=none:=I.hok.fresh (Nat.le_refl _)
def Inv.vP(I:Inv X pins σ H s)(a:H l=some (.lst xs)):⇑xs<=sizeLine/\∃(its:eC)(n:Nat),Vals xs its/\⇑xs=⇑its/\s.heap.get? l=some { cls:=.type "list",data:=.seq its.toArray n }:=by
 let⟨z,its,n,r,e⟩:=I.hok l _ a;exact⟨z,its,n,r,⇑r,e⟩
def xX{n:Nat}(h:n<=sizeLine):Builtin.List.listTooLong n=false:=by
 unfold Builtin.List.listTooLong;exact d4 ()
end
section
def kW:V->List V->Hp->VK->Prop:=λx vs H Q=>∃l xs y,x=.ref l/\vs=[y]/\H l=some (.lst xs)/\⇑xs<sizeLine/\Q .non (upd H l (.lst (xs++[y])))
def iV:MtM X "list.append" kW:=by
 intro b s σ H x vs v us Q I f d h;let⟨l,xs,y,rfl,rfl,a,g,q⟩:=h;cases f;let⟨u,rfl,c⟩:=d.one;let⟨z,its,n,r,hl,e⟩:=I.vP a;refine YL F.slot_list_append ⟨_,e,rfl⟩ F.entry_list_append (F.args_list_append_2 _ _) (PySem.list_append l its.toArray n u (by rw[List.size_toArray];lia)) ⟨e,?_⟩;refine⟨.non,_,I.J0 (its':=its++[u]) a e (by simp) (r.append (.cons c .nil)) ?_,rfl,q⟩;rw[List.length_append,List.length_singleton];lia
def MP:V->List V->Hp->VK->Prop:=λx vs H Q=>∃l b xs zs,x=.ref l/\vs=[.ref b]/\H l=some (.lst xs)/\H b=some (.lst zs)/\⇑xs+⇑zs<=sizeLine/\Q .non (upd H l (.lst (xs++zs)))
def T7:MtM X "list.extend" MP:=by
 intro f s σ H x vs v us Q I t p h;let⟨l,b,xs,A,rfl,rfl,d,i,w,q⟩:=h;cases t;let⟨u,rfl,o⟩:=p.one;cases o;let⟨z,its,n,r,hl,e⟩:=I.vP d;let⟨y,a,k,m,j,g⟩:=I.vP i;have hsz:its.toArray.size+a.toArray.size<=sizeLine:=by rw[List.size_toArray,List.size_toArray];lia
 have c:¬(!its.toArray.isEmpty&&Builtin.List.listTooLong (its.toArray.size+a.toArray.size))=true:=by
  rw[xX hsz,Bool.and_false];exact Bool.false_ne_true
 refine YL F.slot_list_extend ⟨_,e,rfl⟩ F.entry_list_extend (F.args_list_extend_2 _ _)
  (AutoSeq1.list_extend_list_list_0 l its.toArray n b a.toArray k c (by rw[List.size_toArray];lia) ()) ⟨e,g,?_⟩
 refine⟨.non,_,I.J0 (its':=its++a) d e (by simp) (r.append m) ?_,rfl,q⟩;rw[List.length_append];lia
def Wx:V->List V->Hp->VK->Prop:=λx vs H Q=>∃l xs y,x=.ref l/\vs=[]/\H l=some (.lst xs)/\xs[⇑xs - 1]?=some y/\Q y (upd H l (.lst xs.dropLast))
def WW:MtM X "list.pop" Wx:=by
 intro d s σ H x vs v us Q I j i h;let⟨l,xs,y,rfl,rfl,c,f,q⟩:=h;cases j;have a:=i.zero;subst a;let⟨z,its,n,r,hl,e⟩:=I.vP c;let⟨u,hu,g⟩:=r.get f;have b:its.toArray[its.toArray.size - 1]?=some u:=by
  show its.toArray[⇑its - 1]?=some u;rw[←Array.getElem?_toList,←hl];exact hu
 refine YL F.slot_list_pop ⟨_,e,rfl⟩ F.entry_list_pop (F.args_list_pop_1 _) (MeetsSeq.list_pop_last l its.toArray n u b (by rw[List.size_toArray];lia)) ⟨e,?_⟩;refine⟨y,_,I.J0 (its':=its.dropLast) c e ?_ r.dropLast ?_,g,q⟩
 ·show its.toArray.eraseIdxIfInBounds (its.toArray.size - 1)=its.dropLast.toArray;rw[List.size_toArray,List.eraseIdxIfInBounds_toArray,Bv]
 ·rw[List.length_dropLast];lia
def Iz:V->List V->Hp->VK->Prop:=λx vs H Q=>∃l xs,x=.ref l/\vs=[]/\H l=some (.lst xs)/\Q .non (upd H l (.lst []))
def JR:MtM X "list.clear" Iz:=by
 intro c s σ H x vs v us Q I f d h;let⟨l,xs,rfl,rfl,b,q⟩:=h;cases f;have a:=d.zero;subst a;let⟨z,its,n,r,hl,e⟩:=I.vP b;refine YL F.slot_list_clear ⟨_,e,rfl⟩ F.entry_list_clear (F.args_list_clear_1 _) (AutoSeq1.list_clear_list_0 l its.toArray n (by rw[List.size_toArray];lia)) ⟨e,?_⟩;exact⟨.non,_,I.J0 (its':=[]) (ys:=[]) b e rfl .nil (Nat.zero_le _),rfl,q⟩
def U7:R2:=λx y H Q=>∃l b xs zs,x=.ref l/\y=.ref b/\H l=some (.lst xs)/\H b=some (.lst zs)/\⇑xs+⇑zs<=sizeLine/\∀p,H p=none->Q (.ref p) (upd H p (.lst (xs++zs)))
def RM:OpR X (Z5 .Add) U7:=by
 intro c s σ H x y v u Q I m o h;let⟨l,b,xs,A,rfl,rfl,i,g,p,q⟩:=h;cases m;cases o;let⟨z,its,n,r,hl,e⟩:=I.vP i;let⟨w,a,t,k,j,d⟩:=I.vP g;refine PySem.P.add_list e d ?_ (by rw[List.size_toArray,List.size_toArray];lia);have f:its.toArray++a.toArray=(its++a).toArray:=by simp
 rw[f];exact⟨.ref _,_,I.Vk (t':=s.toks) (r.append k) (by rw[List.length_append];lia),rfl,q _ I.fresh⟩
def U3:R2:=λx y H Q=>∃l k xs,x=.ref l/\y=.int k/\H l=some (.lst xs)/\-(2 ^ 63)<=k/\k<2 ^ 63/\⇑xs * k.toNat<=sizeLine /\
 ∀p,H p=none->Q (.ref p) (upd H p (.lst (List.replicate k.toNat xs).flatten))
def len_rep{α:Type}(xs:List α)(k:Nat):(List.replicate k xs).flatten.length=k * ⇑xs:=by
 induction k with
 |zero=>simp
 |succ k a=>rw[List.replicate_succ,List.flatten_cons,List.length_append,a,Nat.succ_mul,Nat.add_comm]
def RG:OpR X (Z5 .Mult) U3:=by
 intro j s σ H x y v u Q I w A h;let⟨l,k,xs,rfl,rfl,p,h1,h2,i,q⟩:=h;cases w;let⟨t,rfl⟩:=A;let⟨z,its,n,r,hl,e⟩:=I.vP p;have f:its.toArray.size * k.toNat<=sizeLine:=by rw[List.size_toArray,←hl];exact i
 have c:¬its.toArray.size * k.toNat > (2 ^ 63 - 1) / 8:=by
  have:(sizeLine:Nat)<=(2 ^ 63 - 1) / 8:=∅
  lia
 have d:¬(!Builtin.List.listFitsIndex k)=true:=by
  rw[fitsIndex_both h1 h2];exact Bool.false_ne_true
 have b:¬Builtin.List.listTooLong (its.toArray.size * k.toNat)=true:=by
  rw[xX f];exact Bool.false_ne_true
 have g:List.foldl (λx1 x2=>x1++x2) #[] (List.replicate (if its.toArray.isEmpty=true then 0 else k.toNat) its.toArray)=(List.replicate k.toNat its).flatten.toArray:=by
  have o:∀m:Nat,List.foldl (λx1 x2=>x1++x2) #[] (List.replicate m its.toArray)=(List.replicate m its).flatten.toArray:=λm=>by
   have:=foldl_rep its m [];rw[List.nil_append]at this;exact this
  rw[o];cases its with
  |nil=>simp
  |cons a B=>rw[ee (by simp)]
 refine wpAny_binaryOp_repeat_ref (T:="list") (U:="int") ∅ ⟨_,e,rfl⟩ (λs'=>YK s' k t) noFill_list_mul F.fills_int_mul F.slot_int_rmul repeat_list F.slot_int_index.lookup
  (YL F.slot_int_rmul (YK s k t) F.entry_int_rmul (F.args_int_rmul_2 _ _) (int___rmul___int_list k t l its.toArray n)
   ⟨e,rfl,⟨_,e,rfl⟩,YL F.slot_list_mul ⟨_,e,rfl⟩ F.entry_list_mul (F.args_list_mul_2 _ _) (AutoListH.list___mul___list_int_3 l its.toArray n k t d c b) ⟨e,?_⟩⟩)
 rw[g];exact⟨.ref _,_,I.Vk (t':=s.toks) (r.rep k.toNat) (by rw[len_rep,Nat.mul_comm];exact i),rfl,q _ I.fresh⟩
section
variable{prog:Za}{w:Zb}{A:Zr}{E:em}{s:Shared}
end
end
end L2
namespace Att
open PySem.W PySem.Calls
def qu{P:Zd}{h:Heap}:∀(ns:ew)(vs:eC),WellAll P h vs (ns.map WData.int)->IntsAre vs ns:=by
 intro ns;induction ns with
 |nil =>
  intro vs w;rw[List.map_nil]at w;cases w;exact .nil
 |cons n ns ih =>
  intro vs w;rw[List.map_cons]at w;cases w with
  |cons a b =>
   cases a;exact .cons _ _ (ih _ b)
def Fl{l:OpenLaw}{n:Nat}(hn:l.most=some n){P:Zd}{h:Heap}{b:List WData}{e:eC}(c:l.row.toRowW.claim.pre b=true)(m:WellAll P h e b) :
  ∃a vs ns,e=[Value.ref a]/\b=[WData.list (ns.map WData.int)]/\h.get? a=some { cls:=.type "list",data:=.seq vs.toArray }/\IntsAre vs ns/\⇑ns<=n:=by
 have k:WShape.hasAll [] b [.list .int]=true:=(pre_splitW c).1;have hc:l.pre.holds [] { args:=b }=true:=(pre_splitW c).2;let⟨d,r,rfl,h1,h2⟩:=hasAllW_cons k;obtain rfl:=hasAllW_nil h2;let⟨xs,rfl,o⟩:=hasW_list h1;let⟨ns,rfl⟩:=items_int o;have g:⇑ns<=n:=by
  unfold OpenLaw.pre at hc;have i:(WTm.not (.lt (.lit (.int (n:Int))) (.len (.arg 0)))).holds [] { args:=[.list (ns.map .int)]}=true:=by
   have i:=(holds_andW hc).1;rw[hn]at i;exact i
  have j:=condW_of i (w_not (w_lt w_lit (w_len_list (w_arg rfl))));rw[List.length_map]at j;refine Nat.le_of_not_lt λq=>?_;have s:(n:Int)<(⇑ns:Int):=()
  first
   |(rw[fy s]at j;exact ef j ∅)
   |(simp at j;lia)
 cases m with
 |cons w1 w2 =>
  cases w2;cases w1 with
  |list p f=>exact⟨_,_,ns,rfl,rfl,p,qu ns _ f,g⟩
def Fp(l:OpenLaw)(a:List WData):l.row.toRowW.claim.post a (.bool true) a=true :=
 postW_of (r:=l.row.toRowW) (X:=(true==true))
  (show WShape.has [] (.bool true) .bool=true by first|rfl|decide|simp[WShape.has,WShape.arms,WShape.armsAll])
  (show(WTm.eq .res (.lit (.bool true))).value [] { args:=a,res:=some (.bool true),after:=a }=some (.bool (true==true))from w_eq_bool (w_res rfl) w_lit) rfl
def zu{l:OpenLaw}{n:Nat}{q:Za}{loose:List Str}{XP:(Str->eH)->Heap->Prop}{YP:Zb->Heap->Prop}{d:DefRec}(hn:l.most=some n)(s:d.params.defaults=[])(h:∀(w:Zb)(c b:Shared)(mg v:Str->eH)(i:Addr)(o:Obj)(x p e:Value)(a:Addr)(vs:eC)(ns:ew),
   Ground q loose [] XP w c mg v b.heap->YP w b.heap ->
   b.heap.get? i=some o->o.data=.func (docDef d.name d.params d.body d.scope x p e)->b.heap.CodeRec p d.name->mg d.name=some (.ref i) ->
   b.heap.get? a=some { cls:=.type "list",data:=.seq vs.toArray }->IntsAre vs ns->⇑ns<=n->b.gens=#[] ->
   Yc (model l.prog w) callerA (.call (.ref i) ⟨[.ref a],[]⟩) (λr s'=>r=.ok (.ret (.bool true))/\OldK b.heap s'.heap/\s'.os=b.os/\ZB s'.gens) b) :
  WalkO q loose XP YP l.row.toRowW d [] (λf vs=>PySem.call f vs):=by
 intro w c b mg v G Y i o x p e C kV H hd hcd z t hg y B J m A I u F;obtain rfl:C=.none:=Dflts.none z s;obtain rfl:kV=.none:=Dflts.noKw z;let⟨a,vs,ns,rfl,rfl,k,g,j⟩:=Fl hn m u;refine enter_call (Yl (h w c b mg v i o x p e a vs ns G Y H (fd_plain hd) hcd t k g j hg) λr s' hq=>?_);let⟨rfl,h2,D,E⟩:=hq;exact⟨.inl ⟨.bool true,.bool true,[],rfl,λ_=>rfl,.bool true,Fp l _,λ_=>⟨List.Pairwise.nil,λ_ hm=>(nomatch hm)⟩⟩,h2,D,E⟩
section
variable{prog:Za}{w:Zb}{A:Zr}{E:em}{s:Shared}{K:Frag}
def ledger(h:Heap)(L d:Addr):er:=(List.range h.objs.size).filterMap λa=>if a=L\/a=d then none else(h.get? a).map λo=>(a,o)
end
end Att
namespace L2
open PySem.Spec
variable{X:Cx}
theorem kI:∀{vs:eC}{ns:ew},IntsAre vs ns->Vals (ns.map V.int) vs
 |_,_,.nil=>.nil
 |_,_,.cons n t h=>.cons ⟨t,rfl⟩ (kI h)
def inClass(s:ZF)(j:Nat):ZF:=match s with
 |.ClassDef _ _ _ a _ _ _ _ _ _ _=>a.getD j (.Pass ⟨0,0,0,0⟩)
 |_=>.Pass ⟨0,0,0,0⟩
def dI(s:ZF):Yp:=match s with
 |.FunctionDef _ a _ _ _ _ _ _ _ _=>a
 |_=>{ posonlyargs:=[],args:=[],vararg:=none,kwonlyargs:=[],kw_defaults:=[],kwarg:=none,defaults:=[]}
def bW(s:ZF):List ZF:=match s with
 |.FunctionDef _ _ b _ _ _ _ _ _ _=>b
 |_=>[]
def aG(s:ZF):Zs:=match s with
 |.FunctionDef _ _ _ _ _ _ a _ _ _=>a
 |_=>{ kind:=.function,names:=[],isGenerator:=false,isCoroutine:=false }
abbrev CX0:CXT:=λ_ _ _ _ _ _=>False
abbrev E0:XK:=λ_ _ _=>False
def xM{X:Cx}:Passes CX0 X E0:=λ_ _ _ _ _ _ _ h=>h.elim
structure Fun(K:W.Frag)(x qual:Str)(st:ZF)(f:Addr)(fd:Yi):Prop where
 ex:∃(oc:Value)(od:eD)(kV doc pm:Value)(an:eD)(cdv ct:Value)(osl:Array eH),
  fd=W.fnOf x qual (dI st) (bW st) (aG st) .none kV doc pm an cdv ct/\K.lookup f=some ⟨oc,od,.func fd,osl⟩/\W.codeIn K cdv qual=true
 kp:W.keepIn K (.ref f)=true
section
variable{P:Za}{w:Zb}{K:W.Frag}{mg:Str->eH}{fw:Heap}
def Fun.ok{x qual:Str}{st:ZF}{f:Addr}{e:Yi}{N ps:List Str}{k:Nat}{sp:Sp}(F:Fun K x qual st f e)(S:FnScope N ps (aG st))(d:∀vs H Q E,sp vs H Q E->⇑vs=⇑ps)(c:∀(b:Value)(A:Zr)(a:List Env)(s:Shared)(H:Hp)(vs:List V)(Q:VK)(E:XK),Room k (A.deeper (Yo qual (aG st) ↥s f b))->sp vs H Q E ->
   ∃t,PSs (yQ CX0 P w K mg fw N qual (aG st) f b A a s H E).nox (bW st) t/\t { nx:=λ_ H'=>Q .non H',rt:=Q } (start N vs) H):FnOk P w K mg fw CX0 (k+1) f e ps sp:=by
 let⟨n,o,kV,g,p,l,b,m,j,rfl,i,hcd⟩:=F.ex;refine Qm i hcd S d λA a s H vs Q E hr hsp=>?_;let⟨t,h,q⟩:=c b A a s H vs Q E hr hsp;exact⟨t,h.nox,q⟩
def Fun.binds{x qual:Str}{st:ZF}{f:Addr}{g:Yi}{ps:List Str}(F:Fun K x qual st f g)(h:∀(kV b e:Value)(c:eD)(a d:Value)(us:eC),⇑us=⇑ps->bindArgs (W.fnOf x qual (dI st) (bW st) (aG st) .none kV b e c a d) ⟨us,[]⟩=pure (ps.zip us):=by intro _ _ _ _ _ _ us hl;first|(let⟨_,rfl⟩:=Nf.len1 us hl;rfl)|(let⟨_,_,rfl⟩:=Nf.len2 us hl;rfl)|(let⟨_,_,_,rfl⟩:=Nf.W0 us hl;rfl)):Binds K g ps []:=by
 let⟨k,l,kV,b,e,c,a,d,i,rfl,j,hcd⟩:=F.ex;exact .all (h kV b e c a d)
def aQ{x qual:Str}{st:ZF}{f:Addr}{i:Value}{j e:eD}{d:Array eH}{kV b h a g:Value}(l:K.lookup f=some ⟨i,j,.func (W.fnOf x qual (dI st) (bW st) (aG st) .none kV b h e a g),d⟩)(c:W.codeIn K a qual=true)(k:W.keepIn K (.ref f)=true):Fun K x qual st f (W.fnOf x qual (dI st) (bW st) (aG st) .none kV b h e a g):=⟨⟨i,j,kV,b,h,e,a,g,d,rfl,l,c⟩,k⟩
end
section
def pv(i:Nat){x:Str}{pos:Pos}(hN:X.N[i]?=some x:=by rfl)(hv:Vis X.env.scope x:=by first|exact Or.inl rfl|exact Or.inr (Or.inl rfl)|exact Or.inr (Or.inr rfl))(hd:(x==("__debug__":Str))=false:=by decide)(hcd:(x==("__classdict__":Str))=false:=by decide):PE X (.Name x pos) (jw i):=Ri hN hv hd hcd
end
def bw{A B:Prop}(h:B):if false=true then A else B:=by
 rw[ee Bool.false_ne_true];exact h
def bF{A B:Prop}(h:A):if true=true then A else B:=by
 rw[ed rfl];exact h
def uq{c A B:Prop}[Decidable c](h1:c->A)(h2:¬c->B):if c then A else B:=by
 by_cases h:c
 ·rw[ed h];exact h1 h
 ·rw[ee h];exact h2 h
def Same(H H':Hp):Prop:=∀b o,H b=some o->H' b=some o
def Same.refl(H:Hp):Same H H:=λ_ _ h=>h
structure CB where
 cl:List (Str×Addr)
 C:Addr
 s:Shared
 H:Hp
 ex:List Addr
abbrev Cx.bB(X:Cx)(own M:List Str)(scope:Zs)(c:CB):Cx where
 prog:=X.prog
 w:=X.w
 K:=X.K
 mg:=X.mg
 fw:=X.fw
 A:=X.A
 N:=own++M
 s₀:=c.s
 H₀:=c.H
 env:=compEnvC scope c.cl c.C X.env
 outer:=X.stack
 stack:=X.stack
 ex:=c.ex
 fn:=λx=>scope.names.lookup x==some .cell
 calm:=X.calm
 pn:=[]
 sf:=X.sf
 xe:=λ_ _=>False
abbrev Cx.comp(X:Cx)(own:List Str)(scope:Zs)(c:CB):Cx:=X.bB own X.N scope c
def eG(cells:List (Str×Addr)):List (Str×NameKind)->List (Str×Addr)->List (Str×Addr)
 |[],acc=>acc
 |(n,k)::r,acc=>if k==.free then eG cells r ((n,(cells.lookup n).getD 0)::acc)else eG cells r acc
theorem jq{env:Env}:∀(names:List (Str×NameKind))(acc:List (Str×Addr)),(∀x∈names,x.2=.free->∃c,env.cells.lookup x.1=some c) ->
  (forIn names acc λ(p:Str×NameKind) (r:List (Str×Addr))=>match p with
   |(name,kind)=>if(kind==NameKind.free)=true then do let a ←YM env name;pure (ForInStep.yield ((name,a)::r))else pure (ForInStep.yield r):Sem (List (Str×Addr)))=pure (eG env.cells names acc)
 |[],acc,_=>by simp[eG]
 |(n,k)::r,acc,h=>by
  rw[List.forIn_cons];by_cases hk:(k==NameKind.free)=true
  ·let⟨c,hc⟩:=h (n,k) List.mem_cons_self ↑hk;have e:YM env n=pure c:=by unfold YM;rw[hc]
   have b:=jq (env:=env) r ((n,c)::acc) λx hx=>h x (List.mem_cons_of_mem _ hx);show((if(k==NameKind.free)=true then do let a ←YM env n;pure (ForInStep.yield ((n,a)::acc))else pure (ForInStep.yield acc)) >>=_:Sem _)=_;rw[ed hk,e];unfold eG;rw[ed hk,hc];exact b
  ·have b:=jq (env:=env) r acc λx hx=>h x (List.mem_cons_of_mem _ hx);show((if(k==NameKind.free)=true then do let a ←YM env n;pure (ForInStep.yield ((n,a)::acc))else pure (ForInStep.yield acc)) >>=_:Sem _)=_;rw[ee hk];unfold eG;rw[ee hk];exact b
def BW{b:Zs}{env:Env}(h:∀x∈b.names,x.2=.free->∃c,env.cells.lookup x.1=some c):YN b env=pure (eG env.cells b.names []):=by
 have e:=jq (env:=env) b.names [] h;unfold YN;show(forIn b.names [] _ >>=λcs=>pure cs:Sem _)=_;have d:(forIn b.names ([]:List (Str×Addr)) λ(p:Str×NameKind) (r:List (Str×Addr))=>match p with
   |(name,kind)=>if(kind==NameKind.free)=true then do let a ←YM env name;pure (ForInStep.yield ((name,a)::r))else pure (ForInStep.yield r):Sem (List (Str×Addr)))=pure (eG env.cells b.names []):=e
 rw[d];rfl
theorem oU{cells:List (Str×Addr)}{x:Str}{c:Addr}:∀{names:List (Str×NameKind)}{acc:List (Str×Addr)},(eG cells names acc).lookup x=some c->acc.lookup x=some c\/((x,NameKind.free)∈names/\c=(cells.lookup x).getD 0)
 |[],acc,h=>.inl h
 |(n,k)::r,acc,h=>by
  unfold eG at h;by_cases hk:(k==NameKind.free)=true
  ·rw[ed hk]at h;have a:k=.free:=↑hk
   rcases oU h with q|⟨d,f⟩
   ·rw[List.lookup_cons]at q;cases b:x==n with
    |true =>
     rw[b]at q;have e:x=n:=↑b
     subst e a;exact .inr ⟨List.mem_cons_self,(Option.some.inj q).symm⟩
    |false=>rw[b]at q;exact .inl q
   ·exact .inr ⟨List.mem_cons_of_mem _ d,f⟩
  ·rw[ee hk]at h;rcases oU h with q|⟨d,f⟩
   ·exact .inl q
   ·exact .inr ⟨List.mem_cons_of_mem _ d,f⟩
theorem tH{cells:List (Str×Addr)}{x:Str}:∀{names:List (Str×NameKind)}{acc:List (Str×Addr)},(acc.lookup x).isSome=true->((eG cells names acc).lookup x).isSome=true
 |[],_,h=>h
 |(n,k)::r,acc,h=>by
  unfold eG;split
  ·refine tH ?_;rw[List.lookup_cons];cases a:x==n <;> simp[h]
  ·exact tH h
theorem j6{cells:List (Str×Addr)}{x:Str}:∀{names:List (Str×NameKind)}{acc:List (Str×Addr)},(x,NameKind.free)∈names->((eG cells names acc).lookup x).isSome=true
 |(n,k)::r,acc,h=>by
  unfold eG;rcases List.mem_cons.mp h with e|h
  ·cases e;rw[ed (by rfl)];exact tH (by simp[List.lookup_cons])
  ·split
   ·exact j6 h
   ·exact j6 h
def gY(env:Env)(a:Zs)(N:List Str):Bool :=
 (a.kind==.function)&&a.names.all λy=>match y.2 with
  |.local=>!(N.contains y.1)&&(a.names.lookup y.1==some .local)
  |.cell=>!(N.contains y.1)&&(a.names.lookup y.1==some .cell)
  |.free=>(a.names.lookup y.1==some .free)&&(env.kindOf y.1==some .cell || env.kindOf y.1==some .free)
  |_=>true
theorem d9{env:Env}:∀{names:List (Str×NameKind)}{x:Str}{q:NameKind},(names.map λ(n,k)=>if(k==NameKind.free&&env.scope.kind==.function&&env.kindOf n==some .cell)then(n,NameKind.cell)else(n,k)).lookup x=some q ->
  ∃k,(x,k)∈names/\names.lookup x=some k/\(q=k\/(q=.cell/\k=.free))
 |[],_,_,h=>by simp at h
 |(n,k)::r,x,q,h=>by
  have d:=@d9 env r x q;have h':List.lookup x ((if(k==NameKind.free&&env.scope.kind==.function&&env.kindOf n==some .cell)=true then(n,NameKind.cell)else(n,k))::(r.map λ(n,k)=>if(k==NameKind.free&&env.scope.kind==.function&&env.kindOf n==some .cell)then(n,NameKind.cell)else(n,k)))=some q:=h;by_cases hc:(k==NameKind.free&&env.scope.kind==.function&&env.kindOf n==some .cell)=true
  ·rw[ed hc,List.lookup_cons]at h';cases a:x==n with
   |true =>
    rw[a]at h';have e:x=n:=↑a
    subst e;have hk:k=.free:=by simp at hc;exact hc.1.1
    exact⟨k,List.mem_cons_self,by simp[List.lookup_cons],.inr ⟨(Option.some.inj h').symm,hk⟩⟩
   |false =>
    rw[a]at h';let⟨c,h1,h2,b⟩:=d h';exact⟨c,List.mem_cons_of_mem _ h1,by rw[List.lookup_cons,a];exact h2,b⟩
  ·rw[ee hc,List.lookup_cons]at h';cases a:x==n with
   |true =>
    rw[a]at h';have e:x=n:=↑a
    subst e;exact⟨k,List.mem_cons_self,by simp[List.lookup_cons],.inl (Option.some.inj h').symm⟩
   |false =>
    rw[a]at h';let⟨c,h1,h2,b⟩:=d h';exact⟨c,List.mem_cons_of_mem _ h1,by rw[List.lookup_cons,a];exact h2,b⟩
def HOk.track{P:Za}{w:Zb}{H:Hp}{h:Heap}{a:Addr}{o:HO}(x:HOk P w H h)(hn:H a=none)(new:bR P w (upd H a o) h a o):HOk P w (upd H a o) h:=λb u e=>by
 by_cases hb:b=a
 ·subst hb;rw[aB]at e;cases e;exact new
 ·rw[ao hb]at e;exact(x b u e).stay (λc v _ q=>q) (λc q=>by rw[ao (aA q hn)];exact q) λc xs q=>by rw[ao (aA q hn)];exact q
def GQ{prog:Za}{w:Zb}{A:Zr}{s:Shared}{e a d:Zt}{f:List Zt}{b:Zs}{pos:Pos}{it acc:Value}{env:Env}{R:Result->Shared->Prop}(I:Nat->Shared->Prop)(g:∀n s,I n s->wpAny (model prog w) A (ZY it) (λr s₁=>match r with
   |none=>R (.ok .next) s₁
   |some v=>wpAny (model prog w) A (ZZ a it v) (λ_ s₀=>wpAny (model prog w) A (ZR a env v) (λ_ s₂ =>
     wpAny (model prog w) A (forIn f true λc r=>if r=true then do let ok ←ZE c env (Zv c env);pure (ForInStep.yield ok)else pure (ForInStep.yield r)) (λok s₃ =>
      if ok=true then wpAny (model prog w) A (Zv e env) (λx s₄ =>
       wpAny (model prog w) A (Z4 (.builtin "list.append") [acc,x]) (λ_ s₅=>∃m,m<n/\I m s₅) (λ_ _=>False) s₄) (λ_ _=>False) s₃
      else ∃m,m<n/\I m s₃) (λ_ _=>False) s₂) (λ_ _=>False) s₀) (λ_ _=>False) s₁) (λ_ _=>False) s)(n:Nat)(h:I n s):Yc (model prog w) A (.compLoop (.ListComp e [⟨a,d,f,0⟩] b pos) 0 it acc env) R s:=by
 refine codeAny_loop rfl I (λn s hI=>?_) n h;show wpAny _ A ((compTurn (.ListComp e [⟨a,d,f,0⟩] b pos) 0 it acc env).onRaise (λx=>do noteFrame x env;theTreesLotGoes x)) _ _ s;refine wpAny_noted ?_;rw[compTurn_list];refine wpAny_bind (YO (wpAny_bind (ZG (g n s hI) (λr s₁ h₁=>?_) λ_ _ h'=>h'.elim)));cases r with
 |none=>exact Z0 h₁
 |some v =>
  refine wpAny_bind (ZG h₁ (λ_ s₀ h₀'=>?_) λ_ _ h'=>h'.elim);refine wpAny_bind (ZG h₀' (λ_ s₂ h₂=>wpAny_bind (ZG h₂ (λok s₃ h₃=>?_) λ_ _ h'=>h'.elim)) λ_ _ h'=>h'.elim);cases ok with
  |false=>exact Z0 ⟨rfl,h₃⟩
  |true =>
   exact wpAny_bind (wpAny_bind (ZG h₃ (λx s₄ h₄=>wpAny_bind (ZG h₄ (λ_ s₅ h₅=>Z0 (Z0 ⟨rfl,h₅⟩)) λ_ _ h'=>h'.elim)) λ_ _ h'=>h'.elim))
def PTs(X:Cx)(a:List Zt)(t:TT):Prop :=
 ∀(pins:er)(s:Shared)(σ:St)(H:Hp)(Q:Bool->Hp->Prop),Inv X pins σ H s->t σ H Q ->
  wpAny (model X.prog X.w) X.A (forIn a true λc r=>if r=true then do let ok ←ZE c X.env (Zv c X.env);pure (ForInStep.yield ok)else pure (ForInStep.yield r)) (TP X pins σ Q) X.xe s
def M6{X:Cx}:PTs X [] (λ_ H Q=>Q true H):=λ_ _ _ H _ I h=>wpAny_tests_nil ⟨H,I,h⟩
def M5{X:Cx}{c:Zt}{t:TT}(hc:PT X c t):PTs X [c] t:=λpins s σ H Q I h=>wpAny_tests_one (hc pins s σ H Q I h)
def Wh(J:It)(n:Nat)(g:CB->TG)(d:CB->TT)(a:CB->TE)(σ:St)(Q:VK)(H:Hp):Prop:=∃W:Nat->Nat->List V->Hp->Prop,(∃m,W 0 m [] H)/\∀(c:CB) i m ys H,W i m ys H ->
 (J.stop i H/\∀p,H p=none->Q (.ref p) (upd H p (.lst ys)))∨
 (J.go i H/\⇑ys<sizeLine/\∃N:List V->Hp->Prop,(∀ys' H',N ys' H'->∃m',m'<m/\W (i+1) m' ys' H')/\∀x H',J.yld i H x H'->g c x (List.replicate n none++σ) H' λσ2 H2=>d c σ2 H2 λb H3 =>
  if b=true then a c σ2 H3 λv H4=>N (ys++[v]) H4 else N ys H3)
def tLC(n:Nat)(c:TI)(g:CB->TG)(b:CB->TT)(a:CB->TE):TE:=λσ H Q=>c σ H λJ H1=>Wh J n g b a σ Q H1
section
variable{own:List Str}{scope:Zs}{tg iter elt:Zt}{ifs:List Zt}{pos:Pos}{wi:TI}{g:CB->TG}{tt:CB->TT}{te:CB->TE}
def bH(env:Env)(scope:Zs)(N M:List Str):Bool :=
 gY env scope M&&((⇑N==⇑M)&&(N.zip M).all λy=>y.1==y.2 || ((y.2==("":Str))&&scope.names.all λz=>!(z.1==("":Str))))
def yS{env:Env}{N:List Str}(h:gY env scope N=true):bH env scope N N=true:=by
 unfold bH;rw[h,Bool.true_and,ei,Bool.true_and,List.all_eq_true];rintro⟨a,b⟩ c;let⟨i,hi,e⟩:=List.mem_iff_getElem.mp c;rw[List.getElem_zip]at e;cases e;simp
variable{M:List Str}
def gD(h:bH X.env scope X.N M=true):scope.kind=.function:=by
 unfold bH gY at h;simp only[Bool.and_eq_true,beq_iff_eq]at h;exact h.1.1
def cT(h:bH X.env scope X.N M=true):∀y∈scope.names,(y.2=.local->y.1∉M/\scope.names.lookup y.1=some .local)/\(y.2=.cell->y.1∉M/\scope.names.lookup y.1=some .cell)/\(y.2=.free->scope.names.lookup y.1=some .free/\(X.env.kindOf y.1=some .cell\/X.env.kindOf y.1=some .free)):=by
 unfold bH at h;rw[Bool.and_eq_true]at h;have h:=h.1;unfold gY at h;rw[Bool.and_eq_true,List.all_eq_true]at h;intro y a;have q:=h.2 y a;let⟨n,k⟩:=y;cases k with
 |«local»=>simp at q ⊢;exact q
 |cell=>simp at q ⊢;exact q
 |free=>simp at q ⊢;exact q
 |globalExplicit=>simp
 |globalImplicit=>simp
theorem bZ:∀(names:List (Str×NameKind))(n:Nat)(acc:List (Str×Addr)),cellsFrom n names acc=cellsFrom n names []++acc
 |[],_,_=>rfl
 |(nm,k)::r,n,acc=>by
  show(if(k==NameKind.cell)=true then cellsFrom (n+1) r ((nm,n)::acc)else cellsFrom n r acc)=(if(k==NameKind.cell)=true then cellsFrom (n+1) r [(nm,n)]else cellsFrom n r [])++acc;split
  ·rw[bZ r (n+1) ((nm,n)::acc),bZ r (n+1) [(nm,n)],List.append_assoc];rfl
  ·exact bZ r n acc
theorem gJ:∀(names:List (Str×NameKind))(n:Nat)(x:Str)(c:Addr),(x,c)∈cellsFrom n names []->(x,NameKind.cell)∈names/\n<=c
 |[],_,_,_,h=>nomatch h
 |(nm,k)::r,n,x,c,h=>by
  have h:(x,c)∈(if(k==NameKind.cell)=true then cellsFrom (n+1) r [(nm,n)]else cellsFrom n r []):=h;split at h
  ·rename_i hk;rw[bZ]at h;rcases List.mem_append.mp h with z|z
   ·let⟨h1,h2⟩:=gJ r (n+1) x c z;exact⟨List.mem_cons_of_mem _ h1,()⟩
   ·have z:(x,c)=(nm,n):=↑z
    cases z;have hk:k=.cell:=↑hk
    subst hk;exact⟨List.mem_cons_self,Nat.le_refl _⟩
  ·let⟨h1,h2⟩:=gJ r n x c h;exact⟨List.mem_cons_of_mem _ h1,h2⟩
theorem pR:∀(names:List (Str×NameKind))(n:Nat)(x y:Str)(c:Addr),(x,c)∈cellsFrom n names []->(y,c)∈cellsFrom n names []->x=y
 |[],_,_,_,_,h,_=>nomatch h
 |(nm,k)::r,n,x,y,c,h,h'=>by
  have h:(x,c)∈(if(k==NameKind.cell)=true then cellsFrom (n+1) r [(nm,n)]else cellsFrom n r []):=h;have h':(y,c)∈(if(k==NameKind.cell)=true then cellsFrom (n+1) r [(nm,n)]else cellsFrom n r []):=h';by_cases hk:(k==NameKind.cell)=true
  ·rw[ed hk,bZ]at h h';rcases List.mem_append.mp h with z|z <;> rcases List.mem_append.mp h' with a|a
   ·exact pR r (n+1) x y c z a
   ·have:=(gJ r (n+1) x c z).2;have a:(y,c)=(nm,n):=↑a
    cases a;exact ef this (Nat.not_succ_le_self _)
   ·have:=(gJ r (n+1) y c a).2;have z:(x,c)=(nm,n):=↑z
    cases z;exact ef this (Nat.not_succ_le_self _)
   ·have z:(x,c)=(nm,n):=↑z
    have a:(y,c)=(nm,n):=↑a
    cases z;cases a;rfl
  ·rw[ee hk]at h h';exact pR r n x y c h h'
theorem kY:∀(names:List (Str×NameKind))(h:Heap)(b:Addr)(o:Obj),h.get? b=some o->(YQ h names).get? b=some o
 |[],_,_,_,e=>e
 |(nm,k)::r,h,b,o,e=>by
  show(if(k==NameKind.cell)=true then YQ (h.push { cls:=Value.type "cell",data:=Data.cell none }) r else YQ h r).get? b=some o;split
  ·exact kY r _ b o (Heap.get?_push_of_some _ e)
  ·exact kY r h b o e
theorem pB:∀(names:List (Str×NameKind))(h:Heap)(x:Str)(c:Addr),(x,c)∈cellsFrom h.objs.size names []->(YQ h names).IsCell c none
 |[],_,_,_,e=>nomatch e
 |(nm,k)::r,h,x,c,e=>by
  have e:(x,c)∈(if(k==NameKind.cell)=true then cellsFrom (h.objs.size+1) r [(nm,h.objs.size)]else cellsFrom h.objs.size r []):=e;show(if(k==NameKind.cell)=true then YQ (h.push { cls:=Value.type "cell",data:=Data.cell none }) r else YQ h r).IsCell c none;by_cases hk:(k==NameKind.cell)=true
  ·rw[ed hk,bZ]at e;rw[ed hk];rcases List.mem_append.mp e with z|z
   ·exact pB r _ x c (by rw[Heap.size_push];exact z)
   ·have z:(x,c)=(nm,h.objs.size):=↑z
    cases z;exact⟨_,kY r _ _ _ (Heap.get?_push_size _ rfl),rfl⟩
  ·rw[ee hk]at e ⊢;exact pB r h x c e
def Av{M:ZD}{A:Zr}{E:em}{s:Shared}{scope:Zs}{d:Addr}{c:List (Str×Addr)}{qual:Str}{f:eD}{e:Value}{b:Option Env}{a:Addr}{Q:Env->Shared->Prop}(h:Q (newEnv scope ↥s d (cellsFrom (↥s+1) scope.names c) qual f e b a) { s with heap:=YQ (s.heap.push { cls:=Value.type (if b.isSome=true then "dict" else "frame"),data:=Data.dict #[]}) scope.names }) :
  wpAny M A (YR scope d c [] qual f e b a) Q E s:=by
 unfold YR;refine wpAny_bind (wpAny_alloc ?_);refine wpAny_bind (wpAny_layCells _ (λ_ _ _=>rfl) _ _ _ _ ?_);rw[Heap.size_push];exact wpAny_bind (Z0 (Z0 h))
def TJ{n:Nat}{names:List (Str×NameKind)}{cl:List (Str×Addr)}{x:Str}{c:Addr}(h:(cellsFrom n names cl).lookup x=some c):(x,c)∈cellsFrom n names []\/cl.lookup x=some c:=by
 rw[bZ,List.lookup_append]at h;cases e:(cellsFrom n names []).lookup x with
 |none=>rw[e]at h;exact .inr h
 |some d =>
  rw[e]at h;cases h;exact .inl (PySem.mem_of_lookup e)
def Lw{n:Nat}{names:List (Str×NameKind)}{cl:List (Str×Addr)}{x:Str}(h:∀c,(x,c)∈cellsFrom n names []->False):(cellsFrom n names cl).lookup x=cl.lookup x:=by
 rw[bZ,List.lookup_append];cases e:(cellsFrom n names []).lookup x with
 |none=>rfl
 |some d=>exact(h d (PySem.mem_of_lookup e)).elim
def yG(h:bH X.env scope X.N M=true){n:Nat}{x:Str}(a:(x,NameKind.free)∈scope.names):∀c,(x,c)∈cellsFrom n scope.names []->False:=λc z=>by
 have h1:=((cT h _ a).2.2 rfl).1;have h2:=((cT h _ (gJ _ _ _ _ z).1).2.1 rfl).2;rw[h1]at h2;cases h2
def j5(h:bH X.env scope X.N M=true):⇑X.N=⇑M:=by
 unfold bH at h;rw[Bool.and_eq_true,Bool.and_eq_true]at h;exact el h.2.1
def uV{i:Nat}{x:Str}{k:NameKind}(h:bH X.env scope X.N M=true)(c:M[i]?=some x)(_:x∈M)(hn:(x,k)∈scope.names):X.N[i]?=some x:=by
 have hl:=j5 h;unfold bH at h;rw[Bool.and_eq_true,Bool.and_eq_true,List.all_eq_true]at h;have hi:i<⇑M:=(List.getElem?_eq_some_iff.mp c).1;have a:M[i]=x:=(List.getElem?_eq_some_iff.mp c).2;have b:i<⇑X.N:=()
 have q:=h.2.2 (X.N[i],M[i]) (by
  refine List.mem_iff_getElem.mpr ⟨i,by rw[List.length_zip];lia,?_⟩;rw[List.getElem_zip])
 rw[Bool.or_eq_true]at q;rcases q with q|q
 ·have q:X.N[i]=M[i]:=el q;rw[List.getElem?_eq_getElem b,q,a]
 ·rw[Bool.and_eq_true,List.all_eq_true]at q;have e:M[i]=("":Str):=el q.1;have z:=q.2 (x,k) hn;rw[←a,e]at z;simp at z
def BR{w:er}{σ:St}{H:Hp}{s:Shared}{G:List Addr}{h₁:Heap}{tk:Nat}(hk:bH X.env scope X.N M=true)(I:Inv X w σ H s)(R:∀b∈G,lX X w H b)(L:∀b∈G,∃o,s.heap.get? b=some o)(Y:h₁.Ns (↥s+1) λ_=>none)(r:∀b o,s.heap.get? b=some o->h₁.get? b=some o)(hD:h₁.get? ↥s=some { cls:=.type "list",data:=.seq #[] 0 })(V:∀x c,(x,c)∈cellsFrom (↥s+2) scope.names []->h₁.IsCell c none) :
  Inv (X.bB own M scope ⟨cellsFrom (↥s+2) scope.names (eG X.env.cells scope.names []),↥s+1,s,H,G⟩) [(↥s,{ cls:=.type "list",data:=.seq #[] 0 })] (List.replicate ⇑own none++σ) H { s with heap:=h₁,toks:=tk }:=by
 have U:=gD hk;have a:=cT hk;have O:∀x,(x,NameKind.free)∈scope.names->∃c,X.env.cells.lookup x=some c:=λx n=>I.ok.has x ((a _ n).2.2 rfl).2;have K:∀x c,(eG X.env.cells scope.names []).lookup x=some c->X.env.cells.lookup x=some c/\(x,NameKind.free)∈scope.names:=λx c e=>by
  rcases oU e with q|⟨E,S⟩
  ·simp at q
  ·let⟨c',F⟩:=O x E;rw[F]at S;exact⟨by rw[F,S];rfl,E⟩
 have d:∀x c,(cellsFrom (↥s+2) scope.names (eG X.env.cells scope.names [])).lookup x=some c->(X.env.cells.lookup x=some c/\(x,NameKind.free)∈scope.names/\c<↥s)\/((x,c)∈cellsFrom (↥s+2) scope.names []/\(x,NameKind.cell)∈scope.names/\↥s+2<=c):=λx c e=>by
  rcases TJ e with z|z
  ·exact .inr ⟨z,gJ _ _ _ _ z⟩
  ·let⟨h1,h2⟩:=K x c z;let⟨v,o,D,_⟩:=I.cell x c h1;exact .inl ⟨h1,h2,Heap.lt_size D⟩
 have t:∀x,(YS scope X.env).names.lookup x=some .cell\/(YS scope X.env).names.lookup x=some .free->(x,NameKind.free)∈scope.names\/(x,NameKind.cell)∈scope.names:=λx n=>by
  have key:∀q,(YS scope X.env).names.lookup x=some q->q=.cell\/q=.free->(x,NameKind.free)∈scope.names\/(x,NameKind.cell)∈scope.names:=λq hq hq'=>by
   let⟨k,h1,h2,C⟩:=d9 (env:=X.env) (names:=scope.names) hq;rcases C with C|⟨_,C⟩
   ·subst C;rcases hq' with z|z
    ·rw[z]at h1;exact .inr h1
    ·rw[z]at h1;exact .inl h1
   ·rw[C]at h1;exact .inl h1
  rcases n with n|n
  ·exact key _ n (.inl rfl)
  ·exact key _ n (.inr rfl)
 have Q:∀b o,s.heap.get? b=some o->b<↥s:=λb o e=>Heap.lt_size e;refine⟨⟨I.ok.mod,U,I.ok.glob,I.ok.blt,Nat.le_succ _,λx y c h1 h2=>?inj,λx n=>?_,λx c z e=>?cab,I.ok.hd,I.ok.frames,.inl rfl,λb hb=>⟨?_,λx c e=>?exf⟩,I.bs,
   Nat.le_trans I.ok.bsz I.sz,λb o e hb=>?_,λb hb hs=>?_,I.stack,I.Cu,λq hq=>⟨(I.ok.sof q hq).1,I.fw.frzs _ _ _ (I.ok.sof q hq).2.1,(I.ok.sof q hq).2.2⟩⟩,rfl,I.bare,Un.kept r,⟨_,Y,λi x v h1 h2 C=>?_⟩,λx c e=>?_,?_,λx c e=>?frc,λp hp=>?_,I.hok.kept r,?_⟩
 case inj =>
  rcases d x c h1 with⟨A,_,B⟩|⟨A,_,B⟩ <;> rcases d y c h2 with⟨b1,_,b3⟩|⟨b1,_,b3⟩
  ·exact I.ok.inj x y c A b1
  ·exact ef (Nat.lt_of_lt_of_le B (Nat.le_trans (Nat.le_add_right _ 2) b3)) (Nat.lt_irrefl _)
  ·exact ef (Nat.lt_of_lt_of_le b3 (Nat.le_trans (Nat.le_add_right _ 2) B)) (Nat.lt_irrefl _)
  ·exact pR _ _ _ _ _ A b1
 case cab =>
  show ↥s<=c;rcases d x c e with⟨_,a2,_⟩|⟨_,_,B⟩
  ·have h1:=((a _ a2).2.2 rfl).1;have z:(scope.names.lookup x==some NameKind.cell)=true:=z;rw[h1]at z;exact ef z ∅
  ·lia
 case exf =>
  rcases d x c e with⟨A,_,_⟩|⟨_,_,B⟩
  ·exact(R b hb).2.2.2.2.1 x c A
  ·let⟨o,e⟩:=L b hb;have:=Q b o e;intro z;subst z;exact ef (Nat.lt_of_lt_of_le this (Nat.le_trans (Nat.le_add_right _ 2) B)) (Nat.lt_irrefl _)
 case frc =>
  rcases d x c e with⟨A,_,_⟩|⟨_,_,B⟩
  ·exact I.freeC x c A
  ·exact I.hok.fresh ()
 ·have hx':(YS scope X.env).names.lookup x=some .cell\/(YS scope X.env).names.lookup x=some .free:=n;refine Option.isSome_iff_exists.mp (W.cellsFrom_some _ _ _ ?_);rcases t x hx' with z|z
  ·exact .inr (j6 z)
  ·exact .inl ((a _ z).2.1 rfl).2
 ·let⟨o,e⟩:=L b hb;exact Nat.ne_of_lt (Nat.lt_succ_of_lt (Q b o e))
 ·have j:b∈G:=hb;rcases(R b j).2.2.2.1 with z|z
  ·exact I.ok.noex b o e z
  ·exact ef (Nat.lt_of_lt_of_le (Heap.lt_size (I.ok.bs b o e).1) z) (Nat.lt_irrefl _)
 ·have j:b∈G:=hb;rcases List.mem_cons.mp (I.vh b hs)with z|z
  ·exact(R b j).2.1 z
  ·exact(R b j).2.2.1 z
 ·have hi:⇑own<=i:=by
   by_cases hi:i<⇑own
   ·rw[List.getElem?_append_left ↑hi,List.getElem?_replicate]at h2;split at h2 <;> cases h2
   ·lia
  have f:M[i - ⇑own]?=some x:=by
   have q:(own++M)[i]?=some x:=h1
   rwa [List.getElem?_append_right hi]at q
  have T:σ[i - ⇑own]?=some (some v):=by
   rw[List.getElem?_append_right ↑hi]at h2;simpa using h2
  have J:Vis (YS scope X.env) x:=C;have l:(x,NameKind.free)∈scope.names:=by
   rcases J with z|z
   ·let⟨k,E,S,h⟩:=d9 (env:=X.env) (names:=scope.names) z;rcases h with h|⟨h,_⟩
    ·subst h;exact ef (List.mem_of_getElem? f) ((a _ E).1 rfl).1
    ·cases h
   ·rcases t x z with y|y
    ·exact y
    ·exact ef (List.mem_of_getElem? f) ((a _ y).2.1 rfl).1
  have P:=((a _ l).2.2 rfl).2;let⟨m,hm,hl⟩:=I.loc;let⟨u,ru,lu⟩:=hl _ x v (uV hk f (List.mem_of_getElem? f) l) T (by rcases P with z|z;exact .inr (.inl z);exact .inr (.inr z));refine⟨u,ru,.inr ⟨?_,?_⟩⟩
  ·rcases J with z|z|z
   ·let⟨k,E,S,h⟩:=d9 (env:=X.env) (names:=scope.names) z;rcases h with h|⟨h,_⟩
    ·subst h;exact ef (List.mem_of_getElem? f) ((a _ E).1 rfl).1
    ·cases h
   ·exact .inl z
   ·exact .inr z
  ·rcases lu with⟨z,_⟩|⟨_,c,e,ic⟩
   ·rcases P with q|q
    ·rw[q]at z;cases z
    ·rw[q]at z;cases z
   ·let⟨c',F⟩:=Option.isSome_iff_exists.mp (j6 (cells:=X.env.cells) (acc:=[]) l);have e2:=(K x c' F).1;rw[e]at e2;cases e2;let⟨o,D,hd⟩:=ic;exact⟨c,(Lw (yG hk l)).trans F,o,r _ _ D,hd⟩
 ·rcases d x c e with⟨z,_,_⟩|⟨z,_,_⟩
  ·let⟨v,o,D,hd⟩:=I.cell x c z;exact⟨v,o,r _ _ D,hd⟩
  ·exact⟨none,V x c z⟩
 ·exact I.hok.fresh (Nat.le_succ _)
 ·have Z:p=(↥s,{ cls:=.type "list",data:=.seq #[] 0 }):=↑hp
  subst Z;refine⟨hD,I.hok.fresh (Nat.le_refl _),Nat.ne_of_lt (Nat.lt_succ_self _),λz=>?_,λv z=>nomatch z⟩;let⟨_,o,D,_⟩:=I.stack.mem z;exact ef (Heap.lt_size D) (Nat.lt_irrefl _)
 ·show(List.replicate ⇑own none++σ).length=⇑(own++M);rw[List.length_append,List.length_append,List.length_replicate,I.len,j5 hk]
def BP{c j:er}{σ h:St}{H H':Hp}{s k:Shared}{i:List Addr}{cl:List (Str×Addr)}{ys:List V}{us:eC}{n:Nat}(I:Inv X c σ H s)(f:∀b∈i,lX X c H b)(J:Inv (X.bB own M scope ⟨cl,↥s+1,s,H,i⟩) j h H' k)(hp:(↥s,({ cls:=.type "list",data:=.seq us.toArray n }:Obj))∈j)(hv:Vals ys us)(m:⇑ys<=sizeLine) :
  Inv X c σ (upd H' ↥s (.lst ys)) k/\H' ↥s=none:=by
 let⟨l,a,_⟩:=J.pin _ (List.mem_append_right _ hp);refine⟨I.call' J.os ⟨λb o e n hb hx=>J.fw.keep b o e n hb hx,λb o e n hb hx=>J.fw.slot b o e n hb hx,λb o e n hx=>?_,λb o e hx=>J.fw.there b o e hx,λb xs e=>?_,λb o u e=>?_,λb ps e=>?_⟩ ?_ J.bare ?_,a⟩
 ·rw[ao (Nat.ne_of_lt (Heap.lt_size e))];exact J.fw.free b o e n hx
 ·have q:=J.fw.tups b xs e;rw[ao (aA q a)];exact q
 ·have q:=J.fw.frzs b o u e;rw[ao (aA q a)];exact q
 ·let⟨d,q⟩:=J.fw.tbls b ps e;exact⟨d,by rw[ao (aA q a)];exact q⟩
 ·exact J.hok.track a ⟨m,us,n,hv,l⟩
 ·intro b hb;exact⟨(f b hb).2.2.2.1,(f b hb).2.1,(f b hb).2.2.2.2.1,(f b hb).2.2.2.2.2⟩
def tE{d F:er}{σ D:St}{H H':Hp}{s G:Shared}{t:List Addr}{cl:List (Str×Addr)}(hk:bH X.env scope X.N M=true)(I:Inv X d σ H s)(L:∀b∈t,lX X d H b)(A:∀x,(x,NameKind.free)∈scope.names->∃c,cl.lookup x=some c/\X.env.cells.lookup x=some c)(J:Inv (X.bB own M scope ⟨cl,↥s+1,s,H,t⟩) F D H' G):Inv (X.bB own M scope ⟨cl,↥s+1,s,H,t⟩) F (List.replicate ⇑own none++σ) H' G:=by
 have j:=cT hk;refine⟨J.ok,J.os,J.bare,J.fw,?_,J.cell,J.free,J.freeC,J.pin,J.hok,?_⟩
 ·let⟨R,B,_⟩:=J.loc;refine⟨R,B,λi x v h1 h2 f=>?_⟩;have hi:⇑own<=i:=by
   by_cases hi:i<⇑own
   ·rw[List.getElem?_append_left ↑hi,List.getElem?_replicate]at h2;split at h2 <;> cases h2
   ·lia
  have a:M[i - ⇑own]?=some x:=by
   have q:(own++M)[i]?=some x:=h1
   rwa [List.getElem?_append_right hi]at q
  have w:σ[i - ⇑own]?=some (some v):=by
   rw[List.getElem?_append_right ↑hi]at h2;simpa using h2
  have y:Vis (YS scope X.env) x:=f;have p:¬(YS scope X.env).names.lookup x=some .local:=λz=>by
   let⟨k,S,V,r⟩:=d9 (env:=X.env) (names:=scope.names) z;rcases r with r|⟨r,_⟩
   ·subst r;exact ef (List.mem_of_getElem? a) ((j _ S).1 rfl).1
   ·cases r
  have l:(YS scope X.env).names.lookup x=some .cell\/(YS scope X.env).names.lookup x=some .free:=by
   rcases y with z|z
   ·exact ef z p
   ·exact z
  have h:(x,NameKind.free)∈scope.names:=by
   have key:∀q,(YS scope X.env).names.lookup x=some q->q=.cell\/q=.free->(x,NameKind.free)∈scope.names:=λq hq hq'=>by
    let⟨k,h1,h2,f⟩:=d9 (env:=X.env) (names:=scope.names) hq;rcases f with f|⟨_,f⟩
    ·subst f;rcases hq' with z|z
     ·rw[z]at h1;exact ef (List.mem_of_getElem? a) ((j _ h1).2.1 rfl).1
     ·rw[z]at h1;exact h1
    ·rw[f]at h1;exact h1
   rcases l with C|C
   ·exact key _ C (.inl rfl)
   ·exact key _ C (.inr rfl)
  have n:=((j _ h).2.2 rfl).2;let⟨m,hm,hl⟩:=I.loc;let⟨u,T,Q⟩:=hl _ x v (uV hk a (List.mem_of_getElem? a) h) w (by rcases n with z|z;exact .inr (.inl z);exact .inr (.inr z));refine⟨u,T,.inr ⟨l,?_⟩⟩;rcases Q with⟨z,_⟩|⟨_,c,e,P⟩
  ·rcases n with q|q
   ·rw[q]at z;cases z
   ·rw[q]at z;cases z
  ·let⟨U,K,E⟩:=A x h;rw[e]at E;cases E;let⟨o,O,hd⟩:=P;let⟨W,q⟩:=J.fw.any O (I.freeC x c e) λz=>(L c z).2.2.2.2.1 x c e rfl;exact⟨c,K,_,q,hd⟩
 ·show(List.replicate ⇑own none++σ).length=⇑(own++M);rw[List.length_append,List.length_append,List.length_replicate,I.len,j5 hk]
def uR{t:er}{σ:St}{H:Hp}{s:Shared}{it:Addr}{a:List Addr}{tn:Nat->Heap->Prop}{J:It}{W:Nat->Nat->List V->Hp->Prop}{E:em}{RR:Value->Addr->Result->Shared->Prop}{Cm:Cx->Prop}(hc:∀c,Cm (X.bB own M scope c))(hk:bH X.env scope X.N M=true)(hg:∀c,PG (X.bB own M scope c) tg (g c))(ht:∀c,PTs (X.bB own M scope c) ifs (tt c))(he:∀c,PE (X.bB own M scope c) elt (te c))(I:Inv X t σ H s)(T:TurnG Cm X.prog X.w X.K tg J a it tn)(st:tn 0 s.heap)(U:∀b∈a,lX X t H b){m0:Nat}(w0:W 0 m0 [] H){D:List V->Hp->Prop}(turn:∀(c:CB) i m ys H,W i m ys H->(J.stop i H/\D ys H)∨
   (J.go i H/\⇑ys<sizeLine/\∃N:List V->Hp->Prop,(∀ys' H',N ys' H'->∃m',m'<m/\W (i+1) m' ys' H')/\∀x H',J.yld i H x H'->g c x (List.replicate ⇑own none++σ) H' λσ2 H2=>tt c σ2 H2 λb H3 =>
    if b=true then te c σ2 H3 λv H4=>N (ys++[v]) H4 else N ys H3))(fin:∀s' m' ys H',(s'.heap.Ns (↥s+1) m')->H' (↥s+1)=none->H' ↥s=none->Inv X t σ (upd H' ↥s (.lst ys)) s'->D ys H'->RR (.ref ↥s) (↥s+1) (.ok .next) s') :
  wpAny (model X.prog X.w) X.A (YT []) (λacc s₃=>wpAny (model X.prog X.w) X.A (YR scope X.env.globals (eG X.env.cells scope.names []) [] X.env.qual none .none (some X.env)) (λcenv s₄ =>
   Yc (model X.prog X.w) X.A (.compStart (.ListComp elt [⟨tg,iter,ifs,0⟩] scope pos) 0 (.ref it) acc { cenv with scope:=YS scope X.env }) (RR acc cenv.locals) s₄) E s₃) E s:=by
 have hkk:=gD hk;have hka:=cT hk;refine Yz (Av ?_);dsimp only;have hC:(s.heap.push { cls:=.type "list",dict:=none,data:=.seq ([]:eC).toArray }).objs.size=↥s+1:=Heap.size_push ..;rw[hC];generalize R:s.heap.push { cls:=.type "list",dict:=none,data:=.seq ([]:eC).toArray }=H2 at hC ⊢;generalize L:H2.push { cls:=Value.type (if(some X.env:Option Env).isSome=true then "dict" else "frame"),data:=Data.dict #[]}=H3;generalize Z:YQ H3 scope.names=h₁;have hC3:H3.objs.size=↥s+2:=by rw[←L,Heap.size_push,hC]
 have G:∀b o,H3.get? b=some o->h₁.get? b=some o:=λb o e=>Z ▸ kY _ _ _ _ e;have F:∀b o,H2.get? b=some o->h₁.get? b=some o:=λb o e=>G b o (L ▸ Heap.get?_push_of_some _ e);have old:∀b o,s.heap.get? b=some o->h₁.get? b=some o:=λb o e=>F b o (R ▸ Heap.get?_push_of_some _ e);have S:h₁.get? ↥s=some { cls:=.type "list",data:=.seq #[] 0 }:=F _ _ (R ▸ Heap.get?_push_size _ rfl);have hns:h₁.Ns (↥s+1) λ_=>none:=by
  have z:=Heap.Ns.new H2 (Value.type (if(some X.env:Option Env).isSome=true then "dict" else "frame"));rw[hC,L]at z;exact z.keeps G
 have hnc:∀x c,(x,c)∈cellsFrom (↥s+2) scope.names []->h₁.IsCell c none:=λx c e=>by
  rw[←hC3]at e;exact Z ▸ pB _ _ _ _ e
 have Y:∀b∈a,∃o,s.heap.get? b=some o:=λb hb=>let⟨o,e,_⟩:=T.obj 0 _ st b hb;⟨o,e⟩
 have B:tn 0 h₁:=T.keep 0 _ _ st λb _ o e=>old b o e;have h:=BR (own:=own) (tk:=s.toks) hk I U Y hns old S hnc;have C:∀s₃:Shared,s₃={ s with heap:=h₁,toks:=s.toks } ->
   Yc (model X.prog X.w) X.A (.compLoop (.ListComp elt [⟨tg,iter,ifs,0⟩] scope pos) 0 (.ref it) (.ref ↥s) (compEnvC scope (cellsFrom (↥s+2) scope.names (eG X.env.cells scope.names [])) (↥s+1) X.env))
    (RR (.ref ↥s) (↥s+1)) s₃:=by
  rintro s₃ rfl;have neD:∀b∈a,b≠↥s:=λb hb=>by
   let⟨o,e⟩:=Y b hb;exact Nat.ne_of_lt (Heap.lt_size e)
  have y:∀{H':Hp}{o:Obj},(∀b∈a,H' b=none)->∀b∈a,lX (X.bB own M scope ⟨cellsFrom (↥s+2) scope.names (eG X.env.cells scope.names []),↥s+1,s,H,a⟩) [(↥s,o)] H' b:=λ{H' o} hn b hb =>
   ⟨hn b hb,(h.ok.exf b hb).1,h.ok.exfs b hb,.inl hb,(h.ok.exf b hb).2,λp hp=>by
    have l:p=(↥s,o):=↑hp
    subst l;exact Ne.symm (neD b hb)⟩
  refine GQ (λk s'=>∃i ys us n H',Inv (X.bB own M scope ⟨cellsFrom (↥s+2) scope.names (eG X.env.cells scope.names []),↥s+1,s,H,a⟩) [(↥s,{ cls:=.type "list",data:=.seq (us:eC).toArray n })] (List.replicate ⇑own none++σ) H' s' /\
    Vals ys us/\⇑ys<=sizeLine/\tn i s'.heap/\(∀b∈a,H' b=none)/\W i k ys H') ?_ m0 ⟨0,[],[],0,H,h,.nil,Nat.zero_le _,B,λb hb=>(U b hb).1,w0⟩
  rintro k s3 ⟨i,ys,us,n,H3,I3,hv,hz,st3,P,w3⟩;rcases turn ⟨cellsFrom (↥s+2) scope.names (eG X.env.cells scope.names []),↥s+1,s,H,a⟩ i k ys H3 w3 with⟨stop,d⟩|⟨go,hlt,N,hN,step⟩
  ·refine thn (T.done (X.bB own M scope ⟨cellsFrom (↥s+2) scope.names (eG X.env.cells scope.names []),↥s+1,s,H,a⟩) rfl rfl rfl (hc _) i _ s3 _ H3 _ I3 (y P) st3 stop) λr s4 ⟨hr,I4⟩=>?_;subst hr;let⟨m',j,_⟩:=I4.loc;let⟨J4,hDn⟩:=BP I U I4 (List.mem_singleton.mpr rfl) hv hz;exact fin s4 m' ys H3 j I4.free hDn J4 d
  ·refine thn (T.item (X.bB own M scope ⟨cellsFrom (↥s+2) scope.names (eG X.env.cells scope.names []),↥s+1,s,H,a⟩) rfl rfl rfl (hc _) i _ s3 _ H3 _ I3 (y P) st3 go) λr s4 ⟨u,hr,h4⟩=>?_;subst hr;refine thn h4 λ_ s5 ⟨x,H5,I5,r5,y5,st5,fr5⟩=>?_;have I5':=I5.pinned (y fr5) (T.obj _ _ st5);refine thn (hg _ _ s5 _ H5 x u _ I5' r5 (step x H5 y5)) λ_ s6 ⟨σ6,H6,I6,q6⟩=>?_;refine thn (ht _ _ s6 σ6 H6 _ I6 q6) λb s7 ⟨H7,I7,q7⟩=>?_
   -- the turn's end: the iterator's records stand,the names are forgotten
   have O:∀x,(x,NameKind.free)∈scope.names->∃c,(cellsFrom (↥s+2) scope.names (eG X.env.cells scope.names [])).lookup x=some c/\X.env.cells.lookup x=some c:=λx hx=>by
    let⟨c,e⟩:=I.ok.has x ((hka _ hx).2.2 rfl).2;let⟨c',e'⟩:=Option.isSome_iff_exists.mp (j6 (cells:=X.env.cells) (acc:=[]) hx);rcases oU e' with q|⟨_,q⟩
    ·simp at q
    ·rw[e]at q;exact⟨c',(Lw (yG hk hx)).trans e',by rw[e,q];rfl⟩
   have f:∀{H':Hp}{σ':St}{s':Shared}{pn:er},(∀p∈jB a s5.heap,p∈pn)->Inv (X.bB own M scope ⟨cellsFrom (↥s+2) scope.names (eG X.env.cells scope.names []),↥s+1,s,H,a⟩) pn σ' H' s'->tn (i+1) s'.heap/\∀b∈a,H' b=none:=λ{H' σ' s' pn} hs I' =>
    ⟨T.keep _ _ _ st5 λb hb o e=>(I'.pin (b,o) (List.mem_append_right _ (hs _ (ji hb e)))).1,λb hb=>by
     let⟨o,e,_⟩:=T.obj _ _ st5 b hb;exact(I'.pin (b,o) (List.mem_append_right _ (hs _ (ji hb e)))).2.1⟩
   cases b with
   |false =>
    rw[ee Bool.false_ne_true];rw[ee Bool.false_ne_true]at q7;let⟨m',j,w7⟩:=hN _ _ q7;let⟨t7,f7⟩:=f (λp hp=>List.mem_append_right _ hp) I7;exact⟨m',j,i+1,ys,us,n,H7,tE hk I U O I7.mZ,hv,hz,t7,f7,w7⟩
   |true =>
    rw[ed rfl];rw[ed rfl]at q7;refine thn (he _ _ s7 σ6 H7 _ I7 q7) λu8 s8 ⟨v8,H8,I8,r8,q8⟩=>?_;let⟨m',j,w8⟩:=hN _ _ q8;let⟨t8,f8⟩:=f (λp hp=>List.mem_append_right _ hp) I8;let⟨Q,nD8,lD8,fD8,_⟩:=I8.pin (↥s,{ cls:=.type "list",data:=.seq us.toArray n }) (List.mem_append_right _ (List.mem_append_left _ (List.mem_singleton.mpr rfl)));refine append_at (hsz:=by rw[List.size_toArray,←⇑hv];exact Nat.le_of_lt hlt) Q λh9 hs9 hD9=>?_;have J8:Inv (X.bB own M scope ⟨cellsFrom (↥s+2) scope.names (eG X.env.cells scope.names []),↥s+1,s,H,a⟩) (jB a s5.heap) σ6 H8 s8:=I8.qC λp hp=>I8.pin p (List.mem_append_right _ (List.mem_append_right _ hp));have J9:Inv (X.bB own M scope ⟨cellsFrom (↥s+2) scope.names (eG X.env.cells scope.names []),↥s+1,s,H,a⟩) (jB a s5.heap) σ6 H8 { s8 with heap:=h9 }:=J8.turned (t':=s8.toks) (it:=↥s) (λb o hb e=>(hs9.2 b hb).trans e) nD8 lD8 (.inr (Nat.le_refl _))
     (λx c e z=>by
      let⟨v,o,ho,hd⟩:=J8.cell x c e;rw[z,Q]at ho;cases ho;cases hd)
     (λp hp=>by
      have l:p∈jB a s5.heap:=↑hp
      exact neD _ (uM l).1)
    let⟨t9,f9⟩:=f (λp hp=>hp) J9;have e9:h9.get? ↥s=some { cls:=.type "list",data:=.seq (us++[u8]).toArray (n+1)}:=by
     rw[hD9,List.push_toArray]
    have J9':Inv (X.bB own M scope ⟨cellsFrom (↥s+2) scope.names (eG X.env.cells scope.names []),↥s+1,s,H,a⟩) [(↥s,{ cls:=.type "list",data:=.seq (us++[u8]).toArray (n+1)})] σ6 H8 { s8 with heap:=h9 }:=J9.qC λp hp=>by
     have l:p=(↥s,{ cls:=.type "list",data:=.seq (us++[u8]).toArray (n+1)}):=↑hp
     subst l;exact⟨e9,nD8,lD8,fD8,λv z=>nomatch z⟩
    exact⟨m',j,i+1,ys++[v8],us++[u8],n+1,H8,tE hk I U O J9',hv.append (.cons r8 .nil),by rw[List.length_append,List.length_singleton];exact hlt,t9,f9,w8⟩
 exact codeAny_compStart_list (C _ rfl) (T.self _ 0 _ _ _ B (C _ rfl))
def uU{a:er}{σ:St}{H:Hp}{s:Shared}(hk:bH X.env scope X.N M=true)(I:Inv X a σ H s):YN scope X.env=pure (eG X.env.cells scope.names []) :=
 BW λx hx hf=>I.ok.has x.1 ((cT hk x hx).2.2 hf).2
def uT{a:er}{σ:St}{H:Hp}{s d:Shared}{C:Addr}{h':Heap}{m:Str->eH}(I:Inv X a σ H d)(hs:X.s₀.heap.objs.size<=C)(h:C≠X.env.locals)(f:∀x c,X.env.cells.lookup x=some c->c≠C)(hp:∀p∈X.pn++a,p.1≠C)(hn:H C=none)(hb:Heap.SameBut C d.heap h'):Inv X a σ H { d with heap:=h' }:=I.turned (t':=d.toks) (λb o hb' e=>(hb.2 b hb').trans e) hn h (.inr hs) f hp
def Js(own M:List Str)(hc:X.calm=true)(hi:PI X tg iter wi)(hg:∀c,PG (X.bB own M scope c) tg (g c))(ht:∀c,PTs (X.bB own M scope c) ifs (tt c))(he:∀c,PE (X.bB own M scope c) elt (te c))(hk:bH X.env scope X.N M=true:=by rfl)(hs:∀x,Zx iter X.env x=pure x:=by intro _;rfl) :
  PE X (.ListComp elt [⟨tg,iter,ifs,0⟩] scope pos) (tLC ⇑own wi g tt te):=by
 intro a s σ H Q I h;rw[eval_ListComp];have n:=cT hk;refine YU (use:=none) rfl hs (uU hk I) (gD hk) (λx hx hl=>((n x hx).1 hl).2) (thn (hi a s σ H _ I h) λv s1 h1=>thn h1 λitv s2 h2=>?_);let⟨it,F,L,J,E,e,f,T,r,y,W,⟨G,B⟩,j⟩:=h2;subst e;refine uR (RR:=λacc C=>compPost (model X.prog X.w) X.A X.xe none (EP X a σ Q) acc C) (D:=λys H=>∀p,H p=none->Q (.ref p) (upd H p (.lst ys))) (λ_=>hc) hk hg ht he f T r y B j ?_;intro K t ys H' q k l u d;have i:∀{b:Addr}{o:Obj},s2.heap.get? b=some o->b≠↥s2+1:=λe=>Nat.ne_of_lt (Nat.lt_succ_of_lt (Heap.lt_size e));refine⟨t,q,λh' hb=>⟨.ref ↥s2,_,uT (m:=t) (s:=s2) u (Nat.le_trans f.sz (Nat.le_succ _)) (Ne.symm (Nat.ne_of_lt (Nat.lt_succ_of_lt f.lt))) (λx c e=>?_) (λp hp=>?_) ?_ hb,rfl,d _ l⟩⟩
 ·let⟨v,o,z,_⟩:=f.cell x c e;exact i z
 ·exact i (f.pin p hp).1
 ·rw[ao (Nat.ne_of_gt (Nat.lt_succ_self _))];exact k
def M7{S:Cx->Prop}(own M:List Str){i:Nat}{y:Str}{r l:Pos}(hc:∀c,S (X.bB own M scope c))(hN:X.N.Nodup)(t:X.N[i]?=some y)(P:Loc X.env.scope y)(hi:PIG S X tg iter wi)(hg:∀c,PG (X.bB own M scope c) tg (g c))(ht:∀c,PTs (X.bB own M scope c) ifs (tt c))(he:∀c,PE (X.bB own M scope c) elt (te c))(O:ZQ (.ListComp elt [⟨tg,iter,ifs,0⟩] scope pos) (some (.Name y r)) l.line X.env=pure true:=by rfl)(hk:bH X.env scope X.N M=true:=by rfl)(hs:∀x,Zx iter X.env x=pure x:=by intro _;rfl)(Z:X.fn y=true\/X.env.scope.names.lookup y=some .local:=by first|exact .inl rfl|exact .inr rfl|assumption) :
  PS X (.Assign [.Name y r] (.ListComp elt [⟨tg,iter,ifs,0⟩] scope pos) l) (vg (tLC ⇑own wi g tt te) (iW i)):=by
 intro f s σ H D I h;rw[exec_Assign_Name_used _ _ _ _ O];have G:=cT hk;refine wpAny_bind (YO (wpAny_bind ?_));show wpAny _ X.A (do let _ ←comprehension (.ListComp elt [⟨tg,iter,ifs,0⟩] scope pos) scope X.env _ (YT []) false (Zv iter X.env) (some (ZR (.Name y r) X.env))) _ _ s;refine wpAny_bind (ZG (YU (use:=some (ZR (.Name y r) X.env)) (Q:=λ_ u=>SP X f D .next u) rfl hs (uU hk I) (gD hk) (λx P hl=>((G x P).1 hl).2)
  (thn (hi f s σ H _ I h) λv s1 h1=>thn h1 λitv s2 h2=>?_)) (λ_ u hq=>Z0 (Z0 hq)) λ_ _ e=>e)
 let⟨it,fp,tn,J,H2,e,q,T,R,Y,W,⟨m0,w0⟩,z⟩:=h2;subst e;refine uR (RR:=λacc C=>compPost (model X.prog X.w) X.A X.xe (some (ZR (.Name y r) X.env)) (λ_ u=>SP X f D .next u) acc C) (D:=λys H=>∀p,H p=none->iW i (.ref p) σ (upd H p (.lst ys)) D.nx) hc hk hg ht he q T R Y w0 z ?_;intro u U ys H' K E F V d;have n:∀{b:Addr}{o:Obj},s2.heap.get? b=some o->b≠↥s2+1:=λe=>Nat.ne_of_lt (Nat.lt_succ_of_lt (Heap.lt_size e));show wpAny _ X.A (ZR (.Name y r) X.env (.ref ↥s2)) _ _ _;refine ZV (uF (v:=.ref ↥s2) V (λj h=>xY hN h t) t P rfl (λs'' J'' ⟨a,hsb,ha⟩=>?_) Z);have k:X.env.locals≠↥s2+1:=Nat.ne_of_lt (Nat.lt_succ_of_lt q.lt);have B:↥s2+1≠a:=by
  rcases ha with ha|ha
  ·rw[ha];exact Ne.symm k
  ·let⟨v,o,L,_⟩:=q.cell _ _ ha;exact Ne.symm (n L)
 refine⟨U,K.sameBut hsb B,λh' hb=>⟨_,_,uT (m:=U) (s:=s2) J'' (Nat.le_trans q.sz (Nat.le_succ _)) (Ne.symm k) (λx c e=>?_) (λp hp=>?_) ?_ hb,d _ F⟩⟩
 ·let⟨v,o,L,_⟩:=q.cell x c e;exact n L
 ·exact n (q.pin p hp).1
 ·rw[ao (Nat.ne_of_gt (Nat.lt_succ_self _))];exact E
def Je(own M:List Str){i:Nat}{y:Str}{e a:Pos}(hc:X.calm=true)(hN:X.N.Nodup)(b:X.N[i]?=some y)(h:Loc X.env.scope y)(hi:PI X tg iter wi)(hg:∀c,PG (X.bB own M scope c) tg (g c))(ht:∀c,PTs (X.bB own M scope c) ifs (tt c))(he:∀c,PE (X.bB own M scope c) elt (te c))(d:ZQ (.ListComp elt [⟨tg,iter,ifs,0⟩] scope pos) (some (.Name y e)) a.line X.env=pure true:=by rfl)(hk:bH X.env scope X.N M=true:=by rfl)(hs:∀x,Zx iter X.env x=pure x:=by intro _;rfl)(f:X.fn y=true\/X.env.scope.names.lookup y=some .local:=by first|exact .inl rfl|exact .inr rfl|assumption) :
  PS X (.Assign [.Name y e] (.ListComp elt [⟨tg,iter,ifs,0⟩] scope pos) a) (vg (tLC ⇑own wi g tt te) (iW i)):=M7 own M (λ_=>hc) hN b h hi hg ht he d hk hs f
def Va(own:List Str)(hc:X.calm=true)(hi:PI X tg iter wi)(hg:∀c,PG (X.comp own scope c) tg (g c))(ht:∀c,PTs (X.comp own scope c) ifs (tt c))(he:∀c,PE (X.comp own scope c) elt (te c))(hk:gY X.env scope X.N=true:=by rfl)(hs:∀x,Zx iter X.env x=pure x:=by intro _;rfl) :
  PE X (.ListComp elt [⟨tg,iter,ifs,0⟩] scope pos) (tLC ⇑own wi g tt te):=Js own X.N hc hi hg ht he (yS hk) hs
def PB(own:List Str){i:Nat}{y:Str}{e a:Pos}(hc:X.calm=true)(hN:X.N.Nodup)(b:X.N[i]?=some y)(h:Loc X.env.scope y)(hi:PI X tg iter wi)(hg:∀c,PG (X.comp own scope c) tg (g c))(ht:∀c,PTs (X.comp own scope c) ifs (tt c))(he:∀c,PE (X.comp own scope c) elt (te c))(d:ZQ (.ListComp elt [⟨tg,iter,ifs,0⟩] scope pos) (some (.Name y e)) a.line X.env=pure true:=by rfl)(hk:gY X.env scope X.N=true:=by rfl)(hs:∀x,Zx iter X.env x=pure x:=by intro _;rfl)(f:X.fn y=true\/X.env.scope.names.lookup y=some .local:=by first|exact .inl rfl|exact .inr rfl|assumption) :
  PS X (.Assign [.Name y e] (.ListComp elt [⟨tg,iter,ifs,0⟩] scope pos) a) (vg (tLC ⇑own wi g tt te) (iW i)):=Je own X.N hc hN b h hi hg ht he d (yS hk) hs f
end
section
variable{tg:Zt}{K:W.Frag}{g:CB->TG}{tt:CB->TT}{te:CB->TE}{σ:St}{H:Hp}{Q:VK}{n:Nat}
def Vr(K:W.Frag)(b:TE):TI:=λσ H R=>b σ H λx H1=>∃a,x=.ref a/\(((∃xs,SqL K H1 a xs)/\R (Itl K a) H1)\/((∃xs,SqT K H1 a xs)/\R (Itt K a) H1))
def Jk{l:Zt}{i:TE}(hl:PE X l i):PI X tg l (Vr X.K i):=by
 intro c s σ H R I h;refine thn (hl c s σ H _ I h) λv s1 ⟨x,H1,I1,r1,f⟩=>?_;let⟨a,e,f⟩:=f;subst e;cases r1;rcases f with⟨⟨xs,d⟩,q⟩|⟨⟨xs,d⟩,q⟩
 ·let⟨its,k,p,j⟩:=I1.list d;refine YV p.isList ?_;refine⟨↥s1,[↥s1],_,_,H1,rfl,I1.kept (t':=s1.toks) λb o e=>Heap.get?_push_of_some _ e,Fb a _,⟨_,Heap.get?_push_size _ rfl,rfl,rfl⟩,λb hb=>?_,q⟩;have e:b=↥s1:=↑hb
  subst e;exact I1.yH (Nat.le_refl _) (I1.hok.fresh (Nat.le_refl _))
 ·let⟨its,k,p,j⟩:=I1.tuple d;refine YW (show s1.heap.IsTuple a its.toArray from p) ?_;refine⟨↥s1,[↥s1],_,_,H1,rfl,I1.kept (t':=s1.toks) λb o e=>Heap.get?_push_of_some _ e,zH a _,⟨_,Heap.get?_push_size _ rfl,rfl,rfl⟩,λb hb=>?_,q⟩;have e:b=↥s1:=↑hb
  subst e;exact I1.yH (Nat.le_refl _) (I1.hok.fresh (Nat.le_refl _))
end
end L2
namespace NfSort
open PySem.W
def kwp{α:Type}(n:Nat)(key:Nat->Int):KasT α->(α->Prop)->Prop
 |.ret a,Q=>Q a
 |.ask i j k,Q=>i<n/\j<n/\kwp n key (k (decide (key i<key j))) Q
theorem cO{α:Type}{n:Nat}{key:Nat->Int}{Q b:α->Prop}(h:∀a,Q a->b a):∀{t:KasT α},kwp n key t Q->kwp n key t b
 |.ret a,q=>h a q
 |.ask _ _ k,q=>⟨q.1,q.2.1,cO h q.2.2⟩
theorem gR{α β:Type}{n:Nat}{key:Nat->Int}{f:α->KasT β}{Q:β->Prop}:∀{t:KasT α},kwp n key t (λa=>kwp n key (f a) Q)->kwp n key (t.bind f) Q
 |.ret a,q=>q
 |.ask _ _ k,q=>⟨q.1,q.2.1,gR q.2.2⟩
theorem vV{α:Type}{n:Nat}{key:Nat->Int}{b:Nat->Nat->(Bool->Shared->Prop)->Shared->Prop}{s:Shared}{G:α->Shared->Prop}(hc:∀i j C,i<n->j<n->C (decide (key i<key j)) s->b i j C s) :
  ∀{t:KasT α},kwp n key t (λa=>G a s)->t.kasWp b G s
 |.ret _,q=>q
 |.ask i j k,q=>hc i j _ q.1 q.2.1 (vV hc q.2.2)
section
variable{n:Nat}{key:Nat->Int}{p:Array Nat}
def Pm(n:Nat)(p:Array Nat):Prop:=p.Perm (List.range n).toArray
def kk(key:Nat->Int)(p:Array Nat)(i:Nat):Int:=key (p.getD i 0)
def Pm.size(h:Pm n p):p.size=n:=by
 have:=Array.Perm.size_eq h;simpa using this
def getD_eq(p:Array Nat)(i:Nat):p.getD i 0=(p[i]?).getD 0:=by
 by_cases h:i<p.size <;> simp[Array.getD,h]
def Pm.lt(h:Pm n p){i:Nat}(hi:i<n):p.getD i 0<n:=by
 have hs:=h.size;have a:i<p.size:=()
 have hm:p[i]∈p.toList:=by
  have:=Array.getElem_mem a;simpa using this
 have hp:p.toList.Perm (List.range n):=by
  have:=Array.perm_iff_toList_perm.mp h;simpa using this
 have e:p.getD i 0=p[i]:=by simp[Array.getD,a]
 rw[e];exact List.mem_range.mp (hp.mem_iff.mp hm)
def Pm.rev(h:Pm n p)(i j:Nat):Pm n (YX p i j):=Array.Perm.trans (mirror_perm _ _ _ _) h
def Pm.bub(h:Pm n p)(i j:Nat):Pm n (YY p i j):=Array.Perm.trans (bubble_perm _ _ _) h
def vX(h:Pm n p){i j:Nat}(a:j<=n)(t:Nat):kk key (YX p i j) t=if i<=t/\t<j then kk key p (i+j - 1 - t)else kk key p t:=by
 unfold kk YX;rw[getD_eq,YZ (by rw[h.size];exact a)];split
 ·rw[getD_eq]
 ·rw[getD_eq]
def Sq(h:Pm n p){k l:Nat}(hk:k<n)(hl:l<=k)(t:Nat):kk key (YY p k (k - l)) t=if t=l then kk key p k else if l<t/\t<=k then kk key p (t - 1)else kk key p t:=by
 unfold kk;rw[getD_eq,Y0 (by rw[h.size];exact hk) _ ()];have e:k - (k - l)=l:=()
 rw[e];split
 ·rw[getD_eq]
 ·split
  ·rw[getD_eq]
  ·rw[getD_eq]
def Up(key:Nat->Int)(p:Array Nat)(m:Nat):Prop:=∀i j,i<=j->j<m->kk key p i<=kk key p j
def Dn(key:Nat->Int)(p:Array Nat)(m:Nat):Prop:=∀i j,i<=j->j<m->kk key p j<=kk key p i
def Rn(key:Nat->Int)(p:Array Nat)(m q:Nat):Prop:=q+1<=m/\∀t,m<=t+q+1->t<m->kk key p t=kk key p (m - 1)
def Up.more{a:Nat}(h:Up key p a)(h1:1<=a)(c:kk key p (a - 1)<=kk key p a):Up key p (a+1):=λi j hij hj=>by
 by_cases b:j<a
 ·exact h i j hij b
 ·obtain rfl:j=a:=()
  by_cases hi:i=j
  ·subst hi;exact Int.le_refl _
  ·exact Int.le_trans (h i (j - 1) () ()) c
def Dn.more{a:Nat}(h:Dn key p a)(h1:1<=a)(c:kk key p a<=kk key p (a - 1)):Dn key p (a+1):=λi j hij hj=>by
 by_cases b:j<a
 ·exact h i j hij b
 ·obtain rfl:j=a:=()
  by_cases hi:i=j
  ·subst hi;exact Int.le_refl _
  ·exact Int.le_trans c (h i (j - 1) () ())
theorem BZ(hp:Pm n p):∀(f a:Nat),1<=a->a+f<=n->Up key p a->kwp n key (kas_asc p f a) (λm=>a<=m/\m<=a+f/\Up key p m/\(m<a+f->kk key p m<kk key p (m - 1)))
 |0,a,h1,hf,hu=>⟨Nat.le_refl _,Nat.le_refl _,hu,λh=>ef h ()⟩
 |f+1,a,h1,hf,hu=>by
  refine⟨hp.lt (),hp.lt (),?_⟩;by_cases hc:key (p.getD a 0)<key (p.getD (a - 1) 0)
  ·(rw[fy hc];dsimp only;rw[ed rfl])
   exact⟨Nat.le_refl _,(),hu,λ_=>hc⟩
  ·(rw[d4 hc];dsimp only;rw[ee Bool.false_ne_true])
   refine cO (λm ⟨a1,a2,a3,a4⟩=>⟨(),(),a3,λh=>a4 ()⟩) (BZ hp f (a+1) () () (hu.more h1 (Int.not_lt.mp hc)))
def CN(hp:Pm n p){a q:Nat}(ha:a<=n)(hr:Rn key p a q)(t:Nat):kk key (YX p (a - (q+1)) a) t=kk key p t:=by
 rw[vX hp ha];split
 ·rename_i h;rw[hr.2 t () h.2];exact hr.2 _ (by have:=hr.1;lia) ()
 ·rfl
def Dn.eq{c:Array Nat}{m:Nat}(h:Dn key p m)(e:∀t,kk key c t=kk key p t):Dn key c m:=λi j a b=>by rw[e,e];exact h i j a b
theorem Ek:∀(f:Nat)(p:Array Nat)(a q:Nat),Pm n p->1<=a->a+f<=n->Dn key p a->Rn key p a q ->
  kwp n key (kas_desc f p a q) (λr=>Pm n r.1/\a<=r.2.1/\r.2.1<=a+f/\Dn key r.1 r.2.1/\Rn key r.1 r.2.1 r.2.2)
 |0,p,a,q,hp,h1,hf,hd,hr=>⟨hp,Nat.le_refl _,Nat.le_refl _,hd,hr⟩
 |f+1,p,a,q,hp,h1,hf,hd,hr=>by
  refine⟨hp.lt (),hp.lt (),?_⟩;have b:∀{p':Array Nat}{q':Nat},Pm n p'->Dn key p' (a+1)->Rn key p' (a+1) q'->kwp n key (kas_desc f p' (a+1) q') (λr=>Pm n r.1/\a<=r.2.1/\r.2.1<=a+(f+1)/\Dn key r.1 r.2.1/\Rn key r.1 r.2.1 r.2.2):=λx y z =>
   cO (λr ⟨a1,a2,a3,a4,a5⟩=>⟨a1,(),(),a4,a5⟩) (Ek f _ (a+1) _ x () () y z)
  have g:∀p':Array Nat,Rn key p' (a+1) 0:=λp'=>⟨(),λt h1 h2=>by
   have e:t=a+1 - 1:=()
   rw[e]⟩
  by_cases hc:key (p.getD a 0)<key (p.getD (a - 1) 0)
  ·(rw[fy hc];dsimp only;rw[ed rfl])
   have d:kk key p a<kk key p (a - 1):=hc;by_cases h:q > 0
   ·rw[ed h];have e:=CN (key:=key) hp () hr;exact b (hp.rev _ _) ((hd.more h1 (Int.le_of_lt d)).eq e) (g _)
   ·rw[ee h];exact b hp (hd.more h1 (Int.le_of_lt d)) (g _)
  ·(rw[d4 hc];dsimp only;rw[ee Bool.false_ne_true])
   refine⟨hp.lt (),hp.lt (),?_⟩;by_cases c:key (p.getD (a - 1) 0)<key (p.getD a 0)
   ·(rw[fy c];dsimp only;rw[ed rfl])
    exact⟨hp,Nat.le_refl _,(by show a<=a+(f+1);lia),hd,hr⟩
   ·(rw[d4 c];dsimp only;rw[ee Bool.false_ne_true])
    have e:kk key p a=kk key p (a - 1):=Int.le_antisymm (Int.not_lt.mp c) (Int.not_lt.mp hc);refine b hp (hd.more h1 (Int.le_of_eq e)) ⟨by have:=hr.1;lia,λt t1 t2=>?_⟩;show _=kk key p a;by_cases ht:t=a
    ·rw[ht]
    ·rw[e];exact hr.2 t () ()
def wO{a:Nat}(hp:Pm n p)(h1:1<=a)(ha:a<=n)(hd:Dn key p a):kwp n key (kas_tail3 a n p) (λr=>Pm n r.2/\1<=r.1/\r.1<=n/\Up key r.2 r.1):=by
 unfold kas_tail3;have hu:Up key (YX p 0 a) a:=λi j hij hj=>by
  rw[vX hp ha,vX hp ha,ed ⟨(),()⟩,ed ⟨(),hj⟩];exact hd _ _ () ()
 refine gR (cO (λm ⟨a1,a2,a3,_⟩=>?_) (BZ (hp.rev 0 a) (n - a) a h1 () hu));exact⟨hp.rev 0 a,(),(),a3⟩
def qd{a:Nat}(hp:Pm n p)(ha:a+1<=n)(hd:Dn key p (a+1)):kwp n key (kas_descPart a n p) (λr=>Pm n r.2/\1<=r.1/\r.1<=n/\Up key r.2 r.1):=by
 unfold kas_descPart;refine gR (cO (λr ⟨a1,a2,a3,a4,a5⟩=>?_) (Ek (n - (a+1)) p (a+1) 0 hp () () hd ⟨(),λt h1 h2=>by
  have e:t=a+1 - 1:=()
  rw[e]⟩))
 split
 ·exact wO (a1.rev _ _) () () (a4.eq (CN a1 () a5))
 ·exact wO a1 () () a4
def Lr(hp:Pm n p)(h1:1<=n):kwp n key (Y1 n p) (λr=>Pm n r.2/\1<=r.1/\r.1<=n/\Up key r.2 r.1):=by
 unfold Y1;have d:Up key p 1:=λi j hij hj=>by
  have e:i=j:=()
  rw[e];exact Int.le_refl _
 refine gR (cO (λm ⟨a1,a2,a3,a4⟩=>?_) (BZ hp (n - 1) 1 (Nat.le_refl _) () d));by_cases hm:m=n
 ·rw[ed ↑hm];exact⟨hp,(),(),a3⟩
 ·rw[ee ↑hm];have b:=a4 ();by_cases c:m > 1
  ·rw[ed c];refine⟨hp.lt (),hp.lt (),?_⟩;by_cases hc:key (p.getD 0 0)<key (p.getD (m - 1) 0)
   ·(rw[fy hc];dsimp only;rw[ed rfl])
    exact⟨hp,(),(),a3⟩
   ·(rw[d4 hc];dsimp only;rw[ee Bool.false_ne_true])
    have a:∀t,t<m->kk key p t=kk key p 0:=λt ht=>by
     have f:=a3 0 t () ht;have g:=a3 t (m - 1) () ();have k:kk key p (m - 1)<=kk key p 0:=Int.not_lt.mp hc;lia
    have e:∀t,kk key (YX p 0 m) t=kk key p t:=λt=>by
     rw[vX hp ()];split
     ·rename_i h;rw[a t h.2,a _ ()]
     ·rfl
    refine qd (hp.rev 0 m) () (Dn.eq (p:=p) (Dn.more (λi j hij hj=>?_) () (Int.le_of_lt b)) e);rw[a i (),a j hj];exact Int.le_refl _
  ·rw[ee c];obtain rfl:m=1:=()
   refine qd hp () (Dn.more (λi j hij hj=>?_) () (Int.le_of_lt b));have e:i=j:=()
   rw[e];exact Int.le_refl _
theorem rz{k:Nat}(hp:Pm n p)(hk:k<n)(hu:Up key p k):∀(f l r:Nat),l<=r->r<=k->r<=l+f->(∀t,t<l->kk key p t<=kk key p k)->(∀t,r<=t->t<k->kk key p k<kk key p t) ->
  kwp n key (kas_place p k f l r) (λl'=>l'<=k/\(∀t,t<l'->kk key p t<=kk key p k)/\(∀t,l'<=t->t<k->kk key p k<kk key p t))
 |0,l,r,h1,h2,h3,h4,h5=>⟨(),h4,λt a b=>h5 t () b⟩
 |f+1,l,r,h1,h2,h3,h4,h5=>by
  unfold kas_place;by_cases d:l≥r
  ·rw[ed d];exact⟨(),h4,λt a b=>h5 t () b⟩
  ·rw[ee d];have hm:(l+r) / 2<r:=()
   refine⟨hp.lt hk,hp.lt (),?_⟩;by_cases hc:key (p.getD k 0)<key (p.getD ((l+r) / 2) 0)
   ·(rw[fy hc];dsimp only;rw[ed rfl])
    have c:kk key p k<kk key p ((l+r) / 2):=hc;exact rz hp hk hu f l _ () () () h4 λt a b=>Int.lt_of_lt_of_le c (hu _ t a b)
   ·(rw[d4 hc];dsimp only;rw[ee Bool.false_ne_true])
    have c:kk key p ((l+r) / 2)<=kk key p k:=Int.not_lt.mp hc;exact rz hp hk hu f _ r () () () (λt a=>Int.le_trans (hu t _ () ()) c) h5
theorem LC:∀(f:Nat)(p:Array Nat)(k:Nat),Pm n p->k+f<=n->Up key p k->kwp n key (kas_bin f p k) (λp'=>Pm n p'/\Up key p' (k+f))
 |0,p,k,hp,hk,hu=>⟨hp,hu⟩
 |f+1,p,k,hp,hk,hu=>by
  unfold kas_bin;refine gR (cO (λl ⟨a1,a2,a3⟩=>?_) (rz hp () hu k 0 k (Nat.zero_le _) (Nat.le_refl _) () (λt h=>ef h ()) (λt h1 h2=>ef h1 ())));have e:=Sq (key:=key) hp (k:=k) () a1;have d:Up key (YY p k (k - l)) (k+1):=λi j hij hj=>by
   rw[e,e];by_cases hi:i=l
   ·rw[ed hi];by_cases a:j=l
    ·rw[ed a];exact Int.le_refl _
    ·rw[ee a,ed ⟨(),()⟩];exact Int.le_of_lt (a3 _ () ())
   ·rw[ee hi];by_cases b:l<i/\i<=k
    ·rw[ed b,ee (),ed ⟨(),()⟩];exact hu _ _ () ()
    ·rw[ee b];by_cases a:j=l
     ·rw[ed a];exact a2 i ()
     ·rw[ee a];by_cases c:l<j/\j<=k
      ·rw[ed c];exact hu _ _ () ()
      ·rw[ee c];exact hu _ _ hij ()
  refine cO (λp' ⟨b1,b2⟩=>⟨b1,?_⟩) (LC f _ (k+1) (hp.bub _ _) () d);have g:k+(f+1)=k+1+f:=()
  rw[g];exact b2
def Mq(h1:1<=n):kwp n key (kas_sort n) (λp=>Pm n p/\Up key p n):=by
 unfold kas_sort;refine gR (cO (λr ⟨a1,a2,a3,a4⟩=>?_) (Lr (p:=(List.range n).toArray) (Array.Perm.refl _) h1));have e:max r.1 1=r.1:=()
 rw[e];split
 ·refine cO (λp' ⟨b1,b2⟩=>⟨b1,?_⟩) (LC (n - r.1) r.2 r.1 a1 () a4);have a:r.1+(n - r.1)=n:=()
  rw[a]at b2;exact b2
 ·have a:r.1=n:=()
  rw[a]at a4;exact⟨a1,a4⟩
end
end NfSort
namespace L2
open PySem.Spec
variable{X:Cx}
section
variable{prog:Za}{w:Zb}{A:Zr}{E:em}{s:Shared}
section
variable{pos:Pos}
def Oj(K:W.Frag)(n:Nat)(t:TGs):TG:=λv σ H Q=>∃a xs,v=.ref a/\SqL K H a xs/\⇑xs=n/\t xs σ H Q
end
section
def wI:eX X (.builtin "isinstance") (λxs H Q=>∃x c t b,xs=[x,.ty c]/\TyOf X.K H x t/\W.kitOne X.K t (.type c)=some b/\Q (.bl b) H):=by
 intro a s σ H xs us Q I r h;let⟨x,c,t,b,rfl,ty,e,q⟩:=h;let⟨u,g,rfl,f,d⟩:=vals2 r;cases d;exact Gp I f ty e λtk=>⟨.bl b,H,I.tok _,rfl,q⟩
def wH:eX X (.builtin "isinstance") (λxs H Q=>∃x p c1 c2 t b,xs=[x,.ref p]/\TyOf X.K H x t/\SqT X.K H p [.ty c1,.ty c2]/\W.kitAny X.K t [.type c1,.type c2]=some b/\Q (.bl b) H):=by
 intro g s σ H xs us Q I r h;let⟨x,p,c1,c2,t,b,rfl,ty,hp,e,q⟩:=h;let⟨u,L,rfl,f,B⟩:=vals2 r;cases B;let⟨its,D,⟨o,d,j,n,hd⟩,E⟩:=I.tuple hp;let⟨M,N,rfl,v,A⟩:=vals2 D;cases v;cases A;let⟨G,k,l,m⟩:=o;cases j;cases hd;have c:∀tk,EP X g σ Q (.bool b) { s with toks:=tk }:=λtk=>⟨.bl b,H,I.tok _,rfl,q⟩
 cases ty with
 |non=>cases (show u=Value.none from f);exact W.kia_tup W.kitx_none I.kIn True.intro d e (λz=>nomatch z) c
 |bl y=>cases (show u=Value.bool y from f);exact W.kia_tup W.kitx_bool I.kIn True.intro d e (λz=>nomatch z) c
 |int i=>let⟨t,q⟩:=(show ∃t,u=Value.int i t from f);cases q;exact W.kia_tup W.kitx_int I.kIn True.intro d e (λz=>nomatch z) c
 |str y=>let⟨t,q⟩:=(show ∃t,u=Value.str y t from f);cases q;exact W.kia_tup W.kitx_str I.kIn True.intro d e (λz=>nomatch z) c
 |flt y=>let⟨t,q⟩:=(show ∃t,u=Value.float y t from f);cases q;exact W.kia_tup W.kitx_float I.kIn True.intro d e (λz=>nomatch z) c
 |@lst a xs ea =>
  cases (show u=Value.ref a from f);let⟨_,_,n,_,h1⟩:=(show bR X.prog X.w H s.heap a (.lst xs)from I.hok a _ ea)
  exact W.kia_tup W.kitx_list I.kIn ⟨_,h1,rfl⟩ d e (λz=>nomatch z) c
 |@frz a ob xs ea =>
  cases (show u=Value.ref a from f);let⟨_,_,_,n,_,h1⟩:=(show bR X.prog X.w H s.heap a (.frz ob (.lst xs))from I.hok a _ ea)
  exact W.kia_tup W.kitx_list I.kIn ⟨_,h1,rfl⟩ d e (λz=>nomatch z) c
 |@tup a xs ea =>
  cases (show u=Value.ref a from f);let⟨_,_,_,p⟩:=(show bR X.prog X.w H s.heap a (.tup xs)from I.hok a _ ea)
  let⟨o,h1,h2,_⟩:=p;exact W.kia_tup W.kitx_tuple I.kIn ⟨o,h1,h2⟩ d e (λz=>nomatch z) c
 |@dK a kvs ea =>
  cases (show u=Value.ref a from f);let⟨_,_,vs,_,p⟩:=(show bR X.prog X.w H s.heap a (.dK kvs)from I.hok a _ ea)
  let⟨o,es,ep,h1,h2,_⟩:=p;exact W.kia_tup W.kitx_dict I.kIn ⟨o,h1,h2.1⟩ d e (λz=>nomatch z) c
 |@dT a kvs ea =>
  cases (show u=Value.ref a from f);let⟨_,_,xs,_,o,es,ep,h1,h2,_⟩:=(show bR X.prog X.w H s.heap a (.dT kvs)from I.hok a _ ea)
  exact W.kia_tup W.kitx_dict I.kIn ⟨o,h1,h2.1⟩ d e (λz=>nomatch z) c
 |@ins a C dx fs ea cl ha hn htk hm =>
  cases (show u=Value.ref a from f);let⟨F,O,_⟩:=oA I.hok ea;let⟨k,J,_⟩:=O.look;exact W.kia_tup (W.kitx_own (cl.get _) cl.hd ha hn htk hm) I.kIn J d e (λz=>nomatch z) c
theorem Cp:∀{a:List Bool}{us:eC},Vals (a.map V.bl) us->us=a.map Value.bool
 |[],_,h=>by cases h;rfl
 |b::a,_,h=>by
  cases h with
  |cons r t =>
   cases r;rw[Cp t];rfl
def all_range(a:List Bool):(List.range ⇑a).all (λi=>a.getD i true)=a.all id:=by
 rw[Bool.eq_iff_iff];simp only[List.all_eq_true,List.mem_range];constructor
 ·intro h x b;let⟨i,hi,e⟩:=List.mem_iff_getElem.mp b;have q:=h i hi;simp[hi]at q;rw[←e];exact q
 ·intro h i hi;have q:=h a[i] (List.getElem_mem hi);simpa[hi]using q
def G5(hc:X.calm=true):eX X (.builtin "all") (λxs H Q=>∃(p:Addr)(a:List Bool),xs=[.ref p]/\SqL X.K H p (a.map V.bl)/\Q (.bl (a.all id)) H):=by
 intro g s σ H xs us Q I r h;let⟨p,a,rfl,hp,q⟩:=h;let⟨u,rfl,n⟩:=vals1 r;cases n;let⟨its,m,pl,t⟩:=I.list hp;have e:=Cp m;subst e;have f:p≠↥s:=by let⟨o,l,_⟩:=pl.isList;exact Nat.ne_of_lt (Heap.lt_size l)
 refine call_all_walk (YV pl.isList ?_);refine⟨_,_,_,_,_,_,λi=>a.getD i true,rfl,Walks.list (A:=X.A.in1) (I.ok.hd hc) _ p f _,⟨⟨_,Heap.get?_push_size _ rfl,rfl,rfl⟩,pl.isList.push _⟩,?_,λh' tk hk=>?_⟩
 ·intro i v s Q E j k;have c:(a.map Value.bool)[i]?=some v:=↑j
  rw[List.getElem?_map]at c;cases hb:a[i]? with
  |none=>rw[hb]at c;cases c
  |some b =>
   rw[hb]at c;cases c;refine ZN ?_;have e:a.getD i true=b:=by rw[List.getD_eq_getElem?_getD,hb];rfl
   have d:Q (a.getD i true) s:=k;rw[e]at d;exact d
 ·have e:(List.range (a.map Value.bool).toArray.size).all (λi=>a.getD i true)=a.all id:=by
   rw[List.size_toArray,List.length_map];exact all_range a
  rw[e];refine⟨.bl (a.all id),H,I.kept λb o eb=>hk b o ?_ (Heap.get?_push_of_some _ eb),rfl,q⟩;intro hm;have:b=↥s:=↑hm
  exact ef (Heap.lt_size eb) (by rw[this];exact Nat.lt_irrefl _)
def SN{prog:Za}{w:Zb}{A:Zr}{E:em}{s:Shared}{l:Addr}{n:Nat}{x:Int}{t:Tok}{u:Value}{Q:em}{its:eC}(b:s.heap.get? l=some { cls:=.type "list",data:=.seq its.toArray n })(a:¬(!Builtin.List.listFitsIndex x)=true)(hsz:its.toArray.size<=sizeLine)(h:Q .none { s with heap:=s.heap.update l (Obj.mapSeq λxs=>(xs.extract 0 (if x<0 then(x+(xs.size:Int)).toNat else min x.toNat xs.size)).push u++xs.extract (if x<0 then(x+(xs.size:Int)).toNat else min x.toNat xs.size)),toks:=s.toks }) :
  wpAny (model prog w) A (Z4 (.builtin "list.insert") [.ref l,.int x t,u]) Q E s:=by
 generalize its.toArray=c at b hsz;exact YL PySem.F.slot_list_insert ⟨_,b,rfl⟩ PySem.F.entry_list_insert (PySem.F.args_list_insert_3 _ _ _) (PySem.AutoSeq1.list_insert_list_int_val_1 l c n x t u a hsz) ⟨b,h⟩
def CQ:V->List V->Hp->VK->Prop:=λx vs H Q=>∃l xs k y,x=.ref l/\vs=[.int (k:Nat),y]/\H l=some (.lst xs)/\k<=⇑xs/\⇑xs<sizeLine/\Q .non (upd H l (.lst (xs.take k++y::xs.drop k)))
def Gb:MtM X "list.insert" CQ:=by
 intro f s σ H x vs v us Q I A w h;let⟨l,xs,k,y,rfl,rfl,d,hk,C,q⟩:=h;cases A;let⟨D,u,rfl,⟨t,rfl⟩,p⟩:=w.two;let⟨z,its,n,r,hl,e⟩:=I.vP d;have j:(sizeLine:Nat)=16777216:=Z9;have a:¬(!Builtin.List.listFitsIndex (k:Int))=true:=by
  have m:decide (-(2 ^ 63:Int)<=(k:Int))=true:=fy ();have o:decide ((k:Int)<2 ^ 63)=true:=fy ();unfold Builtin.List.listFitsIndex;rw[m,o];exact Bool.false_ne_true
 have hsz:its.toArray.size<=sizeLine:=by
  have g:its.toArray.size=⇑xs:=(List.size_toArray ..).trans hl.symm;rw[g];exact z
 have b:¬((k:Int)<0):=()
 have c:(k:Int).toNat=k:=Int.toNat_natCast k;generalize B:(k:Int)=x at a b c;refine SN (its:=its) e a hsz ?_;refine⟨.non,_,I.J0 (its':=its.take k++u::its.drop k) d e ?_ ?_ ?_,rfl,q⟩
 ·have hm:min k ⇑its=k:=()
  have i:=W.kl_ins_eq its k u;simp only[b,if_false,c,List.size_toArray,hm];exact i
 ·exact(r.take k).append (.cons p (r.drop k))
 ·rw[List.length_append,List.length_cons,List.length_take,List.length_drop];lia
def GX:eX X (.type "range") (λxs H Q=>∃j,xs=[.int j]/\∀p,H p=none->Q (.ref p) (upd H p (.rng 0 j))):=by
 intro a s σ H xs us Q I r h;let⟨j,rfl,q⟩:=h;let⟨u,rfl,t,rfl⟩:=vals1 r;refine call_range_1 ?_;exact⟨.ref ↥s,_,I.laid (o:=.rng 0 j) (λb o e=>Heap.get?_push_of_some _ e) (Nat.le_refl _) ⟨_,_,_,Heap.get?_push_size _ rfl⟩,rfl,q _ I.fresh⟩
def wZ(lo hi:Int):List V:=(List.range (hi - lo).toNat).map λi=>V.int (lo+(i:Nat))
def zG{lo:Int}:∀{n:Nat}{us:eC},⇑us=n->(∀j v,us[j]?=some v->∃t,v=Value.int (lo+(j:Nat) * 1) t)->Vals ((List.range n).map λi=>V.int (lo+(i:Nat))) us:=by
 intro n us hl h;have key:∀(us:eC)(k:Nat),(∀j v,us[j]?=some v->∃t,v=Value.int (lo+(~~~(k+j))) t)->Vals ((List.range' k ⇑us).map λi=>V.int (lo+(i:Nat))) us:=by
  intro us;induction us with
  |nil=>intro k _;exact .nil
  |cons u us ih =>
   intro k hk;let⟨t,e⟩:=hk 0 u (by simp);rw[List.length_cons,List.range'_succ,List.map_cons];refine .cons ⟨t,↑e⟩ (ih (k+1) λj v hv=>?_);let⟨t,e⟩:=hk (j+1) v ↑hv;exact⟨t,by rw[e];congr 2;lia⟩
 have q:=key us 0 λj v hv=>by
  let⟨t,e⟩:=h j v hv;exact⟨t,by rw[e];simp⟩
 rw[hl,←List.range_eq_range']at q;exact q
def uy(hc:X.calm=true):eX X (.type "list") (λxs H Q=>∃p lo hi,xs=[.ref p]/\H p=some (.rng lo hi)/\(-1000<=lo/\lo<=1000/\-1000<=hi/\hi<=1000)/\∀l,H l=none->Q (.ref l) (upd H l (.lst (wZ lo hi)))):=by
 intro a s σ H xs us Q I r h;let⟨p,lo,hi,rfl,hp,⟨b1,b2,b3,b4⟩,q⟩:=h;let⟨u,rfl,b⟩:=vals1 r;cases b;let⟨t,u,v,e⟩:=I.hok p _ hp;have hsz:Builtin.Range.rangeSize lo hi 1=(~~~((hi - lo).toNat)):=by rw[Z3];split <;> lia
 refine call_list_range (I.ok.hd hc) (show IsRange s.heap p lo hi 1 t u v from e) (small_one () () () ()) hsz () λh' tk acc' c' hk ho ⟨hn,hit⟩=>?_;have hv:Vals (wZ lo hi) acc'.toList:=zG ↑hn λj w hw=>hit j w ↑hw;refine⟨.ref ↥s,_,I.laid (o:=.lst (wZ lo hi)) hk (Nat.le_refl _) ⟨?_,acc'.toList,c',hv,↑ho⟩,rfl,q _ I.fresh⟩;unfold wZ;rw[List.length_map,List.length_range,Z9];lia
end
abbrev Tie:=Int×Int
def Pr(H:Hp)(v:V)(t:Tie):Prop:=∃p,v=.ref p/\H p=some (.tup [.int t.1,.int t.2])
abbrev Prs(H:Hp):List V->ez->Prop:=Paired (Pr H)
def bA(t:Tie):Int:=64 * t.1+t.2
def pW(t:Tie):Prop:=0<=t.2/\t.2<64
def code_inj{a b:Tie}(ha:pW a)(hb:pW b)(h:bA a=bA b):a=b:=by
 let⟨c,d⟩:=a;let⟨b1,b2⟩:=b;unfold pW bA at *;simp only at *;have e:c=b1:=()
 have f:d=b2:=()
 rw[e,f]
def j9(h:Heap)(u:Value)(t:Tie):Prop:=∃a o t1 t2 n,u=.ref a/\h.get? a=some o/\o.cls=.type "tuple"/\o.data=.seq #[.int t.1 t1,.int t.2 t2] n
def j9.keep{h h':Heap}{u:Value}{t:Tie}(x:j9 h u t)(k:∀a o,h.get? a=some o->o.cls=.type "tuple"->h'.get? a=some o):j9 h' u t:=by
 let⟨a,o,c,t2,n,e,b,hc,hd⟩:=x;exact⟨a,o,c,t2,n,e,k a o b hc,hc,hd⟩
def U9{α β:Type}{F:α->β->Prop}{d:List α}{g:List β}(h:Paired F d g):∀{i:Nat}{b:β},g[i]?=some b->∃a,d[i]?=some a/\F a b:=by
 induction h with
 |nil=>intro i x e;simp at e
 |cons r t ih =>
  intro i x e;cases i with
  |zero=>simp at e;subst e;exact⟨_,rfl,r⟩
  |succ i =>
   let⟨c,j,f⟩:=ih ↑e;exact⟨c,↑j,f⟩
theorem Jh{α β:Type}{F:α->β->Prop}{d:List α}{c:List β}(h:Paired F d c)(g:α)(k:β):∀(p:eA),(∀i∈p,i<⇑c)->Paired F (p.map λi=>d.getD i g) (p.map λi=>c.getD i k)
 |[],_=>.nil
 |i::p,hp=>by
  have hi:i<⇑c:=hp i List.mem_cons_self;let⟨a,e,f⟩:=U9 h (i:=i) (b:=c[i]) (by simp[hi]);refine .cons ?_ (Jh h g k p λj hj=>hp j (List.mem_cons_of_mem _ hj));have l:d.getD i g=a:=by rw[List.getD_eq_getElem?_getD,e];rfl
  have m:c.getD i k=c[i]:=by simp[hi]
  show F (d.getD i g) (c.getD i k);rw[l,m];exact f
theorem UL{α:Type}:∀us:List α,List.map (λx=>x.snd) (us.zip us)=us
 |[]=>rfl
 |u::us=>by rw[List.zip_cons_cons,List.map_cons,UL us]
def jR{α:Type}(l:List α)(d:α):(List.range ⇑l).map (λi=>l.getD i d)=l:=by
 apply List.ext_getElem
 ·simp
 ·intro i h1 h2;simp at h1 ⊢;simp[h1]
section
variable{pins:er}{σ:St}{H:Hp}{s:Shared}
theorem Inv.pairs(I:Inv X pins σ H s):∀{vs:List V}{b:ez}{us:eC},Prs H vs b->Vals vs us->Paired (j9 s.heap) us b
 |_,_,_,.nil,r=>by cases r;exact .nil
 |_,_,_,.cons p q,r=>by
  cases r with
  |cons r rr =>
   refine .cons ?_ (I.pairs q rr);let⟨a,rfl,e⟩:=p;cases r;let⟨_,its,d,⟨o,c,hc,n,hd⟩⟩:=I.hok a _ e;let⟨g,h,rfl,⟨f,rfl⟩,⟨t2,rfl⟩⟩:=vals2 d;exact⟨a,o,f,t2,n,rfl,c,hc,hd⟩
end
def JZ{x y:Value}{a b:Tie}{Q:Bool->Shared->Prop}(q:j9 s.heap x a)(r:j9 s.heap y b)(k:pW a)(nb:pW b)(h:Q (decide (bA a<bA b)) s):wpAny (model prog w) A (keyLt' (Y2 true) x y) Q E s:=by
 let⟨p,o,B,t2,n,rfl,m,hc,hd⟩:=q;let⟨z,o',t,u,v,rfl,g,l,f⟩:=r;let⟨c,d⟩:=a;let⟨b1,b2⟩:=b;unfold pW at k nb;simp only at k nb;refine W.kat_lt m hd g f ?_;refine W.kat_cons (Zm ?_);by_cases i:c=b1
 ·subst i;rw[ei];refine W.kat_yes (W.kat_cons (Zm ?_));by_cases j:d=b2
  ·subst j;rw[ei];refine W.kat_yes (W.kat_nil ?_);have e:decide (bA (c,d)<bA (c,d))=false:=d4 (Int.lt_irrefl _);rw[e]at h;exact h
  ·rw[beq_eq_false_iff_ne.mpr j];refine W.kat_no (W.kat_one _ _ (Z7 ?_));have e:decide (bA (c,d)<bA (c,b2))=decide (d<b2):=by
    apply decide_eq_decide.mpr;unfold bA;lia
   rw[e]at h;exact h
 ·rw[beq_eq_false_iff_ne.mpr i];refine W.kat_no (oneLt_int ?_);have e:decide (bA (c,d)<bA (b1,b2))=decide (c<b1):=by
   apply decide_eq_decide.mpr;unfold bA;simp only;constructor
   ·intro h;lia
   ·intro h;lia
  rw[e]at h;exact h
theorem Kf:∀{us:eC}{d:ez},Paired (j9 s.heap) us d->∃fs,W.KatTups s.heap us fs/\⇑fs=⇑us/\∀v∈fs,∃i t,v=Value.int i t
 |_,_,.nil=>⟨[],.nil,rfl,λ_ h=>nomatch h⟩
 |_,_,.cons p q=>by
  let⟨a,o,c,t2,n,rfl,b,hc,hd⟩:=p;let⟨fs,k,hl,hv⟩:=Kf q;refine⟨_::fs,.cons b hc hd (f:=Value.int _ c) rfl k,by simp[hl],λv hv'=>?_⟩;rcases List.mem_cons.mp hv' with rfl|h
  ·exact⟨_,_,rfl⟩
  ·exact hv v h
def Uc{n:Nat}{key:Nat->Int}{p:Array Nat}(hp:NfSort.Pm n p)(h1:1<=n)(hs:NfSort.Up key p n):NfSort.kwp n key (W.kas_count n p) (λr=>r.1=n/\r.2=p):=by
 unfold W.kas_count;have b:∀(f a:Nat),1<=a->a+f=n->NfSort.kwp n key (W.kas_asc p f a) (λm=>m=n):=by
  intro f;induction f with
  |zero=>intro a _ h;exact h
  |succ f ih =>
   intro a ha h;refine⟨hp.lt (),hp.lt (),?_⟩;have hc:¬key (p.getD a 0)<key (p.getD (a - 1) 0):=Int.not_lt.mpr (hs (a - 1) a () ());rw[d4 hc];exact ih (a+1) () ()
 refine NfSort.gR (NfSort.cO (λm e=>?_) (b (n - 1) 1 (Nat.le_refl _) ()));rw[ed ↑e];exact⟨e,rfl⟩
open PySem.W in
def Mw{prog:Za}{w:Zb}{A:Zr}{E:em}{κ:Y3}{it:Array Keyed}{n:Nat}{Q:Unit->Y4->Shared->Prop}{G:Array Nat->Shared->Prop}{s:Shared}(h2:2<=n)(hmr:minRun' n n 0<=n)(d:∀p' st' s',p'.size=n->Y5 st'=p'.map (kas_item it)->Y6 st'=none->G p' s'->Q .unit st' s')(h:(Y1 n (List.toArray (List.range n))).kasWp (kas_cmp prog w A κ it) (λr s'=>r.1=n/\G r.2 s') s) :
  kasC (model prog w) A E Y7 Q (Y8 κ it (List.toArray (List.range n))) s:=by
 obtain⟨r,rfl⟩:∃r,n=r+2:=⟨n - 2,()⟩
 have a:(List.toArray (List.range (r+2))).size=r+2:=by simp
 rw[sortRuns'_eq];refine Y9 (Xl ?_);dsimp only;have hsz:(Y5 (Y8 κ it (List.toArray (List.range (r+2))))).size=r+2:=by
  show((List.toArray (List.range (r+2))).map (kas_item it)).size=_;rw[Array.size_map,a]
 simp only[hsz];refine Y9 (kasC_range ?_);show kasC _ _ _ (forIn (0::1::List.range' 2 r) _ _) _ _ _;refine Xm ?_;dsimp only;rw[ee ()];simp only[Nat.sub_zero,Nat.zero_add];refine Y9 (kas_count_ () (by rw[a];exact Nat.le_refl _) (λm p' s' hm1 hm2 hp hg=>?_) h);have b:p'.size=r+2:=hp.trans a;let⟨e,hg⟩:=hg;have c:m=r+2:=e;subst c;dsimp only;rw[ee ()];refine Y9 (Xl ?_);rw[show(Xn (Y8 κ it p')).back?=none from rfl];dsimp only;refine Y9 (kasC_modify (Xo ?_));show kasC _ _ _ (forIn (1::List.range' 2 r) _ _) _ _ _;refine Xm ?_;dsimp only;rw[ed (Nat.le_refl _)];refine Xo ?_;dsimp only;refine Y9 (kasC_range ?_);show kasC _ _ _ (forIn (0::1::List.range' 2 r) _ _) _ _ _;refine Xm ?_;refine Y9 (Xl ?_);rw[ed (show(Xn (Xp (Y8 κ it p') ((Xn (Y8 κ it p')).push (0,r+2,0)))).size<=1 from Nat.le_refl 1)];refine Xo ?_;dsimp only;exact Xo (d p' _ _ b rfl rfl hg)
def Srt(a:ez):Prop:=⇑a<64\/⇑a=300/\∀i j,i<=j->j<⇑a->bA (a.getD i (0,0))<=bA (a.getD j (0,0))
theorem Srt.lt{a:ez}:Srt a->⇑a<512
 |.inl h=>()
 |.inr h=>()
def Fi{a:Addr}{us:eC}{c:ez}{n:Nat}{P:PySem.Fin->Shared->Prop}(K:s.heap.get? a=some (Xq "list" us.toArray n))(hp:Paired (j9 s.heap) us c)(hn:∀t∈c,pW t)(d:Srt c)(h:∀p:eA,p.Perm (List.range ⇑us)->(∀i j,i<=j->j<⇑us->bA (c.getD (p.getD i 0) (0,0))<=bA (c.getD (p.getD j 0) (0,0))) ->
   P (.done (.ret .none)) { s with heap:=sortedHeap s.heap a us (p.map λi=>us.getD i Value.none).toArray }) :
  wpAny (model prog w) A (Builtin.«list.sort» ⟨[.ref a],[]⟩) P E s:=by
 have I:=⇑hp;have hbig:=d.lt;have h24:=Z9;rw[list_sort_plain];have ha:a<↥s:=Heap.lt_size K;refine wpAny_bind (Xr K rfl ?_);refine wpAny_bind (Xs K rfl ?_ (by rw[List.size_toArray,Z9];lia) (Nat.zero_le _));obtain⟨B,L⟩:∃B,(s.heap.update a (Obj.mapSeq λ_=>(#[]:eB))).get? a=some (Xq "list" #[] B):=⟨_,Xu K (λ_=>#[])⟩
 refine wpAny_bind (Xv L rfl ?_);refine wpAny_bind (Xw ?_ (by show ⇑us<=_;rw[Z9];lia));refine wpAny_bind (Xx ?_ (Nat.zero_le _));refine Yw ?_;have l:(((s.heap.update a (Obj.mapSeq λ_=>(#[]:eB))).push (Xq "tuple" us.toArray 0)).push (Xq "list" #[] 0)).get? a=some (Xq "list" #[] B):=by
  rw[Heap.get?_push_ne _ _ _ (by rw[Xy,Heap.size_update];exact Nat.ne_of_lt (Nat.lt_succ_of_lt ha)),Heap.get?_push_ne _ _ _ (by rw[Heap.size_update];exact Nat.ne_of_lt ha)];exact L
 have R:∀b o,s.heap.get? b=some o->o.cls=.type "tuple"->(((s.heap.update a (Obj.mapSeq λ_=>(#[]:eB))).push (Xq "tuple" us.toArray 0)).push (Xq "list" #[] 0)).get? b=some o:=λb o q hc=>by
  have J:b<↥s:=Heap.lt_size q;have Y:b≠a:=λz=>by
   rw[z,K]at q;cases q;have z2:(Value.type "list")=Value.type "tuple":=hc;injection z2 with z3
   exact ef z3 ∅
  rw[Heap.get?_push_ne _ _ _ (by rw[Xy,Heap.size_update];exact Nat.ne_of_lt (Nat.lt_succ_of_lt J)),Heap.get?_push_ne _ _ _ (by rw[Heap.size_update];exact Nat.ne_of_lt J),Heap.get?_update_ne _ _ _ _ Y];exact q
 show wpAny (model prog w) A _ P E { s with heap:=((s.heap.update a (Obj.mapSeq λ_=>(#[]:eB))).push (Xq "tuple" us.toArray 0)).push (Xq "list" #[] 0)};dsimp only;have hsz:us.toArray.size=⇑us:=by simp
 have N:Paired (j9 (((s.heap.update a (Obj.mapSeq λ_=>(#[]:eB))).push (Xq "tuple" us.toArray 0)).push (Xq "list" #[] 0))) us c:=Paired.Ax hp λu t x=>x.keep R;by_cases h2:us.toArray.size<2
 ·rw[ed h2,ed h2];refine wpAny_bind (Z0 ?_);rw[StateT.run_pure];refine wpAny_bind (Z0 ?_);dsimp only;have F:(Y5 (SortSt.mk' general' (us.toArray.zip us.toArray) #[] 7 none)).map (·.2)=((List.range ⇑us).map λi=>us.getD i Value.none).toArray:=by
   rw[jR];show(us.toArray.zip us.toArray).map (·.2)=us.toArray;apply Array.toList_inj.mp;simp;exact UL us
  rw[F];refine wpAny_bind (Xv l rfl ?_);refine wpAny_bind (Xs l rfl ?_ (Nat.zero_le _) (by rw[List.size_toArray,List.length_map,List.length_range,Z9];lia));simp only[bne_self_eq_false,Bool.false_eq_true,if_false];refine Z0 (h _ (List.Perm.refl _) λi j hij hj=>?_);have:i=j:=()
  subst this;exact Int.le_refl _
 ·rw[ee h2,ee h2];have H:2<=⇑us:=()
  let⟨fs,hk,hfl,X⟩:=Kf (s:={ s with heap:=((s.heap.update a (Obj.mapSeq λ_=>(#[]:eB))).push (Xq "tuple" us.toArray 0)).push (Xq "list" #[] 0)}) N;refine wpAny_bind (W.kat_kind (T:=.type "int") hk () (λv hv=>by let⟨i,t,rfl⟩:=X v hv;exact W.Looks.of_pure rfl) rfl ?_);have m:∀i j C,i<⇑us->j<⇑us->C (decide (bA (c.getD i (0,0))<bA (c.getD j (0,0)))) { s with heap:=((s.heap.update a (Obj.mapSeq λ_=>(#[]:eB))).push (Xq "tuple" us.toArray 0)).push (Xq "list" #[] 0)} ->
    W.kas_cmp prog w A (Y2 true) (us.toArray.zip us.toArray) i j C { s with heap:=((s.heap.update a (Obj.mapSeq λ_=>(#[]:eB))).push (Xq "tuple" us.toArray 0)).push (Xq "list" #[] 0)}:=λi j C hi hj hC=>by
   unfold W.kas_cmp;rw[W.kat_item rfl,W.kat_item rfl];have key:∀k,k<⇑us->j9 (((s.heap.update a (Obj.mapSeq λ_=>(#[]:eB))).push (Xq "tuple" us.toArray 0)).push (Xq "list" #[] 0)) (us.getD k Value.none) (c.getD k (0,0))/\pW (c.getD k (0,0)):=λk hk=>by
    have y:k<⇑c:=()
    have ek:c.getD k (0,0)=c[k]:=by simp[y]
    let⟨u,eu,pu⟩:=U9 N (i:=k) (b:=c[k]) (by simp[y]);have U:us.getD k Value.none=u:=by rw[List.getD_eq_getElem?_getD,eu];rfl
    rw[ek,U];exact⟨pu,hn _ (List.getElem_mem y)⟩
   exact JZ (key i hi).1 (key j hj).1 (key i hi).2 (key j hj).2 hC
  have G:W.kasC (model prog w) A E Y7 (λ_ f g=>∃p:Array Nat,g={ s with heap:=((s.heap.update a (Obj.mapSeq λ_=>(#[]:eB))).push (Xq "tuple" us.toArray 0)).push (Xq "list" #[] 0)}/\Y5 f=p.map (W.kas_item (us.toArray.zip us.toArray))/\Y6 f=none/\NfSort.Pm ⇑us p/\NfSort.Up (λi=>bA (c.getD i (0,0))) p ⇑us) (W.kas_st (Y2 true) (us.toArray.zip us.toArray) (List.toArray (List.range ⇑us))) { s with heap:=((s.heap.update a (Obj.mapSeq λ_=>(#[]:eB))).push (Xq "tuple" us.toArray 0)).push (Xq "list" #[] 0)}:=by
   rcases d with d|⟨d,hs⟩
   ·exact W.kas_runs (G:=λp g=>g={ s with heap:=((s.heap.update a (Obj.mapSeq λ_=>(#[]:eB))).push (Xq "tuple" us.toArray 0)).push (Xq "list" #[] 0)}/\NfSort.Pm ⇑us p/\NfSort.Up (λi=>bA (c.getD i (0,0))) p ⇑us) H () (λp' f g a1 a2 a3 a4=>⟨p',a4.1,a2,a3,a4.2⟩)
     (NfSort.vV m (NfSort.cO (λp hp=>⟨rfl,hp⟩) (NfSort.Mq ())))
   ·have hu:NfSort.Up (λi=>bA (c.getD i (0,0))) (List.toArray (List.range ⇑us)) ⇑us:=λi j hij hj=>by
     unfold NfSort.kk;have D:∀k,k<⇑us->(List.toArray (List.range ⇑us)).getD k 0=k:=λk hk=>by simp[Array.getD,hk]
     rw[D i (),D j hj];exact hs i j hij ()
    exact Mw (G:=λp g=>g={ s with heap:=((s.heap.update a (Obj.mapSeq λ_=>(#[]:eB))).push (Xq "tuple" us.toArray 0)).push (Xq "list" #[] 0)}/\NfSort.Pm ⇑us p/\NfSort.Up (λi=>bA (c.getD i (0,0))) p ⇑us) H (by rw[I,d];decide +kernel) (λp' f g a1 a2 a3 a4=>⟨p',a4.1,a2,a3,a4.2⟩)
     (NfSort.vV (G:=λr g=>r.1=⇑us/\g={ s with heap:=((s.heap.update a (Obj.mapSeq λ_=>(#[]:eB))).push (Xq "tuple" us.toArray 0)).push (Xq "list" #[] 0)}/\NfSort.Pm ⇑us r.2/\NfSort.Up (λi=>bA (c.getD i (0,0))) r.2 ⇑us) m (NfSort.cO (λr ⟨B,e2⟩=>⟨B,rfl,by rw[e2];exact⟨Array.Perm.refl _,hu⟩⟩) (Uc (Array.Perm.refl _) () hu)))
  have S:SortSt.mk' (Y2 true) (us.toArray.zip us.toArray) #[] 7 none=W.kas_st (Y2 true) (us.toArray.zip us.toArray) (List.toArray (List.range ⇑us)):=by
   have e:=W.kas_range (us.toArray.zip us.toArray);rw[show(us.toArray.zip us.toArray).size=⇑us by simp]at e;show SortSt.mk' (Y2 true) (us.toArray.zip us.toArray) #[] 7 none=SortSt.mk' (Y2 true) ((List.toArray (List.range ⇑us)).map (W.kas_item (us.toArray.zip us.toArray))) #[] 7 none;rw[e]
  have eT:Y2 (Value.type "int" != Value.type "tuple")=Y2 true:=rfl;rw[eT,S];refine wpAny_bind (ZG G ?_ λ_ _ e=>e);rintro⟨⟨⟩,f⟩ g ⟨p,rfl,V,hf,O,Z⟩;dsimp only;have M:=W.kat_snds (ks:=us) (vs:=us) rfl V;rw[M];have Q:p.size=⇑us:=O.size;refine wpAny_bind (Xv l rfl ?_);refine wpAny_bind (Xs l rfl ?_ (Nat.zero_le _) (by rw[List.size_toArray,List.length_map,Array.length_toList,Q,Z9];lia));rw[hf];simp only[bne_self_eq_false,Bool.false_eq_true,if_false];refine Z0 (h p.toList ?_ λi j hij hj=>?_)
  ·have:=Array.perm_iff_toList_perm.mp O;simpa using this
  ·have q:=Z i j hij hj;unfold NfSort.kk at q;have D:∀k,p.toList.getD k 0=p.getD k 0:=λk=>by
    rw[NfSort.getD_eq,List.getD_eq_getElem?_getD];simp
   rw[D,D];exact q
def tG{l:Addr}{vs:eC}{Q:eC->Shared->Prop}(hl:IsTup s.heap l vs.toArray)(h:Q vs { s with heap:=(s.heap.push (Xq "list" #[] 0)).update ↥s (Obj.mapSeq (·++vs.toArray))})(hsz:⇑vs<=sizeLine) :
  wpAny (model prog w) A (Xz (.ref l)) Q E s:=by
 let⟨o,b,hc,n,hd⟩:=id hl;unfold Xz;refine wpAny_bind (XA (XB XC ?_));show wpAny _ _ (do again (.builtin "list.__iadd__" ⟨[←YT [],.ref l],[]⟩)) _ _ s;refine wpAny_bind (Xx (Z0 ⟨Code.quiet_builtin _ ⋯,XB XD ?_⟩));show wpAny _ _ (Builtin.List.listExtendWith (.ref ↥s) (.ref l) (.ref ↥s)) _ _ { s with heap:=s.heap.push (Xq "list" #[] 0)};unfold Builtin.List.listExtendWith;have a:(s.heap.push (Xq "list" #[] 0)).get? l=some o:=Heap.get?_push_of_some _ b;refine wpAny_bind (wpAny_typeOf (T:="tuple") ⟨o,a,hc⟩ ?_);have ht:(Value.type "tuple"==Value.type "tuple")=true:=by rfl
 rw[ed (by rw[ht];simp)];refine wpAny_bind (Xr a hd ?_);refine wpAny_bind (Xr (xs:=#[]) (n:=0) (Heap.get?_push_size _ rfl) rfl ?_);rw[ee (by simp)];refine wpAny_bind (Xs (xs:=#[]) (n:=0) (Heap.get?_push_size _ rfl) rfl ?_ (Nat.zero_le _) (by show(#[]++vs.toArray).size<=sizeLine+1;simp only[Array.size_append,List.size_toArray,List.length_nil];lia));refine Z0 ?_;show wpAny (model prog w) A (do
   let o ←load ↥s
   match o.data with
   |.seq xs _=>pure xs.toList
   |_=>unsupported "internal:collect") Q E { s with heap:=(s.heap.push (Xq "list" #[] 0)).update ↥s (Obj.mapSeq (·++vs.toArray))}
 refine wpAny_bind (Z1 (Xu (Heap.get?_push_size _ rfl) _) ?_);show wpAny _ _ (pure ((#[]:eB)++vs.toArray).toList) Q E _;rw[show((#[]:eB)++vs.toArray).toList=vs by simp];exact Z0 h
def vm{l:Addr}{us:eC}{k:ez}{Q:em}(hl:s.heap.IsList l us.toArray\/IsTup s.heap l us.toArray)(hp:Paired (j9 s.heap) us k)(hn:∀t∈k,pW t)(d:Srt k)(h:∀p:eA,p.Perm (List.range ⇑us)->(∀i j,i<=j->j<⇑us->bA (k.getD (p.getD i 0) (0,0))<=bA (k.getD (p.getD j 0) (0,0))) ->
   Q (.ref (↥s+1)) { s with heap:=sortedAll s.heap us (p.map λi=>us.getD i Value.none).toArray }) :
  wpAny (model prog w) A (Z4 (.builtin "sorted") [.ref l]) Q E s:=by
 have y:=Z9;have r:=⇑hp;have n:=d.lt;refine Calls.call_function_entry XE XF XG (args_sorted1 _) ?_;unfold Builtin.«sorted»;refine wpAny_bind (m:=XH "sorted" 1 1 _) (Z0 ?_);have hsz:((s.heap.push (Xq "list" #[] 0)).update ↥s (Obj.mapSeq (·++us.toArray))).objs.size=↥s+1:=by
  rw[Heap.size_update,Xy]
 have f:(((s.heap.push (Xq "list" #[] 0)).update ↥s (Obj.mapSeq (·++us.toArray))).push (Xq "list" us.toArray 0)).get? (↥s+1)=some (Xq "list" us.toArray 0):=by
  rw[←hsz];exact Heap.get?_push_size _ rfl
 have g:∀b o,s.heap.get? b=some o->(((s.heap.push (Xq "list" #[] 0)).update ↥s (Obj.mapSeq (·++us.toArray))).push (Xq "list" us.toArray 0)).get? b=some o:=λb o q=>by
  have c:b<↥s:=Heap.lt_size q;rw[Heap.get?_push_ne _ _ _ (by rw[hsz];exact Nat.ne_of_lt (Nat.lt_succ_of_lt c)),Heap.get?_update_ne _ _ _ _ (Nat.ne_of_lt c),Heap.get?_push_ne _ _ _ (Nat.ne_of_lt c)];exact q
 have v:∀{Q':eC->Shared->Prop},Q' us { s with heap:=(s.heap.push (Xq "list" #[] 0)).update ↥s (Obj.mapSeq (·++us.toArray))}->wpAny (model prog w) A.in1 (Xz (.ref l)) Q' (λe s'=>E e s') s:=λ{Q'} hq=>by
  rcases hl with hl|hl
  ·exact collect_list hl hq ()
  ·exact tG hl hq ()
 refine wpAny_bind (v ?_);refine wpAny_bind (Xx ?_ ());show wpAny _ _ _ _ _ { s with heap:=((s.heap.push (Xq "list" #[] 0)).update ↥s (Obj.mapSeq (·++us.toArray))).push (Xq "list" us.toArray 0)};rw[hsz];refine wpAny_bind (Yw (Yy XI ⟨_,f,rfl⟩ XJ (Fi f (Paired.Ax hp λu t x=>x.keep λa o e _=>g a o e) hn d λp a1 a2=>⟨_,rfl,?_⟩) (XM _)));exact Z0 ⟨_,rfl,h p a1 a2⟩
end
section
def wU{c:ez}{p:eA}(hp:p.Perm (List.range ⇑c))(h:∀i j,i<=j->j<⇑c->bA (c.getD (p.getD i 0) (0,0))<=bA (c.getD (p.getD j 0) (0,0))) :
  (p.map λi=>c.getD i (0,0)).Perm c/\(p.map λi=>c.getD i (0,0)).Pairwise (λa b=>bA a<=bA b):=by
 refine⟨?_,?_⟩
 ·have q:=hp.map λi=>c.getD i (0,0);rw[jR]at q;exact q
 ·have hl:⇑p=⇑c:=↑hp.length_eq
  rw[List.pairwise_iff_getElem];intro i j hi d g;rw[List.length_map]at hi d;have q:=h i j () ();have e:p.getD i 0=p[i]:=by simp[hi]
  have f:p.getD j 0=p[j]:=by simp[d]
  rw[e,f]at q;simpa using q
def wC:eX X (.builtin "sorted") (λxs H Q=>∃(p:Addr)(vs:List V)(c:ez),xs=[.ref p]/\(SqL X.K H p vs\/SqT X.K H p vs)/\Prs H vs c/\(∀t∈c,pW t)/\Srt c /\
  ∀l ws us,H l=none->Prs H ws us->us.Perm c->us.Pairwise (λa b=>bA a<=bA b)->Q (.ref l) (upd H l (.lst ws))):=by
 intro v s σ H xs us Q I r h;let⟨p,vs,c,rfl,hp,f,hn,m,q⟩:=h;let⟨u,rfl,L⟩:=vals1 r;cases L;have E:=Z9;have k:∀its:eC,Vals vs its->(s.heap.IsList p its.toArray\/IsTup s.heap p its.toArray)->wpAny (model X.prog X.w) X.A (Z4 (.builtin "sorted") [.ref p]) (EP X v σ Q) X.xe s:=λits g hl=>by
  have y:=I.pairs f g;have D:=⇑f;have x:=⇑g;have C:=m.lt;refine vm hl y hn m λpp hpp hord=>?_;have j:⇑its=⇑c:=()
  rw[j]at hpp hord;let⟨d,z⟩:=wU hpp hord;have n:∀i∈pp,i<⇑c:=λi hi=>List.mem_range.mp (hpp.mem_iff.mp hi);have G:=Jh f V.non (0,0) pp n;have B:Vals (pp.map λi=>vs.getD i V.non) (pp.map λi=>its.getD i Value.none):=Jh g V.non Value.none pp λi hi=>by have:=n i hi;lia
  let⟨e,he⟩:=sortedAll_at s.heap its (pp.map λi=>its.getD i Value.none).toArray;refine⟨.ref (↥s+1),upd H (↥s+1) (.lst (pp.map λi=>vs.getD i V.non)),I.laid (t':=s.toks) (λb o eb=>XN eb) (Nat.le_succ _) ?_,rfl,q _ _ _ (I.hok.fresh (Nat.le_succ _)) G d z⟩;refine⟨?_,_,e,B,he⟩;have F:⇑pp=⇑c:=↑hpp.length_eq
  rw[List.length_map];lia
 rcases hp with hp|hp
 ·let⟨its,g,pl,J⟩:=I.list hp;exact k its g (.inl pl.isList)
 ·let⟨its,g,pl,J⟩:=I.tuple hp;exact k its g (.inr pl)
def pD(t:Tie):XO:=.tuple [.int t.1,.int t.2]
theorem KY:∀ts us:ez,PyData.eqvAll (ts.map pD) (us.map pD)=decide (ts=us)
 |[],[]=>rfl
 |[],_::_=>rfl
 |_::_,[]=>rfl
 |t::ts,u::us=>by
  show(PyData.eqv (pD t) (pD u)&&PyData.eqvAll (ts.map pD) (us.map pD))=_;rw[KY ts us];have e:PyData.eqv (pD t) (pD u)=decide (t=u):=by
   show((t.1==u.1)&&((t.2==u.2)&&true))=_;rw[Bool.and_true,Bool.eq_iff_iff];simp[Prod.ext_iff]
  rw[e,Bool.eq_iff_iff];simp
inductive DatV(K:W.Frag)(H:Hp):V->XO->Prop
 |lst {a:Addr}{vs:List V}{ts:ez}:SqL K H a vs->Prs H vs ts->DatV K H (.ref a) (.list (ts.map pD))
 |tup {a:Addr}{vs:List V}{ts:ez}:SqT K H a vs->Prs H vs ts->DatV K H (.ref a) (.tuple (ts.map pD))
 |web {a b:Addr}{n:Int}{vs:List V}{ts:ez}:SqT K H a [.int n,.ref b]->SqT K H b vs->Prs H vs ts->DatV K H (.ref a) (.tuple [.int n,.tuple (ts.map pD)])
def Ot(a us:ez):PyData.eqv (.list (a.map pD)) (.list (us.map pD))=decide (a=us):=KY a us
end
end L2
namespace L2
open PySem.Spec HT
section
variable{prog:Za}{w:Zb}{A:Zr}{E:em}{s:Shared}
end
section
variable{X:Cx}{e:Zt}{te:TE}{p1 p2 p3 pos:Pos}
end
end L2
namespace PySem
open _root_.PySem.Sem (wp)
open _root_.PySem.AutoSeq1 (wpAny_loadPart')
def jQ(l:Addr)(a:eB)(n:Nat)(dct:eD)(i:Array eH) :
  Meets (Builtin.«enumerate.__new__» ⟨[.type "enumerate",.ref l],[]⟩) (λ_ R s=>s.heap.get? l=some { cls:=.type "tuple",dict:=dct,data:=.seq a n,slots:=i } /\
   R (.ok (.ret (.ref (s.heap.push { cls:=.type "tuple_iterator",data:=.fields #[.ref l,.int 0 0]}).objs.size)))
    { s with heap:=(s.heap.push { cls:=.type "tuple_iterator",data:=.fields #[.ref l,.int 0 0]}).push { cls:=.type "enumerate",data:=.fields #[.none,.bool false,.ref ↥s,Z2 0,.none,.none]}}) :=
 .of_wp λprog w A R s h=>by
  let⟨hp,g,d,tk,f⟩:=s;let⟨hl,h⟩:=h;have e:=sub_enumerate;have b:Heap.IsTuple (Shared.heap ⟨hp,g,d,tk,f⟩) l a:=⟨_,hl,rfl,n,rfl⟩
  wp_walk using XQ hl
  refine wpAny_stack_any λst=>Z0 ?_;split
  ·rename_i c _ _ _ _ _;cases (c==Value.type "enumerate")
   ·wp_walk using XQ hl,YW b
    exact⟨_,rfl,h⟩
   ·wp_walk using XQ hl,YW b
    exact⟨_,rfl,h⟩
  ·wp_walk using XQ hl,YW b
   exact⟨_,rfl,h⟩
section
variable{prog:Za}{w:Zb}{A:Zr}{E:em}{s:Shared}
def j8{l:Addr}{a:eB}{Q:em}(f:s.heap.IsTuple l a)(h:∀h',IsEnum h' (↥s+1) ↥s 0 .none->h'.IsTupleIter ↥s l 0->h'.objs.size=↥s+2 ->
   (∀b o,s.heap.get? b=some o->h'.get? b=some o)->Q (.ref (↥s+1)) { s with heap:=h' }) :
  wpAny (model prog w) A (Z4 (.type "enumerate") [.ref l]) Q E s:=by
 let⟨⟨c,dct,e,g⟩,hl,hc,n,hd⟩:=f;replace hc:c=.type "tuple":=hc;replace hd:e=.seq a n:=hd;subst hc hd;refine callType_new F.called_enumerate ∅ (F.typeCall_enumerate_1 _) (F.newCall_enumerate_1 _) (λobj=>F.args_object_init_2 obj _) F.entry_enumerate_new
  (jQ l a n dct g) ⟨hl,?_⟩
 have d:(s.heap.push { cls:=.type "tuple_iterator",data:=.fields #[.ref l,.int 0 0]}).objs.size=↥s+1:=Heap.size_push ..;show _/\_;rw[d];have he:IsEnum ((s.heap.push { cls:=.type "tuple_iterator",data:=.fields #[.ref l,.int 0 0]}).push
   { cls:=.type "enumerate",data:=.fields #[.none,.bool false,.ref ↥s,Z2 0,.none,.none]}) (↥s+1) ↥s 0 .none:=by
  have:=Heap.get?_push_size (s.heap.push { cls:=.type "tuple_iterator",data:=.fields #[.ref l,.int 0 0]})
   (o:={ cls:=.type "enumerate",data:=.fields #[.none,.bool false,.ref ↥s,Z2 0,.none,.none]}) rfl
  rw[d]at this;exact this
 refine⟨⟨_,he,rfl⟩,h _ he ⟨_,Heap.get?_push_of_some _ (Heap.get?_push_size _ rfl),rfl,rfl⟩ (by rw[Heap.size_push,d]) λb o x=>Heap.get?_push_of_some _ (Heap.get?_push_of_some _ x)⟩
def cX{it l:Addr}{i:Nat}{items}{x:Value}{Q:em}(a:s.heap.IsTupleIter it l i)(hl:s.heap.IsTuple l items)(f:items[i]?=some x)(e:∀h',h'.IsTupleIter it l (i+1)->Heap.SameBut it s.heap h'->Q x { s with heap:=h' }) :
  wpAny (model prog w) A (Builtin.SmallTypes.nextOf (.ref it)) Q E s:=by
 let⟨o,b,hc,hd⟩:=id a;let⟨h,d,_,g,c⟩:=hl;unfold Builtin.SmallTypes.nextOf;refine wpAny_bind (Yx (name:=Str.ofString "__next__") a.typeIs PyProof.Rows.slot_tupleiter_next
  (Yy PyProof.Rows.slot_tupleiter_next a.typeIs PyProof.Rows.entry_tupleiter_next ?_ (PyProof.Rows.args_tupleiter_next _)))
 show wpAny _ _ (XR (.ref it) 0 >>=_) _ _ s;refine wpAny_bind (Yu b hd (x:=.ref l) rfl ?_);show wpAny _ _ (if(Value.ref l==Value.none)=true then _ else _) _ _ s;rw[ee (show ¬((Value.ref l==Value.none)=true)from Bool.false_ne_true)];show wpAny _ _ (XR (.ref it) 1 >>=_) _ _ s;refine wpAny_bind (Yu b hd (x:=.int i 0) rfl ?_);show wpAny _ _ (seqItems? (.ref l) >>=_) _ _ s;refine wpAny_bind (XS d c ?_);simp only[Int.toNat_natCast,f];refine wpAny_bind (XT b hd (by simp) (Z0 ⟨x,rfl,Z0 (e _ ?_ (Heap.SameBut.update ..))⟩));exact⟨_,Heap.get?_update_self _ b (Obj.isFreed_of_fields (Obj.data_mapFields hd _)),(Obj.cls_mapFields ..).trans hc,by
  rw[Obj.data_mapFields hd];simp[Z2]⟩
def dG{it l:Addr}{i:Nat}{items}{Q:em}(hh:A.handled=none)(b:s.heap.IsTupleIter it l i)(hl:s.heap.IsTuple l items)(h:items[i]?=none)(g:∀h' e,Heap.ExtBut it s.heap h'->(∃o,h'.get? e=some o/\o.cls=.type "StopIteration")->E (.ref e) { s with heap:=h' }) :
  wpAny (model prog w) A (Builtin.SmallTypes.nextOf (.ref it)) Q E s:=by
 let⟨o,d,hc,hd⟩:=id b;let⟨k,f,_,j,c⟩:=hl;unfold Builtin.SmallTypes.nextOf;refine wpAny_bind (Yx (name:=Str.ofString "__next__") b.typeIs PyProof.Rows.slot_tupleiter_next
  (Yy PyProof.Rows.slot_tupleiter_next b.typeIs PyProof.Rows.entry_tupleiter_next ?_ (PyProof.Rows.args_tupleiter_next _)))
 show wpAny _ _ (XR (.ref it) 0 >>=_) _ _ s;refine wpAny_bind (Yu d hd (x:=.ref l) rfl ?_);show wpAny _ _ (if(Value.ref l==Value.none)=true then _ else _) _ _ s;rw[ee (show ¬((Value.ref l==Value.none)=true)from Bool.false_ne_true)];show wpAny _ _ (XR (.ref it) 1 >>=_) _ _ s;refine wpAny_bind (Yu d hd (x:=.int i 0) rfl ?_);show wpAny _ _ (seqItems? (.ref l) >>=_) _ _ s;refine wpAny_bind (XS f c ?_);simp only[Int.toNat_natCast,h];refine wpAny_bind (XU (wpAny_bind (XT d hd (by simp) ?_)));show wpAny _ _ (newExc (.type "StopIteration") [] >>=_) _ _ _;refine wpAny_bind ?_;simp only[newExc,newTuple];refine wpAny_bind (Yz ?_ (by size_fits));refine wpAny_bind (m:=XV _ _) (wpAny_of_eq (a:=Value.none) (by first|rfl|(simp only[XV];rfl)) ?_);refine Yz ?_ (by size_fits);simp only[raiseNew];refine wpAny_bind (wpAny_handled ?_)
 first|rw[show A.in1.handled=none from hh]|rw[hh]
 refine wpAny_bind (Z0 (wpAny_throw ?_));exact g _ _ (((Heap.SameBut.update ..).extBut.push _).push _) ⟨_,Heap.get?_push_size _ rfl,rfl⟩
end
def Draws.tuple{prog:Za}{w:Zb}{A:Zr}(hh:A.handled=none)(it l:Addr)(hne:l≠it)(items:eB) :
  Draws prog w A it [it,l] items.size (λi v=>items[i]?=some v) (λi h=>h.IsTupleIter it l i/\h.IsTuple l items) where
 live:=λ_ _ st=>let⟨o,ho,_⟩:=st.1;⟨o,ho⟩
 frame:=λ_ _ _ st hk=>⟨let⟨o,ho,r⟩:=st.1;⟨o,hk it (by simp) o ho,r⟩,let⟨o,ho,r⟩:=st.2;⟨o,hk l (by simp) o ho,r⟩⟩
 item:=λi s Q E hi st hQ=>by
  refine cX st.1 st.2 (x:=items[i]) (by simp[hi]) λh' hit' hs'=>?_;exact hQ _ h' s.toks (by simp[hi]) ⟨hit',st.2.extBut hs'.extBut hne⟩ hs'
 done:=λs Q E st hE=>dG hh st.1 st.2 (by simp) hE
end PySem
namespace L2
open PySem.Spec
variable{X:Cx}
def Ite(K:W.Frag)(a:Addr):It :=
 ⟨λi H=>∃xs x,SqT K H a xs/\xs[i]?=some x,λi H x H'=>∃t v,x=.ref t/\H t=none/\H'=upd H t (.tup [.int i,v])/\∀xs,SqT K H a xs->xs[i]?=some v,λi H=>∃xs,SqT K H a xs/\⇑xs<=i⟩
def Fe{P:Za}{w:Zb}{K:W.Frag}{elts:List Zt}{kk:Nat}{pos:Pos}(a e it:Addr)(hei:e≠it) :
  Turn P w K (.Tuple elts kk pos) (Ite K a) [e,it] e (λi h=>(∃old,IsEnum h e it i old)/\h.IsTupleIter it a i) where
 mem:=by simp
 obj:=λi h st b hb=>by
  let⟨⟨old,he⟩,o,ho,hc,hd⟩:=st;rcases List.mem_cons.mp hb with rfl|hb
  ·exact⟨_,he,λv z=>nomatch z⟩
  ·have e1:b=it:=↑hb
   subst e1;exact⟨o,ho,λv z=>by rw[hd]at z;cases z⟩
 keep:=λi h h' st k=>by
  let⟨⟨old,he⟩,o,ho,r⟩:=st;exact⟨⟨old,k e (by simp) _ he⟩,o,k it (by simp) _ ho,r⟩
 item:=by
  intro X hP hw hK hc i pins s σ H E I hf st hg;subst hP hw hK;let⟨xs,x,hq,hx⟩:=hg;let⟨its,rv,p,hz⟩:=I.tuple hq;let⟨u,hu,ru⟩:=rv.get hx;let⟨⟨old,he⟩,hit⟩:=st;have hai:a≠it:=λz=>by
   let⟨o,ho,hc1,_⟩:=p;let⟨o',ho',hc2,_⟩:=hit;rw[z,ho']at ho;cases ho;rw[hc2]at hc1;injection hc1 with z2;exact ef z2 ∅
  have hae:e≠a:=λz=>by
   let⟨o,ho,hc1,_⟩:=p;have he':s.heap.get? e=some _:=he;rw[z,ho]at he';cases he';have z1:Value.type "enumerate"=Value.type "tuple":=hc1;injection z1 with z2;exact ef z2 ∅
  have hlt:i<its.toArray.size:=by have:=(List.getElem?_eq_some_iff.mp hu).1;simpa using this
  let⟨e0,e1,e2,e3,e4,e5⟩:=hf e (by simp);let⟨f0,f1,f2,f3,f4,f5⟩:=hf it (by simp);have D:=Draws.tuple (prog:=X.prog) (w:=X.w) (A:=X.A.in1) (I.ok.hd hc) it a hai its.toArray;refine XW D he ⟨hit,show s.heap.IsTuple a its.toArray from p⟩ hlt hei (by simp[hei,hae]) λx' h' tk hP ho hs' hT hsz hk=>⟨_,rfl,?_⟩
  have ex:x'=u:=by
   have hP':its[i]?=some x':=↑hP
   rw[hu]at hP';exact(Option.some.inj hP').symm
  subst ex;refine XX ho λh2 he2 hs2=>?_;have hTn:H ↥s=none:=I.hok.fresh (Nat.le_refl _);have keep2:∀b o,b≠e->b≠it->s.heap.get? b=some o->h2.get? b=some o:=λb o hb1 hb2 q=>(hs2.2 b hb1).trans (hk b o hb1 hb2 q);have hTe:↥s≠e:=Nat.ne_of_gt (Heap.lt_size he);have hTup:h2.get? ↥s=some { cls:=.type "tuple",data:=.seq #[.int i tk,x']}:=(hs2.2 _ hTe).trans hT;have J:Inv X pins σ (upd H ↥s (.tup [.int i,x])) { s with heap:=h2,toks:=tk+1 }:=by
   refine I.step (g':=s.gens) (d':=s.drawn) (t':=tk+1) (ch:=[e,it]) (λb hb=>?_) (λb o _ _ hcb q _=>keep2 b o (λz=>hcb (by simp[z])) (λz=>hcb (by simp[z])) q)
    (λb o _ _ hcb q _=>⟨o.slots,keep2 b o (λz=>hcb (by simp[z])) (λz=>hcb (by simp[z])) q⟩) (λb o _ q n=>by rw[ao (Nat.ne_of_lt (Heap.lt_size q))];exact n)
    (λb o hcb q=>⟨o,keep2 b o (λz=>hcb (by simp[z])) (λz=>hcb (by simp[z])) q⟩) (λb ys q=>by rw[ao (aA q hTn)];exact q) (λb o y q=>by rw[ao (aA q hTn)];exact q)
    (λb ps q=>⟨#[],by rw[ao (aA q hTn),q];simp⟩) (λm hm=>?_) ?_ I.bare
   ·rcases List.mem_cons.mp hb with rfl|hb
    ·exact⟨e3,e1,e4,e5⟩
    ·have z:b=it:=↑hb
     subst z;exact⟨f3,f1,f4,f5⟩
   ·let⟨o,es,ep,ho',r⟩:=hm;exact⟨o,es,ep,keep2 _ o (Ne.symm e1) (Ne.symm f1) ho',r⟩
   ·intro b u' q;have nT:∀{c y},H c=some y->c≠e/\c≠it:=λ{c y} z=>⟨λv=>(by rw[v,e0]at z;exact nomatch z),λv=>(by rw[v,f0]at z;exact nomatch z)⟩
    by_cases hb:b=↥s
    ·subst hb;rw[aB]at q;cases q;exact⟨(by show 2<=sizeLine;decide),[.int i tk,x'],.cons ⟨_,rfl⟩ (.cons ru .nil),_,hTup,rfl,_,rfl⟩
    ·rw[ao hb]at q;refine(I.hok b u' q).stay (λc v hcv y=>keep2 c v ?_ ?_ y) (λc y=>by rw[ao (aA y hTn)];exact y) λc ys y=>by rw[ao (aA y hTn)];exact y
     ·rcases hcv with rfl|z
      ·exact(nT q).1
      ·exact(nT z).1
     ·rcases hcv with rfl|z
      ·exact(nT q).2
      ·exact(nT z).2
  refine⟨.ref ↥s,_,J,rfl,⟨_,x,rfl,hTn,rfl,λys hy=>by rw[I.kJ hy hq];exact hx⟩,⟨⟨x',?_⟩,?_⟩,λb hb=>?_⟩
  ·have he3:IsEnum h2 e it ((i:Int)+1) x':=↑he2
   have ec:(~~~(i+1))=(i:Int)+1:=()
   rw[ec];exact he3
  ·let⟨o,ho2,r⟩:=hs'.1;exact⟨o,(hs2.2 it (Ne.symm hei)).trans ho2,r⟩
  ·rw[ao]
   ·exact(hf b hb).1
   ·rcases List.mem_cons.mp hb with rfl|hb
    ·exact Ne.symm hTe
    ·have z:b=it:=↑hb
     subst z;let⟨o,ho2,_⟩:=hit;exact Nat.ne_of_lt (Heap.lt_size ho2)
 done:=by
  intro X hP hw hK hc i pins s σ H E I hf st hg;subst hP hw hK;let⟨xs,hq,hx⟩:=hg;let⟨its,rv,p,hz⟩:=I.tuple hq;let⟨⟨old,he⟩,hit⟩:=st;let⟨f0,f1,f2,f3,f4,f5⟩:=hf it (by simp);have hl:=⇑rv;have hT:s.TypeIs (.ref e) "enumerate":=⟨_,he,rfl⟩
  unfold ZY;refine wpAny_bind (XY (Yx (name:=Str.ofString "__next__") hT PySem.F.slot_enumerate_next
   (Yy PySem.F.slot_enumerate_next hT PySem.F.entry_enumerate_next ?_ (PySem.F.args_enumerate_next_1 _))))
  show wpAny _ _ (XR (.ref e) 2 >>=_) _ _ _;refine wpAny_bind (Yu he rfl (x:=.ref it) rfl ?_);refine wpAny_bind (dG (I.ok.hd hc) hit (show s.heap.IsTuple a its.toArray from p) (by simp;lia) λh' x he' hx'=>?_);let⟨o,ho,hc'⟩:=hx';refine wpAny_bind (XZ (T:="StopIteration") (b:=true) ⟨o,ho,hc'⟩ X0 ?_);exact Z0 ⟨rfl,I.turned (t':=s.toks) (λb o hb e=>he' b o hb e) f0 f1 f3 f4 f5⟩
 self:=λA i s Q E st h=>by
  let⟨⟨old,he⟩,_⟩:=st;have hT:s.TypeIs (.ref e) "enumerate":=⟨_,he,rfl⟩
  refine X1 hT PySem.F.slot_enumerate_iter (Yy PySem.F.slot_enumerate_iter hT PySem.F.entry_enumerate_iter ?_ (PySem.F.args_enumerate_iter_1 _));show wpAny _ _ (ret (.ref e)) _ _ s;exact Z0 ⟨_,rfl,"enumerate",_,hT,PySem.F.slot_enumerate_next.lookup,h⟩
def boot_enumerate:Zq "enumerate"=some (.type "enumerate"):=⋯
def Vt(K:W.Frag)(b:TA):TI:=λσ H R=>b σ H λvs H1=>∃a,vs=[.ref a]/\(∃xs,SqT K H1 a xs)/\R (Ite K a) H1
def Nh{X:Cx}{elts:List Zt}{kk:Nat}{f:Pos}{a:Zt}{g:TA}{p pos:Pos}(hg:Gl X "enumerate")(hm:X.mg "enumerate"=none)(ha:PA X [a] g)(hs:Zu [a] X.env=[(false,Zv a X.env)]:=by rfl):PI X (.Tuple elts kk f) (.Call (.Name "enumerate" p) [a] [] pos) (Vt X.K g):=by
 intro d s σ H R I h;refine Call_ (jV I hg hm boot_enumerate (PyProof.Rows.callWith_type1 (thn (ha pos d s σ H _ I h) λus s1 ⟨vs,H1,I1,r1,q1⟩=>?_) hs rfl));let⟨b,e,⟨xs,k⟩,q⟩:=q1;subst e;let⟨u,rfl,m⟩:=vals1 r1;cases m;let⟨its,o,l,n⟩:=I1.tuple k;refine j8 (show s1.heap.IsTuple b its.toArray from l) λh' he hit hsz hk=>?_;have j:Inv X d σ H1 { s1 with heap:=h' }:=I1.kept (t':=s1.toks) hk;have T:Turn X.prog X.w X.K (.Tuple elts kk f) (Ite X.K b) [↥s1+1,↥s1] (↥s1+1) (λi h=>(∃old,IsEnum h (↥s1+1) ↥s1 i old)/\h.IsTupleIter ↥s1 b i):=Fe b _ _ (Nat.ne_of_gt (Nat.lt_succ_self _));refine T.self _ 0 _ _ _ ⟨⟨_,he⟩,hit⟩ ⟨_,_,_,_,H1,rfl,j,T,⟨⟨_,he⟩,hit⟩,λc hc=>?_,q⟩;rcases List.mem_cons.mp hc with rfl|hc
 ·exact I1.yH (Nat.le_succ _) (I1.hok.fresh (Nat.le_succ _))
 ·have z:c=↥s1:=↑hc
  subst z;exact I1.yH (Nat.le_refl _) (I1.hok.fresh (Nat.le_refl _))
section
variable{κ:Type} [DecidableEq κ]
def gK(a:List (κ×V))(k:κ):Option V:=(a.find? λkv=>decide (kv.1=k)).map (·.2)
def putK(a:List (κ×V))(k:κ)(v:V):List (κ×V) :=
 if(a.any λkv=>decide (kv.1=k))=true then a.map (λkv=>if kv.1=k then(kv.1,v)else kv)else a++[(k,v)]
def mX{p:κ×V}{r:List (κ×V)}{k:κ}(e:p.1=k):gK (p::r) k=some p.2:=by simp[gK,List.find?_cons,e]
def qU{p:κ×V}{r:List (κ×V)}{k:κ}(e:¬p.1=k):gK (p::r) k=gK r k:=by simp[gK,List.find?_cons,e]
theorem mY(k:κ):∀kvs:List (κ×V),(kvs.any λkv=>decide (kv.1=k))=(gK kvs k).isSome
 |[]=>rfl
 |p::r=>by
  rw[List.any_cons];by_cases e:p.1=k
  ·simp only[mX e,fy e,Bool.true_or,Option.isSome_some]
  ·rw[qU e,d4 e,Bool.false_or];exact mY k r
def jU(a:List (κ×V))(k:κ)(v:V):⇑(putK a k v)<=⇑a+1:=by
 unfold putK;split
 ·rw[List.length_map];lia
 ·rw[List.length_append,List.length_cons,List.length_nil];lia
def lV.pP{o:Option V}{u:eH}(r:lV o u):o.isSome=u.isSome:=by
 cases o with
 |none=>cases u with
  |none=>rfl
  |some _=>exact(show False from r).elim
 |some _=>cases u with
  |none=>exact(show False from r).elim
  |some _=>rfl
def KV.val{a:List (κ×V)}{vs:List (κ×Value)}(r:KV a vs)(k:κ):lV (gK a k) (X3 vs k):=by
 unfold KV at r;induction r with
 |nil=>exact True.intro
 |@cons p q ps qs h t ih =>
  let⟨h1,h2⟩:=h;by_cases e:p.1=k
  ·have c:q.1=k:=h1.symm.trans e;have b:X3 (q::qs) k=some q.2:=by simp[X3,List.find?_cons,c]
   rw[mX e,b];exact h2
  ·have c:¬q.1=k:=λz=>e (h1.trans z);have b:X3 (q::qs) k=X3 qs k:=by simp[X3,List.find?_cons,c]
   rw[qU e,b];exact ih
def KV.any{a:List (κ×V)}{vs:List (κ×Value)}(r:KV a vs)(k:κ):(a.any λkv=>decide (kv.1=k))=vs.any λkv=>decide (kv.1=k):=by
 unfold KV at r;induction r with
 |nil=>rfl
 |cons h t b=>rw[List.any_cons,List.any_cons,b,h.1]
def KV.repl{a:List (κ×V)}{vs:List (κ×Value)}(r:KV a vs)(k:κ){y:V}{u:Value}(b:RelV y u) :
  KV (a.map λkv=>if kv.1=k then(kv.1,y)else kv) (vs.map λkv=>if kv.1=k then(kv.1,u)else kv):=by
 unfold KV at r ⊢;induction r with
 |nil=>exact .nil
 |@cons p q ps qs h t ih =>
  rw[List.map_cons,List.map_cons];refine .cons ?_ ih;let⟨h1,h2⟩:=h;by_cases e:p.1=k
  ·rw[ed e,ed (h1.symm.trans e)];exact⟨h1,b⟩
  ·rw[ee e,ee (λz=>e (h1.trans z))];exact⟨h1,h2⟩
def KV.put{a:List (κ×V)}{vs:List (κ×Value)}(r:KV a vs)(k:κ){y:V}{u:Value}(b:RelV y u):KV (putK a k y) (stored vs k u):=by
 unfold putK stored;rw[r.any k];by_cases e:(vs.any λkv=>decide (kv.1=k))=true
 ·rw[ed e,ed e];exact r.repl k b
 ·rw[ee e,ee e];exact Paired.snoc r ⟨rfl,b⟩
def KV.keys{a:List (κ×V)}{vs:List (κ×Value)}(r:KV a vs):a.map (·.1)=vs.map (·.1):=by
 unfold KV at r;induction r with
 |nil=>rfl
 |cons h t b=>rw[List.map_cons,List.map_cons,b,h.1]
def KV.length{a:List (κ×V)}{vs:List (κ×Value)}(r:KV a vs):⇑a=⇑vs:=Paired.length r
end
def yw{P:Za}{w:Zb}{k:Key}{u:Value}(r:RelV (kV k) u):(cg P w).is k u=true:=by
 cases k with
 |inl i=>let⟨t,e⟩:=(show ∃t,u=Value.int i t from r);subst e;exact yd P w i t
 |inr x=>let⟨t,e⟩:=(show ∃t,u=Value.str x t from r);subst e;exact yc P w x t
theorem uO{P:Za}{w:Zb}:∀{ks:List Key}{us:eC},Vals (ks.map kV) us->ItemsAre (cg P w) ks us
 |[],_,r=>by rw[List.map_nil]at r;cases r;exact .nil
 |k::ks,_,r=>by
  rw[List.map_cons]at r;cases r with
  |cons h t=>exact .cons (yw h) (uO t)
abbrev KT(H:Hp):List (List Key×V)->List (List Key×Addr×Value)->Prop:=Paired λp q=>p.1=q.1/\H q.2.1=some (.tup (p.1.map kV))/\RelV p.2 q.2.2
def KT.val{H:Hp}{a:List (List Key×V)}{xs:List (List Key×Addr×Value)}(r:KT H a xs)(k:List Key):lV (gK a k) ((X4 xs k).map (·.2)):=by
 induction r with
 |nil=>exact True.intro
 |@cons p q ps qs h t ih =>
  let⟨h1,_,h2⟩:=h;by_cases e:p.1=k
  ·have c:q.1=k:=h1.symm.trans e;have b:X4 (q::qs) k=some q.2:=by simp[X4,List.find?_cons,c]
   rw[mX e,b];exact h2
  ·have c:¬q.1=k:=λz=>e (h1.trans z);have b:X4 (q::qs) k=X4 qs k:=by simp[X4,List.find?_cons,c]
   rw[qU e,b];exact ih
def KT.repl{H:Hp}{a:List (List Key×V)}{xs:List (List Key×Addr×Value)}(r:KT H a xs)(k:List Key){y:V}{u:Value}(c:RelV y u) :
  KT H (a.map λkv=>if kv.1=k then(kv.1,y)else kv) (xs.map (putAt k u)):=by
 induction r with
 |nil=>exact .nil
 |@cons p q ps qs h t ih =>
  rw[List.map_cons,List.map_cons];refine .cons ?_ ih;let⟨h1,h2,b⟩:=h;unfold putAt;by_cases e:p.1=k
  ·rw[ed e,ed (h1.symm.trans e)];exact⟨h1,h2,c⟩
  ·rw[ee e,ee (λz=>e (h1.trans z))];exact⟨h1,h2,b⟩
def KT.put{H:Hp}{a:List (List Key×V)}{xs:List (List Key×Addr×Value)}(r:KT H a xs)(k:List Key){b:Addr}{y:V}{u:Value}(hb:H b=some (.tup (k.map kV)))(c:RelV y u) :
  KT H (putK a k y) (storedH xs k b u):=by
 have e:(a.any λkv=>decide (kv.1=k))=(X4 xs k).isSome:=by
  rw[mY,(r.val k).pP,Option.isSome_map]
 unfold putK storedH;rw[e];by_cases q:(X4 xs k).isSome=true
 ·rw[ed q,ed q];exact r.repl k c
 ·rw[ee q,ee q];exact Paired.snoc r ⟨rfl,hb,c⟩
def KT.keeps{H H':Hp}{a:List (List Key×V)}{xs:List (List Key×Addr×Value)}(r:KT H a xs)(ht:∀b ys,H b=some (.tup ys)->H' b=some (.tup ys)):KT H' a xs :=
 Paired.Ax r λ_ _ z=>⟨z.1,ht _ _ z.2.1,z.2.2⟩
section
variable{P:Za}{w:Zb}{H:Hp}{h:Heap}{a:Addr}
def Py{u:HO}(ok:HOk P w H h)(e:Rd H a u):bR P w H h a u:=e.ok ok
def Ej{b:List (Key×V)}(ok:HOk P w H h)(e:Rd H a (.dK b)):⇑b<=sizeLine/\(a==Zn)=false/\∃vs,KV b vs/\h.DictOf (cg P w) a vs :=
 show bR P w H h a (.dK b)from Py ok e
def Ld{b:List (Key×V)}(ok:HOk P w H h)(e:H a=some (.dK b)):⇑b<=sizeLine/\(a==Zn)=false/\∃vs,KV b vs/\h.DictOf (cg P w) a vs:=Ej ok (.inl e)
def vY{ks:List Key}(ok:HOk P w H h)(e:H a=some (.tup (ks.map kV))):(Zo (cg P w)).is h ks a:=by
 let⟨_,its,r,o,h1,h2,n,b⟩:=(show bR P w H h a (.tup (ks.map kV))from ok a _ e)
 exact⟨o,its.toArray,n,h1,h2,b,↑(uO r)⟩
def Ef{b:List (List Key×V)}(ok:HOk P w H h)(e:Rd H a (.dT b)):⇑b<=sizeLine/\(a==Zn)=false /\
  ∃xs,KT H b xs/\h.DictOfH (Zo (cg P w)) a xs:=by
 let⟨z,y,xs,r,o,es,ep,h1,h2,f,g,i⟩:=(show bR P w H h a (.dT b)from Py ok e)
 refine⟨z,y,xs,r,o,es,ep,h1,h2,f,g,λx c=>?_,i⟩;have d:∀{l:List (List Key×V)}{m:List (List Key×Addr×Value)},KT H l m->∀x∈m,(Zo (cg P w)).is h x.1 x.2.1:=by
  intro l m q;induction q with
  |nil=>intro x c;exact nomatch c
  |@cons p q ps qs hq t ih =>
   intro x c;rcases List.mem_cons.mp c with e|c
   ·subst e;exact vY ok (by rw[←hq.1];exact hq.2.1)
   ·exact ih x c
 exact d r x c
def V4{b:List (List Key×V)}(ok:HOk P w H h)(e:H a=some (.dT b)):⇑b<=sizeLine/\(a==Zn)=false /\
  ∃xs,KT H b xs/\h.DictOfH (Zo (cg P w)) a xs:=Ef ok (.inl e)
end
def mW(H:Hp)(a:Addr)(y:V)(r:Option V):Prop :=
 (∃kvs k,Rd H a (.dK kvs)/\y=kV k/\r=gK kvs k)\/∃kvs k b,Rd H a (.dT kvs)/\y=.ref b/\H b=some (.tup (k.map kV))/\r=gK kvs k
def wM(H:Hp)(a:Addr)(y v:V)(H':Hp):Prop :=
 (∃kvs k,H a=some (.dK kvs)/\y=kV k/\⇑kvs<sizeLine/\H'=upd H a (.dK (putK kvs k v)))∨
 ∃kvs k b,H a=some (.dT kvs)/\y=.ref b/\H b=some (.tup (k.map kV))/\⇑kvs<sizeLine/\H'=upd H a (.dT (putK kvs k v))
def mW.k{H:Hp}{a:Addr}{b:List (Key×V)}{k:Key}(e:H a=some (.dK b)):mW H a (kV k) (gK b k):=.inl ⟨b,k,.inl e,rfl,rfl⟩
def wM.k{H:Hp}{a:Addr}{b:List (Key×V)}{k:Key}{v:V}(e:H a=some (.dK b))(hl:⇑b<sizeLine):wM H a (kV k) v (upd H a (.dK (putK b k v))):=.inl ⟨b,k,e,rfl,hl,rfl⟩
section
variable{pins:er}{σ:St}{H:Hp}{s:Shared}{a:Addr}{y v:V}{u r:Value}{o:Option V}{A:Zr}{E:em}
def Inv.big(I:Inv X pins σ H s):Zn<↥s:=by
 have h:mainGlobals<↥s:=(I.mod.glob.keeps I.bk).lt;exact Nat.lt_trans ∅ h
def GJ{Q:em}(hu:A.units+1<Yh)(I:Inv X pins σ H s)(g:mW H a y (some v))(q:RelV y u)(h:∀w' s',Inv X pins σ H s'->RelV v w'->Q w' s') :
  wpAny (model X.prog X.w) A (Yv (.ref a) u) Q E s:=by
 rcases g with⟨n,k,e,i,l⟩|⟨n,k,b,e,i,t,l⟩
 ·subst i;let⟨z,hd,vs,c,f⟩:=Ej I.hok e;let⟨w',m,d⟩:=lV.some_of (v:=v) (o:=X3 vs k) (by rw[l];exact c.val k);exact wpAny_getItem_of (yw q) f.mapOf m (h w' _ (I.tok _) d)
 ·subst i;cases (show u=Value.ref b from q);let⟨z,hd,xs,c,f⟩:=Ef I.hok e;let⟨w',m,d⟩:=lV.some_of (v:=v) (o:=(X4 xs k).map (·.2)) (by rw[l];exact c.val k);let⟨p,hp,j⟩:=Option.map_eq_some_iff.mp m;refine wpAny_getItem_heap (X5 hu) (vY I.hok t) f hp ?_;rw[j];exact h w' _ (I.tok _) d
def O2{Q:em}(hu:A.units+1<Yh)(I:Inv X pins σ H s)(g:mW H a y o)(j:RelV y u)(h:∀s',Inv X pins σ H s'->Q (.bool (!o.isSome)) s') :
  wpAny (model X.prog X.w) A (ZK .NotIn u (.ref a)) Q E s:=by
 rcases g with⟨i,k,e,f,l⟩|⟨i,k,b,e,f,m,l⟩
 ·subst f;let⟨z,hd,vs,c,d⟩:=Ej I.hok e;refine wpAny_notIn_of (yw j) hd d.mapOf ?_;rw[←(c.val k).pP,←l];exact h _ (I.tok _)
 ·subst f;cases (show u=Value.ref b from j);let⟨z,hd,xs,c,d⟩:=Ef I.hok e;refine wpAny_notIn_heap (X5 hu) (vY I.hok m) hd d ?_;have q:=(c.val k).pP;rw[Option.isSome_map]at q;rw[←q,←l];exact h _ (I.tok _)
def wu{h':Heap}{t':Nat}{c:HO}(I:Inv X pins σ H s)(d:Mut (H a))(hs:Heap.SameBut a s.heap h')(he:∃q,h'.get? a=some q)(new:bR X.prog X.w (upd H a c) h' a c) :
  Inv X pins σ (upd H a c) { s with heap:=h',toks:=t' } :=
 I.write (x:=a) (e:=a) d (.inl rfl) (λb q hb z=>(hs.2 b hb).trans z) he new
def Le{P:Za}{w:Zb}{H':Hp}{h':Heap}{b:List (Key×V)}{vs:List (Key×Value)}(z:⇑b<=sizeLine)(hd:(a==Zn)=false)(c:KV b vs)(d:h'.DictOf (cg P w) a vs) :
  bR P w H' h' a (.dK b):=⟨z,hd,vs,c,d⟩
def GF{H':Hp}{Q:Unit->Shared->Prop}(hu:A.units+1<Yh)(I:Inv X pins σ H s)(g:wM H a y v H')(D:RelV y u)(C:RelV v r)(h:∀s',Inv X pins σ H' s'->Q .unit s') :
  wpAny (model X.prog X.w) A (setItem (.ref a) u r) Q E s:=by
 rcases g with⟨d,k,e,p,l,n⟩|⟨d,k,b,e,p,x,l,n⟩
 ·subst p n;let⟨z,hd,vs,f,m⟩:=Ld I.hok e;have t:⇑vs<=sizeLine:=by rw[←⇑f];exact z
  have hl:⇑(putK d k v)<=sizeLine:=by have:=jU d k v;lia
  refine wpAny_setItem_pairs (hsz:=t) (yw D) m λh' i hs=>h _ ?_;have he:∃q,h'.get? a=some q:=let⟨q,_,_,j,_⟩:=i;⟨q,j⟩
  exact wu I (by rw[e];exact True.intro) hs he (Le hl hd (f.put k C) i)
 ·subst p n;cases (show u=Value.ref b from D);let⟨z,hd,xs,f,m⟩:=V4 I.hok e;have t:⇑xs<=sizeLine:=by rw[←Paired.length f];exact z
  have hl:⇑(putK d k v)<=sizeLine:=by have:=jU d k v;lia
  refine wpAny_setItem_heap (hsz:=t) (X5 hu) (vY I.hok x) m λh' i hs=>h _ ?_;let⟨q,es,ep,j,h2,F,G,_,J⟩:=i;refine wu I (by rw[e];exact True.intro) hs ⟨q,j⟩ ⟨hl,hd,_,(f.put k x C).keeps λc ys B=>?_,q,es,ep,j,h2,F,G,J⟩;rw[ao (Vi B e (λz=>nomatch z))];exact B
end
section
variable{pins:er}{σ:St}{H:Hp}{s:Shared}{a:Addr}{kvs:List (Key×V)}{k:Key}{u:Value}{A:Zr}{E:em}
end
def Pg(i:Zt):Prop:=∀ov iv,YE i false ov iv=operate [ov,iv] (Yv ov iv)
def Mp{prog:Za}{w:Zb}{A:Zr}{E:em}{s:Shared}{env:Env}{b a:Zt}{pos:Pos}{T id:String}{Q:em}(hl:typeLookup (.type T) "__getitem__"=pure (some (.builtin id)))(hs:Pg a)(h:wpAny (model prog w) A (Zv b env) (λo s₁=>wpAny (model prog w) A (Zv a env) (λi s₂=>s₂.TypeIs o T/\wpAny (model prog w) A (Yv o i) Q E s₂) E s₁) E s) :
  wpAny (model prog w) A (Zv (.Subscript b a pos) env) Q E s:=by
 refine YC (ZG h (λo s₁ h₁=>ZG h₁ (λi s₂ c=>?_) λ_ _ x=>x) λ_ _ x=>x);let⟨e,c⟩:=c;unfold YD;refine wpAny_bind ?_;rw[getitemInPython_of_ne e.not_modules];refine wpAny_bind (wpAny_specialOf e hl ?_);have d:wpAny (model prog w) A (YE a false o i) (λr s₃=>wpAny (model prog w) A (letTemporaryGo b o r >>=λ_=>pure r) Q E s₃) E s₂:=by
  rw[hs o i];exact wpAny_operating (ZG c (λr s₃ h₃=>wpAny_bind (wpAny_letTemporaryGo (Z0 h₃))) λ_ _ x=>x)
 first
  |exact Z0 (wpAny_bind d)
  |exact wpAny_bind (Z0 (wpAny_bind d))
  |exact wpAny_bind d
def yN{X:Cx}{c:er}{σ:St}{H:Hp}{s:Shared}{a:Addr}{y:V}{o:Option V}(I:Inv X c σ H s)(g:mW H a y o):s.TypeIs (.ref a) "dict":=by
 rcases g with⟨f,k,e,_,_⟩|⟨f,k,b,e,_,_,_⟩
 ·let⟨_,_,vs,_,d⟩:=Ej I.hok e;exact d.typeIs
 ·let⟨_,_,xs,_,d⟩:=Ef I.hok e;exact d.typeIs
def Uy(b ty:TE):TE:=λσ H Q=>b σ H λx H1=>ty σ H1 λy H2=>∃a v,x=.ref a/\mW H2 a y (some v)/\Q v H2
def Cr(ty b:TE):TE:=λσ H Q=>ty σ H λy H1=>b σ H1 λx H2=>∃a o,x=.ref a/\mW H2 a y o/\Q (.bl (!o.isSome)) H2
def Pu(b ty c:TE):TS:=λD σ H=>c σ H λv H1=>b σ H1 λx H2=>ty σ H2 λy H3=>∃a H4,x=.ref a/\wM H3 a y v H4/\D.nx σ H4
section
variable{o i e value:Zt}{pos pos' tpos:Pos}{td ty tv:TE}
def gq(hu:X.A.units+1<Yh)(c:PE X o td)(hi:PE X i ty)(hs:Pg i):PE X (.Subscript o i pos) (Uy td ty):=by
 intro b s σ H Q I h;refine Mp PySem.F.slot_dict_getitem.lookup hs (thn (c b s σ H _ I h) λu s1 ⟨x,H1,I1,rx,q1⟩=>thn (hi b s1 σ H1 _ I1 q1) λiv s2 ⟨y,H2,I2,ry,a,v,ex,g,q2⟩=>?_);subst ex;obtain rfl:u=Value.ref a:=rx;exact⟨yN I2 g,GJ hu I2 g ry λw' s3 I3 rw'=>⟨v,H2,I3,rw',q2⟩⟩
def Fw(hu:X.A.units+1<Yh)(hi:PE X i ty)(c:PE X o td):PC X .NotIn i o (Cr ty td):=by
 intro b s σ H Q I h;refine thn (hi b s σ H _ I h) λiv s1 ⟨y,H1,I1,ry,q1⟩=>thn (c b s1 σ H1 _ I1 q1) λu s2 ⟨x,H2,I2,rx,a,ov,ex,g,q2⟩=>?_;subst ex;obtain rfl:u=Value.ref a:=rx;exact O2 hu I2 g ry λs3 I3=>⟨.bl (!ov.isSome),H2,I3,rfl,q2⟩
def qz(hu:X.A.units+1<Yh)(c:PE X o td)(hi:PE X i ty)(hv:PE X value tv)(hs:ZQ value (some (.Subscript o i pos')) pos.line X.env=pure false) :
  PS X (.Assign [.Subscript o i pos'] value pos) (Pu td ty tv):=by
 intro b s σ H D I h;refine wpAny_Assign_Subscript (thn (hv b s σ H _ I h) λr s1 ⟨v,H1,I1,rv,q1⟩=>thn (c b s1 σ H1 _ I1 q1) λu s2 ⟨x,H2,I2,rx,q2⟩=>thn (hi b s2 σ H2 _ I2 q2) λiv s3 ⟨y,H3,I3,ry,a,H4,ex,g,q3⟩=>?_) hs;subst ex;obtain rfl:u=Value.ref a:=rx;exact GF hu I3 g ry rv λs4 I4=>⟨σ,H4,I4,q3⟩
end
def yM{P:Za}{w:Zb}{H:Hp}(h:Heap)(hb:Zn<h.objs.size):bR P w H (h.push { cls:=.type "dict",data:=.dict #[]}) h.objs.size (.dK []) :=
 ⟨Nat.zero_le _,beq_eq_false_iff_ne.mpr (Ne.symm (Nat.ne_of_lt hb)),[],.nil,Heap.DictOf.new h⟩
def QF:TE:=λ_ H Q=>∀p,H p=none->Q (.ref p) (upd H p (.dK []))
section
variable{pos:Pos}
def Ju:PE X (.Dict [] [] pos) QF:=λpins s σ H Q I h =>
 wpAny_Dict_empty ⟨.ref ↥s,_,I.laid (a:=↥s) (o:=.dK []) (t':=s.toks) (λ_ _ q=>Heap.get?_push_of_some _ q) (Nat.le_refl _) (yM s.heap I.big),rfl,h _ (I.hok.fresh (Nat.le_refl _))⟩
end
def zO:List (TE×TE)->St->Hp->(List (V×V)->Hp->Prop)->Prop
 |[],_,H,Q=>Q [] H
 |(tk,tv)::r,σ,H,Q=>tk σ H λx H1=>tv σ H1 λy H2=>zO r σ H2 λps H3=>Q ((x,y)::ps) H3
abbrev VV:List (V×V)->List (Value×Value)->Prop:=Paired λp q=>RelV p.1 q.1/\RelV p.2 q.2
def PPs(X:Cx)(pos:Pos)(b:List (Option Zt))(a:List Zt)(c:List (TE×TE)):Prop :=
 ∀(pins:er)(s:Shared)(σ:St)(H:Hp)(Q:List (V×V)->Hp->Prop),Inv X pins σ H s->zO c σ H Q ->
  wpAny (model X.prog X.w) X.A (evalPairs (pairTrees b a X.env pos)) (λvs s'=>∃ps H',Inv X pins σ H' s'/\VV ps vs/\Q ps H') X.xe s
def CZ{X:Cx}{pos:Pos}:PPs X pos [] [] []:=λpins s σ H Q I h=>pairTrees_nil_walk ⟨[],H,I,.nil,h⟩
def nC{X:Cx}{pos:Pos}{k v:Zt}{ks:List (Option Zt)}{vs:List Zt}{tk b:TE}{a:List (TE×TE)}(hk:PE X k tk)(hv:PE X v b)(hr:PPs X pos ks vs a) :
  PPs X pos (some k::ks) (v::vs) ((tk,b)::a):=λpins s σ H Q I h =>
 pairTrees_cons_walk (thn (hk pins s σ H _ I h) λu s1 ⟨x,H1,I1,rx,q1⟩=>thn (hv pins s1 σ H1 _ I1 q1) λw2 s2 ⟨y,H2,I2,ry,q2⟩ =>
  thn (hr pins s2 σ H2 _ I2 q2) λws s3 ⟨ps,H3,I3,rel,q3⟩=>⟨(x,y)::ps,H3,I3,.cons ⟨rx,ry⟩ rel,q3⟩)
def mL(b a:List (Key×V)):List (Key×V):=a.foldl (λacc kv=>putK acc kv.1 kv.2) b
def KV.merge:∀{b:List (Key×V)}{c:List (Key×Value)}{a:List (Key×V)}{vs:List (Key×Value)},KV b c->KV a vs->KV (mL a b) (merged vs c):=by
 intro b c a vs r;unfold KV at r;induction r generalizing a vs with
 |nil=>intro q;exact q
 |@cons p q ps qs h t ih =>
  intro d;have e:KV (putK a p.1 p.2) (stored vs q.1 q.2):=by
   have:=d.put p.1 h.2;rw[←h.1];exact this
  exact ih e
theorem mq:∀(b a:List (Key×V)),⇑(mL a b)<=⇑a+⇑b
 |[],a=>by show ⇑a<=⇑a+0;lia
 |p::r,a=>by
  have h1:=mq r (putK a p.1 p.2);have h2:=jU a p.1 p.2;show(mL (putK a p.1 p.2) r).length<=_;rw[List.length_cons];lia
theorem tL{P:Za}{w:Zb}:∀{d:List (Key×V)}{e:List (Value×Value)},VV (d.map λkv=>(kV kv.1,kv.2)) e->∃rs,Carries (cg P w) e rs/\KV d rs
 |[],_,r=>by rw[List.map_nil]at r;cases r;exact⟨[],True.intro,.nil⟩
 |p::d,_,r=>by
  rw[List.map_cons]at r;cases r with
  |@cons a b as bs h t =>
   let⟨rs,c,q⟩:=tL (P:=P) (w:=w) t;let⟨b1,b2⟩:=b;exact⟨(p.1,b2)::rs,⟨yw h.1,rfl,c⟩,.cons ⟨rfl,h.2⟩ q⟩
def Ux(a:List (TE×TE)):TE:=λσ H Q=>∀p,H p=none->zO a σ (upd H p (.dK [])) λps H2=>H2 p=some (.dK [])/\∃kvs:List (Key×V),ps=kvs.map (λkv=>(kV kv.1,kv.2))/\⇑kvs<=15/\Q (.ref p) (upd H2 p (.dK (mL [] kvs)))
def Dd{X:Cx}{pos:Pos}{b:List (Option Zt)}{d:List Zt}{j:List (TE×TE)}(h:PPs X pos b d j)(g:b.all (·.isSome)=true)(hl:⇑b=⇑d)(n:b≠[])(k:⇑b<=15):PE X (.Dict b d pos) (Ux j):=by
 intro i s σ H Q I q;have hn:=I.hok.fresh (Nat.le_refl ↥s);have l:=I.laid (a:=↥s) (o:=.dK []) (h':=s.heap.push { cls:=.type "dict",data:=.dict #[]}) (t':=s.toks) (λ_ _ q=>Heap.get?_push_of_some _ q) (Nat.le_refl _) (yM s.heap I.big);refine wpAny_Dict_walk (knd:=cg X.prog X.w) g hl n k (thn (h i _ σ _ _ l (q _ hn)) λws s2 ⟨ps,H2,I2,rel,e,kvs,ep,lk,q2⟩=>?_);subst ep;let⟨u,c,t⟩:=tL (P:=X.prog) (w:=X.w) rel;let⟨z,hd,v,r,m⟩:=Ld I2.hok e;cases r;refine⟨u,c,m,λh' f hs=>⟨.ref ↥s,_,?_,rfl,q2⟩⟩;have p:⇑(mL [] kvs)<=sizeLine:=by
  have h1:=mq kvs [];rw[List.length_nil]at h1;rw[Z9];lia
 have he:∃q,h'.get? ↥s=some q:=let⟨q,_,_,hq,_⟩:=f;⟨q,hq⟩
 exact wu I2 (by rw[e];exact True.intro) hs he (Le p hd (t.merge .nil) f)
structure M1(X:Cx)(o:Zt)(m:Str)(apos:Pos)(e:Zt)(cpos:Pos):Prop where
 fw:Yd o m X.env (Zv o X.env)=Zv o X.env
 few:((Zw cpos (Zu [e] X.env)).all (λx=>!x.1)&&(Zy cpos (Zz [] X.env)).all (λx=>x.1.isSome)
 &&decide (⇑([e]:List Zt)+⇑([]:List ZA)+(if([]:List ZA).isEmpty then 0 else 1)<30))=true
 line:(apos.endLine==cpos.line)=true
 trees:Zw cpos (Zu [e] X.env)=[(false,Zv e X.env)]
structure M2(X:Cx)(o:Zt)(m:Str)(apos:Pos)(e f:Zt)(cpos:Pos):Prop where
 fw:Yd o m X.env (Zv o X.env)=Zv o X.env
 few:((Zw cpos (Zu [e,f] X.env)).all (λx=>!x.1)&&(Zy cpos (Zz [] X.env)).all (λx=>x.1.isSome)
 &&decide (⇑([e,f]:List Zt)+⇑([]:List ZA)+(if([]:List ZA).isEmpty then 0 else 1)<30))=true
 line:(apos.endLine==cpos.line)=true
 trees:Zw cpos (Zu [e,f] X.env)=[(false,Zv e X.env),(false,Zv f X.env)]
section
variable{pins:er}{σ:St}{H:Hp}{s:Shared}{a:Addr}{y d:V}{u r:Value}{o:Option V}{A:Zr}{E:em}
end
section
variable{o e f:Zt}{apos cpos:Pos}{td ty tx:TE}
end
section
variable{pins:er}{σ:St}{H:Hp}{s:Shared}{a:Addr}{kvs:List (Key×V)}{A:Zr}{E:em}
end
section
variable{pins:er}{σ:St}{H:Hp}{s:Shared}{a:Addr}{y:V}{u:Value}{A:Zr}{E:em}
end
section
variable{prog:Za}{w:Zb}{A:Zr}{E:em}{s:Shared}
def yU{T:String}{r d:Addr}{n:Nat}{P:Nat->Value->Prop}{p:Heap->Prop}{R:eC->Shared->Prop}(K:W.KdlSrc prog w T r d n P p)(hh:A.handled=none)(m:p s.heap)(hn:n<=sizeLine)(h:∀(h':Heap)(tk:Nat)(acc:eB),↥s<h'.objs.size->(∀b o,s.heap.get? b=some o->h'.get? b=some o)->ItemsOf P acc n->R acc.toList { s with heap:=h',toks:=tk }) :
  wpAny (model prog w) A (Xz (.ref r)) R E s:=by
 have k:=K.there _ m;unfold Xz;refine wpAny_bind (XA (XB XC ?_));rw[Around.under_plainId PySem.F.plain_proto_collect _];show wpAny _ A.in1 (YT [] >>=λl=>again (.builtin "list.__iadd__" ⟨[l,.ref r],[]⟩)) _ _ s;refine wpAny_bind (Yz ?_);refine Z0 ⟨plainId_quiet PySem.F.plain_list_iadd _,XB XD ?_⟩;rw[Around.under_plainId PySem.F.plain_list_iadd _];have i:(s.heap.push { cls:=.type "list",data:=.seq ([]:eC).toArray }).get? ↥s=some { cls:=.type "list",data:=.seq #[]}:=Heap.get?_push_size _ rfl;show wpAny _ A.in1 (Builtin.List.listExtendWith (.ref ↥s) (.ref r) (.ref ↥s)) _ _ _;have key:=W.kdl_extend (A:=A) (s:={ s with heap:=s.heap.push { cls:=.type "list",data:=.seq ([]:eC).toArray }}) K
  (R:=λ(q:Result) (s':Shared)=>∃(h':Heap)(tk:Nat)(a:eB)(j:Nat),q=.ok (.ret (.ref ↥s))/\s'={ s with heap:=h',toks:=tk } /\
   (∀b o,s.heap.get? b=some o->h'.get? b=some o)/\h'.get? ↥s=some { cls:=.type "list",dict:=none,data:=.seq a j,slots:=#[]}/\ItemsOf P a n)
  hh (K.keep _ _ m λb _ o e=>Heap.get?_push_of_some _ e) ↥s (Nat.ne_of_gt k.1) (Nat.ne_of_gt k.2) (.ref ↥s) 0 i
  (λh' tk a j hk g c=>⟨h',tk,a,j,rfl,rfl,λb o e=>hk b o (Nat.ne_of_lt (Heap.lt_size e)) (Heap.get?_push_of_some _ e),g,c⟩) hn
 refine ZG key (λfin s' x=>?_) λe s' x=>?_
 ·cases fin with
  |done f =>
   let⟨h',tk,a,j,e,rfl,hk,g,c⟩:=x;cases e;show wpAny _ A (load ↥s >>=_) _ _ _;refine wpAny_bind (Z1 g ?_);exact Z0 (h h' tk a (Heap.lt_size g) hk c)
  |again c₁ =>
   refine⟨x.1,Yl x.2 λq s₂ y=>?_⟩;let⟨h',tk,a,j,rfl,rfl,hk,g,c⟩:=y;show wpAny _ A (load ↥s >>=_) _ _ _;refine wpAny_bind (Z1 g ?_);exact Z0 (h h' tk a (Heap.lt_size g) hk c)
 ·let⟨_,_,_,_,t,_⟩:=x;cases t
def zU{T:String}{r d:Addr}{n:Nat}{P:Nat->Value->Prop}{k:Heap->Prop}{Q:em}{ns:ew}(K:W.KdlSrc prog w T r d n P k)(hh:A.handled=none)(i:k s.heap)(hn:n<64)(u:∀us:eC,⇑us=n->(∀j v,us[j]?=some v->P j v)->IntsAre us ns)(h:∀(h':Heap)(tk:Nat)(D:Addr)(e:Nat)(out:eB)(a:ew),↥s<=D->(∀b o,s.heap.get? b=some o->h'.get? b=some o)->h'.get? D=some { cls:=.type "list",data:=.seq out e }->IntsAre out.toList a->a.Perm ns->a.Pairwise (·<=·)->Q (.ref D) { s with heap:=h',toks:=tk }) :
  wpAny (model prog w) A (Z4 (.builtin "sorted") [.ref r]) Q E s:=by
 have p:=Z9;refine Calls.call_function_entry XE XF XG (args_sorted1 _) ?_;unfold Builtin.«sorted»;refine wpAny_bind (m:=XH "sorted" 1 1 _) (Z0 ?_);refine wpAny_bind (yU (A:=A.in1) K hh i () λh1 tk acc hsz hk hacc=>?_);have f:⇑acc.toList=n:=by rw[Array.length_toList];exact hacc.1
 have t:IntsAre acc.toList ns:=u acc.toList f λj v e=>hacc.2 j v (by rw[←Array.getElem?_toList];exact e);have x:↥s<=h1.objs.size:=Nat.le_of_lt hsz;refine wpAny_bind (Xx ?_ ());have c:(h1.push (Xq "list" acc.toList.toArray 0)).get? h1.objs.size=some (Xq "list" acc.toList.toArray 0):=Heap.get?_push_size _ rfl;refine wpAny_bind (Yw (Yy XI ⟨_,c,rfl⟩ XJ (list_sort_tree c t () λout a a1 a2 a3=>⟨_,rfl,?_⟩) (XM _)));let⟨e,he⟩:=sortedHeap_at (out:=out) c;refine Z0 ⟨_,rfl,h _ tk h1.objs.size e out a x (λb o q=>?_) he a1 a2 a3⟩;have l:=hk b o q;have g:b<h1.objs.size:=Heap.lt_size l;rw[sortedHeap_old (Nat.ne_of_lt g) (by rw[Xy];exact Nat.lt_succ_of_lt g)];exact Heap.get?_push_of_some _ l
end
section
def wD:eX X (.builtin "sorted") (λxs H Q=>∃(p:Addr)(ns:ew),xs=[.ref p]/\SqL X.K H p (ns.map V.int)/\⇑ns<64 /\
  ∀(l:Addr)(out:ew),H l=none->out.Perm ns->out.Pairwise (·<=·)->Q (.ref l) (upd H l (.lst (out.map V.int)))):=by
 intro c s σ H xs us Q I r h;let⟨p,ns,rfl,hp,g,q⟩:=h;let⟨u,rfl,j⟩:=vals1 r;cases j;let⟨its,d,pl,k⟩:=I.list hp;have i:IntsAre its ns:=intsAre_of d;have hl:=⇑d;rw[List.length_map]at hl;refine sorted_ints (vs:=its) (ns:=ns) pl.isList i () λout ns' a1 a2 a3=>?_;let⟨e,he⟩:=sortedAll_at s.heap its out;have hv:=kI a1;have a:=⇑hv;rw[List.length_map]at a;have hpl:=a2.length_eq;have f:=Z9;refine⟨.ref (↥s+1),upd H (↥s+1) (.lst (ns'.map V.int)),I.laid (t':=s.toks) (λb o eb=>XN eb) (Nat.le_succ _) ⟨?_,out.toList,e,hv,↑he⟩,rfl,q _ _ (I.hok.fresh (Nat.le_succ _)) a2 a3⟩;rw[List.length_map];lia
def Gk{P:Za}{w:Zb}{vs:List (Key×Value)}{ks:ew}(hk:vs.map (·.1)=ks.map Sum.inl):∀us:eC,⇑us=⇑vs->(∀(j:Nat)(v:Value),us[j]?=some v->∃k x,vs[j]?=some (k,x)/\(cg P w).is k v=true)->IntsAre us ks:=by
 intro us;induction us generalizing vs ks with
 |nil =>
  intro hl _;have e:vs=[]:=List.eq_nil_of_length_eq_zero ↑hl.symm;subst e;cases ks with
  |nil=>exact .nil
  |cons k ks=>simp at hk
 |cons u us ih =>
  intro hl h;cases vs with
  |nil=>simp at hl
  |cons v vs =>
   cases ks with
   |nil=>simp at hk
   |cons k ks =>
    rw[List.map_cons,List.map_cons]at hk;injection hk with hk1 hk2
    let⟨f,x,e,d⟩:=h 0 u (by simp);simp at e;subst e;simp only at hk1;subst hk1;have b:rY (Sum.inl k) u=true:=d;rcases bY b with⟨i,t,a,c⟩|⟨y,t,a,c⟩
    ·injection a with a;subst a c;exact .cons _ t (ih hk2 ↑hl λj v hj=>↑(h (j+1) v ↑hj))
    ·cases a
def wF(hc:X.calm=true):eX X (.builtin "sorted") (λxs H Q=>∃(d:Addr)(c:List (Key×V))(ks:ew),xs=[.ref d]/\H d=some (.dK c)/\c.map (·.1)=ks.map Sum.inl/\⇑ks<64 /\
  ∀(l:Addr)(out:ew),H l=none->out.Perm ks->out.Pairwise (·<=·)->Q (.ref l) (upd H l (.lst (out.map V.int)))):=by
 intro m s σ H xs us Q I r h;let⟨d,c,ks,rfl,hd,k,p,q⟩:=h;let⟨u,rfl,z⟩:=vals1 r;cases z;let⟨A,lo,vs,y,o,es,ep,v,x,f,g,i,j⟩:=Ld I.hok hd;have hm:s.heap.DictAt (cg X.prog X.w) d vs ep:=⟨o,es,v,x,f,g,i,j⟩
 have a:vs.map (·.1)=ks.map Sum.inl:=by rw[←KV.keys y];exact k
 have t:⇑vs=⇑ks:=by have:=eh List.length a;simpa using this
 refine zU (ns:=ks) (W.kdl_dict (ep:=ep) lo) (I.ok.hd hc) hm () (λus hl h=>Gk a us hl h) λh' tk D e out ns' hD hk he a1 a2 a3=>?_;have hv:=kI a1;have hpl:=a2.length_eq;have n:=Z9;refine⟨.ref D,upd H D (.lst (ns'.map V.int)),I.laid (λb o eb=>hk b o eb) hD ⟨?_,out.toList,e,hv,↑he⟩,rfl,q _ _ (I.hok.fresh hD) a2 a3⟩;rw[List.length_map];lia
def iD(l:ew):XO:=.list (l.map PyData.int)
theorem Bd:∀l:ew,PyData.canLayAll0 (l.map PyData.int)=true
 |[]=>rfl
 |t::ts=>by
  show(PyData.canLay0 (PyData.int t)&&PyData.canLayAll0 (ts.map PyData.int))=true;rw[Bd ts];rfl
theorem sZ:∀l:ew,PyData.depthAll (l.map PyData.int)=0
 |[]=>rfl
 |t::ts=>by
  show max (PyData.depth (PyData.int t)) (PyData.depthAll (ts.map PyData.int))=0;rw[sZ ts];rfl
theorem K3:∀ts us:ew,PyData.eqvAll (ts.map PyData.int) (us.map PyData.int)=decide (ts=us)
 |[],[]=>rfl
 |[],_::_=>rfl
 |_::_,[]=>rfl
 |t::ts,u::us=>by
  show((t==u)&&PyData.eqvAll (ts.map PyData.int) (us.map PyData.int))=_;rw[K3 ts us,Bool.eq_iff_iff];simp
theorem Bc:∀ls:et,PyData.canLayAll0 (ls.map iD)=true
 |[]=>rfl
 |t::ts=>by
  show(PyData.canLayAll0 (t.map PyData.int)&&PyData.canLayAll0 (ts.map iD))=true;rw[Bc ts,Bd];rfl
theorem sY:∀ls:et,PyData.depthAll (ls.map iD)<=1
 |[]=>Nat.zero_le _
 |t::ts=>by
  show max (PyData.depthAll (t.map PyData.int)+1) (PyData.depthAll (ts.map iD))<=1;have h1:=sY ts;rw[sZ];lia
theorem mz{h:Heap}:∀{l:ew}{us:eC},Vals (l.map V.int) us->∃as,X6 h us (l.map PyData.int) as
 |[],_,r=>by cases r;exact⟨[],.nil⟩
 |x::l,_,r=>by
  cases r with
  |cons a b =>
   let⟨t,rfl⟩:=a;let⟨as,q⟩:=mz b;exact⟨_,.cons (.int _ _) q⟩
inductive DatL(K:W.Frag)(H:Hp):V->XO->Prop
 |flt {a:Addr}{l:ew}:SqL K H a (l.map V.int)->DatL K H (.ref a) (iD l)
 |lists {a:Addr}{as:List Addr}{ls:et}:SqL K H a (as.map V.ref)->Paired (λ(a:Addr) (l:ew)=>SqL K H a (l.map V.int)) as ls->DatL K H (.ref a) (.list (ls.map iD))
theorem Inv.Im{c:er}{σ:St}{H:Hp}{s:Shared}(I:Inv X c σ H s):∀{d:List Addr}{ls:et}{us:eC},Paired (λ(a:Addr) (l:ew)=>SqL X.K H a (l.map V.int)) d ls->Vals (d.map V.ref) us->∃bs,X6 s.heap us (ls.map iD) bs
 |_,_,_,.nil,r=>by cases r;exact⟨[],.nil⟩
 |_,_,_,.cons p q,r=>by
  cases r with
  |cons a b =>
   cases a;let⟨its,k,pl,m⟩:=I.list p;let⟨e,i⟩:=mz (h:=s.heap) k;let⟨o,g,hc,n,hd⟩:=pl.isList;let⟨f,j⟩:=I.Im q b;exact⟨_,.cons (.list g hc hd ↑i) j⟩
def DatL.reads{b:er}{σ:St}{H:Hp}{s:Shared}{x:V}{u:Value}{d:XO}(I:Inv X b σ H s)(h:DatL X.K H x d)(r:RelV x u):(∃as,X7 s.heap u d as)/\d.canLay0=true/\d.depth<=3:=by
 cases h with
 |@flt a l hs =>
  cases r;let⟨its,f,pl,g⟩:=I.list hs;let⟨as,e⟩:=mz (h:=s.heap) f;let⟨o,c,hc,n,hd⟩:=pl.isList;refine⟨⟨_,.list c hc hd ↑e⟩,Bd _,?_⟩;show PyData.depthAll _+1<=3;rw[sZ];lia
 |@lists a as ls hs hp =>
  cases r;let⟨its,f,pl,g⟩:=I.list hs;let⟨i,e⟩:=I.Im hp f;let⟨o,c,hc,n,hd⟩:=pl.isList;refine⟨⟨_,.list c hc hd ↑e⟩,Bc _,?_⟩;show PyData.depthAll _+1<=3;have:=sY ls;lia
def U5(K:W.Frag)(neg:Bool):R2:=λx y H Q=>∃d e b,DatL K H x d/\DatL K H y e/\PyData.eqv d e=b/\Q (.bl (if neg then !b else b)) H
def Wz(hu:X.A.units+64<Yh):OpR X (ZK .Eq) (U5 X.K false):=by
 intro a s σ H x y v u Q I j k h;let⟨d,e,b,hd,he,hb,q⟩:=h;let⟨⟨l,g⟩,c,n⟩:=hd.reads I j;let⟨⟨m,i⟩,f,o⟩:=he.reads I k;exact SeqAt.compareEq_reads g i c f () (hb ▸ ⟨.bl b,H,I,rfl,q⟩)
def RK(hu:X.A.units+64<Yh):OpR X (ZK .NotEq) (U5 X.K true):=by
 intro a s σ H x y v u Q I j k h;let⟨d,e,b,hd,he,hb,q⟩:=h;let⟨⟨l,g⟩,c,n⟩:=hd.reads I j;let⟨⟨m,i⟩,f,o⟩:=he.reads I k;exact SeqAt.compareNe_reads g i c f () (hb ▸ ⟨.bl (!b),H,I,rfl,q⟩)
def K1(a us:ew):PyData.eqv (iD a) (iD us)=decide (a=us):=K3 a us
end
end L2
namespace PySem
def Xd(h:Heap)(e:Addr):Prop:=∃oe vs,h.get? e=some oe/\oe.data=.fields vs/\vs[2]?=some .none
section
variable{M:ZD}{A:Zr}{E:em}{s:Shared}{fw:Heap}{env:Env}{outer:List Env}{L e:Addr}{Q:Unit->Shared->Prop}
end
end PySem
namespace L2
open PySem.Spec
variable{X:Cx}
def Xe(fw:Heap)(l:List Env)(e:Addr)(a b:Value)(h:Heap):Prop:=fw.StaysIn h/\fw.get? e=none/\h.FunFrames fw l/\h.TracedW fw e a b/\Xd h e
def CX1(P:Za)(w:Zb):CXT:=λouter H s E e s'=>∃(a:Addr)(cls a0:Value)(H1:Hp)(hb:Heap),e=.ref a/\s'.os=s.os/\ZB s'.gens/\Un (frs outer) [] H H1 s.heap s'.heap/\HOk P w H1 hb/\Xe hb outer a cls a0 s'.heap /\
 (∀b o,s.heap.get? b=some o->H b=none->b∉frs outer->hb.get? b=some o)/\(∀b o,s.heap.get? b=some o->b∉frs outer->∃o',hb.get? b=some o')/\E cls none H1
structure Lets(X:Cx)(E:XK):Prop where
 xe:∀e s',wpAny (model X.prog X.w) X.A (leaving X.env e) (λ_ s''=>CX1 X.prog X.w X.outer X.H₀ X.s₀ E e s'') (λe' s''=>CX1 X.prog X.w X.outer X.H₀ X.s₀ E e' s'') s'->X.xe e s'
 stk:X.stack=X.env::X.outer
 fr:X.env.frame=some X.env.locals
 ex:X.ex=[]
section
variable{pins:er}{σ:St}{H H1:Hp}{s:Shared}{E:XK}
end
structure ExcCls(K:W.Frag)(C:Addr)(newId:String)(bmB:eC):Prop where
 ex:∃(nm q:Str)(N:Addr)(bs bm:eC)(hdct:Bool)(sn:List Str)(sub:eC)(ab:Bool)(col:Option Bool)(dd:eD)(k0 k1 k2 k3 k5:eH),
  K.lookup C=some (excClassObj nm q C N bs bm hdct sn sub ab col dd k0 k1 k2 k3 k5 newId)/\W.tailIn K bmB bm=true/\W.nsOkIn K N=true/\W.nsIn K N "__init__"=some none/\bm.contains (.type "BaseException")=true
section
variable{E:XK}{x:Str}{C:Addr}{newId Bn initId:String}{bmB:eC}{e:Zt}{es:List Zt}{t:TA}{np cpos pos:Pos}
end
section
variable{pins:er}{σ:St}{H:Hp}{s:Shared}{ev:Value}
end
section
variable{k:Nat}{f CF:Addr}{fd:Yi}{ps:List Str}{sp:Sp}{E:XK}{x hx n:Str}{p np cpos epos hpos pos:Pos}{e:Zt}{es:List Zt}{t:TA}{b₀:ZF}{suite:List ZF}{ts:TS}{j:Nat}
end
end L2
namespace L2
open PySem.W PySem.Spec
structure ExcK(K:W.Frag)(C:Addr):Prop where
 ex:∃(nm q:Str)(N AF:Addr)(bs bmB:eC)(hdct:Bool)(sn:List Str)(sub:eC)(ab:Bool)(col:Option Bool)(dd ddF:eD)(k0 k1 k2 k3 k5:eH)(newId B:String)(c0:Value)(cd:ClassData)(slF:Array eH),
  K.lookup C=some (excClassObj nm q C N bs (.ref AF::bmB) hdct sn sub ab col dd k0 k1 k2 k3 k5 newId)/\K.lookup AF=some ⟨c0,ddF,.cls cd,slF⟩/\nsOkIn K cd.ns=true/\(∀n∈quietNames,nsIn K cd.ns n=some none)/\ExcAttrBase B bmB
 ga:findIn K (.ref C) "__getattribute__"=some (some (.builtin "BaseException.__getattribute__"))
 hook:findIn K (.ref C) "__getattr__"=some none
 cls:findIn K (.ref C) "__class__"=some (some (.builtin "object.__class__"))
 mro:mroIn K C (.type "object")=some true
section
variable{prog:Za}{w:Zb}{K:W.Frag}{a C:Addr}{A:Zr}{E:em}{s:Shared}
end
section
variable{X:Cx}
def Pz:R2:=λx y H Q=>∃a b xs ys,x=.ref a/\y=.ref b/\H a=some (.tup xs)/\H b=some (.tup ys)/\⇑xs+⇑ys<=sizeLine/\∀c H',(∀d u,H d=some u->H' d=some u)->H' c=some (.tup (xs++ys))->Q (.ref c) H'
def Nx:OpR X (Z5 .Add) Pz:=by
 intro c s σ H x y v u Q I o r h;let⟨a,b,xs,ys,rfl,rfl,ha,hb,g,q⟩:=h;cases o;cases r;let⟨its,l,j,_⟩:=I.tuple (SqT.of ha);let⟨i,n,k,_⟩:=I.tuple (SqT.of hb);by_cases f:xs=[]
 ·subst f;cases l;let⟨m,F⟩:=I.fr;refine add_tuples (vs:=[]) F JQ j k (λ_=>⟨.ref b,H,I,rfl,q b H (λ_ _ z=>z) ↑hb⟩) (λz=>ef rfl z) (λz=>ef rfl z) (by rw[←⇑n];simpa using g)
 ·refine Nv c s σ H (.ref a) (.ref b) (.ref a) (.ref b) Q I rfl rfl ⟨a,b,xs,ys,rfl,rfl,SqT.of ha,SqT.of hb,f,g,λe=>?_,λ_ p hp=>?_⟩
  ·subst e;exact q a H (λ_ _ z=>z) (by rw[List.append_nil];exact ha)
  ·exact q p _ (λd u z=>by rw[ao (aA z hp)];exact z) aB
end
section
variable{K:W.Frag}{C c:Addr}{dd:eD}{cd:ClassData}{sl:Array eH}
end
end L2
namespace Dl
open L2
variable{X:Cx}
abbrev D:=XO
def kD:Key->D
 |.inl i=>.int i
 |.inr x=>.str x
mutual
inductive Rp(ok:Addr->Prop)(H:Hp):V->D->Prop
 |non:Rp ok H .non .none
 |bl (b:Bool):Rp ok H (.bl b) (.bool b)
 |int (i:Int):Rp ok H (.int i) (.int i)
 |str (x:Str):Rp ok H (.str x) (.str x)
 |lst {a:Addr}{vs:List V}{ds:eI} (o:ok a) (h:H a=some (.lst vs)) (r:Rps ok H vs ds):Rp ok H (.ref a) (.list ds)
 |tup {a:Addr}{vs:List V}{ds:eI} (h:H a=some (.tup vs)) (r:Rps ok H vs ds):Rp ok H (.ref a) (.tuple ds)
 |dct {a:Addr}{kvs:List (Key×V)}{ds:List (D×D)} (o:ok a) (h:H a=some (.dK kvs)) (r:Rkv ok H kvs ds):Rp ok H (.ref a) (.dict ds)
inductive Rps(ok:Addr->Prop)(H:Hp):List V->eI->Prop
 |nil:Rps ok H [] []
 |cons {v:V}{d:D}{vs:List V}{ds:eI} (h:Rp ok H v d) (t:Rps ok H vs ds):Rps ok H (v::vs) (d::ds)
inductive Rkv(ok:Addr->Prop)(H:Hp):List (Key×V)->List (D×D)->Prop
 |nil:Rkv ok H [] []
 |cons {k:Key}{v:V}{d:D}{vs:List (Key×V)}{ds:List (D×D)} (h:Rp ok H v d) (t:Rkv ok H vs ds):Rkv ok H ((k,v)::vs) ((kD k,d)::ds)
end
section
variable{ok ok':Addr->Prop}{H H':Hp}
mutual
theorem Rp.mono(f:∀a,ok a->ok' a)(g:∀a o,ok a->H a=some o->H' a=some o)(t:∀a xs,H a=some (.tup xs)->H' a=some (.tup xs)):∀{v:V}{d:D},Rp ok H v d->Rp ok' H' v d
 |_,_,.non=>.non
 |_,_,.bl b=>.bl b
 |_,_,.int i=>.int i
 |_,_,.str x=>.str x
 |_,_,.lst o h r=>.lst (f _ o) (g _ _ o h) (Rps.mono f g t r)
 |_,_,.tup h r=>.tup (t _ _ h) (Rps.mono f g t r)
 |_,_,.dct o h r=>.dct (f _ o) (g _ _ o h) (Rkv.mono f g t r)
theorem Rps.mono(f:∀a,ok a->ok' a)(g:∀a o,ok a->H a=some o->H' a=some o)(t:∀a xs,H a=some (.tup xs)->H' a=some (.tup xs)):∀{v:List V}{d:eI},Rps ok H v d->Rps ok' H' v d
 |_,_,.nil=>.nil
 |_,_,.cons h r=>.cons (Rp.mono f g t h) (Rps.mono f g t r)
theorem Rkv.mono(f:∀a,ok a->ok' a)(g:∀a o,ok a->H a=some o->H' a=some o)(t:∀a xs,H a=some (.tup xs)->H' a=some (.tup xs)):∀{v:List (Key×V)}{d:List (D×D)},Rkv ok H v d->Rkv ok' H' v d
 |_,_,.nil=>.nil
 |_,_,.cons h r=>.cons (Rp.mono f g t h) (Rkv.mono f g t r)
end
theorem Rps.length:∀{vs:List V}{ds:eI},Rps ok H vs ds->⇑vs=⇑ds
 |_,_,.nil=>rfl
 |_,_,.cons _ t=>by rw[List.length_cons,List.length_cons,Rps.length t]
theorem Rps.get:∀{vs:List V}{ds:eI}{i:Nat}{v:V},Rps ok H vs ds->vs[i]?=some v->∃d,ds[i]?=some d/\Rp ok H v d
 |_,_,i,v,.nil,e=>by simp at e
 |_,_,0,v,.cons h t,e=>by simp at e;subst e;exact⟨_,rfl,h⟩
 |_,_,i+1,v,.cons h t,e=>by
  let⟨d,a,b⟩:=Rps.get (i:=i) (v:=v) t ↑e;exact⟨d,↑a,b⟩
theorem Rps.getD:∀{vs:List V}{ds:eI}{i:Nat}{d:D},Rps ok H vs ds->ds[i]?=some d->∃v,vs[i]?=some v/\Rp ok H v d
 |_,_,i,v,.nil,e=>by simp at e
 |_,_,0,v,.cons h t,e=>by simp at e;subst e;exact⟨_,rfl,h⟩
 |_,_,i+1,v,.cons h t,e=>by
  let⟨d,a,b⟩:=Rps.getD (i:=i) (d:=v) t ↑e;exact⟨d,↑a,b⟩
theorem Rps.app:∀{vs a:List V}{ds es:eI},Rps ok H vs ds->Rps ok H a es->Rps ok H (vs++a) (ds++es)
 |_,_,_,_,.nil,s=>s
 |_,_,_,_,.cons h t,s=>.cons h (Rps.app t s)
def Rps.snoc{vs:List V}{ds:eI}{v:V}{d:D}(h:Rps ok H vs ds)(r:Rp ok H v d):Rps ok H (vs++[v]) (ds++[d]):=h.app (.cons r .nil)
theorem Rps.take:∀{vs:List V}{ds:eI} (n:Nat),Rps ok H vs ds->Rps ok H (vs.take n) (ds.take n)
 |_,_,0,_=>by simp;exact .nil
 |_,_,_+1,.nil=>by simp;exact .nil
 |_,_,n+1,.cons r t=>.cons r (Rps.take n t)
theorem Rps.drop:∀{vs:List V}{ds:eI} (n:Nat),Rps ok H vs ds->Rps ok H (vs.drop n) (ds.drop n)
 |_,_,0,r=>r
 |_,_,_+1,.nil=>by simp;exact .nil
 |_,_,n+1,.cons _ t=>Rps.drop n t
theorem Rps.ofMap{α:Type}{f:α->V}{g:α->D}(h:∀x,Rp ok H (f x) (g x)):∀l:List α,Rps ok H (l.map f) (l.map g)
 |[]=>.nil
 |x::l=>.cons (h x) (Rps.ofMap h l)
def Rp.int'{v:V}{i:Int}(r:Rp ok H v (.int i)):v=.int i:=by cases r;rfl
def Rp.bl'{v:V}{i:Bool}(r:Rp ok H v (.bool i)):v=.bl i:=by cases r;rfl
def Rp.WM{v:V}(r:Rp ok H v .none):v=.non:=by cases r;rfl
def Rp.str'{v:V}{i:Str}(r:Rp ok H v (.str i)):v=.str i:=by cases r;rfl
def Rp.cV{v:V}{ds:eI}(r:Rp ok H v (.list ds)):∃a vs,v=.ref a/\ok a/\H a=some (.lst vs)/\Rps ok H vs ds:=by
 cases r with
 |lst o h r=>exact⟨_,_,rfl,o,h,r⟩
def Rp.dX{v:V}{ds:eI}(r:Rp ok H v (.tuple ds)):∃a vs,v=.ref a/\H a=some (.tup vs)/\Rps ok H vs ds:=by
 cases r with
 |tup h r=>exact⟨_,_,rfl,h,r⟩
theorem Rps.ints:∀{vs:List V}{ns:ew},Rps ok H vs (ns.map PyData.int)->vs=ns.map V.int
 |[],[],_=>rfl
 |_,n::ns,.cons h t=>by
  have e:=h.int';subst e;rw[Rps.ints t];rfl
def Rps.two{vs:List V}{d e:D}(r:Rps ok H vs [d,e]):∃v w,vs=[v,w]/\Rp ok H v d/\Rp ok H w e:=by
 cases r with
 |cons h t =>
  cases t with
  |cons h2 t2 =>
   cases t2;exact⟨_,_,rfl,h,h2⟩
end
mutual
def fj:D->Bool
 |.none=>true
 |.bool _=>true
 |.int _=>true
 |.str _=>true
 |.list _=>false
 |.tuple ds=>cG ds
 |.dict _=>false
def cG:eI->Bool
 |[]=>true
 |d::ds=>fj d&&cG ds
end
section
variable{ok:Addr->Prop}{H:Hp}
mutual
theorem Rp.imm:∀{v:V}{d:D},Rp ok H v d->fj d=true->Rp (λ_=>False) H v d
 |_,_,.non,_=>.non
 |_,_,.bl b,_=>.bl b
 |_,_,.int i,_=>.int i
 |_,_,.str x,_=>.str x
 |_,_,.tup h r,e=>.tup h (Rps.imm r e)
theorem Rps.imm:∀{v:List V}{d:eI},Rps ok H v d->cG d=true->Rps (λ_=>False) H v d
 |_,_,.nil,_=>.nil
 |_,_,.cons h r,e=>.cons (Rp.imm h (by simp only[cG,Bool.and_eq_true]at e;exact e.1)) (Rps.imm r (by simp only[cG,Bool.and_eq_true]at e;exact e.2))
end
end
def Fxd(o:HO):Prop:=∃x φ,o=.frz x (.ext φ)
structure Pn where
 fp:Addr->Prop
 PI:Hp->Prop
 pv:V
 mono:∀H H',PI H->(∀b o,(fp b\/Fxd o)->H b=some o->H' b=some o)->PI H'
 is:∀H b,PI H->fp b->∃o,H b=some o/\(∀xs,o≠.tup xs)/\¬Fxd o
class Gr where
 G:Pn->Hp->Prop
instance (priority:=low) grT:Gr:=⟨λ_ _=>True⟩
def nQ:Pn:=⟨λ_=>False,λ_=>True,.non,λ_ _ _ _=>trivial,λ_ _ _ h=>h.elim⟩
def Kp(p:Pn)(H H':Hp):Prop:=∀b o,H b=some o->¬p.fp b->H' b=some o
def Kp.refl{p:Pn}{H:Hp}:Kp p H H:=λ_ _ h _=>h
def Kp.trans{p:Pn}{H d e:Hp}(a:Kp p H d)(b:Kp p d e):Kp p H e:=λc o h n=>b c o (a c o h n) n
def Kp.of{p:Pn}{H H':Hp}(s:Same H H'):Kp p H H':=λb o h _=>s b o h
structure GS where
 Φ:(Addr->Prop)->(Addr->Prop)->Hp->V->Prop
 mono:∀{ok ok' nb nb':Addr->Prop}{H H':Hp}{v:V},(∀a o,ok a->H a=some o->ok' a/\H' a=some o)->(∀a o,nb a->H a=some o->(∀xs,o≠.tup xs)->¬Fxd o->nb' a/\H' a=some o)->(∀a xs,H a=some (.tup xs)->H' a=some (.tup xs))->Φ ok nb H v->Φ ok' nb' H' v
inductive Sl where
 |any
 |im (d:D)
 |sh (d:D)
 |sn (d:D)
 |dw (r:Nat) (d:D)
 |pen (C:Pn->Prop)
 |rw (r:Nat) (L:List eI)
 |tw (r:Nat) (L:List eI)
 |scr (v:V) (b:Bool)
 |sp (r:Nat) (b:Bool) (ds:eI)
 |gn (r:Nat) (g:GS)
inductive Kd where
 |imm|new|reg (r:Nat)|n0|snw|shr|wk
 deriving DecidableEq
def Kd.le:Kd->Kd->Bool
 |.imm,_=>true
 |.new,.new=>true
 |.new,.n0=>true
 |.new,.snw=>true
 |.new,.shr=>true
 |.new,.wk=>true
 |.reg r,.reg q=>r==q
 |.reg _,.n0=>true
 |.reg _,.wk=>true
 |.snw,.snw=>true
 |.snw,.n0=>true
 |.snw,.shr=>true
 |.snw,.wk=>true
 |.n0,.n0=>true
 |.n0,.wk=>true
 |.shr,.shr=>true
 |.shr,.wk=>true
 |.wk,.wk=>true
 |_,_=>false
def Kd.join(a b:Kd):Kd:=if a.le b then b else if b.le a then a else if a.le .n0&&b.le .n0 then .n0 else if a.le .shr&&b.le .shr then .shr else .wk
def norm(k:Kd)(d:D):Kd:=match k with
 |.imm=>.imm
 |k=>if fj d then .imm else k
def fM{k:Kd}{d:D}(h:fj d=true):norm k d=.imm:=by
 cases k <;> first
  |rfl
  |exact ed h
def rQ{k:Kd}{d:D}(h:¬fj d=true):norm k d=k:=by
 cases k <;> first
  |rfl
  |exact ee h
def okK(p:Pn)(H0:Hp)(own:Addr->Option Nat)(b:Hp):Kd->Addr->Prop
 |.imm=>λ_=>False
 |.new=>λa=>b a=none
 |.reg r=>λa=>own a=some r
 |.n0=>λa=>H0 a=none/\¬p.fp a
 |.snw=>λa=>H0 a=none/\¬p.fp a/\own a=none
 |.shr=>λa=>¬p.fp a/\own a=none
 |.wk=>λa=>¬p.fp a
structure At(p:Pn)(H0:Hp)(own:Addr->Option Nat)(Hb H:Hp):Prop where
 k0:∀b o,H0 b=some o->¬p.fp b->Hb b=some o
 kp:Kp p Hb H
 penb:p.PI Hb
 pen:p.PI H
 ow:∀a r,own a=some r->H0 a=none/\¬p.fp a/\Hb a≠none
section
variable{p:Pn}{H0 Hb H H':Hp}{own:Addr->Option Nat}
def At.nfp(A:At p H0 own Hb H){a:Addr}(h:H a=none):¬p.fp a:=λz=>by
 let⟨o,e,_⟩:=p.is H a A.pen z;rw[h]at e;cases e
def At.free(A:At p H0 own Hb H){a:Addr}(h:H a=none):Hb a=none:=by
 have hn:=A.nfp h;cases e:Hb a with
 |none=>rfl
 |some o=>rw[A.kp a o e hn]at h;cases h
def At.nfb(A:At p H0 own Hb H){a:Addr}(h:Hb a=none):¬p.fp a:=λz=>by
 let⟨o,e,_⟩:=p.is Hb a A.penb z;rw[h]at e;cases e
def At.Ah(A:At p H0 own Hb H){a:Addr}(h:Hb a=none):own a=none:=by
 cases e:own a with
 |none=>rfl
 |some r=>exact ef h (A.ow a r e).2.2
def At.h0(A:At p H0 own Hb H){a:Addr}(h:Hb a=none):H0 a=none:=by
 cases e:H0 a with
 |none=>rfl
 |some o=>rw[A.k0 a o e (A.nfb h)]at h;cases h
def dD(A:At p H0 own Hb H){j k:Kd}(h:j.le k=true){a:Addr}(o:okK p H0 own Hb j a):okK p H0 own Hb k a:=by
 cases j with
 |imm=>exact False.elim o
 |new =>
  cases k with
  |imm=>cases h
  |new=>exact o
  |reg r=>cases h
  |n0=>exact⟨A.h0 o,A.nfb o⟩
  |snw=>exact⟨A.h0 o,A.nfb o,A.Ah o⟩
  |shr=>exact⟨A.nfb o,A.Ah o⟩
  |wk=>exact A.nfb o
 |reg r =>
  cases k with
  |reg q =>
   have e:r=q:=by simpa[Kd.le]using h
   subst e;exact o
  |n0=>exact⟨(A.ow a r o).1,(A.ow a r o).2.1⟩
  |wk=>exact(A.ow a r o).2.1
  |_=>cases h
 |n0 =>
  cases k with
  |n0=>exact o
  |wk=>exact o.2
  |_=>cases h
 |snw =>
  cases k with
  |snw=>exact o
  |n0=>exact⟨o.1,o.2.1⟩
  |shr=>exact o.2
  |wk=>exact o.2.1
  |_=>cases h
 |shr =>
  cases k with
  |shr=>exact o
  |wk=>exact o.1
  |_=>cases h
 |wk =>
  cases k with
  |wk=>exact o
  |_=>cases h
def jh(A:At p H0 own Hb H){k:Kd}{a:Addr}(o:okK p H0 own Hb k a):¬p.fp a:=by
 have:k.le .wk=true:=by cases k <;> rfl
 exact dD A this o
def eN(A:At p H0 own Hb H){j k:Kd}(h:j.le k=true){v:V}{d:D}{b:Hp}(r:Rp (okK p H0 own Hb j) b v d):Rp (okK p H0 own Hb k) b v d :=
 r.mono (λa o=>dD A h o) (λ_ _ _ e=>e) λ_ _ e=>e
def dH(a b:Kd):a.le (a.join b)=true/\b.le (a.join b)=true:=by
 unfold Kd.join;by_cases h:a.le b=true
 ·rw[ed h];exact⟨h,by cases b <;> simp[Kd.le]⟩
 ·rw[ee h];by_cases h2:b.le a=true
  ·rw[ed h2];exact⟨by cases a <;> simp[Kd.le],h2⟩
  ·rw[ee h2];by_cases c:(a.le .n0&&b.le .n0)=true
   ·rw[ed c];exact Bool.and_eq_true _ _ ▸ c
   ·rw[ee c];by_cases d:(a.le .shr&&b.le .shr)=true
    ·rw[ed d];exact Bool.and_eq_true _ _ ▸ d
    ·rw[ee d];exact⟨by cases a <;> rfl,by cases b <;> rfl⟩
def aR{k:Kd}{v:V}{d:D}{a:Hp}(r:Rp (okK p H0 own Hb k) a v d):Rp (okK p H0 own Hb (norm k d)) a v d:=by
 by_cases h:fj d=true
 ·rw[fM h];exact r.imm h
 ·rw[rQ h];exact r
def jk(A:At p H0 own Hb H)(k:Kp p H H'):∀a xs,H a=some (.tup xs)->H' a=some (.tup xs):=λa xs h=>k a _ h λz=>by
 let⟨o,e,n⟩:=p.is H a A.pen z;rw[h]at e;exact n.1 xs (Option.some.inj e).symm
def nq(A:At p H0 own Hb H)(k:Kp p H H'){j:Kd}{v:V}{d:D}(r:Rp (okK p H0 own Hb j) H v d):Rp (okK p H0 own Hb j) H' v d :=
 r.mono (λ_ o=>o) (λa o h e=>k a o e (jh A h)) (jk A k)
def cU(A:At p H0 own Hb H)(k:Kp p H H'){j:Kd}{v:List V}{d:eI}(r:Rps (okK p H0 own Hb j) H v d):Rps (okK p H0 own Hb j) H' v d :=
 r.mono (λ_ o=>o) (λa o h e=>k a o e (jh A h)) (jk A k)
def At.go(A:At p H0 own Hb H)(k:Kp p H H')(i:p.PI H'):At p H0 own Hb H':=⟨A.k0,A.kp.trans k,A.penb,i,A.ow⟩
def At.fw{a:Hp}(A:At p H0 own Hb H)(B:At p H0 own H a):At p H0 own Hb a:=⟨A.k0,A.kp.trans B.kp,A.penb,B.pen,A.ow⟩
def JK(A:At p H0 own Hb H){k:Kd}{a:Addr}(o:okK p H0 own H k a):okK p H0 own Hb k a:=by
 cases k <;> first
  |exact o
  |exact A.free o
def kO(A:At p H0 own Hb H){k:Kd}{v:V}{d:D}{b:Hp}(r:Rp (okK p H0 own H k) b v d):Rp (okK p H0 own Hb k) b v d :=
 r.mono (λa o=>JK A o) (λ_ _ _ e=>e) λ_ _ e=>e
def At.new(A:At p H0 own Hb H){a:Addr}(h:H a=none)(o:HO):Kp p H (upd H a o)/\p.PI (upd H a o)/\okK p H0 own Hb .new a :=
 have s:Same H (upd H a o):=λb u q=>by rw[ao (aA q h)];exact q
 ⟨Kp.of s,p.mono H _ A.pen λb u _ q=>s b u q,A.free h⟩
end
structure RowsH(own:Addr->Option Nat)(r:Nat)(H:Hp)(st:Addr)(as:List Addr)(L:List eI):Prop where
 top:H st=some (.lst (as.map V.ref))
 nd:(st::as).Nodup
 ow:∀a∈st::as,own a=some r
 len:⇑as=⇑L
 row:∀(j:Nat)(a:Addr)(ds:eI),as[j]?=some a->L[j]?=some ds->∃vs,H a=some (.lst vs)/\Rps (λ_=>False) H vs ds
def RowsH.mono{own own':Addr->Option Nat}{r:Nat}{H H':Hp}{st:Addr}{c:List Addr}{L:List eI}(h:RowsH own r H st c L)(g:∀a o,own a=some r->H a=some o->own' a=some r/\H' a=some o)(t:∀a xs,H a=some (.tup xs)->H' a=some (.tup xs)):RowsH own' r H' st c L:=by
 have b:∀a∈st::c,∃o,H a=some o:=λa ha=>by
  rcases List.mem_cons.mp ha with rfl|ha
  ·exact⟨_,h.top⟩
  ·let⟨j,d⟩:=List.getElem?_of_mem ha;have hl:=(List.getElem?_eq_some_iff.mp d).1;let⟨vs,e,_⟩:=h.row j a _ d (List.getElem?_eq_getElem (by rw[←h.len];exact hl));exact⟨_,e⟩
 refine⟨(g st _ (h.ow st List.mem_cons_self) h.top).2,h.nd,λa ha=>?_,h.len,λj a ds e1 e2=>?_⟩
 ·let⟨o,e⟩:=b a ha;exact(g a o (h.ow a ha) e).1
 ·let⟨vs,e,f⟩:=h.row j a ds e1 e2;exact⟨vs,(g a _ (h.ow a (List.mem_cons_of_mem _ (List.mem_of_getElem? e1))) e).2,f.mono (λ_ o=>o) (λ_ _ o=>o.elim) t⟩
theorem pA{ok:Addr->Prop}{H:Hp}:∀(c:List Addr)(L:List eI),⇑c=⇑L->(∀a∈c,ok a)->(∀(j:Nat)(a:Addr)(ds:eI),c[j]?=some a->L[j]?=some ds->∃vs,H a=some (.lst vs)/\Rps (λ_=>False) H vs ds)->Rps ok H (c.map V.ref) (L.map PyData.list)
 |[],[],_,_,_=>.nil
 |a::c,d::L,hl,h,r=>by
  let⟨vs,e,f⟩:=r 0 a d rfl rfl;exact .cons (.lst (h a List.mem_cons_self) e (f.mono (λ_ o=>o.elim) (λ_ _ o=>o.elim) λ_ _ e=>e)) (pA c L ↑hl (λb hb=>h b (List.mem_cons_of_mem _ hb)) λj b ds e1 e2=>r (j+1) b ds e1 e2)
 |[],_::_,hl,_,_=>by cases hl
 |_::_,[],hl,_,_=>by cases hl
def RowsH.rp{own:Addr->Option Nat}{r:Nat}{H:Hp}{st:Addr}{b:List Addr}{L:List eI}(h:RowsH own r H st b L):Rp (λa=>own a=some r) H (.ref st) (.list (L.map PyData.list)) :=
 .lst (h.ow st List.mem_cons_self) h.top (pA b L h.len (λa ha=>h.ow a (List.mem_cons_of_mem _ ha)) h.row)
structure RowsT(own:Addr->Option Nat)(r:Nat)(H:Hp)(st:Addr)(as:List Addr)(L:List eI):Prop where
 top:H st=some (.tup (as.map V.ref))
 nd:as.Nodup
 ow:∀a∈as,own a=some r
 len:⇑as=⇑L
 row:∀(j:Nat)(a:Addr)(ds:eI),as[j]?=some a->L[j]?=some ds->∃vs,H a=some (.lst vs)/\Rps (λ_=>False) H vs ds
def RowsT.mono{own own':Addr->Option Nat}{r:Nat}{H H':Hp}{st:Addr}{b:List Addr}{L:List eI}(h:RowsT own r H st b L)(g:∀a o,own a=some r->H a=some o->own' a=some r/\H' a=some o)(t:∀a xs,H a=some (.tup xs)->H' a=some (.tup xs)):RowsT own' r H' st b L:=by
 refine⟨t st _ h.top,h.nd,λa ha=>?_,h.len,λj a ds e1 e2=>?_⟩
 ·let⟨j,c⟩:=List.getElem?_of_mem ha;have hl:=(List.getElem?_eq_some_iff.mp c).1;let⟨vs,e,_⟩:=h.row j a _ c (List.getElem?_eq_getElem (by rw[←h.len];exact hl));exact(g a _ (h.ow a ha) e).1
 ·let⟨vs,e,d⟩:=h.row j a ds e1 e2;exact⟨vs,(g a _ (h.ow a (List.mem_of_getElem? e1)) e).2,d.mono (λ_ o=>o) (λ_ _ o=>o.elim) t⟩
def RowsT.rp{own:Addr->Option Nat}{r:Nat}{H:Hp}{st:Addr}{b:List Addr}{L:List eI}(h:RowsT own r H st b L):Rp (λa=>own a=some r) H (.ref st) (.tuple (L.map PyData.list)) :=
 .tup h.top (pA b L h.len h.ow h.row)
def okS(p:Pn)(H0:Hp)(own:Addr->Option Nat)(b:Bool)(a:Addr):Prop:=(b=true->H0 a=none)/\¬p.fp a/\own a=none
def fY(p:Pn)(H0:Hp)(own:Addr->Option Nat)(σ:L2.St)(H:Hp)(i:Nat):Sl->Prop
 |.any=>True
 |.im d=>∃v,σ[i]?=some (some v)/\Rp (λ_=>False) H v d
 |.sh d=>∃v,σ[i]?=some (some v)/\Rp (λa=>¬p.fp a/\own a=none) H v d
 |.sn d=>∃v,σ[i]?=some (some v)/\Rp (λa=>H0 a=none/\¬p.fp a/\own a=none) H v d
 |.dw r d=>∃v,σ[i]?=some (some v)/\Rp (λa=>own a=some r) H v d
 |.pen C=>σ[i]?=some (some p.pv)/\C p
 |.rw r L=>∃st as,σ[i]?=some (some (.ref st))/\RowsH own r H st as L
 |.tw r L=>∃st as,σ[i]?=some (some (.ref st))/\RowsT own r H st as L
 |.scr v b=>σ[i]?=some (some v)/\(b=true->p=nQ)
 |.sp r b ds=>∃l vs,σ[i]?=some (some (.ref l))/\own l=some r/\H l=some (.lst vs)/\Rps (okS p H0 own b) H vs ds
 |.gn r g=>∃v,σ[i]?=some (some v)/\g.Φ (λa=>own a=some r) (λa=>¬p.fp a/\own a=none) H v
structure EnvD[Gr](p:Pn)(H0:Hp)(own:Addr->Option Nat)(σ:L2.St)(H:Hp)(ρ:List Sl):Prop where
 k0:∀b o,H0 b=some o->¬p.fp b->H b=some o
 pen:p.PI H
 ow:∀a r,own a=some r->H0 a=none/\¬p.fp a/\H a≠none
 slot:∀i s,ρ[i]?=some s->fY p H0 own σ H i s
 len:⇑ρ=⇑σ
 gr:Gr.G p H0
variable [Gr]
section
variable{p:Pn}{H0 H H':Hp}{own:Addr->Option Nat}{σ:L2.St}{ρ:List Sl}
def EnvD.at(E:EnvD p H0 own σ H ρ):At p H0 own H H:=⟨E.k0,Kp.refl,E.pen,E.pen,E.ow⟩
def EnvD.go(E:EnvD p H0 own σ H ρ)(k:Kp p H H')(i:p.PI H'):EnvD p H0 own σ H' ρ:=by
 have A:=E.at;have f:=jk A k;refine⟨λb o e n=>k b o (E.k0 b o e n) n,i,λa r e=>?_,λj s e=>?_,E.len,E.gr⟩
 ·let⟨h1,h2,m⟩:=E.ow a r e;refine⟨h1,h2,λz=>?_⟩;cases q:H a with
  |none=>exact m q
  |some o=>rw[k a o q h2]at z;cases z
 ·have q:=E.slot j s e;cases s with
  |any=>trivial
  |im d=>exact let⟨v,a,b⟩:=q;⟨v,a,b.mono (λ_ o=>o) (λ_ _ o=>o.elim) f⟩
  |sh d=>exact let⟨v,a,b⟩:=q;⟨v,a,b.mono (λ_ o=>o) (λc u o e=>k c u e o.1) f⟩
  |sn d=>exact let⟨v,a,b⟩:=q;⟨v,a,b.mono (λ_ o=>o) (λc u o e=>k c u e o.2.1) f⟩
  |dw r d=>exact let⟨v,a,b⟩:=q;⟨v,a,b.mono (λ_ o=>o) (λc u o e=>k c u e (E.ow c r o).2.1) f⟩
  |pen C=>exact q
  |rw r L=>exact let⟨st,as,a,b⟩:=q;⟨st,as,a,b.mono (λc u o e=>⟨o,k c u e (E.ow c r o).2.1⟩) f⟩
  |tw r L=>exact let⟨st,as,a,b⟩:=q;⟨st,as,a,b.mono (λc u o e=>⟨o,k c u e (E.ow c r o).2.1⟩) f⟩
  |scr v b=>exact q
  |sp r b ds=>exact let⟨l,vs,a,o,h,z⟩:=q;⟨l,vs,a,o,k l _ h (E.ow l r o).2.1,z.mono (λ_ o=>o) (λc u o e=>k c u e o.2.1) f⟩
  |gn r g=>exact let⟨v,a,b⟩:=q;⟨v,a,g.mono (λc o n e=>⟨n,k c o e (E.ow c r n).2.1⟩) (λc o n e _ _=>⟨n,k c o e n.1⟩) f b⟩
end
abbrev DK:=Kd->D->Prop
abbrev DE:=List Sl->DK->Prop
def bI(t:DE):TE:=λσ H Q=>∃p H0 own ρ P,EnvD p H0 own σ H ρ/\t ρ P/\∀k d v H',P k d->At p H0 own H H'->Rp (okK p H0 own H k) H' v d->Q v H'
abbrev PD(X:Cx)(e:Zt)(t:DE):Prop:=PE X e (bI t)
abbrev DA:=List Sl->(List (Kd×D)->Prop)->Prop
inductive RpK(p:Pn)(H0:Hp)(own:Addr->Option Nat)(Hb H:Hp):List V->List (Kd×D)->Prop
 |nil:RpK p H0 own Hb H [] []
 |cons {v:V}{kd:Kd×D}{vs:List V}{ks:List (Kd×D)} (h:Rp (okK p H0 own Hb kd.1) H v kd.2) (t:RpK p H0 own Hb H vs ks):RpK p H0 own Hb H (v::vs) (kd::ks)
def ju(t:DA):TA:=λσ H Q=>∃p H0 own ρ P,EnvD p H0 own σ H ρ/\t ρ P/\∀ks vs H',P ks->At p H0 own H H'->RpK p H0 own H H' vs ks->Q vs H'
abbrev PDA(X:Cx)(es:List Zt)(t:DA):Prop:=PA X es (ju t)
abbrev DT:=List Sl->(Bool->Prop)->Prop
def liftT(t:DT):TT:=λσ H Q=>∃p H0 own ρ P,EnvD p H0 own σ H ρ/\t ρ P/\∀b H',P b->At p H0 own H H'->Q b H'
abbrev PDT(X:Cx)(e:Zt)(t:DT):Prop:=PT X e (liftT t)
def PE.wk{X:Cx}{e:Zt}{t t':TE}(h:PE X e t)(w:∀σ H Q,t' σ H Q->t σ H Q):PE X e t':=λpins s σ H Q I q=>h pins s σ H Q I (w σ H Q q)
def PT.wk{X:Cx}{e:Zt}{t t':TT}(h:PT X e t)(w:∀σ H Q,t' σ H Q->t σ H Q):PT X e t':=λpins s σ H Q I q=>h pins s σ H Q I (w σ H Q q)
def PA.wk{X:Cx}{e:List Zt}{t t':TA}(h:PA X e t)(w:∀σ H Q,t' σ H Q->t σ H Q):PA X e t':=λpos pins s σ H Q I q=>h pos pins s σ H Q I (w σ H Q q)
section
variable{pos:Pos}{a b:Zt}{ta tb:DE}
theorem RpK.go{p:Pn}{H0 c H H':Hp}{own:Addr->Option Nat}(A:At p H0 own c H)(k:Kp p H H'):∀{vs:List V}{ks:List (Kd×D)},RpK p H0 own c H vs ks->RpK p H0 own c H' vs ks
 |_,_,.nil=>.nil
 |_,_,.cons h t=>.cons (nq A k h) (RpK.go A k t)
theorem RpK.fw{p:Pn}{H0 c H H':Hp}{own:Addr->Option Nat}(A:At p H0 own c H):∀{vs:List V}{ks:List (Kd×D)},RpK p H0 own H H' vs ks->RpK p H0 own c H' vs ks
 |_,_,.nil=>.nil
 |_,_,.cons h t=>.cons (kO A h) (RpK.fw A t)
def tV(i:Nat):DE:=λρ P=>match ρ[i]? with
 |some (.im d)=>P .imm d
 |some (.sh d)=>P .shr d
 |some (.sn d)=>P .snw d
 |some (.dw r d)=>P (.reg r) d
 |some (.rw r L)=>P (.reg r) (.list (L.map PyData.list))
 |some (.tw r L)=>P (.reg r) (.tuple (L.map PyData.list))
 |some (.sp r b ds)=>P (if b=true then .n0 else .wk) (.list ds)
 |_=>False
def Ru{i:Nat}{x:Str}{ps:Pos}(h:PE X (.Name x ps) (jw i)):PD X (.Name x ps) (tV i):=PE.wk h (by
 rintro σ H Q ⟨p,H0,own,ρ,P,E,t,q⟩;unfold tV at t;split at t
 ·rename_i d e;let⟨v,f,r⟩:=E.slot i _ e;exact⟨v,f,q _ _ _ _ t E.at r⟩
 ·rename_i d e;let⟨v,f,r⟩:=E.slot i _ e;exact⟨v,f,q _ _ _ _ t E.at r⟩
 ·rename_i d e;let⟨v,f,r⟩:=E.slot i _ e;exact⟨v,f,q _ _ _ _ t E.at r⟩
 ·rename_i d e;let⟨v,f,r⟩:=E.slot i _ e;exact⟨v,f,q _ _ _ _ t E.at r⟩
 ·rename_i r L e;let⟨st,g,f,h⟩:=E.slot i _ e;exact⟨_,f,q _ _ _ _ t E.at h.rp⟩
 ·rename_i r L e;let⟨st,g,f,h⟩:=E.slot i _ e;exact⟨_,f,q _ _ _ _ t E.at h.rp⟩
 ·rename_i r b ds e;let⟨l,vs,f,o,h,z⟩:=E.slot i _ e;refine⟨_,f,q _ _ _ _ t E.at ?_⟩;cases b with
  |true=>exact .lst ⟨(E.ow l r o).1,(E.ow l r o).2.1⟩ h (z.mono (λc n=>⟨n.1 rfl,n.2.1⟩) (λ_ _ _ e=>e) λ_ _ e=>e)
  |false=>exact .lst (E.ow l r o).2.1 h (z.mono (λc n=>n.2.1) (λ_ _ _ e=>e) λ_ _ e=>e)
 ·exact t.elim)
def tK(d:D):DE:=λ_ P=>P .imm d
def nO{e:Zt}{v:V}{d:D}(h:PE X e (tC v))(r:∀H,Rp (λ_=>False) H v d):PD X e (tK d):=PE.wk h (by
 rintro σ H Q ⟨p,H0,own,ρ,P,E,t,q⟩;exact q _ _ _ _ t E.at (r H))
def au{i:Int}{j:Nat}:PD X (.Constant (.int i) j pos) (tK (.int i)):=nO cL λ_=>.int i
def jt{i:Bool}{j:Nat}:PD X (.Constant (.bool i) j pos) (tK (.bool i)):=nO Vb λ_=>.bl i
def iI{j:Nat}:PD X (.Constant .none j pos) (tK .none):=nO Rm λ_=>.non
abbrev G2:=Kd->D->Kd->D->DK->Prop
def t2(g:G2)(ta tb:DE):DE:=λρ P=>ta ρ λk1 d1=>tb ρ λk2 d2=>g k1 d1 k2 d2 P
def Ok2(g:G2)(r:R2):Prop:=∀p H0 own Hb H x y k1 d1 k2 d2 P Q,At p H0 own Hb H->Rp (okK p H0 own Hb k1) H x d1->Rp (okK p H0 own Hb k2) H y d2->g k1 d1 k2 d2 P ->
 (∀k d v H',P k d->Kp p H H'->p.PI H'->Rp (okK p H0 own Hb k) H' v d->Q v H')->r x y H Q
def Dp{g:G2}{r:R2}(ok:Ok2 g r):∀σ H Q,bI (t2 g ta tb) σ H Q->tOp r (bI ta) (bI tb) σ H Q:=by
 rintro σ H Q ⟨p,H0,own,ρ,P,E,t,q⟩;refine⟨p,H0,own,ρ,_,E,t,λk1 d1 v1 H1 t1 A1 r1=>?_⟩;have c:=E.go A1.kp A1.pen;refine⟨p,H0,own,ρ,_,c,t1,λk2 d2 v2 H2 t2 A2 r2=>?_⟩;have A:At p H0 own H H2:=A1.fw A2;exact ok p H0 own H H2 v1 v2 k1 d1 k2 d2 P Q A (nq A1 A2.kp r1) (kO A1 r2) t2 λk d v H' h k3 i3 r3=>q k d v H' h (A.go k3 i3) r3
def uK{c:Operator}{r:R2}{g:G2}(d:OpR X (Z5 c) r)(ok:Ok2 g r)(ha:PD X a ta)(hb:PD X b tb):PD X (.BinOp a c b pos) (t2 g ta tb):=PE.wk (dB d ha hb) (Dp ok)
def rC{c:ZJ}{r:R2}{g:G2}(d:OpR X (ZK c) r)(ok:Ok2 g r)(ha:PD X a ta)(hb:PD X b tb)(hm:ZL c b=false):PD X (.Compare a [c] [b] pos) (t2 g ta tb):=PE.wk (Nq d ha hb hm) (Dp ok)
def dY(t:DE):DT:=λρ P=>t ρ λ_ d=>match d with
 |.bool b=>P b
 |_=>False
def rU{t:DE}:∀σ H Q,liftT (dY t) σ H Q->(bI t) σ H (λx H'=>∃k,x=.bl k/\Q k H'):=by
 rintro σ H Q ⟨p,H0,own,ρ,P,E,t,q⟩;refine⟨p,H0,own,ρ,_,E,t,λk d v H' h A r=>?_⟩;cases d with
 |bool b=>exact⟨b,r.bl',q b H' h A⟩
 |_=>exact h.elim
def gw{c:ZJ}{r:R2}{g:G2}(d:OpR X (ZK c) r)(ok:Ok2 g r)(ha:PD X a ta)(hb:PD X b tb)(hm:ZL c b=false):PDT X (.Compare a [c] [b] pos) (dY (t2 g ta tb)) :=
 PT.wk (nu d ha hb hm) λσ H Q h=>Dp ok σ H _ (rU σ H Q h)
def bT{e:Zt}{t:DE}(h:PD X e t)(he:∀whole,ZE e X.env whole=(do let v ←whole;standAt e.pos;holding [v] (ZO v)):=by intro _;rfl):PDT X e (dY t) :=
 PT.wk (Q8 h he) λσ H Q q=>rU σ H Q q
def V7(t:DT):DT:=λρ P=>t ρ λb=>P (!b)
def cJ{t:DT}(ha:PDT X a t):PDT X (.UnaryOp .Not a pos) (V7 t):=PT.wk (Q9 ha) (by
 rintro σ H Q ⟨p,H0,own,ρ,P,E,t,q⟩;exact⟨p,H0,own,ρ,_,E,t,λb H' h A=>q _ H' h A⟩)
abbrev PDW(X:Cx)(e:Zt)(t:DT):Prop:=PW X e (liftT t)
def PW.wk{X:Cx}{e:Zt}{t t':TT}(h:PW X e t)(w:∀σ H Q,t' σ H Q->t σ H Q):PW X e t':=λwh pins s σ H Q I q=>h wh pins s σ H Q I (w σ H Q q)
def GP(t u:DT):DT:=λρ P=>t ρ λb=>if b=true then u ρ P else P false
def dOr(t u:DT):DT:=λρ P=>t ρ λb=>if b=true then P true else u ρ P
section
variable{rest:List Zt}{t u:DT}
def jD(ha:PDT X a t):PDW X (.BoolOp .And [a] pos) t:=CV ha
def fH(ha:PDT X a t):PDW X (.BoolOp .Or [a] pos) t:=Q6 ha
def J6:∀σ H Q,liftT (GP t u) σ H Q->UJ (liftT t) (liftT u) σ H Q:=by
 rintro σ H Q ⟨p,H0,own,ρ,P,E,t,q⟩;refine⟨p,H0,own,ρ,_,E,t,λb H' h A=>?_⟩;cases b with
 |true=>exact bF ⟨p,H0,own,ρ,P,E.go A.kp A.pen,↑h,λc H2 h2 A2=>q c H2 h2 (A.fw A2)⟩
 |false=>exact bw (q false H' ↑h A)
def N7:∀σ H Q,liftT (dOr t u) σ H Q->tOr (liftT t) (liftT u) σ H Q:=by
 rintro σ H Q ⟨p,H0,own,ρ,P,E,t,q⟩;refine⟨p,H0,own,ρ,_,E,t,λb H' h A=>?_⟩;cases b with
 |true=>exact bF (q true H' ↑h A)
 |false=>exact bw ⟨p,H0,own,ρ,P,E.go A.kp A.pen,↑h,λc H2 h2 A2=>q c H2 h2 (A.fw A2)⟩
def nF(ha:PDT X a t)(hb:PDW X (.BoolOp .And (b::rest) pos) u):PDW X (.BoolOp .And (a::b::rest) pos) (GP t u):=PW.wk (IK ha hb) J6
def iG(ha:PDT X a t)(hb:PDW X (.BoolOp .Or (b::rest) pos) u):PDW X (.BoolOp .Or (a::b::rest) pos) (dOr t u):=PW.wk (U8 ha hb) N7
def PDW.pt{e:Zt}{t:DT}(h:PDW X e t):PDT X e t:=PW.pt h
end
end
variable [Gr]
section
variable{pos:Pos}{a b e:Zt}{es:List Zt}{ta tb te:DE}{t:DA}
def lR:DA:=λ_ P=>P []
def fU(te:DE)(t:DA):DA:=λρ P=>te ρ λk d=>t ρ λks=>P ((k,d)::ks)
def ak:PDA X [] lR:=PA.wk dZ (by
 rintro σ H Q ⟨p,H0,own,ρ,P,E,t,q⟩;exact q [] [] H t E.at .nil)
def aj(ha:PD X e te)(hr:PDA X es t)(hs:zS X e es:=by rfl):PDA X (e::es) (fU te t):=PA.wk (cD ha hr hs) (by
 rintro σ H Q ⟨p,H0,own,ρ,P,E,t,q⟩;refine⟨p,H0,own,ρ,_,E,t,λk d v H1 h A r=>?_⟩;refine⟨p,H0,own,ρ,_,E.go A.kp A.pen,h,λks vs H2 h2 A2 r2=>?_⟩;exact q _ _ H2 h2 (A.fw A2) (.cons (nq A A2.kp r) (RpK.fw A r2)))
def joins:List (Kd×D)->Kd
 |[]=>.imm
 |kd::ks=>kd.1.join (joins ks)
theorem RpK.all{p:Pn}{H0 c H d:Hp}{own:Addr->Option Nat}(A:At p H0 own c H):∀{vs:List V}{ks:List (Kd×D)}{k:Kd},(joins ks).le k=true->RpK p H0 own c d vs ks->Rps (okK p H0 own c (joins ks)) d vs (ks.map (·.2))
 |_,_,_,_,.nil=>.nil
 |_,kd::ks,k,e,.cons h t=>by
  have j:=dH kd.1 (joins ks);exact .cons (eN A j.1 h) ((RpK.all A (k:=joins ks) (by cases joins ks <;> simp[Kd.le]) t).mono (λa o=>dD A j.2 o) (λ_ _ _ e=>e) λ_ _ e=>e)
def Kd.le_refl(k:Kd):k.le k=true:=by cases k <;> simp[Kd.le]
theorem RpK.length{p:Pn}{H0 d c:Hp}{own:Addr->Option Nat}:∀{vs:List V}{ks:List (Kd×D)},RpK p H0 own d c vs ks->⇑vs=⇑ks
 |_,_,.nil=>rfl
 |_,_,.cons _ t=>by rw[List.length_cons,List.length_cons,RpK.length t]
def Pk(t:DA):DE:=λρ P=>t ρ λks=>⇑ks<=1000/\P ((joins ks).join .new) (.list (ks.map (·.2)))
def zN(t:DA):DE:=λρ P=>t ρ λks=>⇑ks<=1000/\P (norm (joins ks) (.tuple (ks.map (·.2)))) (.tuple (ks.map (·.2)))
def bM(h:PDA X es t):PD X (.List es pos) (Pk t):=PE.wk (vC h) (by
 rintro σ H Q ⟨p,H0,own,ρ,P,E,t,q⟩;refine⟨p,H0,own,ρ,_,E,t,λks vs H1 h A r=>?_⟩;have d:=Z9;have hl:=⇑r;refine⟨by have:=h.1;lia,λl hl=>?_⟩;let⟨c,f,g⟩:=A.new hl (.lst vs);have j:=dH (joins ks) .new;refine q _ _ _ _ h.2 (A.go c f) (.lst (dD A j.2 g) aB ?_);exact(cU A c (RpK.all A (Kd.le_refl _) r)).mono (λa o=>dD A j.1 o) (λ_ _ _ e=>e) λ_ _ e=>e)
def aV{x1}(h:PDA X es t):PD X (.Tuple es x1 pos) (zN t):=PE.wk (Jp h) (by
 rintro σ H Q ⟨p,H0,own,ρ,P,E,t,q⟩;refine⟨p,H0,own,ρ,_,E,t,λks vs H1 h A r=>?_⟩;have d:=Z9;have hl:=⇑r;refine⟨by have:=h.1;lia,λl hl=>?_⟩;let⟨c,f,g⟩:=A.new hl (.tup vs);exact q _ _ _ _ h.2 (A.go c f) (aR (.tup aB (cU A c (RpK.all A (Kd.le_refl _) r)))))
abbrev GC:=List (Kd×D)->DK->Prop
def tCl(g:GC)(t:DA):DE:=λρ P=>t ρ λks=>g ks P
def OkC(g:GC)(r:List V->Hp->VK->Prop):Prop:=∀p H0 own Hb H vs ks P Q,At p H0 own Hb H->RpK p H0 own Hb H vs ks->g ks P ->
 (∀k d v H',P k d->Kp p H H'->p.PI H'->Rp (okK p H0 own Hb k) H' v d->Q v H')->r vs H Q
def Qi{g:GC}{r:List V->Hp->VK->Prop}(ok:OkC g r):∀σ H Q,bI (tCl g t) σ H Q->tCB r (ju t) σ H Q:=by
 rintro σ H Q ⟨p,H0,own,ρ,P,E,t,q⟩;refine⟨p,H0,own,ρ,_,E,t,λks vs H1 h A r=>?_⟩;exact ok p H0 own H H1 vs ks P Q A r h λk d v H' h2 k2 i2 r2=>q k d v H' h2 (A.go k2 i2) r2
def gP{r:List V->Hp->VK->Prop}{id:String}{x:Str}{ps:Pos}{g:GC}(hc:eX X (.builtin id) r)(ok:OkC g r)(hg:Gl X x)(hm:X.mg x=none)(hv:Zq x=some (.builtin id))(ha:PDA X (e::es) t)(hn:x≠"__name__":=by decide)(hdb:zB x:=by decide)(he:zS X e es:=by rfl)(hpl:zP X pos es:=by rfl):PD X (.Call (.Name x ps) (e::es) [] pos) (tCl g t):=PE.wk (fK hc hg hm hv ha hn hdb he hpl) (Qi ok)
def rE{r:List V->Hp->VK->Prop}{id:String}{x:Str}{ps:Pos}{g:GC}(hc:eX X (.type id) r)(ok:OkC g r)(hg:Gl X x)(hm:X.mg x=none)(hv:Zq x=some (.type id))(ha:PDA X (e::es) t)(hn:x≠"__name__":=by decide)(hdb:zB x:=by decide)(he:zS X e es:=by rfl)(hpl:zP X pos es:=by rfl):PD X (.Call (.Name x ps) (e::es) [] pos) (tCl g t):=PE.wk (pC hc hg hm hv ha hn hdb he hpl) (Qi ok)
def spD(t:eo):Sp:=λvs H Q _=>∃ds P,Rps (λ_=>True) H vs ds/\t ds P/\∀d v H',P d->Same H H'->Rp (λa=>H a=none) H' v d->Q v H'
def spP(C:Pn->Prop)(t:eo):Sp:=λvs H Q _=>∃p vs' ds P,C p/\vs=p.pv::vs'/\p.PI H/\Rps (λa=>¬p.fp a) H vs' ds/\t ds P/\∀d v H',P d->Kp p H H'->p.PI H'->Rp (λa=>H a=none) H' v d->Q v H'
def tFn(f:eo)(t:DA):DE:=λρ P=>t ρ λks=>f (ks.map (·.2)) λd=>P (norm .new d) d
theorem RpK.rps{p:Pn}{H0 d H c:Hp}{own:Addr->Option Nat}(A:At p H0 own d H):∀{vs:List V}{ks:List (Kd×D)},RpK p H0 own d c vs ks->Rps (λa=>¬p.fp a) c vs (ks.map (·.2))
 |_,_,.nil=>.nil
 |_,_,.cons h t=>.cons (h.mono (λa o=>jh A o) (λ_ _ _ e=>e) λ_ _ e=>e) (RpK.rps A t)
def N8{f:eo}:∀σ H Q,bI (tFn f t) σ H Q->wQ (spD f) [] E0 (ju t) σ H Q:=by
 rintro σ H Q ⟨p,H0,own,ρ,P,E,t,q⟩;refine⟨p,H0,own,ρ,_,E,t,λks vs H1 h A r=>?_⟩;show spD f (vs++[]) H1 Q E0;rw[List.append_nil];refine⟨ks.map (·.2),_,(RpK.rps A r).mono (λ_ _=>trivial) (λ_ _ _ e=>e) λ_ _ e=>e,h,λd v H' h2 s r2=>?_⟩;have c:Kp p H1 H':=Kp.of s;refine q _ d v H' h2 (A.go c (p.mono H1 H' A.pen λb o _ e=>s b o e)) (aR ?_);exact r2.mono (λa o=>A.free o) (λ_ _ _ e=>e) λ_ _ e=>e
def Ml(C:Pn->Prop)(f:eo)(i:Nat)(t:DA):DE:=λρ P=>ρ[i]?=some (.pen C)/\tFn f t ρ P
def J5{C:Pn->Prop}{f:eo}{i:Nat}:∀σ H Q,bI (Ml C f i t) σ H Q->wQ (spP C f) [] E0 (Hz (jw i) (ju t)) σ H Q:=by
 rintro σ H Q ⟨p,H0,own,ρ,P,E,⟨hp,t⟩,q⟩;let⟨hs,c⟩:=E.slot i _ hp;refine⟨p.pv,hs,p,H0,own,ρ,_,E,t,λks vs H1 h A r=>?_⟩;show spP C f ((p.pv::vs)++[]) H1 Q E0;rw[List.append_nil];refine⟨p,vs,ks.map (·.2),_,c,rfl,A.pen,RpK.rps A r,h,λd v H' h2 k2 i2 r2=>?_⟩;exact q _ d v H' h2 (A.go k2 i2) (aR (r2.mono (λa o=>A.free o) (λ_ _ _ e=>e) λ_ _ e=>e))
def gI(C:Int->Int->Prop)(f:Int->Int->D):G2:=λ_ d1 _ d2 P=>match d1,d2 with
 |.int i,.int j=>C i j/\P .imm (f i j)
 |_,_=>False
def gI0(f:Int->Int->D):G2:=λ_ d1 _ d2 P=>match d1,d2 with
 |.int i,.int j=>P .imm (f i j)
 |_,_=>False
def okI{C:Int->Int->Prop}{f:Int->Int->D}{g:Int->Int->V}(h:∀i j H,Rp (λ_=>False) H (g i j) (f i j)):Ok2 (gI C f) (rI C g):=by
 intro p H0 own k H x y n l o m P Q A c d t q;unfold gI at t;split at t
 ·rename_i i j;exact⟨i,j,c.int',d.int',t.1,q _ _ _ _ t.2 Kp.refl A.pen (h i j H)⟩
 ·exact t.elim
def Ao{f:Int->Int->D}{g:Int->Int->V}(h:∀i j H,Rp (λ_=>False) H (g i j) (f i j)):Ok2 (gI0 f) (rI0 g):=by
 intro p H0 own k H x y n l o m P Q A c d t q;unfold gI0 at t;split at t
 ·rename_i i j;exact⟨i,j,c.int',d.int',q _ _ _ _ t Kp.refl A.pen (h i j H)⟩
 ·exact t.elim
def Rv(ha:PD X a ta)(hb:PD X b tb):PD X (.BinOp a .Add b pos) (t2 (gI0 λi j=>.int (i+j)) ta tb):=uK jM (Ao λi j _=>.int _) ha hb
def jg(ha:PD X a ta)(hb:PD X b tb):PD X (.BinOp a .Sub b pos) (t2 (gI0 λi j=>.int (i - j)) ta tb):=uK RD (Ao λi j _=>.int _) ha hb
def qH(ha:PD X a ta)(hb:PD X b tb):PD X (.BinOp a .FloorDiv b pos) (t2 (gI T6 λi j=>.int (i / j)) ta tb):=uK qK (okI λi j _=>.int _) ha hb
def vH(ha:PD X a ta)(hb:PD X b tb):PD X (.BinOp a .Mod b pos) (t2 (gI (λ_ j=>0<j) λi j=>.int (i % j)) ta tb):=uK jL (okI λi j _=>.int _) ha hb
def Jw(ha:PD X a ta)(hb:PD X b tb):PD X (.Compare a [.Lt] [b] pos) (t2 (gI0 λi j=>.bool (decide (i<j))) ta tb):=rC Dg (Ao λi j _=>.bl _) ha hb (dJ _)
def uL(ha:PD X a ta)(hb:PD X b tb):PD X (.Compare a [.Gt] [b] pos) (t2 (gI0 λi j=>.bool (decide (j<i))) ta tb):=rC JC (Ao λi j _=>.bl _) ha hb (dJ _)
def Ac(ha:PD X a ta)(hb:PD X b tb):PDT X (.Compare a [.Lt] [b] pos) (dY (t2 (gI0 λi j=>.bool (decide (i<j))) ta tb)):=gw Dg (Ao λi j _=>.bl _) ha hb (dJ _)
def pF(ha:PD X a ta)(hb:PD X b tb):PDT X (.Compare a [.Gt] [b] pos) (dY (t2 (gI0 λi j=>.bool (decide (j<i))) ta tb)):=gw JC (Ao λi j _=>.bl _) ha hb (dJ _)
def Ad(ha:PD X a ta)(hb:PD X b tb):PDT X (.Compare a [.GtE] [b] pos) (dY (t2 (gI0 λi j=>.bool (decide (j<=i))) ta tb)):=gw PL (Ao λi j _=>.bl _) ha hb (dJ _)
def scD:D->D->Option Bool
 |.int i,.int j=>some (decide (i=j))
 |.bool i,.bool j=>some (decide (i=j))
 |.str i,.str j=>some (decide (i=j))
 |_,_=>none
def gEq(neg:Bool):G2:=λ_ d1 _ d2 P=>match scD d1 d2 with
 |some b=>P .imm (.bool (if neg then !b else b))
 |none=>False
def WL:Ok2 (gEq false) rEq:=by
 intro p H0 own g H x y l h m k P Q A d f t q;unfold gEq scD at t;split at t
 ·rename_i b e;split at e <;> first|cases e|skip
  ·rw[d.int',f.int'];refine⟨rfl,?_⟩;have c:∀i j:Int,decide (V.int i=V.int j)=decide (i=j):=λi j=>by simp
   rw[c];exact q _ _ _ _ t Kp.refl A.pen (.bl _)
  ·rw[d.bl',f.bl'];refine⟨rfl,?_⟩;have c:∀i j:Bool,decide (V.bl i=V.bl j)=decide (i=j):=λi j=>by simp
   rw[c];exact q _ _ _ _ t Kp.refl A.pen (.bl _)
  ·rw[d.str',f.str'];refine⟨rfl,?_⟩;have c:∀i j:Str,decide (V.str i=V.str j)=decide (i=j):=λi j=>by simp
   rw[c];exact q _ _ _ _ t Kp.refl A.pen (.bl _)
 ·exact t.elim
def WK:Ok2 (gEq true) rNe:=by
 intro p H0 own g H x y l h m k P Q A d f t q;unfold gEq scD at t;split at t
 ·rename_i b e;split at e <;> first|cases e|skip
  ·rw[d.int',f.int'];refine⟨rfl,?_⟩;have c:∀i j:Int,decide (V.int i=V.int j)=decide (i=j):=λi j=>by simp
   rw[c];exact q _ _ _ _ t Kp.refl A.pen (.bl _)
  ·rw[d.bl',f.bl'];refine⟨rfl,?_⟩;have c:∀i j:Bool,decide (V.bl i=V.bl j)=decide (i=j):=λi j=>by simp
   rw[c];exact q _ _ _ _ t Kp.refl A.pen (.bl _)
  ·rw[d.str',f.str'];refine⟨rfl,?_⟩;have c:∀i j:Str,decide (V.str i=V.str j)=decide (i=j):=λi j=>by simp
   rw[c];exact q _ _ _ _ t Kp.refl A.pen (.bl _)
 ·exact t.elim
def gIx:G2:=λk1 d1 _ d2 P=>match d1,d2 with
 |.list ds,.int i=>∃d,atI ds i=some d/\P (norm k1 d) d
 |.tuple ds,.int i=>∃d,atI ds i=some d/\P (norm k1 d) d
 |_,_=>False
def Rps.atI{ok:Addr->Prop}{H:Hp}{vs:List V}{ds:eI}{i:Int}{d:D}(r:Rps ok H vs ds)(h:L2.atI ds i=some d):∃v,L2.atI vs i=some v/\Rp ok H v d:=by
 unfold L2.atI at h ⊢;rw[⇑r];cases e:ixN ⇑ds i with
 |none=>rw[e]at h;cases h
 |some j =>
  rw[e]at h;let⟨v,h1,h2⟩:=r.getD (i:=j) (d:=d) h;exact⟨v,h1,h2⟩
def iB{p:Pn}{H0 d H:Hp}{own:Addr->Option Nat}{vs:List V}{c:Kd×D}(r:RpK p H0 own d H vs [c]):∃v,vs=[v]/\Rp (okK p H0 own d c.1) H v c.2:=by
 cases r with
 |cons h t=>cases t;exact⟨_,rfl,h⟩
def Ih{p:Pn}{H0 c H:Hp}{own:Addr->Option Nat}{vs:List V}{d f:Kd×D}(r:RpK p H0 own c H vs [d,f]):∃v w,vs=[v,w]/\Rp (okK p H0 own c d.1) H v d.2/\Rp (okK p H0 own c f.1) H w f.2:=by
 cases r with
 |cons h t =>
  cases t with
  |cons h2 t2=>cases t2;exact⟨_,_,rfl,h,h2⟩
def Ol:GC:=λks P=>match ks with
 |[(_,.list ds)]=>P .imm (.int ⇑ds)
 |[(_,.tuple ds)]=>P .imm (.int ⇑ds)
 |_=>False
def Vf{K:W.Frag}:OkC Ol (λxs H Q=>∃p ys,xs=[.ref p]/\(SqL K H p ys\/SqT K H p ys)/\Q (.int ⇑ys) H):=by
 intro p H0 own g H vs ks P Q A r t q;unfold Ol at t;split at t
 ·let⟨v,rfl,d⟩:=iB r;let⟨c,vs,rfl,o,hc,f⟩:=d.cV;exact⟨c,vs,rfl,.inl (SqL.of hc),by rw[⇑f];exact q _ _ _ _ t Kp.refl A.pen (.int _)⟩
 ·let⟨v,rfl,d⟩:=iB r;let⟨c,vs,rfl,hc,f⟩:=d.dX;exact⟨c,vs,rfl,.inr (SqT.of hc),by rw[⇑f];exact q _ _ _ _ t Kp.refl A.pen (.int _)⟩
 ·exact t.elim
def cM{ps:Pos}(hm:X.mg "len"=none)(ha:PDA X [a] t)(hg:Gl X "len":=by rfl)(he:zS X a []:=by rfl)(hpl:zP X pos []:=by rfl):PD X (.Call (.Name "len" ps) [a] [] pos) (tCl Ol t) :=
 gP jr Vf hg hm PySem.boot_len ha ∅ ∅ he hpl
def S7:GC:=λks P=>match ks with
 |[(_,.int i)]=>P .imm (.int i)
 |[(_,.bool b)]=>P .imm (.int (if b then 1 else 0))
 |_=>False
def iu{ps:Pos}(hm:X.mg "int"=none)(hv:Zq "int"=some (.type "int"))(ha:PDA X [a] t)(hg:Gl X "int":=by rfl)(he:zS X a []:=by rfl)(hpl:zP X pos []:=by rfl):PD X (.Call (.Name "int" ps) [a] [] pos) (tCl S7 t) :=
 rE G4 (by
  intro p H0 own d H vs ks P Q A r t q;unfold S7 at t;split at t
  ·rename_i k i;let⟨v,rfl,c⟩:=iB r;rw[c.int'];exact .inl ⟨i,rfl,q _ _ _ _ t Kp.refl A.pen (.int _)⟩
  ·rename_i k i;let⟨v,rfl,c⟩:=iB r;rw[c.bl'];exact .inr ⟨i,rfl,q _ _ _ _ t Kp.refl A.pen (.int _)⟩
  ·exact t.elim) hg hm hv ha ∅ ∅ he hpl
end
variable [Gr]
section
variable{ok ok':Addr->Prop}{H H':Hp}
mutual
theorem Rp.bO(f:∀a o,ok a->H a=some o->ok' a/\H' a=some o)(t:∀a xs,H a=some (.tup xs)->H' a=some (.tup xs)):∀{v:V}{d:D},Rp ok H v d->Rp ok' H' v d
 |_,_,.non=>.non
 |_,_,.bl b=>.bl b
 |_,_,.int i=>.int i
 |_,_,.str x=>.str x
 |_,_,.lst o h r=>.lst (f _ _ o h).1 (f _ _ o h).2 (Rps.bO f t r)
 |_,_,.tup h r=>.tup (t _ _ h) (Rps.bO f t r)
 |_,_,.dct o h r=>.dct (f _ _ o h).1 (f _ _ o h).2 (Rkv.bO f t r)
theorem Rps.bO(f:∀a o,ok a->H a=some o->ok' a/\H' a=some o)(t:∀a xs,H a=some (.tup xs)->H' a=some (.tup xs)):∀{v:List V}{d:eI},Rps ok H v d->Rps ok' H' v d
 |_,_,.nil=>.nil
 |_,_,.cons h r=>.cons (Rp.bO f t h) (Rps.bO f t r)
theorem Rkv.bO(f:∀a o,ok a->H a=some o->ok' a/\H' a=some o)(t:∀a xs,H a=some (.tup xs)->H' a=some (.tup xs)):∀{v:List (Key×V)}{d:List (D×D)},Rkv ok H v d->Rkv ok' H' v d
 |_,_,.nil=>.nil
 |_,_,.cons h r=>.cons (Rp.bO f t h) (Rkv.bO f t r)
end
end
structure DEnds where
 nx:List Sl->Prop
 rt:D->Prop
 bk:List Sl->Prop:=λ_=>False
 ct:List Sl->Prop:=λ_=>False
abbrev DS:=DEnds->List Sl->Prop
structure FrS(p:Pn)(own:Addr->Option Nat)(H:Hp)(own':Addr->Option Nat)(H':Hp):Prop where
 keep:∀b o,H b=some o->¬p.fp b->own b=none->H' b=some o/\own' b=none
 tup:∀a xs,H a=some (.tup xs)->H' a=some (.tup xs)
def FrS.trans{p:Pn}{i j k:Addr->Option Nat}{d f g:Hp}(a:FrS p i d j f)(b:FrS p j f k g):FrS p i d k g:=⟨λc o h n e=>let⟨x,y⟩:=a.keep c o h n e;b.keep c o x n y,λc xs e=>b.tup c xs (a.tup c xs e)⟩
def FrS.refl{p:Pn}{b:Addr->Option Nat}{a:Hp}:FrS p b a b a:=⟨λ_ _ h _ e=>⟨h,e⟩,λ_ _ e=>e⟩
def At.tups{p:Pn}{H0 H H':Hp}{own:Addr->Option Nat}(A:At p H0 own H H'):∀a xs,H a=some (.tup xs)->H' a=some (.tup xs):=jk (⟨A.k0,Kp.refl,A.penb,A.penb,A.ow⟩:At p H0 own H H) A.kp
structure RPost(p:Pn)(H0 H':Hp)(v:V)(d:D):Prop where
 k0:∀b o,H0 b=some o->¬p.fp b->H' b=some o
 pen:p.PI H'
 rp:Rp (λa=>H0 a=none/\¬p.fp a) H' v d
structure Wish(p:Pn)(H0:Hp)(own:Addr->Option Nat)(H:Hp)(P:DEnds)(Q:Ends):Prop where
 nx:∀own' σ' H' ρ',EnvD p H0 own' σ' H' ρ'->FrS p own H own' H'->P.nx ρ'->Q.nx σ' H'
 rt:∀d v H',P.rt d->RPost p H0 H' v d->Q.rt v H'
 bk:∀own' σ' H' ρ',EnvD p H0 own' σ' H' ρ'->FrS p own H own' H'->P.bk ρ'->Q.bk σ' H'
 ct:∀own' σ' H' ρ',EnvD p H0 own' σ' H' ρ'->FrS p own H own' H'->P.ct ρ'->Q.ct σ' H'
def Wish.go{p:Pn}{H0 H H':Hp}{own own':Addr->Option Nat}{P:DEnds}{Q:Ends}(w:Wish p H0 own H P Q)(f:FrS p own H own' H'):Wish p H0 own' H' P Q :=
 ⟨λo s h r e g n=>w.nx o s h r e (f.trans g) n,w.rt,λo s h r e g n=>w.bk o s h r e (f.trans g) n,λo s h r e g n=>w.ct o s h r e (f.trans g) n⟩
def jT(t:DS):TS:=λQ σ H=>∃p H0 own ρ P,EnvD p H0 own σ H ρ/\t P ρ/\Wish p H0 own H P Q
abbrev PDS(X:Cx)(st:ZF)(t:DS):Prop:=PS X st (jT t)
abbrev mV(X:Cx)(st:List ZF)(t:DS):Prop:=PSs X st (jT t)
def PSs.wk'{X:Cx}{a:List ZF}{t t':TS}(h:PSs X a t)(w:∀D σ H,t' D σ H->t D σ H):PSs X a t':=λpins s σ H D I q=>h pins s σ H D I (w D σ H q)
def PS.wk'{X:Cx}{a:ZF}{t t':TS}(h:PS X a t)(w:∀D σ H,t' D σ H->t D σ H):PS X a t':=λpins s σ H D I q=>h pins s σ H D I (w D σ H q)
def At.frs{p:Pn}{H0 H H':Hp}{own:Addr->Option Nat}(A:At p H0 own H H'):FrS p own H own H':=⟨λb o h n e=>⟨A.kp b o h n,e⟩,A.tups⟩
section
variable{pos:Pos}{st:ZF}{rest:List ZF}{e:Zt}{te:DE}{t u:DS}
def qe:DS:=λP ρ=>P.nx ρ
def ur(t u:DS):DS:=λP ρ=>t { P with nx:=u P } ρ
def aM:mV X [] qe:=PSs.wk' nA (by
 rintro Q σ H ⟨p,H0,own,ρ,P,E,t,w⟩;exact w.nx own σ H ρ E FrS.refl t)
def aq(h1:PDS X st t)(h2:mV X rest u):mV X (st::rest) (ur t u):=PSs.wk' (cC h1 h2) (by
 rintro Q σ H ⟨p,H0,own,ρ,P,E,t,w⟩;exact⟨p,H0,own,ρ,_,E,t,⟨λo s h r e g n=>⟨p,H0,o,r,P,e,n,w.go g⟩,w.rt,w.bk,w.ct⟩⟩)
def aC(h1:PDS X st t):mV X [st] t:=fZ h1
def gW:PDS X st (λ_ _=>False):=PS.wk' Jd (by
 rintro Q σ H ⟨p,H0,own,ρ,P,E,t,w⟩;exact t)
def Tq(te:DE):DS:=λP ρ=>te ρ λk d=>k.le .n0=true/\P.rt d
def aL(he:PD X e te):PDS X (.Return (some e) pos) (Tq te):=PS.wk' (mD he) (by
 rintro Q σ H ⟨p,H0,own,ρ,P,E,t,w⟩;refine⟨p,H0,own,ρ,_,E,t,λk d v H' h A r=>w.rt d v H' h.2 ⟨λb o e n=>A.kp b o (A.k0 b o e n) n,A.pen,?_⟩⟩;exact eN A h.1 r)
def dIf(c:DT)(t u:DS):DS:=λP ρ=>c ρ λb=>if b=true then t P ρ else u P ρ
theorem cF{c:Zt}{a b:List ZF}{d:DT}(hc:PDT X c d)(ha:mV X a t)(hb:mV X b u):PDS X (.If c a b pos) (dIf d t u):=PS.wk' (xu hc ha hb) (by
 rintro Q σ H ⟨p,H0,own,ρ,P,E,t,w⟩;refine⟨p,H0,own,ρ,_,E,t,λb H' h A=>?_⟩;cases b with
 |true=>exact bF ⟨p,H0,own,ρ,P,E.go A.kp A.pen,↑h,w.go A.frs⟩
 |false=>exact bw ⟨p,H0,own,ρ,P,E.go A.kp A.pen,↑h,w.go A.frs⟩)
def Qu(te:DE):DS:=λP ρ=>te ρ λ_ _=>P.nx ρ
def lH(he:PD X e te)(hs:ZQ e none pos.line X.env=pure false:=by rfl):PDS X (.Expr e pos) (Qu te):=PS.wk' (gb he hs) (by
 rintro Q σ H ⟨p,H0,own,ρ,P,E,t,w⟩;exact⟨p,H0,own,ρ,_,E,t,λk d v H' h A r=>w.nx own σ H' ρ (E.go A.kp A.pen) A.frs h⟩)
def Sl.region:Sl->Option Nat
 |.dw r _=>some r
 |.rw r _=>some r
 |.tw r _=>some r
 |.sp r _ _=>some r
 |.gn r _=>some r
 |_=>none
def qb(r:Nat)(ρ:List Sl)(i:Nat):Bool:=(ρ.set i .any).all λs=>s.region != some r
def stK(a:Option Nat)(ρ:List Sl)(i:Nat)(k:Kd)(d:D):Option Sl:=match k with
 |.imm=>some (.im d)
 |.new=>match a with
  |some r=>if qb r ρ i=true then some (.dw r d)else none
  |none=>some (.sn d)
 |.reg r=>some (.dw r d)
 |.snw=>some (.sn d)
 |.shr=>some (.sh d)
 |_=>none
def GK(i:Nat)(a:Option Nat)(te:DE):DS:=λP ρ=>te ρ λk d=>match stK a ρ i (norm k d) d with
 |some s=>P.nx (ρ.set i s)
 |none=>False
section
variable{p:Pn}{H0 H H1:Hp}{own:Addr->Option Nat}{σ:L2.St}{ρ:List Sl}{i:Nat}
def EnvD.set{v:V}{s:Sl}(E:EnvD p H0 own σ H ρ)(hs:i<⇑σ->fY p H0 own (σ.set i (some v)) H i s):EnvD p H0 own (σ.set i (some v)) H (ρ.set i s):=by
 refine⟨E.k0,E.pen,E.ow,λj s' e=>?_,↑E.len,E.gr⟩;by_cases a:j=i
 ·subst a;have hl:j<⇑ρ:=by
   have:=(List.getElem?_eq_some_iff.mp e).1;simpa using this
  rw[List.getElem?_set_self hl]at e;cases e;exact hs (by rw[←E.len];exact hl)
 ·rw[List.getElem?_set_ne (Ne.symm a)]at e;have q:=E.slot j s' e;have b:(σ.set i (some v))[j]?=σ[j]?:=List.getElem?_set_ne (Ne.symm a);cases s' <;> simp only[fY,b]at q ⊢ <;> exact q
def cW(r:Nat)(H H1:Hp)(own:Addr->Option Nat):Addr->Option Nat:=λa=>match H a,H1 a with
 |none,some _=>some r
 |_,_=>own a
def bL{r:Nat}{a:Addr}{o:HO}(h:H a=some o):cW r H H1 own a=own a:=by unfold cW;rw[h]
def jd{r:Nat}{a:Addr}{o:HO}(h:H a=none)(h1:H1 a=some o):cW r H H1 own a=some r:=by unfold cW;rw[h,h1]
def EnvD.adopt(r:Nat)(E:EnvD p H0 own σ H ρ)(A:At p H0 own H H1):EnvD p H0 (cW r H H1 own) σ H1 ρ:=by
 have k:=jk E.at A.kp;refine⟨λb o e n=>A.kp b o (E.k0 b o e n) n,A.pen,λa q e=>?_,λj s e=>?_,E.len,E.gr⟩
 ·cases h:H a with
  |some o =>
   rw[bL h]at e;let⟨x,y,z⟩:=E.ow a q e;refine⟨x,y,by rw[A.kp a o h y];exact λz=>nomatch z⟩
  |none =>
   cases h1:H1 a with
   |none =>
    have m:own a=some q:=by rw[←e];unfold cW;rw[h,h1]
    exact ef h (E.ow a q m).2.2
   |some o=>exact⟨E.at.h0 h,E.at.nfb h,λz=>nomatch z⟩
 ·have q:=E.slot j s e;cases s with
  |any=>trivial
  |im d=>exact let⟨v,a,b⟩:=q;⟨v,a,b.mono (λ_ o=>o) (λ_ _ o=>o.elim) k⟩
  |sh d=>exact let⟨v,a,b⟩:=q;⟨v,a,b.bO (λc o n h=>⟨⟨n.1,by rw[bL h];exact n.2⟩,A.kp c o h n.1⟩) k⟩
  |sn d=>exact let⟨v,a,b⟩:=q;⟨v,a,b.bO (λc o n h=>⟨⟨n.1,n.2.1,by rw[bL h];exact n.2.2⟩,A.kp c o h n.2.1⟩) k⟩
  |dw f d=>exact let⟨v,a,b⟩:=q;⟨v,a,b.bO (λc o n h=>⟨by rw[bL h];exact n,A.kp c o h (E.ow c f n).2.1⟩) k⟩
  |pen C=>exact q
  |rw f L=>exact let⟨st,as,a,b⟩:=q;⟨st,as,a,b.mono (λc o n h=>⟨by rw[bL h];exact n,A.kp c o h (E.ow c f n).2.1⟩) k⟩
  |tw f L=>exact let⟨st,as,a,b⟩:=q;⟨st,as,a,b.mono (λc o n h=>⟨by rw[bL h];exact n,A.kp c o h (E.ow c f n).2.1⟩) k⟩
  |scr v b=>exact q
  |sp f b ds=>exact let⟨l,vs,a,o,h,z⟩:=q;⟨l,vs,a,by rw[bL h];exact o,A.kp l _ h (E.ow l f o).2.1,z.bO (λc u n e=>⟨⟨n.1,n.2.1,by rw[bL e];exact n.2.2⟩,A.kp c u e n.2.1⟩) k⟩
  |gn f g=>exact let⟨v,a,b⟩:=q;⟨v,a,g.mono (λc o n h=>⟨by rw[bL h];exact n,A.kp c o h (E.ow c f n).2.1⟩) (λc o n h _ _=>⟨⟨n.1,by rw[bL h];exact n.2⟩,A.kp c o h n.1⟩) k b⟩
def oY{r:Nat}{k:Kd}{v:V}{d:D}(h:k.le .new=true)(A:At p H0 own H H1)(x:Rp (okK p H0 own H k) H1 v d):Rp (λa=>cW r H H1 own a=some r) H1 v d :=
 (eN A h x).bO (λa o n e=>⟨jd n e,e⟩) λ_ _ e=>e
def fC{r:Nat}(A:At p H0 own H H1):FrS p own H (cW r H H1 own) H1:=⟨λb o h n e=>⟨A.kp b o h n,by rw[bL h];exact e⟩,A.tups⟩
def EnvD.drop(E:EnvD p H0 own σ H ρ):EnvD p H0 own σ H (ρ.set i .any):=by
 refine⟨E.k0,E.pen,E.ow,λj s' e=>?_,↑E.len,E.gr⟩;by_cases a:j=i
 ·subst a;have hl:j<⇑ρ:=by
   have:=(List.getElem?_eq_some_iff.mp e).1;simpa using this
  rw[List.getElem?_set_self hl]at e;cases e;trivial
 ·rw[List.getElem?_set_ne (Ne.symm a)]at e;exact E.slot j s' e
def aZ(r:Nat)(own:Addr->Option Nat):Addr->Option Nat:=λa=>if own a=some r then none else own a
def EnvD.clear{r:Nat}(E:EnvD p H0 own σ H ρ)(h:ρ.all (λs=>s.region != some r)=true):EnvD p H0 (aZ r own) σ H ρ:=by
 refine⟨E.k0,E.pen,λa q e=>?_,λj s e=>?_,E.len,E.gr⟩
 ·unfold aZ at e;split at e
  ·cases e
  ·exact E.ow a q e
 ·have q:=E.slot j s e;have z:=List.all_eq_true.mp h s (List.mem_of_getElem? e);have k:∀a,own a=none->aZ r own a=none:=λa n=>by unfold aZ;rw[n];simp
  cases s with
  |any=>trivial
  |im d=>exact q
  |sh d=>exact let⟨v,a,b⟩:=q;⟨v,a,b.mono (λc n=>⟨n.1,k c n.2⟩) (λ_ _ _ e=>e) λ_ _ e=>e⟩
  |sn d=>exact let⟨v,a,b⟩:=q;⟨v,a,b.mono (λc n=>⟨n.1,n.2.1,k c n.2.2⟩) (λ_ _ _ e=>e) λ_ _ e=>e⟩
  |dw r' d =>
   have f:r'≠r:=by simpa[Sl.region]using z
   exact let⟨v,a,b⟩:=q;⟨v,a,b.mono (λc n=>by unfold aZ;rw[n,ee ↑f]) (λ_ _ _ e=>e) λ_ _ e=>e⟩
  |pen C=>exact q
  |rw r' L =>
   have f:r'≠r:=by simpa[Sl.region]using z
   exact let⟨st,as,a,b⟩:=q;⟨st,as,a,b.mono (λc o n e=>⟨by unfold aZ;rw[n,ee ↑f],e⟩) λ_ _ e=>e⟩
  |tw r' L =>
   have f:r'≠r:=by simpa[Sl.region]using z
   exact let⟨st,as,a,b⟩:=q;⟨st,as,a,b.mono (λc o n e=>⟨by unfold aZ;rw[n,ee ↑f],e⟩) λ_ _ e=>e⟩
  |scr v b=>exact q
  |sp r' b ds =>
   have f:r'≠r:=by simpa[Sl.region]using z
   exact let⟨l,vs,a,o,h,y⟩:=q;⟨l,vs,a,by unfold aZ;rw[o,ee ↑f],h,y.mono (λc n=>⟨n.1,n.2.1,k c n.2.2⟩) (λ_ _ _ e=>e) λ_ _ e=>e⟩
  |gn r' g =>
   have f:r'≠r:=by simpa[Sl.region]using z
   exact let⟨v,a,b⟩:=q;⟨v,a,g.mono (λc o n e=>⟨by unfold aZ;rw[n,ee ↑f],e⟩) (λc o n e _ _=>⟨⟨n.1,k c n.2⟩,e⟩) (λ_ _ e=>e) b⟩
def gH{r:Nat}:FrS p own H (aZ r own) H:=⟨λb o h n e=>⟨h,by unfold aZ;rw[e];simp⟩,λ_ _ e=>e⟩
end
def aO{i:Nat}(g:Option Nat)(h:PS X st (vg (bI te) (iW i))):PDS X st (GK i g te):=PS.wk' h (by
 rintro Q σ H ⟨p,H0,own,ρ,P,E,t,w⟩;refine⟨p,H0,own,ρ,_,E,t,λk d v H1 h A r=>?_⟩;have r:=aR r;generalize norm k d=m at h r;show Q.nx (σ.set i (some v)) H1;have n:=E.go A.kp A.pen;have b:∀s,fY p H0 own (σ.set i (some v)) H1 i s\/¬i<⇑σ->P.nx (ρ.set i s)->Q.nx (σ.set i (some v)) H1:=λs hs hn =>
  w.nx own _ H1 _ (n.set λhl=>hs.elim id λz=>ef hl z) A.frs hn
 have a:i<⇑σ->(σ.set i (some v))[i]?=some (some v):=λhl=>List.getElem?_set_self hl;by_cases hl:i<⇑σ
 ·cases m with
  |imm=>exact b (.im d) (.inl ⟨v,a hl,r⟩) h
  |new =>
   cases g with
   |none=>exact b (.sn d) (.inl ⟨v,a hl,eN A (k:=.snw) rfl r⟩) h
   |some q =>
    simp only[stK]at h;by_cases f:qb q ρ i=true
    ·rw[ed f]at h;have j:EnvD p H0 (aZ q own) σ H (ρ.set i .any):=(E.drop (i:=i)).clear f;have c:At p H0 (aZ q own) H H1:=⟨A.k0,A.kp,A.penb,A.pen,j.ow⟩
     have o:=j.adopt q c;have x:Rp (okK p H0 (aZ q own) H .new) H1 v d:=r;have l:EnvD p H0 (cW q H H1 (aZ q own)) (σ.set i (some v)) H1 ((ρ.set i .any).set i (.dw q d)):=o.set λ_=>⟨v,a hl,oY (k:=.new) rfl c x⟩
     rw[List.set_set]at l;exact w.nx _ _ H1 _ l (gH.trans (fC c)) h
    ·rw[ee f]at h;exact h.elim
  |reg q=>exact b (.dw q d) (.inl ⟨v,a hl,r⟩) h
  |n0=>exact h.elim
  |snw=>exact b (.sn d) (.inl ⟨v,a hl,r⟩) h
  |shr=>exact b (.sh d) (.inl ⟨v,a hl,r⟩) h
  |wk=>exact h.elim
 ·cases hs:stK g ρ i m d with
  |none=>rw[hs]at h;exact h.elim
  |some s=>rw[hs]at h;exact b s (.inr hl) h)
end
variable [Gr]
section
variable{ok ok':Addr->Prop}{H:Hp}
mutual
theorem Rp.inj:∀{v:V}{d d':D},Rp ok H v d->Rp ok' H v d'->d=d'
 |_,_,_,.non,.non=>rfl
 |_,_,_,.bl b,.bl _=>rfl
 |_,_,_,.int i,.int _=>rfl
 |_,_,_,.str x,.str _=>rfl
 |_,_,_,.lst o h r,.lst o' h' r'=>by
  rw[h]at h';cases h';rw[Rps.inj r r']
 |_,_,_,.lst o h r,.tup h' r'=>by rw[h]at h';cases h'
 |_,_,_,.lst o h r,.dct o' h' r'=>by rw[h]at h';cases h'
 |_,_,_,.tup h r,.lst o' h' r'=>by rw[h]at h';cases h'
 |_,_,_,.tup h r,.tup h' r'=>by
  rw[h]at h';cases h';rw[Rps.inj r r']
 |_,_,_,.tup h r,.dct o' h' r'=>by rw[h]at h';cases h'
 |_,_,_,.dct o h r,.lst o' h' r'=>by rw[h]at h';cases h'
 |_,_,_,.dct o h r,.tup h' r'=>by rw[h]at h';cases h'
 |_,_,_,.dct o h r,.dct o' h' r'=>by
  rw[h]at h';cases h';rw[Rkv.inj r r']
theorem Rps.inj:∀{v:List V}{d d':eI},Rps ok H v d->Rps ok' H v d'->d=d'
 |_,_,_,.nil,.nil=>rfl
 |_,_,_,.cons h t,.cons h' t'=>by rw[Rp.inj h h',Rps.inj t t']
theorem Rkv.inj:∀{v:List (Key×V)}{d d':List (D×D)},Rkv ok H v d->Rkv ok' H v d'->d=d'
 |_,_,_,.nil,.nil=>rfl
 |_,_,_,.cons h t,.cons h' t'=>by rw[Rp.inj h h',Rkv.inj t t']
end
variable{l:Addr}{T:D}
mutual
theorem Rp.avoid(c:Rp ok' H (.ref l) T):∀{v:V}{d:D},Rp ok H v d->sizeOf d<sizeOf T->Rp (λa=>ok a/\a≠l) H v d
 |_,_,.non,_=>.non
 |_,_,.bl b,_=>.bl b
 |_,_,.int i,_=>.int i
 |_,_,.str x,_=>.str x
 |_,_,.lst (ds:=ds) o h r,s=>.lst ⟨o,λz=>by
   subst z;have e:=Rp.inj (Rp.lst o h r) c;rw[e]at s;exact ef s (Nat.lt_irrefl _)⟩ h (Rps.avoid c r (by simp only[PyData.list.sizeOf_spec]at s;lia))
 |_,_,.tup (ds:=ds) h r,s=>.tup h (Rps.avoid c r (by simp only[PyData.tuple.sizeOf_spec]at s;lia))
 |_,_,.dct (ds:=ds) o h r,s=>.dct ⟨o,λz=>by
   subst z;have e:=Rp.inj (Rp.dct o h r) c;rw[e]at s;exact ef s (Nat.lt_irrefl _)⟩ h (Rkv.avoid c r (by simp only[PyData.dict.sizeOf_spec]at s;lia))
theorem Rps.avoid(b:Rp ok' H (.ref l) T):∀{v:List V}{d:eI},Rps ok H v d->sizeOf d<sizeOf T->Rps (λa=>ok a/\a≠l) H v d
 |_,_,.nil,_=>.nil
 |_,_,.cons h t,s=>.cons (Rp.avoid b h (by simp only[List.cons.sizeOf_spec]at s;lia)) (Rps.avoid b t (by simp only[List.cons.sizeOf_spec]at s;lia))
theorem Rkv.avoid(b:Rp ok' H (.ref l) T):∀{v:List (Key×V)}{d:List (D×D)},Rkv ok H v d->sizeOf d<sizeOf T->Rkv (λa=>ok a/\a≠l) H v d
 |_,_,.nil,_=>.nil
 |_,_,.cons h t,s=>.cons (Rp.avoid b h (by simp only[List.cons.sizeOf_spec,Prod.mk.sizeOf_spec]at s;lia)) (Rkv.avoid b t (by simp only[List.cons.sizeOf_spec]at s;lia))
end
end
def forget(r:Nat)(ρ:List Sl):List Sl:=ρ.map λs=>if s.region=some r then .any else s
section
variable{p:Pn}{H0 H H1:Hp}{own:Addr->Option Nat}{σ:L2.St}{ρ:List Sl}{i:Nat}
def EnvD.write{r:Nat}{l:Addr}{u o':HO}(E:EnvD p H0 own σ H ρ)(hl:own l=some r)(A:H l=some u)(hu:∀xs,u≠.tup xs)(hc:¬Fxd u:=by rintro⟨_,_,z⟩;cases z):EnvD p H0 own σ (upd H l o') (forget r ρ):=by
 have w:=E.ow l r hl;have t:∀a xs,H a=some (.tup xs)->upd H l o' a=some (.tup xs):=λa xs e=>by
  rw[ao];exact e;intro z;subst z;rw[A]at e;exact hu xs (Option.some.inj e)
 refine⟨λb o e n=>?_,p.mono H _ E.pen λb o f e=>?_,λa q e=>?_,λj s e=>?_,by unfold forget;rw[List.length_map];exact E.len,E.gr⟩
 ·rw[ao];exact E.k0 b o e n;intro z;subst z;rw[w.1]at e;cases e
 ·rw[ao];exact e;intro z;subst z;exact f.elim w.2.1 λc=>hc (by rw[A]at e;cases e;exact c)
 ·let⟨x,y,z⟩:=E.ow a q e;refine⟨x,y,?_⟩;by_cases hh:a=l
  ·subst hh;rw[aB];exact λz=>nomatch z
  ·rw[ao hh];exact z
 ·unfold forget at e;rw[List.getElem?_map]at e;cases hr:ρ[j]? with
  |none=>rw[hr]at e;cases e
  |some s0 =>
   rw[hr]at e;have e:=Option.some.inj e;have q:=E.slot j s0 hr;have m:∀c,own c≠some r->c≠l:=λc n z=>by subst z;exact n hl
   cases s0 with
   |any=>simp only[Sl.region]at e;subst e;trivial
   |im d =>
    have e:Sl.im d=s:=e;subst e;exact let⟨v,a,b⟩:=q;⟨v,a,b.mono (λ_ o=>o) (λ_ _ o=>o.elim) t⟩
   |sh d =>
    have e:Sl.sh d=s:=e;subst e;exact let⟨v,a,b⟩:=q;⟨v,a,b.mono (λ_ o=>o) (λc o n e=>by rw[ao (m c (by rw[n.2];exact λz=>nomatch z))];exact e) t⟩
   |sn d =>
    have e:Sl.sn d=s:=e;subst e;exact let⟨v,a,b⟩:=q;⟨v,a,b.mono (λ_ o=>o) (λc o n e=>by rw[ao (m c (by rw[n.2.2];exact λz=>nomatch z))];exact e) t⟩
   |dw r' d =>
    by_cases k:r'=r
    ·subst k;have e:(if(some r':Option Nat)=some r' then Sl.any else Sl.dw r' d)=s:=e;rw[ed rfl]at e;subst e;trivial
    ·have e:(if(some r':Option Nat)=some r then Sl.any else Sl.dw r' d)=s:=e;rw[ee ↑k]at e;subst e;exact let⟨v,a,b⟩:=q;⟨v,a,b.mono (λ_ o=>o) (λc o n e=>by rw[ao (m c (by rw[n];simpa using k))];exact e) t⟩
   |pen C =>
    have e:Sl.pen C=s:=e;subst e;exact q
   |scr v b =>
    have e:Sl.scr v b=s:=e;subst e;exact q
   |sp r' b ds =>
    by_cases k:r'=r
    ·subst k;have e:(if(some r':Option Nat)=some r' then Sl.any else Sl.sp r' b ds)=s:=e;rw[ed rfl]at e;subst e;trivial
    ·have e:(if(some r':Option Nat)=some r then Sl.any else Sl.sp r' b ds)=s:=e;rw[ee ↑k]at e;subst e;exact let⟨l',vs,a,o,h,y⟩:=q;⟨l',vs,a,o,by rw[ao (m l' (by rw[o];simpa using k))];exact h,y.mono (λ_ o=>o) (λc o n e=>by rw[ao (m c (by rw[n.2.2];exact λz=>nomatch z))];exact e) t⟩
   |rw r' L =>
    by_cases k:r'=r
    ·subst k;have e:(if(some r':Option Nat)=some r' then Sl.any else Sl.rw r' L)=s:=e;rw[ed rfl]at e;subst e;trivial
    ·have e:(if(some r':Option Nat)=some r then Sl.any else Sl.rw r' L)=s:=e;rw[ee ↑k]at e;subst e;exact let⟨st,as,a,b⟩:=q;⟨st,as,a,b.mono (λc o n e=>⟨n,by rw[ao (m c (by rw[n];simpa using k))];exact e⟩) t⟩
   |tw r' L =>
    by_cases k:r'=r
    ·subst k;have e:(if(some r':Option Nat)=some r' then Sl.any else Sl.tw r' L)=s:=e;rw[ed rfl]at e;subst e;trivial
    ·have e:(if(some r':Option Nat)=some r then Sl.any else Sl.tw r' L)=s:=e;rw[ee ↑k]at e;subst e;exact let⟨st,as,a,b⟩:=q;⟨st,as,a,b.mono (λc o n e=>⟨n,by rw[ao (m c (by rw[n];simpa using k))];exact e⟩) t⟩
   |gn r' g =>
    by_cases k:r'=r
    ·subst k;have e:(if(some r':Option Nat)=some r' then Sl.any else Sl.gn r' g)=s:=e;rw[ed rfl]at e;subst e;trivial
    ·have e:(if(some r':Option Nat)=some r then Sl.any else Sl.gn r' g)=s:=e;rw[ee ↑k]at e;subst e;exact let⟨v,a,b⟩:=q;⟨v,a,g.mono (λc o n e=>⟨n,by rw[ao (m c (by rw[n];simpa using k))];exact e⟩) (λc o n e _ _=>⟨n,by rw[ao (m c (by rw[n.2];exact λz=>nomatch z))];exact e⟩) t b⟩
def d8{r:Nat}{l:Addr}{u o':HO}(hl:own l=some r)(c:H l=some u)(hu:∀xs,u≠.tup xs):FrS p own H own (upd H l o'):=by
 refine⟨λb o h n e=>⟨?_,e⟩,λa xs e=>?_⟩
 ·rw[ao];exact h;intro z;subst z;rw[hl]at e;cases e
 ·rw[ao];exact e;intro z;subst z;rw[c]at e;exact hu xs (Option.some.inj e)
def EnvD.put{v:V}{s:Sl}(E:EnvD p H0 own σ H ρ)(hs:fY p H0 own σ H i s):EnvD p H0 own σ H (ρ.set i s):=by
 refine⟨E.k0,E.pen,E.ow,λj s' e=>?_,↑E.len,E.gr⟩;by_cases a:j=i
 ·subst a;have hl:j<⇑ρ:=by
   have:=(List.getElem?_eq_some_iff.mp e).1;simpa using this
  rw[List.getElem?_set_self hl]at e;cases e;exact hs
 ·rw[List.getElem?_set_ne (Ne.symm a)]at e;exact E.slot j s' e
def EnvD.Ij{r:Nat}{l:Addr}{vs vs':List V}{ds ds':eI}(E:EnvD p H0 own σ H ρ)(A:At p H0 own H H1)(hv:σ[i]?=some (some (.ref l)))(hl:own l=some r)(c:H l=some (.lst vs))(h:Rps (λa=>own a=some r) H vs ds)(hs:∀H2,(∀{w:V}{d:D},Rp (λa=>own a=some r) H w d->sizeOf d<sizeOf (PyData.list ds)->Rp (λa=>cW r H H1 own a=some r) H2 w d)->(∀{w:V}{d:D},Rp (okK p H0 own H .new) H1 w d->Rp (λa=>cW r H H1 own a=some r) H2 w d)->Rps (λa=>cW r H H1 own a=some r) H2 vs' ds') :
  EnvD p H0 (cW r H H1 own) σ (upd H1 l (.lst vs')) ((forget r ρ).set i (.dw r (.list ds')))/\FrS p own H (cW r H H1 own) (upd H1 l (.lst vs')):=by
 have h1:H1 l=some (.lst vs):=A.kp l _ c (E.ow l r hl).2.1;have b:cW r H H1 own l=some r:=by rw[bL c];exact hl
 have g:=(E.adopt r A).write (o':=.lst vs') b h1 (λxs z=>nomatch z);have f:∀a xs,H1 a=some (.tup xs)->upd H1 l (.lst vs') a=some (.tup xs):=λa xs e=>by
  rw[ao];exact e;intro z;subst z;rw[h1]at e;cases e
 refine⟨g.put (v:=.ref l) ⟨.ref l,hv,.lst b aB (hs _ ?_ ?_)⟩,(fC A).trans (d8 b h1 λxs z=>nomatch z)⟩
 ·intro w d x j;have k:=Rp.avoid (Rp.lst (ok:=λa=>own a=some r) hl c h) x j;exact k.bO (λa o n e=>⟨by rw[bL e];exact n.1,by rw[ao n.2];exact A.kp a o e (E.ow a r n.1).2.1⟩) λa xs e=>f a xs (jk E.at A.kp a xs e)
 ·intro w d x;exact x.bO (λa o n e=>⟨jd n e,by rw[ao (λz=>by subst z;rw[c]at n;cases n)];exact e⟩) f
end
section
variable{pos:Pos}{st:ZF}{e:Zt}{te:DE}{i:Nat}{ta:DA}
def o7{d:D}{ds:eI}(h:d∈ds):sizeOf d<sizeOf (PyData.list ds):=by
 have:=List.sizeOf_lt_of_mem h;simp only[PyData.list.sizeOf_spec];lia
theorem vp{ok ok':Addr->Prop}{H a:Hp}{T:D}(f:∀{w:V}{d:D},Rp ok H w d->sizeOf d<sizeOf T->Rp ok' a w d):∀{vs:List V}{ds:eI},Rps ok H vs ds->(∀d∈ds,sizeOf d<sizeOf T)->Rps ok' a vs ds
 |_,_,.nil,_=>.nil
 |_,_,.cons h t,s=>.cons (f h (s _ List.mem_cons_self)) (vp f t λd hd=>s d (List.mem_cons_of_mem _ hd))
def O4(i:Nat)(te:DE):DS:=λP ρ=>match ρ[i]? with
 |some (.dw r (.list ds))=>te ρ λk d=>(norm k d).le .new=true/\⇑ds<1000/\P.nx ((forget r ρ).set i (.dw r (.list (ds++[d]))))
 |_=>False
def fu(h:PS X st (pX (tBM X.K "list" kW (jw i) (ju (fU te lR))))):PDS X st (O4 i te):=PS.wk' h (by
 rintro Q σ H ⟨p,H0,own,ρ,P,E,t,w⟩;unfold O4 at t;split at t
 ·rename_i r ds hr;let⟨v,hv,x⟩:=E.slot i _ hr;let⟨l,vs,rfl,hl,b,c⟩:=x.cV;refine⟨.ref l,hv,.inl ⟨rfl,vs,SqL.of b⟩,p,H0,own,ρ,λks=>∃k d,ks=[(k,d)]/\(norm k d).le .new=true/\⇑ds<1000/\P.nx ((forget r ρ).set i (.dw r (.list (ds++[d])))),E,?_,?_⟩
  ·show te ρ λk d=>∃a d',[(k,d)]=[(a,d')]/\_;have e:(λk d=>∃a d',[((k,d):Kd×D)]=[(a,d')]/\(norm a d').le .new=true/\⇑ds<1000/\P.nx ((forget r ρ).set i (.dw r (.list (ds++[d'])))))=λk d=>(norm k d).le .new=true/\⇑ds<1000/\P.nx ((forget r ρ).set i (.dw r (.list (ds++[d])))):=by
    funext k d;apply propext;constructor
    ·rintro⟨a,d',e,h⟩;cases e;exact h
    ·exact λh=>⟨k,d,rfl,h⟩
   rw[e];exact t
  ·rintro ks B q ⟨k,d,rfl,hk,m,hn⟩ A z;let⟨y,rfl,j⟩:=iB z;have j:=eN A hk (aR j);have h1:q l=some (.lst vs):=A.kp l _ b (E.ow l r hl).2.1;have s:=Z9;have u:=⇑c;refine⟨l,vs,y,rfl,rfl,h1,(),?_⟩;let⟨n,o⟩:=E.Ij (vs':=vs++[y]) (ds':=ds++[d]) A hv hl b c λH2 f g=>(vp f c λd hd=>o7 hd).snoc (g j);exact w.nx _ σ _ _ n o hn
 ·exact t.elim)
end
variable [Gr]
abbrev DG:=Kd->D->List Sl->(List Sl->Prop)->Prop
abbrev DGs:=Kd->eI->List Sl->(List Sl->Prop)->Prop
def wW(k:Kd)(d:D):Sl:=match k with
 |.imm=>.im d
 |.new=>.sn d
 |.reg r=>.dw r d
 |.snw=>.sn d
 |.shr=>.sh d
 |_=>.any
def okB(p:Pn)(H0:Hp)(own:Addr->Option Nat):Kd->Addr->Prop
 |.imm=>λ_=>False
 |.new=>λa=>H0 a=none/\¬p.fp a/\own a=none
 |.reg r=>λa=>own a=some r
 |.snw=>λa=>H0 a=none/\¬p.fp a/\own a=none
 |.shr=>λa=>¬p.fp a/\own a=none
 |.n0=>λ_=>True
 |.wk=>λ_=>True
def Ka(g:DG):TG:=λv σ H Q=>∃p H0 own ρ k d P,EnvD p H0 own σ H ρ/\Rp (okB p H0 own k) H v d/\g k d ρ P/\∀σ' ρ',EnvD p H0 own σ' H ρ'->P ρ'->Q σ' H
def rW(g:DGs):TGs:=λvs σ H Q=>∃p H0 own ρ k ds P,EnvD p H0 own σ H ρ/\Rps (okB p H0 own k) H vs ds/\g k ds ρ P/\∀σ' ρ',EnvD p H0 own σ' H ρ'->P ρ'->Q σ' H
abbrev PDG(X:Cx)(e:Zt)(g:DG):Prop:=PG X e (Ka g)
def PG.wk{X:Cx}{e:Zt}{t t':TG}(h:PG X e t)(w:∀v σ H Q,t' v σ H Q->t v σ H Q):PG X e t':=λpins s σ H v u Q I r q=>h pins s σ H v u Q I r (w v σ H Q q)
def PGs.wk{X:Cx}{e:List Zt}{t t':TGs}(h:PGs X e t)(w:∀v σ H Q,t' v σ H Q->t v σ H Q):PGs X e t':=λpins s σ H v u Q I r q=>h pins s σ H v u Q I r (w v σ H Q q)
def jz{p:Pn}{H0 H:Hp}{own:Addr->Option Nat}{k:Kd}{v:V}{d:D}(r:Rp (okB p H0 own k) H v d):Rp (okB p H0 own (norm k d)) H v d:=by
 by_cases h:fj d=true
 ·rw[fM h];exact r.imm h
 ·rw[rQ h];exact r
section
variable{pos:Pos}{e:Zt}{es:List Zt}
def gNm(i:Nat):DG:=λk d ρ P=>P (ρ.set i (wW (norm k d) d))
def HS{p:Pn}{H0 H:Hp}{own:Addr->Option Nat}{σ:L2.St}{i:Nat}{k:Kd}{v:V}{d:D}(r:Rp (okB p H0 own k) H v d)(h:σ[i]?=some (some v)):fY p H0 own σ H i (wW k d):=by
 cases k with
 |imm=>exact⟨v,h,r⟩
 |new=>exact⟨v,h,r⟩
 |reg q=>exact⟨v,h,r⟩
 |n0=>trivial
 |snw=>exact⟨v,h,r⟩
 |shr=>exact⟨v,h,r⟩
 |wk=>trivial
def aF{i:Nat}{x:Str}(h:PG X (.Name x pos) (iW i)):PDG X (.Name x pos) (gNm i):=PG.wk h (by
 rintro v σ H Q ⟨p,H0,own,ρ,k,d,P,E,r,t,q⟩;exact q _ _ (E.set λhl=>HS (jz r) (List.getElem?_set_self hl)) t)
def Ko:DGs:=λ_ ds ρ P=>match ds with
 |[]=>P ρ
 |_=>False
def v7(g:DG)(a:DGs):DGs:=λk ds ρ P=>match ds with
 |d::r=>g (norm k d) d ρ λρ'=>a k r ρ' P
 |[]=>False
theorem gC:PGs X [] (rW Ko):=PGs.wk Ni (by
 rintro v σ H Q ⟨p,H0,own,ρ,k,ds,P,E,r,t,q⟩;cases ds with
 |nil=>cases r;exact⟨rfl,q _ _ E t⟩
 |cons d ds=>exact t.elim)
def bQ{g:DG}{a:DGs}(h1:PDG X e g)(h2:PGs X es (rW a))(hs:(ZU (e::es) X.env).map (·.2)=ZR e X.env::(ZU es X.env).map (·.2):=by rfl):PGs X (e::es) (rW (v7 g a)):=PGs.wk (Jm h1 h2 hs) (by
 rintro v σ H Q ⟨p,H0,own,ρ,k,ds,P,E,r,t,q⟩;cases r with
 |nil=>exact t.elim
 |cons r rs =>
  exact⟨_,_,rfl,p,H0,own,ρ,_,_,_,E,jz r,t,λσ' ρ' E' t'=>⟨p,H0,own,ρ',k,_,P,E',rs,t',q⟩⟩)
def gTp(n:Nat)(a:DGs):DG:=λk d ρ P=>match d with
 |.tuple ds=>⇑ds=n/\a k ds ρ P
 |_=>False
def jo{b:DGs}{k n:Nat}(hc:X.calm=true)(h:PGs X es (rW b))(hn:⇑(ZU es X.env)=n:=by rfl)(hst:(ZU es X.env).findIdx? (·.1)=none:=by rfl):PDG X (.Tuple es k pos) (gTp n b):=PG.wk (Rf hc h hn hst) (by
 rintro v σ H Q ⟨p,H0,own,ρ,k,d,P,E,r,t,q⟩;cases d with
 |tuple ds =>
  let⟨a,vs,rfl,ha,c⟩:=r.dX;exact⟨a,vs,rfl,SqT.of ha,by rw[⇑c];exact t.1,p,H0,own,ρ,k,ds,P,E,c,t.2,q⟩
 |_=>exact t.elim)
end
structure Wlk(Ok:Hp->Prop)(J:It)(ds:eI)(ok:Addr->Prop):Prop where
 go:∀i H,Ok H->i<⇑ds->J.go i H
 stop:∀H,Ok H->J.stop ⇑ds H
 yld:∀i H x H',Ok H->J.yld i H x H'->Same H H'/\∀d,ds[i]?=some d->Rp ok H' x d
 stab:∀H H',Ok H->(∀b o,ok b->H b=some o->H' b=some o)->(∀a xs,H a=some (.tup xs)->H' a=some (.tup xs))->Ok H'
abbrev DI:=List Sl->(Kd->eI->Prop)->Prop
def okA(p:Pn)(H0:Hp)(own:Addr->Option Nat)(b:Hp)(k:Kd)(H:Hp)(a:Addr):Prop:=okK p H0 own b k a/\∃o,H a=some o
def J7(t:DI):TI:=λσ H R=>∃p H0 own ρ P,EnvD p H0 own σ H ρ/\t ρ P/\∀k ds J H1 Ok,P k ds->At p H0 own H H1->Wlk Ok J ds (okA p H0 own H k H1)->Ok H1->R J H1
abbrev PDI(X:Cx)(tg e:Zt)(t:DI):Prop:=PI X tg e (J7 t)
def PI.wk{X:Cx}{a e:Zt}{t t':TI}(h:PI X a e t)(w:∀σ H R,t' σ H R->t σ H R):PI X a e t':=λpins s σ H R I q=>h pins s σ H R I (w σ H R q)
section
variable{tg l:Zt}{tl:DE}{pos:Pos}{ta:DA}
def Hs{K:W.Frag}{ok:Addr->Prop}{a:Addr}{ds:eI}:Wlk (λH=>Rp ok H (.ref a) (.list ds)) (Itl K a) ds ok where
 go:=λi H r hi=>by
  let⟨b,vs,e,o,h,rs⟩:=r.cV;cases e;have:i<⇑vs:=by rw[⇑rs];exact hi
  exact⟨vs,vs[i],SqL.of h,by simp[this]⟩
 stop:=λH r=>by
  let⟨b,vs,e,o,h,rs⟩:=r.cV;cases e;exact⟨vs,SqL.of h,by rw[⇑rs];exact Nat.le_refl _⟩
 yld:=λi H x H' r y=>by
  let⟨rfl,y⟩:=y;let⟨b,vs,e,o,h,rs⟩:=r.cV;cases e;refine⟨Same.refl _,λd hd=>?_⟩;let⟨v,hv,rv⟩:=rs.getD hd;have:=y vs (SqL.of h);rw[hv]at this;cases this;exact rv
 stab:=λH H' r f t=>r.bO (λa o n e=>⟨n,f a o n e⟩) t
def Ho{K:W.Frag}{ok:Addr->Prop}{a:Addr}{ds:eI}:Wlk (λH=>Rp ok H (.ref a) (.tuple ds)) (Itt K a) ds ok where
 go:=λi H r hi=>by
  let⟨b,vs,e,h,rs⟩:=r.dX;cases e;have:i<⇑vs:=by rw[⇑rs];exact hi
  exact⟨vs,vs[i],SqT.of h,by simp[this]⟩
 stop:=λH r=>by
  let⟨b,vs,e,h,rs⟩:=r.dX;cases e;exact⟨vs,SqT.of h,by rw[⇑rs];exact Nat.le_refl _⟩
 yld:=λi H x H' r y=>by
  let⟨rfl,y⟩:=y;let⟨b,vs,e,h,rs⟩:=r.dX;cases e;refine⟨Same.refl _,λd hd=>?_⟩;let⟨v,hv,rv⟩:=rs.getD hd;have:=y vs (SqT.of h);rw[hv]at this;cases this;exact rv
 stab:=λH H' r f t=>r.bO (λa o n e=>⟨n,f a o n e⟩) t
def Hq{ok:Addr->Prop}{lo:Int}{n:Nat}:Wlk (λ_=>True) (Itr lo n) ((List.range n).map λi=>PyData.int (lo+~~~i)) ok where
 go:=λi H r hi=>by
  have h:i<n:=↑hi
  exact h
 stop:=λH r=>by show n<=_;simp
 yld:=λi H x H' r y=>by
  let⟨rfl,rfl⟩:=y;refine⟨Same.refl _,λd hd=>?_⟩;rw[List.getElem?_map]at hd;cases h:(List.range n)[i]? with
  |none=>rw[h]at hd;cases hd
  |some j =>
   rw[h]at hd;have e:=Option.some.inj hd;have hj:j=i:=by
    have:=List.getElem?_eq_some_iff.mp h;let⟨h1,h2⟩:=this;simpa using h2.symm
   subst e hj;exact .int _
 stab:=λ_ _ _ _ _=>trivial
def rpA{p:Pn}{H0 b H:Hp}{own:Addr->Option Nat}{k:Kd}{v:V}{d:D}(r:Rp (okK p H0 own b k) H v d):Rp (okA p H0 own b k H) H v d:=r.bO (λa o n e=>⟨⟨n,o,e⟩,e⟩) λ_ _ e=>e
def iSq(tl:DE):DI:=λρ P=>tl ρ λk d=>match d with
 |.list ds=>P k ds
 |.tuple ds=>P k ds
 |_=>False
theorem bV(hl:PD X l tl):PDI X tg l (iSq tl):=PI.wk (Jk hl) (by
 rintro σ H R ⟨p,H0,own,ρ,P,E,t,q⟩;refine⟨p,H0,own,ρ,_,E,t,λk d v H1 h A r=>?_⟩;cases d with
 |list ds =>
  let⟨a,vs,rfl,o,ha,b⟩:=r.cV;exact⟨a,rfl,.inl ⟨⟨vs,SqL.of ha⟩,q k ds _ H1 _ h A Hs (rpA r)⟩⟩
 |tuple ds =>
  let⟨a,vs,rfl,ha,b⟩:=r.dX;exact⟨a,rfl,.inr ⟨⟨vs,SqT.of ha⟩,q k ds _ H1 _ h A Ho (rpA r)⟩⟩
 |_=>exact h.elim)
def aY(lo:Int)(n:Nat):eI:=(List.range n).map λi=>PyData.int (lo+~~~i)
def iR1(ta:DA):DI:=λρ P=>ta ρ λks=>match ks with
 |[(_,.int j)]=>(-(2 ^ 62)<=j/\j<2 ^ 62)/\P .imm (aY 0 j.toNat)
 |_=>False
def cj{a:Zt}{ps:Pos}(hm:X.mg "range"=none)(ha:PDA X [a] ta)(hg:Gl X "range":=by rfl)(hs:Zu [a] X.env=[(false,Zv a X.env)]:=by rfl):PDI X tg (.Call (.Name "range" ps) [a] [] pos) (iR1 ta):=PI.wk (Ft hg hm ha hs) (by
 rintro σ H R ⟨p,H0,own,ρ,P,E,t,q⟩;refine⟨p,H0,own,ρ,_,E,t,λks vs H1 h A r=>?_⟩;split at h
 ·rename_i k j;let⟨v,rfl,b⟩:=iB r;exact⟨j,by rw[b.int'],h.1.1,h.1.2,q _ _ _ H1 _ h.2 A Hq trivial⟩
 ·exact h.elim)
def oK(ds:eI):eI:=ds.zipIdx.map λx=>PyData.tuple [.int (~~~x.2),x.1]
def iY{ds:eI}{i:Nat}:(oK ds)[i]?=(ds[i]?).map λd=>PyData.tuple [.int (~~~i),d]:=by
 unfold oK;rw[List.getElem?_map,List.getElem?_zipIdx];cases ds[i]? with
 |none=>rfl
 |some d=>simp
def gG{ds:eI}:⇑(oK ds)=⇑ds:=by unfold oK;simp
def Ez{K:W.Frag}{ok:Addr->Prop}{a:Addr}{ds:eI}:Wlk (λH=>Rp ok H (.ref a) (.tuple ds)) (Ite K a) (oK ds) ok where
 go:=λi H r hi=>by
  let⟨b,vs,e,h,rs⟩:=r.dX;cases e;have:i<⇑vs:=by rw[⇑rs];rw[gG]at hi;exact hi
  exact⟨vs,vs[i],SqT.of h,by simp[this]⟩
 stop:=λH r=>by
  let⟨b,vs,e,h,rs⟩:=r.dX;cases e;exact⟨vs,SqT.of h,by rw[⇑rs,gG];exact Nat.le_refl _⟩
 yld:=λi H x H' r y=>by
  let⟨t,v,rfl,ht,rfl,y⟩:=y;have sm:Same H (upd H t (.tup [.int i,v])):=λb u q=>by rw[ao (aA q ht)];exact q
  refine⟨sm,λd hd=>?_⟩;let⟨b,vs,e,h,rs⟩:=r.dX;cases e;rw[iY]at hd;cases he:ds[i]? with
  |none=>rw[he]at hd;cases hd
  |some d0 =>
   rw[he]at hd;have e:=Option.some.inj hd;subst e;let⟨v',hv,rv⟩:=rs.getD he;have:=y vs (SqT.of h);rw[hv]at this;cases this;exact .tup aB (.cons (.int _) (.cons (rv.mono (λ_ o=>o) (λa o _ e=>sm a o e) λa xs e=>sm a _ e) .nil))
 stab:=λH H' r f t=>r.bO (λa o n e=>⟨n,f a o n e⟩) t
def iEn(ta:DA):DI:=λρ P=>ta ρ λks=>match ks with
 |[(k,.tuple ds)]=>P k (oK ds)
 |_=>False
def oR{elts:List Zt}{kk:Nat}{b:Pos}{a:Zt}{ps:Pos}(hm:X.mg "enumerate"=none)(ha:PDA X [a] ta)(hg:Gl X "enumerate":=by rfl)(hs:Zu [a] X.env=[(false,Zv a X.env)]:=by rfl):PDI X (.Tuple elts kk b) (.Call (.Name "enumerate" ps) [a] [] pos) (iEn ta):=PI.wk (Nh hg hm ha hs) (by
 rintro σ H R ⟨p,H0,own,ρ,P,E,t,q⟩;refine⟨p,H0,own,ρ,_,E,t,λks vs H1 h A r=>?_⟩;split at h
 ·rename_i k ds;let⟨v,rfl,c⟩:=iB r;let⟨a,vs,e,ha,d⟩:=Rp.dX c;subst e;exact⟨a,rfl,⟨vs,SqT.of ha⟩,q k _ _ H1 _ h A Ez (rpA c)⟩
 ·exact h.elim)
end
variable [Gr]
def elK:Kd->Kd
 |.new=>.snw
 |k=>k
section
variable{tg iter:Zt}{pos:Pos}{body:List ZF}{ti:DI}{g:DG}{tb:DS}
def Tw(ti:DI)(g:DG)(tb:DS):DS:=λP ρ=>ti ρ λk ds=>k.le .shr=true/\∃Iv:Nat->List Sl->Prop,Iv 0 ρ /\
 (∀i d ρ',ds[i]?=some d->Iv i ρ'->g (norm (elK k) d) d ρ' λρ2=>tb { nx:=Iv (i+1),ct:=Iv (i+1),bk:=P.nx,rt:=P.rt } ρ2)/\∀ρ',Iv ⇑ds ρ'->P.nx ρ'
def Vh{p:Pn}{H0 i c H':Hp}{own own':Addr->Option Nat}{k:Kd}(hk:k.le .shr=true)(A:At p H0 own i c)(F:FrS p own c own' H'){v:V}{d:D}{h:Hp}(r:Rp (okA p H0 own i k c) h v d):Rp (okB p H0 own' (elK k)) h v d:=by
 refine r.mono (λa n=>?_) (λ_ _ _ e=>e) λ_ _ e=>e;let⟨o,u,hu⟩:=n;have b:¬p.fp a/\own a=none:=dD A (k:=.shr) hk o;have f:=(F.keep a u hu b.1 b.2).2;cases k with
 |imm=>exact o
 |new=>exact⟨A.h0 o,b.1,f⟩
 |reg q=>cases hk
 |n0=>cases hk
 |snw=>exact⟨o.1,b.1,f⟩
 |shr=>exact⟨b.1,f⟩
 |wk=>cases hk
def dF(hp:ZW (model X.prog X.w) X.A X.env X.xe)(hc:X.calm=true)(hi:PDI X tg iter ti)(hg:PDG X tg g)(hb:mV X body tb)(hs:zF X iter:=by intro _;rfl):PDS X (.For tg iter body [] pos) (Tw ti g tb):=PS.wk' (Jf hp hc hi hg hb hs) (by
 rintro Q σ H ⟨p,H0,own,ρ,P,E,t,w⟩;refine⟨p,H0,own,ρ,_,E,t,λk ds J H1 Ok h A W o1=>?_⟩;let⟨hk,v,O,step,l⟩:=h;have M:=w.go A.frs;have okS:∀own' H',FrS p own H1 own' H'->Ok H':=λown' H' F=>W.stab H1 H' o1 (λb o n e=>by
  have L:¬p.fp b/\own b=none:=dD A (k:=.shr) hk n.1;exact(F.keep b o e L.1 L.2).1) F.tup
 refine⟨λi m j H'=>m=⇑ds - i/\i<=⇑ds/\∃own' c,EnvD p H0 own' j H' c/\FrS p own H1 own' H'/\v i c,⟨_,rfl,Nat.zero_le _,own,ρ,E.go A.kp A.pen,FrS.refl,O⟩,?_⟩;rintro i m j H' ⟨rfl,hi,own',c,C,u,K⟩;have G:=okS own' H' u;by_cases d:i<⇑ds
 ·refine .inr ⟨W.go i H' G d,λσ2 H2=>∃own' c,EnvD p H0 own' σ2 H2 c/\FrS p own H1 own' H2/\v (i+1) c,λσ2 H2 h=>⟨_,(),rfl,d,h⟩,λx H2 y=>?_⟩;let⟨B,I⟩:=W.yld i H' x H2 G y;have I:=I ds[i] (List.getElem?_eq_getElem d);have N:EnvD p H0 own' j H2 c:=C.go (Kp.of B) (p.mono H' H2 C.pen λb o _ e=>B b o e);have D:FrS p own H1 own' H2:=⟨λb o e n z=>let⟨x,y⟩:=u.keep b o e n z;⟨B b o x,y⟩,λa xs e=>B a _ (u.tup a xs e)⟩
  refine⟨p,H0,own',c,_,_,_,N,jz (Vh hk A D I),step i ds[i] c (List.getElem?_eq_getElem d) K,λσ3 ρ3 E3 t3=>?_⟩;have q:∀own4 σ4 H4 ρ4,EnvD p H0 own4 σ4 H4 ρ4->FrS p own' H2 own4 H4->v (i+1) ρ4->∃own' c,EnvD p H0 own' σ4 H4 c/\FrS p own H1 own' H4/\v (i+1) c:=λown4 σ4 H4 ρ4 E4 F4 v4=>⟨own4,ρ4,E4,D.trans F4,v4⟩
  exact⟨p,H0,own',ρ3,_,E3,t3,⟨q,w.rt,λo s h r e f n=>M.nx o s h r e (D.trans f) n,q⟩⟩
 ·have e:i=⇑ds:=()
  subst e;exact .inl ⟨W.stop H' G,M.nx own' j H' c C u (l c K)⟩)
def Lg(a:DT)(tb:DS):DS:=λP ρ=>∃Iv:Nat->List Sl->Prop,(∃m,Iv m ρ)/\∀m ρ',Iv m ρ'->a ρ' λb =>
 if b=true then tb { nx:=λρ2=>∃m',m'<m/\Iv m' ρ2,ct:=λρ2=>∃m',m'<m/\Iv m' ρ2,bk:=P.nx,rt:=P.rt } ρ' else P.nx ρ'
theorem oM{c:Zt}{t:DT}(hp:ZW (model X.prog X.w) X.A X.env X.xe)(hc:PDT X c t)(hb:mV X body tb):PDS X (.While c body [] pos) (Lg t tb):=PS.wk' (Jb hp hc hb) (by
 rintro Q σ H ⟨p,H0,own,ρ,P,E,⟨i,⟨m,v⟩,step⟩,w⟩;refine⟨λm σ' H'=>∃own' ρ',EnvD p H0 own' σ' H' ρ'/\FrS p own H own' H'/\i m ρ',⟨m,own,ρ,E,FrS.refl,v⟩,?_⟩;rintro m q y ⟨a,d,k,u,x⟩;refine⟨p,H0,a,d,_,k,step m d x,λb H2 h A=>?_⟩;have l:=u.trans A.frs;cases b with
 |true =>
  refine bF ⟨λσ' H'=>∃m',m'<m/\∃own' ρ',EnvD p H0 own' σ' H' ρ'/\FrS p own H own' H'/\i m' ρ',λσ' H' h=>h,?_⟩;have j:∀own4 σ4 H4 ρ4,EnvD p H0 own4 σ4 H4 ρ4->FrS p a H2 own4 H4->(∃m',m'<m/\i m' ρ4)->∃m',m'<m/\∃own' ρ',EnvD p H0 own' σ4 H4 ρ'/\FrS p own H own' H4/\i m' ρ':=λown4 σ4 H4 ρ4 E4 F4 ⟨m',hm,v4⟩=>⟨m',hm,own4,ρ4,E4,l.trans F4,v4⟩
  exact⟨p,H0,a,d,{ nx:=λρ2=>∃m',m'<m/\i m' ρ2,ct:=λρ2=>∃m',m'<m/\i m' ρ2,bk:=P.nx,rt:=P.rt },k.go A.kp A.pen,↑h,⟨j,w.rt,λo s h r e f n=>w.nx o s h r e (l.trans f) n,j⟩⟩
 |false=>exact bw (w.nx a q H2 d (k.go A.kp A.pen) l ↑h))
end
def EnvD.comp{p:Pn}{H0 H:Hp}{own:Addr->Option Nat}{σ:L2.St}{ρ:List Sl}(n:Nat)(E:EnvD p H0 own σ H ρ):EnvD p H0 own (List.replicate n none++σ) H (List.replicate n .any++ρ):=by
 refine⟨E.k0,E.pen,E.ow,λj s e=>?_,by simp[E.len],E.gr⟩;by_cases a:j<n
 ·rw[List.getElem?_append_left ↑a]at e;have:s=.any:=by
   rw[List.getElem?_replicate]at e;rw[ed a]at e;exact(Option.some.inj e).symm
  subst this;trivial
 ·have b:(List.replicate n Sl.any++ρ)[j]?=ρ[j - n]?:=by rw[List.getElem?_append_right ↑a];simp
  have c:(List.replicate n (none:Option V)++σ)[j]?=σ[j - n]?:=by rw[List.getElem?_append_right ↑a];simp
  rw[b]at e;have q:=E.slot _ s e;cases s <;> simp only[fY,c]at q ⊢ <;> exact q
abbrev Ce(X:Cx)(es:List Zt)(t:DT):Prop:=PTs X es (liftT t)
def cZ{X:Cx}:Ce X [] (λ_ P=>P true):=λpins s σ H Q I h=>by
 let⟨p,H0,own,ρ,P,E,t,q⟩:=h;exact M6 pins s σ H Q I (q true H t E.at)
def dU{X:Cx}{c:Zt}{t:DT}(hc:PDT X c t):Ce X [c] t:=M5 hc
def elC(k:Kd):Kd:=elK k
def dLC(n:Nat)(c:DI)(g:DG)(e:DT)(a:DE):DE:=λρ P=>c ρ λk ds=>⇑ds<=1000/\∃(ke:Kd)(Iv:Nat->eI->Prop),Iv 0 [] /\
 (∀i d ys,ds[i]?=some d->Iv i ys->g (norm (elC k) d) d (List.replicate n .any++ρ) λρ'=>e ρ' λb=>if b=true then a ρ' λk' d'=>(norm k' d').le ke=true/\Iv (i+1) (ys++[d'])else Iv (i+1) ys) /\
 ∀ys,Iv ⇑ds ys->P (ke.join .new) (.list ys)
def Qd{p:Pn}{H0 f b:Hp}{own:Addr->Option Nat}{k:Kd}(A:At p H0 own f b){v:V}{d:D}{c:Hp}(r:Rp (okA p H0 own f k b) c v d):Rp (okB p H0 own (elC k)) c v d:=by
 refine r.mono (λa n=>?_) (λ_ _ _ e=>e) λ_ _ e=>e;let⟨o,u,hu⟩:=n;cases k with
 |imm=>exact o
 |new=>exact⟨A.h0 o,A.nfb o,A.Ah o⟩
 |reg q=>exact o
 |n0=>trivial
 |snw=>exact o
 |shr=>exact o
 |wk=>trivial
section
variable{own:List Str}{scope:Zs}{tg iter elt:Zt}{ifs:List Zt}{pos:Pos}{ti:DI}{g:DG}{tt:DT}{te:DE}
def qM{n:Nat}:∀σ H Q,bI (dLC n ti g tt te) σ H Q->tLC n (J7 ti) (λ_=>Ka g) (λ_=>liftT tt) (λ_=>bI te) σ H Q:=by
 rintro σ H Q ⟨p,H0,own,ρ,P,E,t,q⟩;refine⟨p,H0,own,ρ,_,E,t,λk ds J H1 Ok h A W o1=>?_⟩;let⟨O,D,N,Y,step,r⟩:=h;have okS:∀H',Kp p H1 H'->p.PI H'->Ok H':=λH' K i=>W.stab H1 H' o1 (λb o n e=>K b o e (jh A n.1)) (jk A K);refine⟨λi m ys H'=>m=⇑ds - i/\i<=⇑ds/\Kp p H1 H'/\p.PI H'/\∃es,Rps (okK p H0 own H D) H' ys es/\⇑es<=i/\N i es,⟨_,rfl,Nat.zero_le _,Kp.refl,A.pen,[],.nil,Nat.le_refl _,Y⟩,?_⟩;rintro c i m ys H' ⟨rfl,hi,B,z,es,G,hl,R⟩;have F:=okS H' B z;have f:=A.go B z;have V:=Z9;by_cases d:i<⇑ds
 ·refine .inr ⟨W.go i H' F d,by have:=⇑G;lia,λys' H2=>Kp p H1 H2/\p.PI H2/\∃es,Rps (okK p H0 own H D) H2 ys' es/\⇑es<=i+1/\N (i+1) es,λys' H2 h=>⟨_,(),rfl,d,h⟩,λx H2 y=>?_⟩;let⟨M,L⟩:=W.yld i H' x H2 F y;have L:=L ds[i] (List.getElem?_eq_getElem d);have U:p.PI H2:=p.mono H' H2 z λb o _ e=>M b o e;have C:Kp p H1 H2:=B.trans (Kp.of M);have u:=A.go C U;have T:EnvD p H0 own σ H2 ρ:=E.go u.kp u.pen;have I:=cU f (Kp.of M) G;refine⟨p,H0,own,_,_,_,_,T.comp n,jz (Qd A L),step i ds[i] es (List.getElem?_eq_getElem d) R,λσ3 ρ3 E3 t3=>?_⟩;refine⟨p,H0,own,ρ3,_,E3,t3,λb H4 h4 A4=>?_⟩;have w:At p H0 own H H4:=u.fw A4;have s:=cU u A4.kp I;cases b with
  |true =>
   refine bF ⟨p,H0,own,ρ3,_,E3.go A4.kp A4.pen,↑h4,λk' d' v H6 h6 A6 r6=>?_⟩;refine⟨(C.trans A4.kp).trans A6.kp,A6.pen,es++[d'],(cU w A6.kp s).snoc (eN (w.fw A6) h6.1 (aR (kO w r6))),by simp;lia,h6.2⟩
  |false=>exact bw ⟨C.trans A4.kp,A4.pen,es,s,(),↑h4⟩
 ·have e:i=⇑ds:=()
  subst e;refine .inl ⟨W.stop H' F,λl hl'=>?_⟩;let⟨S,Z,nw⟩:=f.new hl' (.lst ys);have j:=dH D .new;refine q _ _ _ _ (r es R) (f.go S Z) (.lst (dD f j.2 nw) aB ?_);exact(cU f S G).mono (λa o=>dD f j.1 o) (λ_ _ _ e=>e) λ_ _ e=>e
def gO(own:List Str)(hc:X.calm=true)(hi:PDI X tg iter ti)(hg:∀c,PDG (X.comp own scope c) tg g)(ht:∀c,Ce (X.comp own scope c) ifs tt)(he:∀c,PD (X.comp own scope c) elt te)(hk:gY X.env scope X.N=true:=by rfl)(hs:zF X iter:=by intro _;rfl) :
  PD X (.ListComp elt [⟨tg,iter,ifs,0⟩] scope pos) (dLC ⇑own ti g tt te):=PE.wk (Va own hc hi hg ht he hk hs) qM
def mJ(own M:List Str)(hc:X.calm=true)(hi:PDI X tg iter ti)(hg:∀c,PDG (X.bB own M scope c) tg g)(ht:∀c,Ce (X.bB own M scope c) ifs tt)(he:∀c,PD (X.bB own M scope c) elt te)(hk:bH X.env scope X.N M=true:=by decide +kernel)(hs:zF X iter:=by intro _;rfl) :
  PD X (.ListComp elt [⟨tg,iter,ifs,0⟩] scope pos) (dLC ⇑own ti g tt te):=PE.wk (Js own M hc hi hg ht he hk hs) qM
end
def d7(d:D):Sl:=if fj d then .im d else .sh d
def lF{p:Pn}{H:Hp}{N:List Str}{vs:List V}{ds:eI}(g:Gr.G p H)(hp:p.PI H)(r:Rps (λa=>¬p.fp a) H vs ds):EnvD p H (λ_=>none) (L2.start N vs) H (ds.map d7++List.replicate (⇑N - ⇑vs) .any):=by
 refine⟨λ_ _ e _=>e,hp,(λ_ _ e=>nomatch e),λj s e=>?_,by unfold L2.start;simp[⇑r],g⟩;by_cases b:j<⇑ds
 ·rw[List.getElem?_append_left ↑b,List.getElem?_map]at e;let⟨v,hv,c⟩:=r.getD (List.getElem?_eq_getElem b);rw[List.getElem?_eq_getElem b]at e;have e:=Option.some.inj e;have hs:(L2.start N vs)[j]?=some (some v):=by
   unfold L2.start;rw[List.getElem?_append_left (by rw[List.length_map,⇑r];exact b),List.getElem?_map,hv];rfl
  subst e;unfold d7;by_cases hi:fj ds[j]=true
  ·rw[ed hi];exact⟨v,hs,c.imm hi⟩
  ·rw[ee hi];exact⟨v,hs,c.mono (λ_ o=>⟨o,rfl⟩) (λ_ _ _ e=>e) λ_ _ e=>e⟩
 ·rw[List.getElem?_append_right ↑b,List.getElem?_replicate]at e;split at e
  ·cases e;trivial
  ·cases e
def Tj{f:eo}{T:DS}{N:List Str}{vs:List V}{H:Hp}{Q:VK}{E:XK}(h:spD f vs H Q E)(c:∀ds P,f ds P->T { nx:=λ_=>P .none,rt:=P } (ds.map d7++List.replicate (⇑N - ⇑ds) .any))(g:Gr.G nQ H:=by trivial):jT T { nx:=λ_ H'=>Q .non H',rt:=Q } (L2.start N vs) H:=by
 let⟨ds,P,r,t,q⟩:=h;have E:=lF (p:=nQ) (N:=N) g trivial (r.mono (ok':=λa=>¬nQ.fp a) (λ_ _ z=>z) (λ_ _ _ e=>e) λ_ _ e=>e);rw[⇑r]at E;have i:∀H',(∀b o,H b=some o->¬nQ.fp b->H' b=some o)->Same H H':=λH' k b o e=>k b o e λz=>z;refine⟨nQ,H,λ_=>none,_,_,E,c ds P t,⟨λo s h' r' e' _ n=>q _ _ h' n (i h' e'.k0) .non,λd v h' n w=>q d v h' n (i h' w.k0) (w.rp.mono (λ_ o=>o.1) (λ_ _ _ e=>e) λ_ _ e=>e),λ_ _ _ _ _ _ n=>n.elim,λ_ _ _ _ _ _ n=>n.elim⟩⟩
def Tf{C:Pn->Prop}{f:eo}{T:DS}{N:List Str}{vs:List V}{H:Hp}{Q:VK}{E:XK}(h:spP C f vs H Q E)(b:∀ds P,f ds P->T { nx:=λ_=>P .none,rt:=P } (.pen C::(ds.map d7++List.replicate (⇑N - (⇑ds+1)) .any)))(g:∀p,Gr.G p H:=by intro _;trivial):jT T { nx:=λ_ H'=>Q .non H',rt:=Q } (L2.start N vs) H:=by
 let⟨p,vs',ds,P,c,rfl,i,r,t,q⟩:=h;have E0:=lF (p:=p) (N:=N.drop 1) (g p) i r;have E:EnvD p H (λ_=>none) (L2.start N (p.pv::vs')) H (.pen C::(ds.map d7++List.replicate (⇑N - (⇑ds+1)) .any)):=by
  refine⟨λ_ _ e _=>e,i,(λ_ _ e=>nomatch e),λj s e=>?_,by unfold L2.start;simp[⇑r],g p⟩;cases j with
  |zero =>
   have e:=Option.some.inj e;subst e;exact⟨rfl,c⟩
  |succ j =>
   rw[List.getElem?_cons_succ]at e;have hl:⇑N - (⇑ds+1)=⇑(N.drop 1) - ⇑vs':=by rw[⇑r,List.length_drop];lia
   rw[hl]at e;have q:=E0.slot j s e;have es:(L2.start N (p.pv::vs'))[j+1]?=(L2.start (N.drop 1) vs')[j]?:=by
    unfold L2.start;have:⇑N - ⇑(p.pv::vs')=⇑(N.drop 1) - ⇑vs':=by rw[List.length_drop,List.length_cons];lia
    rw[this];simp
   cases s <;> simp only[fY,es]at q ⊢ <;> exact q
 have k:∀{H' v d},RPost p H H' v d->Rp (λa=>H a=none) H' v d:=λw=>w.rp.mono (λ_ o=>o.1) (λ_ _ _ e=>e) λ_ _ e=>e;exact⟨p,H,λ_=>none,_,_,E,b ds P t,⟨λo s h' r' e' _ n=>q _ _ h' n e'.k0 e'.pen .non,λd v h' n w=>q d v h' n w.k0 w.pen (k w),λ_ _ _ _ _ _ n=>n.elim,λ_ _ _ _ _ _ n=>n.elim⟩⟩
end Dl
namespace PySem
abbrev T8(f0:Value)(q:Bool)(TI TO:Addr):Obj:={ cls:=.type "zip",data:=.fields #[f0,.bool q,.bool false,.ref TI,.ref TO]}
section
variable{prog:Za}{w:Zb}{A:Zr}{E:em}{s:Shared}
structure ZSt(z TI TO i1 i2 l1 l2:Addr)(xs ys:eB)(i:Nat)(h:Heap):Prop where
 zip:(i=0/\h.get? z=some (T8 .none false TI TO))\/∃(T:Addr)(q:Bool)(oT:Obj),h.get? z=some (T8 (Z2 T) q TI TO)/\h.get? T=some oT/\T≠z/\T≠i1/\T≠i2
 ti:h.get? TI=some { cls:=.type "tuple",data:=.seq #[.ref i1,.ref i2]}
 to:∃a b,h.get? TO=some { cls:=.type "tuple",data:=.seq #[a,b]}
 j1:h.IsListIter i1 l1 i
 j2:h.IsListIter i2 l2 i
 e1:h.IsList l1 xs
 e2:h.IsList l2 ys
variable{z TI TO i1 i2 l1 l2:Addr}{xs ys:eB}
end
section
variable{prog:Za}{w:Zb}{A:Zr}{z TI TO i1 i2 l1 l2:Addr}{xs ys:eB}{R:Result->Shared->Prop}
end
end PySem
namespace L2
open PySem.Spec
section
variable{X:Cx}{pins:er}{σ:L2.St}{H:Hp}{s:Shared}
end
end L2
namespace Dl
open L2
variable{X:Cx}
variable [Gr]
section
variable{pos:Pos}{a b c e:Zt}{es:List Zt}{ta tb tc te:DE}{t:DA}
def newP(k:Kd)(ds:eI)(P:Kd->Prop):Prop:=(cG ds=true/\P .new)\/P (k.join .new)
def nR{p:Pn}{H0 d H f:Hp}{own:Addr->Option Nat}(A:At p H0 own d H){k:Kd}{vs:List V}{ds:eI}{P:Kd->Prop}{l:Addr}(r:Rps (okK p H0 own d k) f vs ds)(g:okK p H0 own d .new l)(hl:f l=some (.lst vs))(h:newP k ds P):∃k',P k'/\Rp (okK p H0 own d k') f (.ref l) (.list ds):=by
 rcases h with⟨i,h⟩|h
 ·exact⟨_,h,.lst g hl ((Rps.imm r i).mono (λ_ o=>o.elim) (λ_ _ _ e=>e) λ_ _ e=>e)⟩
 ·exact⟨_,h,.lst (dD A (dH k .new).2 g) hl (r.mono (λa o=>dD A (dH k .new).1 o) (λ_ _ _ e=>e) λ_ _ e=>e)⟩
theorem oF:∀l:ew,cG (l.map PyData.int)=true
 |[]=>rfl
 |x::l=>by
  show(fj (.int x)&&cG (l.map PyData.int))=true;rw[oF l];rfl
theorem bK:∀l:ez,cG (l.map pD)=true
 |[]=>rfl
 |x::l=>by
  show(fj (pD x)&&cG (l.map pD))=true;rw[bK l];rfl
def prD(p:D×D):D:=.tuple [p.1,p.2]
def Xi:GC:=λks P=>match ks with
 |[(k1,.list ds),(k2,.list es)]=>⇑ds<=1000/\newP (k1.join k2) ((ds.zip es).map prD) λk=>P k (.list ((ds.zip es).map prD))
 |_=>False
def tCh(f g:Int->Int->Bool)(ta tb tc:DE):DE:=λρ P=>ta ρ λ_ d1=>tb ρ λ_ d2=>match d1,d2 with
 |.int i,.int j=>if f i j=true then tc ρ λ_ d3=>(match d3 with
   |.int l=>P .imm (.bool (g j l))
   |_=>False)else P .imm (.bool false)
 |_,_=>False
def Dk{f g:Int->Int->Bool}:∀σ H Q,bI (tCh f g ta tb tc) σ H Q->qX (rI0 λi j=>.bl (f i j)) (rI0 λi j=>.bl (g i j)) (bI ta) (bI tb) (bI tc) σ H Q:=by
 rintro σ H Q ⟨p,H0,own,ρ,P,E,t,q⟩;refine⟨p,H0,own,ρ,_,E,t,λk1 d1 v1 H1 t1 A1 r1=>?_⟩;refine⟨p,H0,own,ρ,_,E.go A1.kp A1.pen,t1,λk2 d2 v2 H2 t2 A2 r2=>?_⟩;have A:=A1.fw A2;split at t2
 ·rename_i i j;refine⟨i,j,r1.int',r2.int',_,rfl,?_⟩;cases d:f i j with
  |true =>
   rw[d,ed rfl]at t2;refine bF ⟨p,H0,own,ρ,_,(E.go A1.kp A1.pen).go A2.kp A2.pen,t2,λk3 d3 v3 H3 t3 A3 r3=>?_⟩;cases d3 with
   |int l=>exact⟨j,l,r2.int',r3.int',q _ _ _ _ t3 (A.fw A3) (.bl _)⟩
   |_=>exact t3.elim
  |false =>
   rw[d,ee Bool.false_ne_true]at t2;exact bw (q _ _ _ _ t2 A (.bl _))
 ·exact t2.elim
def vJ(ha:PD X a ta)(hb:PD X b tb)(hc:PD X c tc)(hm:Z8 [.LtE,.Lt] [b,c]=false:=by with_unfolding_all rfl):PD X (.Compare a [.LtE,.Lt] [b,c] pos) (tCh (λi j=>decide (i<=j)) (λi j=>decide (i<j)) ta tb tc):=PE.wk (Jv Jz Dg ha hb hc hm) Dk
def pG{f d:ZJ}{r i:R2}{g:DE}(h:PT X (.Compare a [f,d] [b,c] pos) (Hy (qX r i (bI ta) (bI tb) (bI tc))))(w:∀σ H Q,bI g σ H Q->qX r i (bI ta) (bI tb) (bI tc) σ H Q):PDT X (.Compare a [f,d] [b,c] pos) (dY g) :=
 PT.wk h λσ H Q q=>w σ H _ (rU σ H Q q)
def Pj(ta:DE):DE:=λρ P=>ta ρ λ_ d=>match d with
 |.bool b=>P .imm (.bool (!b))
 |_=>False
theorem Ae(ha:PD X a ta):PD X (.UnaryOp .Not a pos) (Pj ta):=PE.wk (Rk ha) (by
 rintro σ H Q ⟨p,H0,own,ρ,P,E,t,q⟩;refine⟨p,H0,own,ρ,_,E,t,λk d v H' h A r=>?_⟩;cases d with
 |bool b=>exact⟨b,r.bl',q _ _ _ _ h A (.bl _)⟩
 |_=>exact h.elim)
def Pq(ta tb:DE):DE:=λρ P=>ta ρ λ_ d=>match d with
 |.bool b=>if b=true then tb ρ P else P .imm (.bool false)
 |_=>False
def iH{op}(h:PD X a ta):PD X (.BoolOp op [a] pos) ta:=Rj h
theorem fV{rest:List Zt}(ha:PD X a ta)(hb:PD X (.BoolOp .And (b::rest) pos) tb):PD X (.BoolOp .And (a::b::rest) pos) (Pq ta tb):=PE.wk (Rr ha hb) (by
 rintro σ H Q ⟨p,H0,own,ρ,P,E,t,q⟩;refine⟨p,H0,own,ρ,_,E,t,λk d v H' h A r=>?_⟩;cases d with
 |bool b =>
  refine⟨b,r.bl',?_⟩;cases b with
  |true=>exact bF ⟨p,H0,own,ρ,P,E.go A.kp A.pen,↑h,λk d v H2 h2 A2 r2=>q k d v H2 h2 (A.fw A2) (kO A r2)⟩
  |false=>exact bw (q _ _ _ _ ↑h A (.bl _))
 |_=>exact h.elim)
def Ut(tc:DT)(ta tb:DE):DE:=λρ P=>tc ρ λb=>if b=true then ta ρ P else tb ρ P
theorem jG{u:DT}(hc:PDT X c u)(ha:PD X a ta)(hb:PD X b tb):PD X (.IfExp c a b pos) (Ut u ta tb):=PE.wk (Jt hc ha hb) (by
 rintro σ H Q ⟨p,H0,own,ρ,P,E,t,q⟩;refine⟨p,H0,own,ρ,_,E,t,λb H' h A=>?_⟩;have f:∀k d v H2,P k d->At p H0 own H' H2->Rp (okK p H0 own H' k) H2 v d->Q v H2:=λk d v H2 h2 A2 r2=>q k d v H2 h2 (A.fw A2) (kO A r2);cases b with
 |true=>exact bF ⟨p,H0,own,ρ,P,E.go A.kp A.pen,↑h,f⟩
 |false=>exact bw ⟨p,H0,own,ρ,P,E.go A.kp A.pen,↑h,f⟩)
def tyD:D->String
 |.none=>"NoneType"
 |.bool _=>"bool"
 |.int _=>"int"
 |.str _=>"str"
 |.list _=>"list"
 |.tuple _=>"tuple"
 |.dict _=>"dict"
def isT(c:String)(d:D):Bool:=tyD d==c || (c=="int"&&tyD d=="bool")
def tIs(c:String)(te:DE):DE:=λρ P=>te ρ λ_ d=>P .imm (.bool (isT c d))
def bC{T:String}{x:Str}{ps g:Pos}(hk:∀t:Value,(t=.type "NoneType"\/t=.type "bool"\/t=.type "int"\/t=.type "str"\/t=.type "list"\/t=.type "tuple"\/t=.type "dict")->∃n,t=.type n/\W.kitOne X.K t (.type T)=some (n==T || (T=="int"&&n=="bool")))(hm:X.mg "isinstance"=none)(he:PD X e te)(m:PE X (.Name x g) (tC (.ty T)))(hg:Gl X "isinstance":=by rfl)(h1:Zu [e,.Name x g] X.env=(false,Zv e X.env)::Zu [.Name x g] X.env:=by rfl)(h2:Zu [.Name x g] X.env=(false,Zv (.Name x g) X.env)::Zu [] X.env:=by rfl)(hpl:(Zw pos (Zu [.Name x g] X.env)).any (·.1)=false:=by rfl) :
  PD X (.Call (.Name "isinstance" ps) [e,.Name x g] [] pos) (tIs T te):=PE.wk (fK wI hg hm X8 (cD he (cD m dZ h2) h1) ∅ ∅ h1 hpl) (by
 rintro σ H Q ⟨p,H0,own,ρ,P,E,t,q⟩;refine⟨p,H0,own,ρ,_,E,t,λk d v H' h A r=>?_⟩;have f:∀n,TyOf X.K H' v (.type n)->n=tyD d->∃x' c' t' b,[v,V.ty T]=[x',.ty c']/\TyOf X.K H' x' t'/\W.kitOne X.K t' (.type c')=some b/\Q (.bl b) H':=λn ty en=>by
  let⟨s,e,j⟩:=hk (.type n) (by rw[en];cases d <;> simp[tyD]);cases e;refine⟨v,T,.type n,_,rfl,ty,j,?_⟩;rw[en];exact q _ _ _ _ h A (.bl _)
 show ∃x' c' t' b,_/\_;cases r with
 |non=>exact f _ .non rfl
 |bl b=>exact f _ (.bl b) rfl
 |int i=>exact f _ (.int i) rfl
 |str x=>exact f _ (.str x) rfl
 |lst o hh l=>exact f _ (.lst hh) rfl
 |tup hh l=>exact f _ (.tup hh) rfl
 |dct o hh l=>exact f _ (.dK hh) rfl)
def Dv{K:W.Frag}:∀t:Value,(t=.type "NoneType"\/t=.type "bool"\/t=.type "int"\/t=.type "str"\/t=.type "list"\/t=.type "tuple"\/t=.type "dict")->∃n,t=.type n/\W.kitOne K t (.type "int")=some (n=="int" || ("int"=="int"&&n=="bool")):=by
 rintro t (rfl|rfl|rfl|rfl|rfl|rfl|rfl) <;> exact⟨_,rfl,rfl⟩
def jW{K:W.Frag}:∀t:Value,(t=.type "NoneType"\/t=.type "bool"\/t=.type "int"\/t=.type "str"\/t=.type "list"\/t=.type "tuple"\/t=.type "dict")->∃n,t=.type n/\W.kitOne K t (.type "bool")=some (n=="bool" || ("bool"=="int"&&n=="bool")):=by
 rintro t (rfl|rfl|rfl|rfl|rfl|rfl|rfl) <;> exact⟨_,rfl,rfl⟩
def yu{K:W.Frag}:∀t:Value,(t=.type "NoneType"\/t=.type "bool"\/t=.type "int"\/t=.type "str"\/t=.type "list"\/t=.type "tuple"\/t=.type "dict")->∃n,t=.type n/\W.kitOne K t (.type "list")=some (n=="list" || ("list"=="int"&&n=="bool")):=by
 rintro t (rfl|rfl|rfl|rfl|rfl|rfl|rfl) <;> exact⟨_,rfl,rfl⟩
def kit_tuple{K:W.Frag}:∀t:Value,(t=.type "NoneType"\/t=.type "bool"\/t=.type "int"\/t=.type "str"\/t=.type "list"\/t=.type "tuple"\/t=.type "dict")->∃n,t=.type n/\W.kitOne K t (.type "tuple")=some (n=="tuple" || ("tuple"=="int"&&n=="bool")):=by
 rintro t (rfl|rfl|rfl|rfl|rfl|rfl|rfl) <;> exact⟨_,rfl,rfl⟩
def Du{K:W.Frag}:∀t:Value,(t=.type "NoneType"\/t=.type "bool"\/t=.type "int"\/t=.type "str"\/t=.type "list"\/t=.type "tuple"\/t=.type "dict")->∃n,t=.type n/\W.kitOne K t (.type "str")=some (n=="str" || ("str"=="int"&&n=="bool")):=by
 rintro t (rfl|rfl|rfl|rfl|rfl|rfl|rfl) <;> exact⟨_,rfl,rfl⟩
def S9:GC:=λks P=>match ks with
 |[(_,.list ds)]=>∃bs:List Bool,ds=bs.map PyData.bool/\P .imm (.bool (bs.all id))
 |_=>False
theorem Rps.bools{ok:Addr->Prop}{H:Hp}:∀{vs:List V}{d:List Bool},Rps ok H vs (d.map PyData.bool)->vs=d.map V.bl
 |[],[],_=>rfl
 |_,b::d,.cons h t=>by
  have e:=h.bl';subst e;rw[Rps.bools t];rfl
def rF{ps:Pos}(hc:X.calm=true)(hm:X.mg "all"=none)(hv:Zq "all"=some (.builtin "all"))(ha:PDA X [a] t)(hg:Gl X "all":=by rfl)(he:zS X a []:=by rfl)(hpl:zP X pos []:=by rfl):PD X (.Call (.Name "all" ps) [a] [] pos) (tCl S9 t) :=
 gP (G5 hc) (by
  intro p H0 own j H vs ks P Q A r t q;unfold S9 at t;split at t
  ·let⟨f,rfl,t⟩:=t;let⟨v,rfl,i⟩:=iB r;let⟨x,xs,g,k,h1,d⟩:=Rp.cV i;subst g;have h:=Rps.bools d;subst h;exact⟨x,f,rfl,SqL.of h1,q _ _ _ _ t Kp.refl A.pen (.bl _)⟩
  ·exact t.elim) hg hm hv ha ∅ ∅ he hpl
def gMM(f:Int->Int->Int):GC:=λks P=>match ks with
 |[(_,.int i),(_,.int j)]=>P .imm (.int (f i j))
 |_=>False
def vI{ps:Pos}(hc:X.calm=true)(hm:X.mg "max"=none)(ha:PDA X [a,b] t)(hg:Gl X "max":=by rfl)(he:Zu [a,b] X.env=(false,Zv a X.env)::Zu [b] X.env:=by rfl)(hpl:(Zw pos (Zu [b] X.env)).any (·.1)=false:=by rfl):PD X (.Call (.Name "max" ps) [a,b] [] pos) (tCl (gMM λi j=>if j > i then j else i) t) :=
 gP (G3 hc) (by
  intro p H0 own g H vs ks P Q A r t q;unfold gMM at t;split at t
  ·rename_i k i h j;let⟨v,w,rfl,d,f⟩:=Ih r;rw[Rp.int' d,Rp.int' f];exact⟨i,j,rfl,q _ _ _ _ t Kp.refl A.pen (.int _)⟩
  ·exact t.elim) hg hm boot_max ha ∅ ∅ he hpl
def qF{ps:Pos}(hc:X.calm=true)(hm:X.mg "min"=none)(ha:PDA X [a,b] t)(hg:Gl X "min":=by rfl)(he:Zu [a,b] X.env=(false,Zv a X.env)::Zu [b] X.env:=by rfl)(hpl:(Zw pos (Zu [b] X.env)).any (·.1)=false:=by rfl):PD X (.Call (.Name "min" ps) [a,b] [] pos) (tCl (gMM λi j=>if j<i then j else i) t) :=
 gP (GZ hc) (by
  intro p H0 own g H vs ks P Q A r t q;unfold gMM at t;split at t
  ·rename_i k i h j;let⟨v,w,rfl,d,f⟩:=Ih r;rw[Rp.int' d,Rp.int' f];exact⟨i,j,rfl,q _ _ _ _ t Kp.refl A.pen (.int _)⟩
  ·exact t.elim) hg hm boot_min ha ∅ ∅ he hpl
def Oj:GC:=λks P=>match ks with
 |[(k,.list ds)]=>newP k ds λk'=>P k' (.list ds)
 |[(k,.tuple ds)]=>newP k ds λk'=>P k' (.list ds)
 |_=>False
def qG{ps:Pos}(hm:X.mg "list"=none)(ha:PDA X [a] t)(hg:Gl X "list":=by rfl)(he:zS X a []:=by rfl)(hpl:zP X pos []:=by rfl):PD X (.Call (.Name "list" ps) [a] [] pos) (tCl Oj t) :=
 rE wG (by
  intro p H0 own o H vs ks P Q A r t q;have f:∀{k ds xs},Rps (okK p H0 own o k) H xs ds->newP k ds (λm=>P m (.list ds))->∀l,H l=none->Q (.ref l) (upd H l (.lst xs)):=λ{k ds xs} rs t l hl=>by
   let⟨n,s,u⟩:=A.new hl (.lst xs);let⟨m,h,j⟩:=nR A (cU A n rs) u aB t;exact q _ _ _ _ h n s j
  unfold Oj at t;split at t
  ·let⟨v,rfl,i⟩:=iB r;let⟨x,xs,g,w,h1,d⟩:=Rp.cV i;subst g;exact⟨x,xs,rfl,.inl (SqL.of h1),f d t⟩
  ·let⟨v,rfl,i⟩:=iB r;let⟨x,xs,g,h1,d⟩:=Rp.dX i;subst g;exact⟨x,xs,rfl,.inr (SqT.of h1),f d t⟩
  ·exact t.elim) hg hm X9 ha ∅ ∅ he hpl
def Ku:GC:=λks P=>match ks with
 |[(k,.list ds)]=>P (norm k (.tuple ds)) (.tuple ds)
 |[(k,.tuple ds)]=>P (norm k (.tuple ds)) (.tuple ds)
 |_=>False
def kZ{ps:Pos}(hm:X.mg "tuple"=none)(ha:PDA X [a] t)(hg:Gl X "tuple":=by rfl)(he:zS X a []:=by rfl)(hpl:zP X pos []:=by rfl):PD X (.Call (.Name "tuple" ps) [a] [] pos) (tCl Ku t) :=
 rE ux (by
  intro p H0 own j H vs ks P Q A r t q;unfold Ku at t;split at t
  ·rename_i k ds;let⟨v,rfl,f⟩:=iB r;let⟨x,xs,g,n,h1,d⟩:=Rp.cV f;subst g;refine⟨x,xs,rfl,.inl ⟨SqL.of h1,λl hl=>?_⟩⟩;let⟨h,i,m⟩:=A.new hl (.tup xs);exact q _ _ _ _ t h i (aR (.tup aB (cU A h d)))
  ·rename_i k ds;let⟨v,rfl,f⟩:=iB r;let⟨x,xs,g,h1,d⟩:=Rp.dX f;subst g;exact⟨x,xs,rfl,.inr ⟨SqT.of h1,q _ _ _ _ t Kp.refl A.pen (aR f)⟩⟩
  ·exact t.elim) hg hm We ha ∅ ∅ he hpl
def Br:GC:=λks P=>match ks with
 |[(_,.list ds)]=>∃ns:ew,ds=ns.map PyData.int/\⇑ns<64/\∀out:ew,out.Perm ns->out.Pairwise (·<=·)->P .new (.list (out.map PyData.int))
 |_=>False
def nJ{ps:Pos}(hm:X.mg "sorted"=none)(ha:PDA X [a] t)(hg:Gl X "sorted":=by rfl)(he:zS X a []:=by rfl)(hpl:zP X pos []:=by rfl):PD X (.Call (.Name "sorted" ps) [a] [] pos) (tCl Br t) :=
 gP wD (by
  intro p H0 own n H vs ks P Q A r t q;unfold Br at t;split at t
  ·let⟨ns,rfl,hl,t⟩:=t;let⟨v,rfl,m⟩:=iB r;let⟨x,xs,f,o,h1,d⟩:=Rp.cV m;subst f;have g:=Rps.ints d;subst g;refine⟨x,ns,rfl,SqL.of h1,hl,λl out hl' hp hs=>?_⟩;let⟨j,h,k⟩:=A.new hl' (.lst (out.map V.int));exact q _ _ _ _ (t out hp hs) j h (.lst k aB (Rps.ofMap (λi=>.int i) out))
  ·exact t.elim) hg hm Wl ha ∅ ∅ he hpl
def Bq:GC:=λks P=>match ks with
 |[(_,d)]=>∃ts:ez,(d=.list (ts.map pD)\/d=.tuple (ts.map pD))/\⇑ts<64/\(∀t∈ts,pW t)/\∀us:ez,us.Perm ts->us.Pairwise (λa b=>bA a<=bA b)->P .new (.list (us.map pD))
 |_=>False
theorem Rps.prs{ok:Addr->Prop}{H:Hp}:∀{vs:List V}{d:ez},Rps ok H vs (d.map pD)->Prs H vs d
 |[],[],_=>.nil
 |_,t::d,.cons h r=>by
  let⟨x,xs,e,f,k⟩:=Rp.dX h;let⟨l,m,g,i,j⟩:=Rps.two k;subst e g;rw[i.int',j.int']at f;exact .cons ⟨x,rfl,f⟩ (Rps.prs r)
theorem Prs.rps{ok:Addr->Prop}{H:Hp}:∀{vs:List V}{d:ez},Prs H vs d->Rps ok H vs (d.map pD)
 |_,_,.nil=>.nil
 |_,_,.cons r t=>by
  let⟨x,e,f⟩:=r;subst e;exact .cons (.tup f (.cons (.int _) (.cons (.int _) .nil))) (Prs.rps t)
def nH{ps:Pos}(hm:X.mg "sorted"=none)(ha:PDA X [a] t)(hg:Gl X "sorted":=by rfl)(he:zS X a []:=by rfl)(hpl:zP X pos []:=by rfl):PD X (.Call (.Name "sorted" ps) [a] [] pos) (tCl Bq t) :=
 gP wC (by
  intro p H0 own n H vs ks P Q A r t q;unfold Bq at t;split at t
  ·let⟨h,hd,hl,hn,t⟩:=t;let⟨v,rfl,j⟩:=iB r;have f:∀l ws us,H l=none->Prs H ws us->us.Perm h->us.Pairwise (λa b=>bA a<=bA b)->Q (.ref l) (upd H l (.lst ws)):=λl ws us hl' pr hp hs=>by
    let⟨i,k,m⟩:=A.new hl' (.lst ws);exact q _ _ _ _ (t us hp hs) i k (.lst m aB (cU A i (Prs.rps pr)))
   rcases hd with rfl|rfl
   ·let⟨x,xs,g,o,h1,d⟩:=Rp.cV j;subst g;exact⟨x,xs,h,rfl,.inl (SqL.of h1),Rps.prs d,hn,.inl hl,f⟩
   ·let⟨x,xs,g,h1,d⟩:=Rp.dX j;subst g;exact⟨x,xs,h,rfl,.inr (SqT.of h1),Rps.prs d,hn,.inl hl,f⟩
  ·exact t.elim) hg hm Wl ha ∅ ∅ he hpl
end
variable [Gr]
section
variable{pins:er}{σ:L2.St}{H:Hp}{s:Shared}{ok:Addr->Prop}
mutual
theorem Rp.reads(I:Inv X pins σ H s):∀{v:V}{d:D}{u:Value},Rp ok H v d->RelV v u->d.canLay0=true->∃as,X7 s.heap u d as
 |_,_,_,.non,r,_=>by cases r;exact⟨_,.none⟩
 |_,_,_,.bl b,r,_=>by cases r;exact⟨_,.bool b⟩
 |_,_,_,.int i,r,_=>by let⟨t,rfl⟩:=r;exact⟨_,.int i t⟩
 |_,_,_,.str x,r,_=>by let⟨t,rfl⟩:=r;exact⟨_,.str x t⟩
 |_,_,_,.lst o h rs,r,c=>by
  cases r;let⟨its,f,pl,_⟩:=I.list (SqL.of h);let⟨as,e⟩:=Rps.reads I rs f (by simpa[PyData.canLay0]using c);let⟨g,a,hc,n,hd⟩:=pl.isList;exact⟨_,.list a hc hd ↑e⟩
 |_,_,_,.tup h rs,r,c=>by
  cases r;let⟨its,f,pl,_⟩:=I.tuple (SqT.of h);let⟨as,e⟩:=Rps.reads I rs f (by simpa[PyData.canLay0]using c);let⟨g,a,hc,n,hd⟩:=pl;exact⟨_,.tuple a hc hd ↑e⟩
 |_,_,_,.dct o h rs,r,c=>by simp[PyData.canLay0]at c
theorem Rps.reads(I:Inv X pins σ H s):∀{v:List V}{d:eI}{u:eC},Rps ok H v d->Vals v u->PyData.canLayAll0 d=true->∃as,X6 s.heap u d as
 |_,_,_,.nil,r,_=>by cases r;exact⟨[],.nil⟩
 |_,_,_,.cons h t,r,c=>by
  cases r with
  |cons a b =>
   simp only[PyData.canLayAll0,Bool.and_eq_true]at c;let⟨as,e⟩:=Rp.reads I h a c.1;let⟨g,f⟩:=Rps.reads I t b c.2;exact⟨_,.cons e f⟩
end
end
def okD(d:D):Bool:=d.canLay0&&decide (d.depth<=60)
section
variable{pos:Pos}{a b e:Zt}{ta tb te:DE}
def Iw(K:W.Frag)(neg:Bool):R2:=λx y H Q=>∃ok ok' d e,Rp ok H x d/\Rp ok' H y e/\okD d=true/\okD e=true/\Q (.bl (if neg then !(PyData.eqv d e)else PyData.eqv d e)) H
def JD(hu:X.A.units+64<Yh):OpR X (ZK .Eq) (Iw X.K false):=by
 intro g s σ H x y v u Q I k l h;let⟨ok,ok',d,e,hd,he,c,f,q⟩:=h;simp only[okD,Bool.and_eq_true,d6]at c f;let⟨m,i⟩:=hd.reads I k c.1;let⟨n,j⟩:=he.reads I l f.1;exact SeqAt.compareEq_reads i j c.1 f.1 () ⟨.bl _,H,I,rfl,q⟩
def Jy(hu:X.A.units+64<Yh):OpR X (ZK .NotEq) (Iw X.K true):=by
 intro g s σ H x y v u Q I k l h;let⟨ok,ok',d,e,hd,he,c,f,q⟩:=h;simp only[okD,Bool.and_eq_true,d6]at c f;let⟨m,i⟩:=hd.reads I k c.1;let⟨n,j⟩:=he.reads I l f.1;exact SeqAt.compareNe_reads i j c.1 f.1 () ⟨.bl _,H,I,rfl,q⟩
def Vx(neg:Bool):G2:=λ_ d1 _ d2 P=>okD d1=true/\okD d2=true/\P .imm (.bool (if neg then !(PyData.eqv d1 d2)else PyData.eqv d1 d2))
def Qa{K:W.Frag}(neg:Bool):Ok2 (Vx neg) (Iw K neg):=by
 intro p H0 own h H x y i c j d P Q A f g t q;exact⟨_,_,c,d,f,g,t.1,t.2.1,q _ _ _ _ t.2.2 Kp.refl A.pen (.bl _)⟩
def eqP(x:D)(h:Heap)(u:Value):Bool:=by
 classical
 exact decide (∃d as,X7 h u d as/\PyData.eqv d x=true)
def Q5(neg:Bool):R2:=λx y H Q=>∃ok ok' d es,Rp ok H x d/\(Rp ok' H y (.list es)\/Rp ok' H y (.tuple es))/\okD d=true/\(es.all okD)=true/\Q (.bl (if neg then !(es.any λe=>PyData.eqv e d)else es.any λe=>PyData.eqv e d)) H
def K4{x:D}{h:Heap}{u:Value}{d:D}{f:List Addr}(r:X7 h u d f):eqP x h u=PyData.eqv d x:=by
 classical
 unfold eqP;rw[Bool.eq_iff_iff,d6];constructor
 ·rintro⟨d',c,g,e⟩;rw[(r.unique d' c g).1];exact e
 ·exact λe=>⟨d,f,r,e⟩
theorem oX{x:D}{h:Heap}:∀{us:eC}{ds:eI}{c:List Addr},X6 h us ds c->us.any (eqP x h)=ds.any λe=>PyData.eqv e x
 |_,_,_,.nil=>rfl
 |_,_,_,.cons a b=>by
  rw[List.any_cons,List.any_cons,K4 a,oX b]
theorem nZ{A:Zr}{s:Shared}{x:D}{v:Value}{k:List Addr}(i:X7 s.heap v x k)(g:okD x=true)(hu:A.units+60<Yh):∀{us:eC}{ds:eI}{j:List Addr},X6 s.heap us ds j->ds.all okD=true->∀u∈us,SeqAt.EqAt A s u v (eqP x s.heap u)
 |_,_,_,.nil,_,u,f=>nomatch f
 |_,d::ds,_,.cons a b,c,u,f=>by
  simp only[List.all_cons,Bool.and_eq_true]at c;rcases List.mem_cons.mp f with rfl|f
  ·rw[K4 a];have h:=c.1;simp only[okD,Bool.and_eq_true,d6]at h g;exact SeqAt.eqAt_reads _ _ A s _ _ _ _ a i h.1 g.1 ()
  ·exact nZ i g hu b c.2 u f
def oE{A:Zr}(hu:A.units+64<Yh):A.in1.units+60<Yh:=by
 have:A.in1.units<=A.units+1:=by first|exact Nat.le_refl _|exact Nat.le_succ _|(unfold Around.in1;simp)
 lia
theorem ou:∀{es:eI},es.all okD=true->PyData.canLayAll0 es=true
 |[],_=>rfl
 |e::es,h=>by
  simp only[List.all_cons,Bool.and_eq_true,okD]at h;simp only[PyData.canLayAll0,Bool.and_eq_true];exact⟨h.1.1,ou h.2⟩
def RL(hu:X.A.units+64<Yh):OpR X (ZK .In) (Q5 false):=by
 intro l s σ H x y v u Q I z n h;let⟨ok,ok',d,es,hd,hs,j,i,q⟩:=h;have f:=j;simp only[okD,Bool.and_eq_true,d6]at f;let⟨B,m⟩:=hd.reads I z f.1;rcases hs with hs|hs
 ·let⟨c,vs,rfl,o,hc,k⟩:=hs.cV;cases n;let⟨its,r,pl,t⟩:=I.list (SqL.of hc);let⟨p,g⟩:=k.reads I r (ou i);refine SeqAt.in_listAt (eqP d s.heap) pl.isList (λw hw=>nZ m j (oE hu) g i w ↑hw) ⟨.bl _,H,I,rfl,?_⟩;rw[show its.toArray.any (eqP d s.heap)=its.any (eqP d s.heap) by simp,oX g];exact q
 ·let⟨c,vs,rfl,hc,k⟩:=hs.dX;cases n;let⟨its,r,pl,t⟩:=I.tuple (SqT.of hc);let⟨p,g⟩:=k.reads I r (ou i);refine SeqAt.in_tupleAt (eqP d s.heap) pl (λw hw=>nZ m j (oE hu) g i w ↑hw) ⟨.bl _,H,I,rfl,?_⟩;rw[show its.toArray.any (eqP d s.heap)=its.any (eqP d s.heap) by simp,oX g];exact q
def Fx(hu:X.A.units+64<Yh):OpR X (ZK .NotIn) (Q5 true):=by
 intro l s σ H x y v u Q I z n h;let⟨ok,ok',d,es,hd,hs,j,i,q⟩:=h;have f:=j;simp only[okD,Bool.and_eq_true,d6]at f;let⟨B,m⟩:=hd.reads I z f.1;rcases hs with hs|hs
 ·let⟨c,vs,rfl,o,hc,k⟩:=hs.cV;cases n;let⟨its,r,pl,t⟩:=I.list (SqL.of hc);let⟨p,g⟩:=k.reads I r (ou i);refine SeqAt.notIn_listAt (eqP d s.heap) pl.isList (λw hw=>nZ m j (oE hu) g i w ↑hw) ⟨.bl _,H,I,rfl,?_⟩;rw[show its.toArray.any (eqP d s.heap)=its.any (eqP d s.heap) by simp,oX g];exact q
 ·let⟨c,vs,rfl,hc,k⟩:=hs.dX;cases n;let⟨its,r,pl,t⟩:=I.tuple (SqT.of hc);let⟨p,g⟩:=k.reads I r (ou i);refine SeqAt.notIn_tupleAt (eqP d s.heap) pl (λw hw=>nZ m j (oE hu) g i w ↑hw) ⟨.bl _,H,I,rfl,?_⟩;rw[show its.toArray.any (eqP d s.heap)=its.any (eqP d s.heap) by simp,oX g];exact q
def gIn(neg:Bool):G2:=λ_ d1 _ d2 P=>match d2 with
 |.list es=>okD d1=true/\es.all okD=true/\P .imm (.bool (if neg then !(es.any λe=>PyData.eqv e d1)else es.any λe=>PyData.eqv e d1))
 |.tuple es=>okD d1=true/\es.all okD=true/\P .imm (.bool (if neg then !(es.any λe=>PyData.eqv e d1)else es.any λe=>PyData.eqv e d1))
 |_=>False
def okIn(neg:Bool):Ok2 (gIn neg) (Q5 neg):=by
 intro p H0 own h H x y i c j g P Q A d f t q;cases g with
 |list es=>exact⟨_,_,c,es,d,.inl f,t.1,t.2.1,q _ _ _ _ t.2.2 Kp.refl A.pen (.bl _)⟩
 |tuple es=>exact⟨_,_,c,es,d,.inr f,t.1,t.2.1,q _ _ _ _ t.2.2 Kp.refl A.pen (.bl _)⟩
 |_=>exact t.elim
def jE(hu:X.A.units+64<Yh)(ha:PD X a ta)(hb:PD X b tb)(hm:ZL .In b=false:=by rfl):PDT X (.Compare a [.In] [b] pos) (dY (t2 (gIn false) ta tb)):=gw (RL hu) (okIn false) ha hb hm
def eZ(hu:X.A.units+64<Yh)(ha:PD X a ta)(hb:PD X b tb)(hm:ZL .NotIn b=false:=by rfl):PDT X (.Compare a [.NotIn] [b] pos) (dY (t2 (gIn true) ta tb)):=gw (Fx hu) (okIn true) ha hb hm
variable [Gr]
section
variable{pos p2:Pos}{a b c e:Zt}{es:List Zt}{ta tb tc te:DE}{t:DA}{st:ZF}
abbrev DO:=List Sl->(Option Int->Prop)->Prop
def yq(t:DO):TO:=λσ H Q=>∃p H0 own ρ P,EnvD p H0 own σ H ρ/\t ρ P/\∀o H',P o->At p H0 own H H'->Q o H'
def PO.wk{e:Option Zt}{t t':TO}(h:PO X e t)(w:∀σ H Q,t' σ H Q->t σ H Q):PO X e t':=λpins s σ H Q I q=>h pins s σ H Q I (w σ H Q q)
def JN:DO:=λ_ P=>P none
def JM(te:DE):DO:=λρ P=>te ρ λ_ d=>match d with
 |.int i=>P (some i)
 |_=>False
def dW:PO X none (yq JN):=PO.wk Nb (by
 rintro σ H Q ⟨p,H0,own,ρ,P,E,t,q⟩;exact q _ _ t E.at)
theorem dg(h:PD X e te):PO X (some e) (yq (JM te)):=PO.wk (M9 h) (by
 rintro σ H Q ⟨p,H0,own,ρ,P,E,t,q⟩;refine⟨p,H0,own,ρ,_,E,t,λk d v H' h A r=>?_⟩;cases d with
 |int i=>exact⟨i,r.int',q _ _ h A⟩
 |_=>exact h.elim)
def jc{α:Type}(ds:List α)(lo hi:Option Int):List α:=(ds.drop (HT.sIx ⇑ds 0 lo)).take (HT.sIx ⇑ds ⇑ds hi - HT.sIx ⇑ds 0 lo)
def Rps.cut{ok:Addr->Prop}{H:Hp}{vs:List V}{ds:eI}(r:Rps ok H vs ds)(lo hi:Option Int):Rps ok H (uw vs lo hi) (jc ds lo hi):=by
 unfold uw jc;rw[⇑r];exact(r.drop _).take _
def Xh(te:DE)(g f:DO):DE:=λρ P=>te ρ λk d=>g ρ λlo=>f ρ λhi=>match d with
 |.list ds=>newP k (jc ds lo hi) λk'=>P k' (.list (jc ds lo hi))
 |_=>False
def S8:G2:=λk1 d1 k2 d2 P=>match d1,d2 with
 |.list ds,.list es=>⇑ds+⇑es<=1000/\newP (k1.join k2) (ds++es) λk=>P k (.list (ds++es))
 |_,_=>False
def Vg:Ok2 S8 U7:=by
 intro p H0 own r H x y h I i J P Q A F G t q;unfold S8 at t;split at t
 ·let⟨u,xs,w,L,h1,d⟩:=F.cV;let⟨v,ys,B,M,h2,f⟩:=G.cV;subst w B;have C:=Z9;refine⟨u,v,xs,ys,rfl,rfl,h1,h2,by rw[⇑d,⇑f];lia,λl hl=>?_⟩;let⟨s,D,E⟩:=A.new hl (.lst (xs++ys));have j:=dH h i;have m:∀{k vs ds},k.le (h.join i)=true->Rps (okK p H0 own r k) H vs ds->Rps (okK p H0 own r (h.join i)) H vs ds:=λhk z=>z.mono (λa o=>dD A hk o) (λ_ _ _ e=>e) λ_ _ e=>e;let⟨K,g,n⟩:=nR A (cU A s ((m j.1 d).app (m j.2 f))) E aB t.2;exact q _ _ _ _ g s D n
 ·exact t.elim
def Ky:G2:=λk1 d1 k2 d2 P=>match d1,d2 with
 |.tuple ds,.tuple es=>⇑ds+⇑es<=1000/\P (norm (k1.join k2) (.tuple (ds++es))) (.tuple (ds++es))
 |_,_=>False
def RW:Ok2 Ky Pz:=by
 intro p H0 own i H x y g C h D P Q A w B t q;unfold Ky at t;split at t
 ·let⟨n,xs,s,h1,d⟩:=w.dX;let⟨r,ys,u,h2,f⟩:=B.dX;subst s u;have v:=Z9;refine⟨n,r,xs,ys,rfl,rfl,h1,h2,by rw[⇑d,⇑f];lia,λl H' sm hl=>?_⟩;have K:Kp p H H':=Kp.of sm;have j:=dH g h;have m:∀{k vs ds},k.le (g.join h)=true->Rps (okK p H0 own i k) H vs ds->Rps (okK p H0 own i (g.join h)) H vs ds:=λhk z=>z.mono (λa o=>dD A hk o) (λ_ _ _ e=>e) λ_ _ e=>e;exact q _ _ _ _ t.2 K (p.mono H H' A.pen λb o _ e=>sm b o e) (aR (.tup hl (cU A K ((m j.1 d).app (m j.2 f)))))
 ·exact t.elim
def Xk(i:Nat)(te:DE):DS:=λP ρ=>match ρ[i]? with
 |some (.dw r (.list ds))=>te ρ λk d=>match d with
  |.list es=>(k.le .new || cG es)=true/\⇑ds+⇑es<=1000/\P.nx ((forget r ρ).set i (.dw r (.list (ds++es))))
  |_=>False
 |_=>False
def qL{te:DE}{ρ:List Sl}{R:Kd->D->Prop}(t:te ρ R):fU te lR ρ (λks=>∃k d,ks=[(k,d)]/\R k d):=by
 show te ρ λk d=>∃f d',[((k,d):Kd×D)]=[(f,d')]/\R f d';have e:(λk d=>∃f d',[((k,d):Kd×D)]=[(f,d')]/\R f d')=R:=by
  funext k d;apply propext;constructor
  ·rintro⟨f,d',e,h⟩;cases e;exact h
  ·exact λh=>⟨k,d,rfl,h⟩
 rw[e];exact t
def V9(i:Nat)(f te:DE):DS:=λP ρ=>match ρ[i]? with
 |some (.dw r (.list ds))=>f ρ λ_ dj=>te ρ λk d=>match dj with
  |.int j=>(norm k d).le .new=true/\0<=j/\j.toNat<=⇑ds/\⇑ds<1000/\P.nx ((forget r ρ).set i (.dw r (.list (ds.take j.toNat++d::ds.drop j.toNat))))
  |_=>False
 |_=>False
def Gz{i:Nat}{G:DE}(h:PS X st (pX (tBM X.K "list" CQ (jw i) (ju (fU G (fU te lR)))))):PDS X st (V9 i G te):=PS.wk' h (by
 rintro Q σ H ⟨p,H0,own,ρ,P,E,t,w⟩;unfold V9 at t;split at t
 ·rename_i r ds hr;let⟨v,hv,x⟩:=E.slot i _ hr;let⟨l,vs,rfl,hl,z,B⟩:=x.cV;refine⟨.ref l,hv,.inl ⟨rfl,vs,SqL.of z⟩,p,H0,own,ρ,λks=>∃s n k d,ks=[(s,n),(k,d)]/\(match n with
   |.int j=>(norm k d).le .new=true/\0<=j/\j.toNat<=⇑ds/\⇑ds<1000/\P.nx ((forget r ρ).set i (.dw r (.list (ds.take j.toNat++d::ds.drop j.toNat))))
   |_=>False),E,?_,?_⟩
  ·show G ρ λs n=>te ρ λk d=>∃q o u d',[((s,n):Kd×D),(k,d)]=[(q,o),(u,d')]/\_;have e:∀(s:Kd)(n:D),(λk d=>∃q o u d',[((s,n):Kd×D),(k,d)]=[(q,o),(u,d')]/\(match o with
    |.int j=>(norm u d').le .new=true/\0<=j/\j.toNat<=⇑ds/\⇑ds<1000/\P.nx ((forget r ρ).set i (.dw r (.list (ds.take j.toNat++d'::ds.drop j.toNat))))
    |_=>False))=λk d=>(match n with
    |.int j=>(norm k d).le .new=true/\0<=j/\j.toNat<=⇑ds/\⇑ds<1000/\P.nx ((forget r ρ).set i (.dw r (.list (ds.take j.toNat++d::ds.drop j.toNat))))
    |_=>False):=λs n=>by
    funext k d;apply propext;constructor
    ·rintro⟨q,o,u,d',e,h⟩;cases e;exact h
    ·exact λh=>⟨s,n,k,d,rfl,h⟩
   simp only[e];exact t
  ·rintro ks V M ⟨s,n,k,d,rfl,hh⟩ A R;cases n with
   |int j =>
    let⟨hk,S,T,I,hn⟩:=hh;let⟨W,y,rfl,F,C⟩:=Ih R;have C:=eN A hk (aR C);have N:=Rp.int' F;have h1:M l=some (.lst vs):=A.kp l _ z (E.ow l r hl).2.1;have O:=Z9;have U:=⇑B;refine⟨l,vs,j.toNat,y,rfl,?_,h1,(),(),?_⟩
    ·rw[N];have:(~~~j.toNat)=j:=()
     rw[this]
    let⟨J,L⟩:=E.Ij (vs':=vs.take j.toNat++y::vs.drop j.toNat) (ds':=ds.take j.toNat++d::ds.drop j.toNat) A hv hl z B λH2 f g=>by
     have m:=vp f B λd hd=>o7 hd;exact(m.take _).app (.cons (g C) (m.drop _))
    exact w.nx _ σ _ _ J L hn
   |_=>exact hh.elim
 ·exact t.elim)
end
variable [Gr]
structure Cal(P:Za)(w:Zb)(K:W.Frag)(mg:Str->eH)(fw:Heap)(k:Nat)(x:Str)(ps:List Str)(sp:Sp):Prop where
 ex:∃f fd,k∩ps∩sp/\Binds K fd ps []/\W.keepIn K (.ref f)=true/\mg x=some (.ref f)
section
variable{k j:Nat}{x:Str}{ps:List Str}{e:Zt}{es:List Zt}{t:DA}{p pos pq:Pos}
def pcS{sp:Sp}{a:TA}(C:Cal X.prog X.w X.K X.mg X.fw k x ps sp)(hr:Room j X.A)(ha:PA X (e::es) a)(hk:k<=j)(hg:Gl X x)(hdb:zB x)(he:zS X e es)(hpl:zP X pos es) :
  PE X (.Call (.Name x p) (e::es) [] pos) (wQ sp [] E0 a):=by
 let⟨f,d,F,b,c,m⟩:=C.ex;exact Nr F (hr.mono hk) hg m c b .nil xM ha hdb he hpl
def dc{f:eo}(C:Cal X.prog X.w X.K X.mg X.fw k x ps (spD f))(hr:Room j X.A)(ha:PDA X (e::es) t)(hk:k<=j:=by decide)(hg:Gl X x:=by rfl)(hdb:zB x:=by decide)(he:zS X e es:=by rfl)(hpl:zP X pos es:=by rfl) :
  PD X (.Call (.Name x p) (e::es) [] pos) (tFn f t):=PE.wk (pcS C hr ha hk hg hdb he hpl) N8
def dcP{C:Pn->Prop}{i:Nat}{f:eo}{y:Str}{a:Pos}(CC:Cal X.prog X.w X.K X.mg X.fw k x ps (spP C f))(hr:Room j X.A)(hi:PE X (.Name y a) (jw i))(ha:PDA X es t)(hk:k<=j:=by decide)(hg:Gl X x:=by rfl)(hdb:zB x:=by decide)(he:Zu (.Name y a::es) X.env=(false,Zv (.Name y a) X.env)::Zu es X.env:=by rfl)(hpl:zP X pos es:=by rfl) :
  PD X (.Call (.Name x p) (.Name y a::es) [] pos) (Ml C f i t):=PE.wk (pcS CC hr (cD hi ha) hk hg hdb he hpl) J5
def dv(i:Nat){x:Str}{pos:Pos}(hN:X.N[i]?=some x:=by rfl)(hv:Vis X.env.scope x:=by first|exact Or.inl rfl|exact Or.inr (Or.inl rfl)|exact Or.inr (Or.inr rfl))(hd:zB x:=by decide)(hcd:(x==("__classdict__":Str))=false:=by decide):PD X (.Name x pos) (tV i):=Ru (pv i hN hv hd hcd)
end
structure Bn(mg:Str->eH):Prop where
 isinstance:mg "isinstance"=none
 int:mg "int"=none
 bool:mg "bool"=none
 tuple:mg "tuple"=none
 list:mg "list"=none
 len:mg "len"=none
 all:mg "all"=none
 min:mg "min"=none
 max:mg "max"=none
 sorted:mg "sorted"=none
 range:mg "range"=none
 abs:mg "abs"=none
def boot_all:Zq "all"=some (.builtin "all"):=⋯
def boot_abs:Zq "abs"=some (.builtin "abs"):=⋯
abbrev FF:=eo
def Ds{f:eo}{n:Nat}(hn:∀ds P,f ds P->⇑ds=n:=by intro _ _ h;repeat (first|(let⟨rfl,_⟩:=h;rfl)|let⟨_,h⟩:=h)):∀vs H Q E,spD f vs H Q E->⇑vs=n:=λvs H Q E h=>by
 let⟨ds,P,r,t,_⟩:=h;rw[⇑r];exact hn ds P t
def Ti{f:eo}{T:DS}{N:List Str}{vs:List V}{H:Hp}{Q:VK}{E:XK}(h:spD f vs H Q E)(a:∀ds P,f ds P->∃ρ,ds.map d7++List.replicate (⇑N - ⇑ds) .any=ρ/\T { nx:=λ_=>P .none,rt:=P } ρ)(g:Gr.G nQ H:=by trivial):jT T { nx:=λ_ H'=>Q .non H',rt:=Q } (L2.start N vs) H :=
 Tj h (λds P t=>by
  let⟨ρ,e,q⟩:=a ds P t;rw[e];exact q) g
def bD(n:Int)(us:ez):D:=.tuple [.int n,.tuple (us.map pD)]
def lC(n:Int)(us:ez):fj (bD n us)=true:=by
 show(fj (.int n)&&(cG (us.map pD)&&true))=true;rw[bK];rfl
def qP(n:Int)(us:ez):d7 (bD n us)=.im (bD n us):=ed (lC n us)
def pU{n:Int}{us:ez}{l a:List Sl}(h:l=a):d7 (bD n us)::l=.im (bD n us)::a:=by rw[qP,h]
def enterQ{C:Pn->Prop}{f:eo}{T:DS}{N:List Str}{vs:List V}{H:Hp}{Q:VK}{E:XK}(h:spP C f vs H Q E)(a:∀ds P,f ds P->∃ρ,ds.map d7++List.replicate (⇑N - (⇑ds+1)) .any=ρ/\T { nx:=λ_=>P .none,rt:=P } (.pen C::ρ))(g:∀p,Gr.G p H:=by intro _;trivial):jT T { nx:=λ_ H'=>Q .non H',rt:=Q } (L2.start N vs) H :=
 Tf h (λds P t=>by
  let⟨ρ,e,q⟩:=a ds P t;rw[e];exact q) g
variable [Gr]
def JW{α β:Type}{ds:List α}{i:Nat}{d:α}(f:α->β)(h:ds[i]?=some d):(ds.take (i+1)).map f=(ds.take i).map f++[f d]:=by
 rw[List.take_add_one,h,List.map_append];rfl
def gA{α β:Type}{l:List α}{g:α->β}{i:Nat}{d:β}(h:(l.map g)[i]?=some d):∃x,l[i]?=some x/\g x=d:=by
 rw[List.getElem?_map]at h;cases e:l[i]? with
 |none=>rw[e]at h;cases h
 |some x=>rw[e]at h;exact⟨x,rfl,Option.some.inj h⟩
theorem dR:∀l:ew,(l.map PyData.int).all okD=true
 |[]=>rfl
 |x::l=>by
  rw[List.map_cons,List.all_cons,dR l];rfl
theorem any_ints(x:Int):∀l:ew,((l.map PyData.int).any λe=>PyData.eqv e (.int x))=decide (x∈l)
 |[]=>rfl
 |y::l=>by
  rw[List.map_cons,List.any_cons,any_ints x l];have e:PyData.eqv (.int y) (.int x)=(y==x):=rfl;rw[e,Bool.eq_iff_iff,Bool.or_eq_true,beq_iff_eq,d6,d6,List.mem_cons];constructor
  ·rintro(h|h)
   ·exact .inl h.symm
   ·exact .inr h
  ·rintro(h|h)
   ·exact .inl h.symm
   ·exact .inr h
def aW(lo:Int)(n:Nat):⇑(aY lo n)=n:=by unfold aY;simp
def cQ{lo:Int}{n i:Nat}{d:D}(h:(aY lo n)[i]?=some d):i<n/\d=.int (lo+~~~i):=by
 unfold aY at h;let⟨x,c,e⟩:=gA h;let⟨h1,h2⟩:=List.getElem?_eq_some_iff.mp c;have a:i<n:=↑h1
 have b:x=i:=↑h2.symm
 subst b;exact⟨a,e.symm⟩
variable [Gr]
section
variable{pos p2:Pos}{a b e:Zt}{ta tb te:DE}
theorem Rps.rep{ok:Addr->Prop}{H:Hp}{vs:List V}{ds:eI}(r:Rps ok H vs ds):∀k:Nat,Rps ok H (List.replicate k vs).flatten (List.replicate k ds).flatten
 |0=>.nil
 |k+1=>by
  rw[List.replicate_succ,List.replicate_succ,List.flatten_cons,List.flatten_cons];exact r.app (Rps.rep r k)
def S6:G2:=λk1 d1 _ d2 P=>match d1,d2 with
 |.list ds,.int k=>0<=k/\k<1000/\⇑ds * k.toNat<=1000/\newP k1 (List.replicate k.toNat ds).flatten λk'=>P k' (.list (List.replicate k.toNat ds).flatten)
 |_,_=>False
def Ve:Ok2 S6 U3:=by
 intro p H0 own s H x y z u B v P Q A o r t q;unfold S6 at t;split at t
 ·rename_i ds k;let⟨h,xs,i,C,h1,c⟩:=o.cV;subst i;have j:=Z9;refine⟨h,k,xs,rfl,r.int',h1,(),(),by rw[⇑c];lia,λl hl=>?_⟩;let⟨g,m,n⟩:=A.new hl (.lst (List.replicate k.toNat xs).flatten);let⟨w,d,f⟩:=nR A (cU A g (c.rep k.toNat)) n aB t.2.2.2;exact q _ _ _ _ d g m f
 ·exact t.elim
end
section
variable{pos:Pos}{a:Zt}{t:DA}
variable [Gr]
end
variable [Gr]
def jH{x:Str}{i:Int}{u:Value}{ps:Pos}(hg:Gl X x)(hm:X.mg x=some u)(r:RelV (.int i) u)(hd:zB x:=by decide):PD X (.Name x ps) (tK (.int i)):=nO (Np hg hm r hd) λ_=>.int i
def Us(te:DE):DE:=λρ P=>te ρ λ_ d=>P .imm (.bool (tyD d=="list" || tyD d=="tuple"))
def Ss{K:W.Frag}(d:D):W.kitAny K (.type (tyD d)) [.type "list",.type "tuple"]=some (tyD d=="list" || tyD d=="tuple"):=by
 cases d <;> rfl
def nM{x y:Str}{ps g c j:Pos}{kk:Nat}(hm:X.mg "isinstance"=none)(he:PD X e te)(z:PE X (.Name x g) (tC (.ty "list")))(m:PE X (.Name y c) (tC (.ty "tuple")))(hg:Gl X "isinstance":=by rfl)(h1:Zu [e,.Tuple [.Name x g,.Name y c] kk j] X.env=(false,Zv e X.env)::Zu [.Tuple [.Name x g,.Name y c] kk j] X.env:=by rfl)(h2:Zu [.Tuple [.Name x g,.Name y c] kk j] X.env=(false,Zv (.Tuple [.Name x g,.Name y c] kk j) X.env)::Zu [] X.env:=by rfl)(u:Zu [.Name x g,.Name y c] X.env=(false,Zv (.Name x g) X.env)::Zu [.Name y c] X.env:=by rfl)(w:Zu [.Name y c] X.env=(false,Zv (.Name y c) X.env)::Zu [] X.env:=by rfl)(hpl:(Zw pos (Zu [.Tuple [.Name x g,.Name y c] kk j] X.env)).any (·.1)=false:=by rfl) :
  PD X (.Call (.Name "isinstance" ps) [e,.Tuple [.Name x g,.Name y c] kk j] [] pos) (Us te):=PE.wk (fK wH hg hm X8 (cD he (cD (Jp (cD z (cD m dZ w) u)) dZ h2) h1) ∅ ∅ h1 hpl) (by
 rintro σ H Q ⟨p,H0,own,ρ,P,E,t,q⟩;refine⟨p,H0,own,ρ,_,E,t,λk d v H' h A r=>?_⟩;refine⟨by show 2<=sizeLine;decide,λl hl=>?_⟩;let⟨n,B,D⟩:=A.new hl (.tup [.ty "list",.ty "tuple"]);have C:=nq A n r;have f:TyOf X.K (upd H' l (.tup [.ty "list",.ty "tuple"])) v (.type (tyD d))->∃x p c1 c2 t b,[v,V.ref l]=[x,.ref p]/\TyOf X.K (upd H' l (.tup [.ty "list",.ty "tuple"])) x t/\SqT X.K (upd H' l (.tup [.ty "list",.ty "tuple"])) p [.ty c1,.ty c2]/\W.kitAny X.K t [.type c1,.type c2]=some b/\Q (.bl b) (upd H' l (.tup [.ty "list",.ty "tuple"])):=λty =>
  ⟨v,l,"list","tuple",_,_,rfl,ty,SqT.of aB,Ss d,q _ _ _ _ h (A.go n B) (.bl _)⟩
 show ∃x p c1 c2 t b,_/\_;cases C with
 |non=>exact f .non
 |bl b=>exact f (.bl b)
 |int i=>exact f (.int i)
 |str x=>exact f (.str x)
 |lst o hh s=>exact f (.lst hh)
 |tup hh s=>exact f (.tup hh)
 |dct o hh s=>exact f (.dK hh))
variable [Gr]
def NQ:D->Bool
 |.none=>true
 |_=>false
def Gx:G2:=λ_ d1 _ d2 P=>match d2 with
 |.none=>P .imm (.bool (NQ d1))
 |_=>False
def Cz{ok:Addr->Prop}{H:Hp}{v:V}{d:D}(r:Rp ok H v d):decide (v=.non)=NQ d:=by
 cases r <;> simp[NQ]
def P0:Ok2 Gx (λx y H Q=>y=.non/\Q (.bl (decide (x=.non))) H):=by
 intro p H0 own f H x y i g j h P Q A c d t q;unfold Gx at t;split at t
 ·cases d;rw[Cz c];exact⟨rfl,q _ _ _ _ t Kp.refl A.pen (.bl _)⟩
 ·exact t.elim
def Ag(ha:PD X a ta)(hb:PD X b tb):PD X (.Compare a [.Is] [b] pos) (t2 Gx ta tb):=rC JB P0 ha hb (dJ _)
def qD(ha:PD X a ta)(hb:PD X b tb):PDT X (.Compare a [.Is] [b] pos) (dY (t2 Gx ta tb)):=gw JB P0 ha hb (dJ _)
end
variable [Gr]
section
variable{pos:Pos}{st:ZF}
end
@[reducible] def grX(H:Hp):Gr:=⟨λp H0=>p=nQ/\H0=H⟩
structure Cal1(P:Za)(w:Zb)(K:W.Frag)(mg:Str->eH)(fw:Heap)(k:Nat)(x:Str)(ps:List Str)(sp:Sp):Prop where
 ex:∃f fd,FnOk P w K mg fw (CX1 P w) k f fd ps sp/\Binds K fd ps []/\W.keepIn K (.ref f)=true/\mg x=some (.ref f)
section
variable{E:XK}{k j:Nat}{x:Str}{ps:List Str}{e:Zt}{es:List Zt}{p pos:Pos}
end
variable [Gr]
section
variable{pos:Pos}{a b e:Zt}{ta tb te:DE}{t:DA}
end
end Dl
namespace L2
def once(ns:ew):ew:=ns.foldl step_dedup []
section
variable{X:Cx}
end
end L2
namespace Dl
open L2
variable{X:Cx}
variable [Gr]
section
variable{pos pos':Pos}{a:Zt}{t:DA}
end
variable [Gr]
section
variable{pos p2:Pos}{a b c e:Zt}{es:List Zt}{ta tb tc te:DE}{t:DA}{st:ZF}
def OpR.or{f:Value->Value->Sem Value}{r g:R2}(h:OpR X f r)(h':OpR X f g):OpR X f (λx y H Q=>r x y H Q\/g x y H Q):=by
 intro d s σ H x y v u Q I i j q;rcases q with q|q
 ·exact h d s σ H x y v u Q I i j q
 ·exact h' d s σ H x y v u Q I i j q
def aH(ha:PD X a ta)(hb:PD X b tb)(hs:qR b:=by exact λ_ _=>rfl):PD X (.Subscript a b pos) (t2 gIx ta tb):=PE.wk (xK (IxR.or qO Kl) ha hb hs) (Dp (by
 intro p H0 own k H x y n l r m P Q A h j t q;unfold gIx at t;split at t
 ·rename_i ds i;let⟨d,hd,t⟩:=t;let⟨c,vs,rfl,o,hc,f⟩:=h.cV;let⟨v,hv,g⟩:=f.atI hd;exact .inl ⟨c,vs,i,v,rfl,j.int',SqL.of hc,hv,q _ _ _ _ t Kp.refl A.pen (aR g)⟩
 ·rename_i ds i;let⟨d,hd,t⟩:=t;let⟨c,vs,rfl,hc,f⟩:=h.dX;let⟨v,hv,g⟩:=f.atI hd;exact .inr ⟨c,vs,i,v,rfl,j.int',SqT.of hc,hv,q _ _ _ _ t Kp.refl A.pen (aR g)⟩
 ·exact t.elim))
def DP:G2:=λk1 d1 k2 d2 P=>match d1 with
 |.int i=>(match d2 with
  |.int j=>P .imm (.int (i+j))
  |_=>False)
 |.list ds=>S8 k1 (.list ds) k2 d2 P
 |.tuple ds=>Ky k1 (.tuple ds) k2 d2 P
 |_=>False
theorem bG(ha:PD X a ta)(hb:PD X b tb):PD X (.BinOp a .Add b pos) (t2 DP ta tb):=uK (OpR.or jM (OpR.or RM Nx)) (by
 intro p H0 own h H x y k m l d P Q A f g t q;cases m with
 |int i =>
  cases d with
  |int j=>exact .inl ⟨i,j,f.int',g.int',q _ _ _ _ t Kp.refl A.pen (.int _)⟩
  |_=>exact t.elim
 |list ds=>exact .inr (.inl (Vg p H0 own h H x y k _ l d P Q A f g t q))
 |tuple ds=>exact .inr (.inr (RW p H0 own h H x y k _ l d P Q A f g t q))
 |_=>exact t.elim) ha hb
def Kv:G2:=λk1 d1 k2 d2 P=>match d1 with
 |.int i=>(match d2 with
  |.int j=>Hf i j/\P .imm (.int (i * j))
  |_=>False)
 |.list ds=>S6 k1 (.list ds) k2 d2 P
 |_=>False
theorem jF(ha:PD X a ta)(hb:PD X b tb):PD X (.BinOp a .Mult b pos) (t2 Kv ta tb):=uK (OpR.or pH RG) (by
 intro p H0 own h H x y l k m d P Q A f g t q;cases k with
 |int i =>
  cases d with
  |int j=>exact .inl ⟨i,j,f.int',g.int',t.1,q _ _ _ _ t.2 Kp.refl A.pen (.int _)⟩
  |_=>exact t.elim
 |list ds=>exact .inr (Ve p H0 own h H x y l _ m d P Q A f g t q)
 |_=>exact t.elim) ha hb
def lN(neg:Bool):G2:=λk1 d1 k2 d2 P=>match scD d1 d2 with
 |some b=>P .imm (.bool (if neg then !b else b))
 |none=>Vx neg k1 d1 k2 d2 P
def Qc{K:W.Frag}:Ok2 (lN false) (λx y H Q=>rEq x y H Q\/Iw K false x y H Q):=by
 intro p H0 own i H x y g d h f P Q A j k t q;cases e:scD d f with
 |some b =>
  have t':gEq false g d h f P:=by
   unfold lN at t;unfold gEq;rw[e]at t ⊢;exact t
  exact .inl (WL p H0 own i H x y g d h f P Q A j k t' q)
 |none =>
  unfold lN at t;rw[e]at t;exact .inr (Qa false p H0 own i H x y g d h f P Q A j k t q)
def PX{K:W.Frag}:Ok2 (lN true) (λx y H Q=>rNe x y H Q\/Iw K true x y H Q):=by
 intro p H0 own i H x y g d h f P Q A j k t q;cases e:scD d f with
 |some b =>
  have t':gEq true g d h f P:=by
   unfold lN at t;unfold gEq;rw[e]at t ⊢;exact t
  exact .inl (WK p H0 own i H x y g d h f P Q A j k t' q)
 |none =>
  unfold lN at t;rw[e]at t;exact .inr (Qa true p H0 own i H x y g d h f P Q A j k t q)
def jJ(hu:X.A.units+64<Yh)(ha:PD X a ta)(hb:PD X b tb):PD X (.Compare a [.Eq] [b] pos) (t2 (lN false) ta tb):=rC (OpR.or PN (JD hu)) Qc ha hb (dJ _)
def Af(hu:X.A.units+64<Yh)(ha:PD X a ta)(hb:PD X b tb):PD X (.Compare a [.NotEq] [b] pos) (t2 (lN true) ta tb):=rC (OpR.or PK (Jy hu)) PX ha hb (dJ _)
def dO(hu:X.A.units+64<Yh)(ha:PD X a ta)(hb:PD X b tb):PDT X (.Compare a [.Eq] [b] pos) (dY (t2 (lN false) ta tb)):=gw (OpR.or PN (JD hu)) Qc ha hb (dJ _)
def nG(hu:X.A.units+64<Yh)(ha:PD X a ta)(hb:PD X b tb):PDT X (.Compare a [.NotEq] [b] pos) (dY (t2 (lN true) ta tb)):=gw (OpR.or PK (Jy hu)) PX ha hb (dJ _)
end
section
variable{n:Nat}{g:DG}{tt:DT}{te:DE}{ρ:List Sl}{k:Kd}{ds:eI}{R:Kd->eI->Prop}
def N5{α β:Type}(f:α->β){l:List α}{i:Nat}{x:α}(h:l[i]?=some x):(l.take (i+1)).map f=(l.take i).map f++[f x]:=by
 rw[List.take_add_one,h];simp
def Ke{α:Type}(xs:List α)(e f:α->D)(a:Kd)(hd:ds=xs.map e)(hl:⇑xs<=1000)(step:∀x∈xs,∀(A:D->Prop)(B:Prop),A (f x)->g (norm (elC k) (e x)) (e x) (List.replicate n .any++ρ) λρ'=>if true=true then te ρ' λk' d'=>(norm k' d').le a=true/\A d' else B)(q:R a (xs.map f)) :
  ⇑ds<=1000/\∃(a:Kd)(b:Nat->eI->Prop),b 0 [] /\
   (∀i d ys,ds[i]?=some d->b i ys->g (norm (elC k) d) d (List.replicate n .any++ρ) λρ'=>if true=true then te ρ' λk' d'=>(norm k' d').le a=true/\b (i+1) (ys++[d'])else b (i+1) ys) /\
   ∀ys,b ⇑ds ys->R a ys:=by
 subst hd;refine⟨by rw[List.length_map];exact hl,a,λi ys=>ys=(xs.take i).map f,rfl,?_,?_⟩
 ·rintro i d ys hd rfl;rw[List.getElem?_map]at hd;cases c:xs[i]? with
  |none=>rw[c]at hd;cases hd
  |some x =>
   rw[c]at hd;have hd:=Option.some.inj hd;subst hd;exact step x (List.mem_of_getElem? c) (λd'=>(xs.take i).map f++[d']=(xs.take (i+1)).map f) _ (N5 f c).symm
 ·rintro ys rfl;rw[List.length_map,List.take_length];exact q
def oh{α:Type}(xs:List α)(e:α->D)(p:α->Bool)(f:α->D)(a:Kd)(hd:ds=xs.map e)(hl:⇑xs<=1000)(step:∀x∈xs,∀(A:D->Prop)(B:Prop),(p x=true->A (f x))->(p x=false->B)->g (norm (elC k) (e x)) (e x) (List.replicate n .any++ρ) λρ'=>tt ρ' λb=>if b=true then te ρ' λk' d'=>(norm k' d').le a=true/\A d' else B)(q:R a ((xs.filter p).map f)) :
  ⇑ds<=1000/\∃(a:Kd)(c:Nat->eI->Prop),c 0 [] /\
   (∀i d ys,ds[i]?=some d->c i ys->g (norm (elC k) d) d (List.replicate n .any++ρ) λρ'=>tt ρ' λb=>if b=true then te ρ' λk' d'=>(norm k' d').le a=true/\c (i+1) (ys++[d'])else c (i+1) ys) /\
   ∀ys,c ⇑ds ys->R a ys:=by
 subst hd;refine⟨by rw[List.length_map];exact hl,a,λi ys=>ys=((xs.take i).filter p).map f,rfl,?_,?_⟩
 ·rintro i d ys hd rfl;rw[List.getElem?_map]at hd;cases j:xs[i]? with
  |none=>rw[j]at hd;cases hd
  |some x =>
   rw[j]at hd;have hd:=Option.some.inj hd;subst hd;have sn:((xs.take (i+1)).filter p).map f=((xs.take i).filter p).map f++if p x=true then [f x]else []:=by
    rw[List.take_add_one,j,List.filter_append,List.map_append];cases hp:p x <;> simp[hp]
   refine step x (List.mem_of_getElem? j) (λd'=>((xs.take i).filter p).map f++[d']=((xs.take (i+1)).filter p).map f) _ (λh=>?_) (λh=>?_)
   ·rw[sn,ed h]
   ·show _=_;rw[sn,h,ee Bool.false_ne_true,List.append_nil]
 ·rintro ys rfl;rw[List.length_map,List.take_length];exact q
section
variable{g:DG}{tb:DS}{k:Kd}{ds:eI}{ρ:List Sl}{P:DEnds}
end
variable [Gr]
section
variable{scope:Zs}{tg iter elt:Zt}{ifs:List Zt}{pos:Pos}{ti:DI}{g:DG}{tt:DT}{te:DE}
def Rb(own:List Str){i:Nat}{y:Str}{e a:Pos}(hc:X.calm=true)(hN:X.N.Nodup)(b:X.N[i]?=some y)(h:Loc X.env.scope y)(hi:PDI X tg iter ti)(hg:∀c,PDG (X.comp own scope c) tg g)(ht:∀c,Ce (X.comp own scope c) ifs tt)(he:∀c,PD (X.comp own scope c) elt te)(d:ZQ (.ListComp elt [⟨tg,iter,ifs,0⟩] scope pos) (some (.Name y e)) a.line X.env=pure true:=by rfl)(hk:gY X.env scope X.N=true:=by rfl)(hs:zF X iter:=by intro _;rfl)(f:zL X y:=by first|exact .inl rfl|exact .inr rfl|assumption) :
  PS X (.Assign [.Name y e] (.ListComp elt [⟨tg,iter,ifs,0⟩] scope pos) a) (vg (bI (dLC ⇑own ti g tt te)) (iW i)):=PS.wk' (PB own hc hN b h hi hg ht he d hk hs f) λD σ H q=>qM σ H _ q
def M8(own M:List Str){i:Nat}{y:Str}{e a:Pos}(hc:X.calm=true)(hN:X.N.Nodup)(b:X.N[i]?=some y)(h:Loc X.env.scope y)(hi:PDI X tg iter ti)(hg:∀c,PDG (X.bB own M scope c) tg g)(ht:∀c,Ce (X.bB own M scope c) ifs tt)(he:∀c,PD (X.bB own M scope c) elt te)(d:ZQ (.ListComp elt [⟨tg,iter,ifs,0⟩] scope pos) (some (.Name y e)) a.line X.env=pure true:=by rfl)(hk:bH X.env scope X.N M=true:=by rfl)(hs:zF X iter:=by intro _;rfl)(f:zL X y:=by first|exact .inl rfl|exact .inr rfl|assumption) :
  PS X (.Assign [.Name y e] (.ListComp elt [⟨tg,iter,ifs,0⟩] scope pos) a) (vg (bI (dLC ⇑own ti g tt te)) (iW i)):=PS.wk' (Je own M hc hN b h hi hg ht he d hk hs f) λD σ H q=>qM σ H _ q
end
end
variable [Gr]
section
variable{pos:Pos}{st:ZF}{rest:List ZF}{te tj:DE}{ti:DI}{t:DS}
def Tv(i:Nat)(t:DS):DS:=λP ρ=>match ρ[i]? with
 |some (.dw r d)=>qb r ρ i=true/\t P (ρ.set i (.sn d))
 |some (.rw r L)=>qb r ρ i=true/\t P (ρ.set i (.sn (.list (L.map PyData.list))))
 |some (.sp r b ds)=>qb r ρ i=true/\t P (ρ.set i (if b=true then .sn (.list ds)else .sh (.list ds)))
 |_=>False
def EnvD.freeze{p:Pn}{H0 H:Hp}{own:Addr->Option Nat}{σ:L2.St}{ρ:List Sl}{i r:Nat}{d:D}{v:V}(E:EnvD p H0 own σ H ρ)(f:qb r ρ i=true)(hv:σ[i]?=some (some v))(x:Rp (λa=>own a=some r) H v d) :
  EnvD p H0 (aZ r own) σ H (ρ.set i (.sn d)):=by
 have c:EnvD p H0 (aZ r own) σ H (ρ.set i .any):=(E.drop (i:=i)).clear f;have b:=c.put (v:=v) (i:=i) (s:=.sn d) ⟨v,hv,x.mono (λa o=>⟨(E.ow a r o).1,(E.ow a r o).2.1,by unfold aZ;rw[ed o]⟩) (λ_ _ _ e=>e) λ_ _ e=>e⟩;rw[List.set_set]at b;exact b
def BJ(i:Nat)(h:mV X rest t):mV X rest (Tv i t):=PSs.wk' h (by
 rintro Q σ H ⟨p,H0,own,ρ,P,E,q,w⟩;unfold Tv at q;split at q
 ·rename_i r d e;let⟨v,hv,x⟩:=E.slot i _ e;exact⟨p,H0,_,_,P,E.freeze q.1 hv x,q.2,w.go gH⟩
 ·rename_i r L e;let⟨st,k,hv,x⟩:=E.slot i _ e;exact⟨p,H0,_,_,P,E.freeze q.1 hv x.rp,q.2,w.go gH⟩
 ·rename_i r b ds e;let⟨l,vs,hv,o,h,z⟩:=E.slot i _ e;have j:EnvD p H0 (aZ r own) σ H (ρ.set i .any):=(E.drop (i:=i)).clear q.1;have g:∀a,own a=none->aZ r own a=none:=λa n=>by unfold aZ;rw[n];simp
  have cl:aZ r own l=none:=by unfold aZ;rw[ed o]
  have f:EnvD p H0 (aZ r own) σ H ((ρ.set i .any).set i (if b=true then .sn (.list ds)else .sh (.list ds))):=j.put (v:=.ref l) (by
   cases b with
   |true=>exact⟨_,hv,.lst ⟨(E.ow l r o).1,(E.ow l r o).2.1,cl⟩ h (z.mono (λc n=>⟨n.1 rfl,n.2.1,g c n.2.2⟩) (λ_ _ _ e=>e) λ_ _ e=>e)⟩
   |false=>exact⟨_,hv,.lst ⟨(E.ow l r o).2.1,cl⟩ h (z.mono (λc n=>⟨n.2.1,g c n.2.2⟩) (λ_ _ _ e=>e) λ_ _ e=>e)⟩)
  rw[List.set_set]at f;exact⟨p,H0,_,_,P,f,q.2,w.go gH⟩
 ·exact q.elim)
def dSp(i:Nat)(b:Bool)(t:DS):DS:=λP ρ=>match ρ[i]? with
 |some (.dw r (.list ds))=>cG ds=true/\t P (ρ.set i (.sp r b ds))
 |_=>False
def K8(i:Nat)(b:Bool)(h:mV X rest t):mV X rest (dSp i b t):=PSs.wk' h (by
 rintro Q σ H ⟨p,H0,own,ρ,P,E,q,w⟩;unfold dSp at q;split at q
 ·rename_i r ds e;let⟨v,hv,x⟩:=E.slot i _ e;let⟨l,vs,rfl,o,h,z⟩:=x.cV;exact⟨p,H0,own,_,P,E.put (v:=.ref l) (i:=i) (s:=.sp r b ds) ⟨l,vs,hv,o,h,(z.imm q.1).mono (λ_ o=>o.elim) (λ_ _ o=>o.elim) λ_ _ e=>e⟩,q.2,w⟩
 ·exact q.elim)
def spK(b:Bool):Kd:=if b=true then .snw else .shr
def RT{p:Pn}{H0 f H:Hp}{own:Addr->Option Nat}{b:Bool}(A:At p H0 own f H){k:Kd}(hk:k.le (spK b)=true){v:V}{d:D}{c:Hp}(r:Rp (okK p H0 own f k) c v d):Rp (okS p H0 own b) c v d:=by
 have g:=eN A hk r;cases b with
 |true=>exact g.mono (λa o=>⟨λ_=>o.1,o.2.1,o.2.2⟩) (λ_ _ _ e=>e) λ_ _ e=>e
 |false=>exact g.mono (λa o=>⟨λz=>(nomatch z),o.1,o.2⟩) (λ_ _ _ e=>e) λ_ _ e=>e
def EnvD.MN{p:Pn}{H0 H:Hp}{own:Addr->Option Nat}{σ:L2.St}{ρ:List Sl}{i r:Nat}{b:Bool}{l:Addr}{vs vs':List V}{ds':eI}(E:EnvD p H0 own σ H ρ)(hv:σ[i]?=some (some (.ref l)))(o:own l=some r)(h:H l=some (.lst vs))(z:Rps (okS p H0 own b) H vs' ds') :
  EnvD p H0 own σ (upd H l (.lst vs')) ((forget r ρ).set i (.sp r b ds'))/\FrS p own H own (upd H l (.lst vs')):=by
 refine⟨(E.write (o':=.lst vs') o h λxs z=>nomatch z).put (v:=.ref l) ⟨l,vs',hv,o,aB,z.mono (λ_ o=>o) (λc u n e=>?_) λa xs e=>?_⟩,d8 o h λxs z=>nomatch z⟩
 ·rw[ao];exact e;intro y;subst y;rw[n.2.2]at o;cases o
 ·rw[ao];exact e;intro y;subst y;rw[h]at e;cases e
def Lk(i:Nat)(te:DE):DS:=λP ρ=>match ρ[i]? with
 |some (.sp r b ds)=>te ρ λk d=>(norm k d).le (spK b)=true/\⇑ds<1000/\P.nx ((forget r ρ).set i (.sp r b (ds++[d])))
 |_=>False
def wg{i:Nat}(h:PS X st (pX (tBM X.K "list" kW (jw i) (ju (fU te lR))))):PDS X st (Lk i te):=PS.wk' h (by
 rintro Q σ H ⟨p,H0,own,ρ,P,E,t,w⟩;unfold Lk at t;split at t
 ·rename_i r b ds hr;let⟨l,vs,hv,o,j,m⟩:=E.slot i _ hr;refine⟨.ref l,hv,.inl ⟨rfl,vs,SqL.of j⟩,p,H0,own,ρ,_,E,qL t,?_⟩;rintro ks D f ⟨k,d,rfl,hk,g,hn⟩ A B;let⟨y,rfl,C⟩:=iB B;have q:=E.go A.kp A.pen;have h1:f l=some (.lst vs):=A.kp l _ j (E.ow l r o).2.1;have a:Rps (okS p H0 own b) f vs ds:=m.mono (λ_ o=>o) (λc u n e=>A.kp c u e n.2.1) A.tups;have x:=Z9;have z:=⇑m;refine⟨l,vs,y,rfl,rfl,h1,(),?_⟩;let⟨s,v⟩:=q.MN (b:=b) hv o h1 (a.snoc (RT A hk (aR C)));exact w.nx _ σ _ _ s (A.frs.trans v) hn
 ·exact t.elim)
def Xg(i:Nat)(tj te:DE):DS:=λP ρ=>match ρ[i]? with
 |some (.sp r b ds)=>tj ρ λ_ dj=>te ρ λk d=>match dj with
  |.int j=>(norm k d).le (spK b)=true/\0<=j/\j.toNat<=⇑ds/\⇑ds<1000/\P.nx ((forget r ρ).set i (.sp r b (ds.take j.toNat++d::ds.drop j.toNat)))
  |_=>False
 |_=>False
theorem xg:∀{c d:List Addr},c.map V.ref=d.map V.ref->c=d
 |[],[],_=>rfl
 |a::c,b::d,e=>by
  rw[List.map_cons,List.map_cons]at e;injection e with e1 e2
  rw[V.ref.inj e1,xg e2]
 |[],_::_,e=>by cases e
 |_::_,[],e=>by cases e
def tu(js:eA)(t:DS):DS:=λP ρ=>t P (js.foldl (λρ j=>ρ.set j .any) ρ)
theorem EnvD.drops{p:Pn}{H0 H:Hp}{own:Addr->Option Nat}{σ:L2.St}:∀(js:eA) {ρ:List Sl},EnvD p H0 own σ H ρ->EnvD p H0 own σ H (js.foldl (λρ j=>ρ.set j .any) ρ)
 |[],_,E=>E
 |_::js,_,E=>EnvD.drops js E.drop
def aJ(js:eA)(h:mV X rest t):mV X rest (tu js t):=PSs.wk' h (by
 rintro Q σ H ⟨p,H0,own,ρ,P,E,q,w⟩;exact⟨p,H0,own,_,P,E.drops js,q,w⟩)
def wz(i:Nat)(tj te:DE):DS:=λP ρ=>match ρ[i]? with
 |some (.rw r L)=>tj ρ λ_ dj=>match dj with
  |.int j=>∃n l,ixN ⇑L j=some n/\L[n]?=some l/\te ρ λ_ d=>fj d=true/\⇑l<1000/\P.nx ((forget r ρ).set i (.rw r (L.set n (l++[d]))))
  |_=>False
 |_=>False
def lG{i:Nat}(h:PS X st (pX (tBM X.K "list" kW (tOp (Q0 X.K) (jw i) (bI tj)) (ju (fU te lR))))):PDS X st (wz i tj te):=PS.wk' h (by
 rintro Q σ H ⟨p,H0,own,ρ,P,E,q,w⟩;unfold wz at q;split at q
 ·rename_i r L hr;let⟨st,as,hv,R0⟩:=E.slot i _ hr;refine⟨.ref st,hv,p,H0,own,ρ,_,E,q,λkj dj vj H1 M A1 rj=>?_⟩;cases dj with
  |int j =>
   have J:=E.go A1.kp A1.pen;let⟨W,c,x,C⟩:=J.slot i _ hr;rw[hv]at x;cases x;have ej:=Rp.int' rj;subst ej;let⟨n,l,hn,hl,M⟩:=M;have u:=(List.getElem?_eq_some_iff.mp hl).1;rw[List.getElem?_eq_getElem u]at hl;cases hl;have g:n<⇑c:=by rw[C.len];exact u
   have R:atI (c.map V.ref) j=some (.ref c[n]):=by
    unfold L2.atI;rw[List.length_map,C.len,hn];show(c.map V.ref)[n]?=_;rw[List.getElem?_map,List.getElem?_eq_getElem g];rfl
   let⟨vs,T,rv⟩:=C.row n c[n] L[n] (List.getElem?_eq_getElem g) (List.getElem?_eq_getElem u);refine⟨st,_,j,.ref c[n],rfl,rfl,SqL.of C.top,R,.inl ⟨rfl,vs,SqL.of T⟩,p,H0,own,ρ,_,J,qL M,?_⟩;rintro ks ws N ⟨k,d,rfl,im,len,nx⟩ I rk;let⟨y,rfl,U⟩:=iB rk;have U:Rp (λ_=>False) N y d:=Rp.imm U im;have E2:=J.go I.kp I.pen;let⟨W,b,x,R2⟩:=E2.slot i _ hr;rw[hv]at x;cases x
   -- the rows are those of before
   have O:b=c:=by
    have A:=I.kp st _ C.top (J.ow st r (C.ow st List.mem_cons_self)).2.1;rw[R2.top]at A;have D:=(HO.lst.inj (Option.some.inj A))
    exact xg D
   subst O;let⟨B,f,G⟩:=R2.row n b[n] L[n] (List.getElem?_eq_getElem g) (List.getElem?_eq_getElem u);have oa:=R2.ow b[n] (List.mem_cons_of_mem _ (List.getElem_mem g));have h24:=Z9;have ln:=⇑G;refine⟨b[n],B,y,rfl,rfl,f,(),?_⟩;have Y:∀a xs,N a=some (.tup xs)->upd N b[n] (.lst (B++[y])) a=some (.tup xs):=λa xs e=>by
    rw[ao];exact e;intro z;subst z;rw[f]at e;cases e
   have E3:=E2.write (o':=.lst (B++[y])) oa f (λxs z=>nomatch z);have F:=List.nodup_cons.mp R2.nd;have E4:=E3.put (v:=.ref st) (i:=i) (s:=.rw r (L.set n (L[n]++[d]))) ⟨st,b,hv,⟨?_,R2.nd,R2.ow,by rw[List.length_set];exact R2.len,λm a ds A D=>?_⟩⟩
   ·exact w.nx _ σ _ _ E4 ((A1.frs.trans I.frs).trans (d8 oa f λxs z=>nomatch z)) nx
   ·rw[ao];exact R2.top;intro z;exact F.1 (by rw[z];exact List.getElem_mem g)
   ·by_cases S:m=n
    ·subst S;rw[List.getElem?_set_self u]at D;rw[List.getElem?_eq_getElem g]at A;cases A;cases D;exact⟨_,aB,(G.mono (λ_ o=>o) (λ_ _ o=>o.elim) Y).snoc (U.mono (λ_ o=>o) (λ_ _ o=>o.elim) Y)⟩
    ·rw[List.getElem?_set_ne (Ne.symm S)]at D;let⟨Z,h3,r3⟩:=R2.row m a ds A D;refine⟨Z,?_,r3.mono (λ_ o=>o) (λ_ _ o=>o.elim) Y⟩;rw[ao];exact h3;intro z;have hm:=(List.getElem?_eq_some_iff.mp A).1;have hz:b[m]=b[n]:=by rw[(List.getElem?_eq_some_iff.mp A).2];exact z
     exact S ((List.getElem_inj F.2).mp hz)
  |_=>exact M.elim
 ·exact q.elim)
def Lh(i r:Nat)(ti:DI):DS:=λP ρ=>ti ρ λk ds=>⇑ds<=1000/\qb r ρ i=true/\P.nx (ρ.set i (.rw r (List.replicate ⇑ds [])))
def sU{i n j:Nat}(r:Nat)(h:PS X st (vg (tLC n (J7 ti) (λ_=>Ka (gNm j)) (λ_=>liftT λ_ P=>P true) (λ_=>Uq Mj)) (iW i))):PDS X st (Lh i r ti):=PS.wk' h (by
 rintro Q σ H ⟨p,H0,own,ρ,P,E,q,w⟩;refine⟨p,H0,own,ρ,_,E,q,λk ds J H1 Ok h A W o1=>?_⟩;let⟨hlen,hf,nx⟩:=h;have okS:∀H',Kp p H1 H'->p.PI H'->Ok H':=λH' K i=>W.stab H1 H' o1 (λb o n e=>K b o e (jh A n.1)) (jk A K);refine⟨λi m ys H'=>m=⇑ds - i/\i<=⇑ds/\Kp p H1 H'/\p.PI H'/\∃d:List Addr,ys=d.map V.ref/\d.Nodup/\⇑d=i/\∀a∈d,H a=none/\H' a=some (.lst []),⟨_,rfl,Nat.zero_le _,Kp.refl,A.pen,[],rfl,.nil,rfl,λa ha=>nomatch ha⟩,?_⟩;rintro c u m ys H' ⟨rfl,hi,M,L,d,rfl,nd,la,hn⟩;have S:=okS H' M L;have U:=A.go M L;have h24:=Z9;by_cases f:u<⇑ds
 ·refine .inr ⟨W.go u H' S f,by rw[List.length_map];lia,λys' H2=>Kp p H1 H2/\p.PI H2/\∃d:List Addr,ys'=d.map V.ref/\d.Nodup/\⇑d=u+1/\∀a∈d,H a=none/\H2 a=some (.lst []),λys' H2 h=>⟨_,(),rfl,f,h⟩,λx H2 y=>?_⟩;let⟨F,T⟩:=W.yld u H' x H2 S y;have T:=T ds[u] (List.getElem?_eq_getElem f);have I2:p.PI H2:=p.mono H' H2 L λb o _ e=>F b o e;have K2:Kp p H1 H2:=M.trans (Kp.of F);have G:=A.go K2 I2;have C:EnvD p H0 own σ H2 ρ:=E.go G.kp G.pen;refine⟨p,H0,own,_,_,_,λ_=>True,C.comp n,jz (Qd A T),trivial,λσ3 ρ3 I t3=>?_⟩;refine⟨p,H0,own,ρ3,λb=>b=true,I,rfl,λb H4 h4 A4=>?_⟩;subst h4;refine bF ⟨(by show 0<=sizeLine;lia),λl hl=>?_⟩;have A5:At p H0 own H H4:=G.fw A4;let⟨D,O,R⟩:=A5.new hl (.lst []);refine⟨(K2.trans A4.kp).trans D,O,d++[l],by rw[List.map_append];rfl,?_,by rw[List.length_append,la];rfl,λa ha=>?_⟩
  ·refine List.nodup_append.mpr ⟨nd,by simp,λa ha b hb=>?_⟩;rw[List.mem_singleton.mp hb];intro z;subst z;have e:=A4.kp a _ (F a _ (hn a ha).2) (A.nfb (hn a ha).1);rw[hl]at e;cases e
  ·rcases List.mem_append.mp ha with z|z
   ·refine⟨(hn a z).1,?_⟩;have e:=A4.kp a _ (F a _ (hn a z).2) (A.nfb (hn a z).1);exact D a _ e (A.nfb (hn a z).1)
   ·rw[List.mem_singleton.mp z];exact⟨R,aB⟩
 ·have e:u=⇑ds:=()
  subst e;refine .inl ⟨W.stop H' S,λl hl=>?_⟩;let⟨D,O,R⟩:=U.new hl (.lst (d.map V.ref));have B:=U.go D O;show Q.nx (σ.set i (some (.ref l))) (upd H' l (.lst (d.map V.ref)));have C:EnvD p H0 (aZ r own) σ H (ρ.set i .any):=(E.drop (i:=i)).clear hf;have Y:At p H0 (aZ r own) H (upd H' l (.lst (d.map V.ref))):=⟨B.k0,B.kp,B.penb,B.pen,C.ow⟩
  have I:=C.adopt r Y;have g:l∉d:=λz=>by rw[(hn l z).2]at hl;cases hl
  have Z:=I.set (i:=i) (v:=.ref l) (s:=.rw r (List.replicate ⇑ds [])) λhli=>⟨l,d,List.getElem?_set_self hli,⟨aB,List.nodup_cons.mpr ⟨g,nd⟩,λa ha=>?_,by rw[la,List.length_replicate],λm a es e1 e2=>?_⟩⟩
  ·rw[List.set_set]at Z;exact w.nx _ _ _ _ Z (gH.trans (fC Y)) nx
  ·rcases List.mem_cons.mp ha with rfl|ha
   ·exact jd R aB
   ·exact jd (hn a ha).1 (by rw[ao (λz:a=l=>g (by rw[←z];exact ha))];exact(hn a ha).2)
  ·have ha:=List.mem_of_getElem? e1;have N:es=[]:=by
    have:=List.mem_of_getElem? e2;exact(List.mem_replicate.mp this).2
   subst N;exact⟨[],by rw[ao (λz:a=l=>g (by rw[←z];exact ha))];exact(hn a ha).2,.nil⟩)
def qI:PD X (.Dict [] [] pos) (λ_ P=>P .new (.dict [])):=PE.wk Ju (by
 rintro σ H Q ⟨p,H0,own,ρ,P,E,t,q⟩;have A:=E.at;exact λd hd=>let⟨k2,i2,nw⟩:=A.new hd (.dK []);q _ _ _ _ t (A.go k2 i2) (.dct nw aB .nil))
end
@[reducible] def grL(K:W.Frag)(a:Addr)(ns:ew):Gr:=⟨λp H0=>SqL K H0 a (ns.map V.int)/\∀b,p.fp b->H0 b=none⟩
section
variable{k1 k2 j:Nat}{x y z:Str}{ps1 ps2:List Str}{e:Zt}{es1 es2:List Zt}{p1 p2 p3 pos pos1:Pos}{K:W.Frag}{sc:Addr}{ns:ew}{C:Pn->Prop}{pre:eI->Prop}{g:eo}{i:Nat}
end
variable [Gr]
section
variable{pos pos':Pos}{a b:Zt}{t:DA}
def MF{ok:Addr->Prop}{H:Hp}(lo hi:Int):Rps ok H (wZ lo hi) (aY lo (hi - lo).toNat):=by
 unfold wZ aY;exact Rps.ofMap (λx=>.int _) _
def Oo{p:Pn}{H0 H c:Hp}{own:Addr->Option Nat}{P:DK}{Q:VK}{lo hi:Int}(A:At p H0 own H c)(h:P .new (.list (aY lo (hi - lo).toNat)))(b:-1000<=lo/\lo<=1000/\-1000<=hi/\hi<=1000)(q:∀k d v H',P k d->At p H0 own H H'->Rp (okK p H0 own H k) H' v d->Q v H')(r:Addr)(hr:c r=none) :
  ∃p' lo' hi',[V.ref r]=[.ref p']/\upd c r (.rng lo hi) p'=some (.rng lo' hi')/\(-1000<=lo'/\lo'<=1000/\-1000<=hi'/\hi'<=1000)/\∀l,upd c r (.rng lo hi) l=none->Q (.ref l) (upd (upd c r (.rng lo hi)) l (.lst (wZ lo' hi'))):=by
 refine⟨r,lo,hi,rfl,aB,b,λl hl=>?_⟩;let⟨i,f,_⟩:=A.new hr (.rng lo hi);have e:=A.go i f;let⟨j,g,m⟩:=e.new hl (.lst (wZ lo hi));exact q _ _ _ _ h (e.go j g) (.lst m aB (MF lo hi))
def Ur(t:DA):DE:=λρ P=>t ρ λks=>match ks with
 |[(_,.int j)]=>(-1000<=j/\j<=1000)/\P .new (.list (aY 0 (j - 0).toNat))
 |_=>False
def mH{ps c:Pos}(hc:X.calm=true)(hml:X.mg "list"=none)(hmr:X.mg "range"=none)(ha:PDA X [a] t)(hgl:Gl X "list":=by rfl)(hgr:Gl X "range":=by rfl)(he:zS X a []:=by rfl)(hpl:(Zw pos' (Zu [] X.env)).any (·.1)=false:=by rfl)(he2:Zu [.Call (.Name "range" c) [a] [] pos'] X.env=(false,Zv (.Call (.Name "range" c) [a] [] pos') X.env)::Zu [] X.env:=by rfl)(hpl2:zP X pos []:=by rfl) :
  PD X (.Call (.Name "list" ps) [.Call (.Name "range" c) [a] [] pos'] [] pos) (Ur t):=PE.wk (pC (uy hc) hgl hml X9 (cD (pC GX hgr hmr boot_range ha ∅ ∅ he hpl) dZ he2) ∅ ∅ he2 hpl2) (by
 rintro σ H Q ⟨p,H0,own,ρ,P,E,t,q⟩;refine⟨p,H0,own,ρ,_,E,t,λks vs H1 h A rk=>?_⟩;split at h
 ·rename_i k j;let⟨v,rfl,d⟩:=iB rk;have e:=Rp.int' d;subst e;exact⟨j,rfl,Oo A h.2 ⟨(),(),h.1.1,h.1.2⟩ q⟩
 ·exact h.elim)
end
variable [Gr]
mutual
inductive Tm where
 |int (i:Int)
 |neg (i:Int)
 |bl (b:Bool)
 |non
 |str (s:Str)
 |var (i:Nat)
 |lst (ts:Tms)
 |tup (ts:Tms)
 |dct
inductive Tms where
 |nil
 |cons (t:Tm) (ts:Tms)
end
def Wj(a:Zs)(x:Str):Bool:=a.names.lookup x==some .local || a.names.lookup x==some .cell || a.names.lookup x==some .free
def cI(i:Int):Wp->Bool
 |.int j=>i==j
 |_=>false
def cB(b:Bool):Wp->Bool
 |.bool c=>b==c
 |_=>false
def cS(s:Str):Wp->Bool
 |.str u=>s==u
 |_=>false
def cN:Wp->Bool
 |.none=>true
 |_=>false
def W4:UnaryOp->Bool
 |.USub=>true
 |_=>false
def isC(f:Wp->Bool):Zt->Bool
 |.Constant c _ _=>f c
 |_=>false
def isN(i:Int):Zt->Bool
 |.UnaryOp o e _=>W4 o&&isC (cI i) e
 |_=>false
def isV(N:List Str)(a:Zs)(i:Nat):Zt->Bool
 |.Name x _=>N[i]?==some x&&(Wj a x&&(!(x==("__debug__":Str))&&!(x==("__classdict__":Str))))
 |_=>false
def isD:Zt->Bool
 |.Dict ks vs _=>ks.isEmpty&&vs.isEmpty
 |_=>false
mutual
def okT(N:List Str)(a:Zs):Tm->Zt->Bool
 |.int i=>isC (cI i)
 |.neg i=>isN i
 |.bl b=>isC (cB b)
 |.non=>isC cN
 |.str s=>isC (cS s)
 |.var i=>isV N a i
 |.lst c=>λe=>match e with
  |.List es _=>RQ N a c es
  |_=>false
 |.tup c=>λe=>match e with
  |.Tuple es _ _=>RQ N a c es
  |_=>false
 |.dct=>isD
def RQ(N:List Str)(a:Zs):Tms->List Zt->Bool
 |.nil=>λes=>es.isEmpty
 |.cons t b=>λes=>match es with
  |[]=>false
  |e::es=>okT N a t e&&RQ N a b es
end
mutual
def evT(ρ:List Sl):Tm->Option (Kd×D)
 |.int i=>some (.imm,.int i)
 |.neg i=>some (.imm,.int (-i))
 |.bl b=>some (.imm,.bool b)
 |.non=>some (.imm,.none)
 |.str s=>some (.imm,.str s)
 |.var i=>match ρ[i]? with
  |some (.im d)=>some (.imm,d)
  |some (.sh d)=>some (.shr,d)
  |some (.sn d)=>some (.snw,d)
  |some (.dw r d)=>some (.reg r,d)
  |_=>none
 |.lst a=>match Td ρ a with
  |some ks=>some ((joins ks).join .new,.list (ks.map (·.2)))
  |none=>none
 |.tup a=>match Td ρ a with
  |some ks=>some (norm (joins ks) (.tuple (ks.map (·.2))),.tuple (ks.map (·.2)))
  |none=>none
 |.dct=>some (.new,.dict [])
def Td(ρ:List Sl):Tms->Option (List (Kd×D))
 |.nil=>some []
 |.cons t a=>match evT ρ t,Td ρ a with
  |some k,some ks=>some (k::ks)
  |_,_=>none
end
mutual
def smT:Tm->Bool
 |.lst a=>QL 1000 a
 |.tup a=>QL 1000 a
 |_=>true
def QL:Nat->Tms->Bool
 |_,.nil=>true
 |n+1,.cons t ts=>smT t&&QL n ts
 |0,.cons _ _=>false
end
section
variable{e:Zt}{es:List Zt}
section
variable{N:List Str}{sc:Zs}
end
end
end Dl
namespace L2
open PySem.Spec HT
section
variable{X:Cx}{e:Zt}{te:TE}{p1 p2 p3 pos:Pos}
end
end L2
namespace Dl
open L2
variable{X:Cx}
variable [Gr]
section
variable{pos p1 p2 p3:Pos}{a b e:Zt}{es:List Zt}{ta tb te:DE}{t:DA}
def QC(te:DE)(f c:DO):DE:=λρ P=>te ρ λk d=>f ρ λlo=>c ρ λhi=>match d with
 |.list ds=>newP k (jc ds lo hi) λk'=>P k' (.list (jc ds lo hi))
 |.tuple ds=>¬(HT.sIx ⇑ds 0 lo=0/\HT.sIx ⇑ds ⇑ds hi=⇑ds)/\P (norm k (.tuple (jc ds lo hi))) (.tuple (jc ds lo hi))
 |_=>False
theorem iR{lo hi:Option Zt}{y w:DO}(he:PD X e te)(hl:PO X lo (yq y))(hh:PO X hi (yq w)):PD X (.Subscript e (.Slice lo hi none p2) pos) (QC te y w):=PE.wk (Jq (SlR.or Mr QM) he hl hh) (by
 rintro σ H Q ⟨p,H0,own,ρ,P,E,t,q⟩;refine⟨p,H0,own,ρ,_,E,t,λk d v H1 h A r=>?_⟩;refine⟨p,H0,own,ρ,_,E.go A.kp A.pen,h,λo1 H2 h2 A2=>?_⟩;refine⟨p,H0,own,ρ,_,(E.go A.kp A.pen).go A2.kp A2.pen,h2,λo2 H3 h3 A3=>?_⟩;have c:=(A.fw A2).fw A3;have u:=nq (A.fw A2) A3.kp (nq A A2.kp r);cases d with
 |list ds =>
  let⟨x,xs,i,o,h1,g⟩:=Rp.cV u;subst i;refine .inl ⟨x,xs,rfl,SqL.of h1,λl hl=>?_⟩;let⟨f,m,s⟩:=c.new hl (.lst (uw xs o1 o2));let⟨z,j,n⟩:=nR c (cU c f (g.cut o1 o2)) s aB h3;exact q _ _ _ _ j (c.go f m) n
 |tuple ds =>
  let⟨x,xs,i,h1,g⟩:=Rp.dX u;subst i;refine .inr ⟨x,xs,rfl,SqT.of h1,by rw[⇑g];exact h3.1,λl hl=>?_⟩;let⟨f,m,s⟩:=c.new hl (.tup (uw xs o1 o2));exact q _ _ _ _ h3.2 (c.go f m) (aR (.tup aB (cU c f (g.cut o1 o2))))
 |_=>exact h3.elim)
end
variable [Gr]
abbrev IM:=List (Int×D)
def kvD(m:IM):List (D×D):=m.map λp=>(PyData.int p.1,p.2)
def fX(m:IM)(k:Int):Bool:=m.any λp=>decide (p.1=k)
def lM(m:IM)(k:Int):Option D:=(m.find? λp=>decide (p.1=k)).map (·.2)
def iC(m:IM)(k:Int)(d:D):IM:=if fX m k=true then m.map (λp=>if p.1=k then(p.1,d)else p)else m++[(k,d)]
def pQ(m:IM):Bool:=m.all λp=>fj p.2
def Kg{k:Key}{i:Int}(h:kD k=.int i):k=.inl i:=by
 cases k with
 |inl j=>cases h;rfl
 |inr x=>cases h
theorem Rkv.kv:∀{ok:Addr->Prop}{H:Hp}{a:List (Key×V)}{m:IM},Rkv ok H a (kvD m)->∃vs:List V,a=(m.map (·.1)).zipWith (λi v=>(Sum.inl i,v)) vs/\Rps ok H vs (m.map (·.2))
 |_,_,_,[],h=>by cases h;exact⟨[],rfl,.nil⟩
 |_,_,_,p::m,h=>by
  unfold kvD at h;rw[List.map_cons]at h;generalize hk:PyData.int p.1=kk at h;cases h with
  |cons h t =>
   rename_i k v b;let⟨vs,rfl,r⟩:=Rkv.kv (m:=m) t;have e:=Kg hk.symm;subst e;exact⟨v::vs,rfl,.cons h r⟩
theorem vW:∀{m:IM}{vs:List V} (k:Int),⇑vs=⇑m->(((m.map (·.1)).zipWith (λi v=>((Sum.inl i:Key),v)) vs).any λkv=>decide (kv.1=Sum.inl k))=fX m k
 |[],[],_,_=>rfl
 |p::m,v::vs,k,h=>by
  have a:=vW (m:=m) (vs:=vs) k ↑h;have e:decide ((Sum.inl p.1:Key)=Sum.inl k)=decide (p.1=k):=by
   by_cases c:p.1=k <;> simp[c]
  show(decide ((Sum.inl p.1:Key)=Sum.inl k) || _)=(decide (p.1=k) || _)
  rw[e];exact eh _ a
 |[],_::_,_,h=>by cases h
 |_::_,[],_,h=>by cases h
def Ht{a:List (Key×V)}{k:Key}:(gK a k).isSome=a.any λkv=>decide (kv.1=k):=by
 induction a with
 |nil=>rfl
 |cons p r ih =>
  unfold gK at ih ⊢;rw[List.find?_cons,List.any_cons];cases h:decide (p.1=k)with
  |true=>rfl
  |false=>exact ih
theorem Dt:∀{ok:Addr->Prop}{H:Hp}{m:IM}{vs:List V}{k:Int}{d:D},Rps ok H vs (m.map (·.2))->lM m k=some d->∃v,gK ((m.map (·.1)).zipWith (λi v=>((Sum.inl i:Key),v)) vs) (Sum.inl k)=some v/\Rp ok H v d
 |_,_,[],_,_,_,_,h=>by cases h
 |_,_,p::m,_,k,d,.cons r t,h=>by
  unfold lM at h;rw[List.find?_cons]at h;by_cases c:p.1=k
  ·rw[fy c]at h;cases h;refine⟨_,?_,r⟩;show gK ((Sum.inl p.1,_)::_) (Sum.inl k)=_;rw[mX (by rw[c])]
  ·rw[d4 c]at h;let⟨v,e,a⟩:=Dt (m:=m) (k:=k) (d:=d) t h;refine⟨v,?_,a⟩;show gK ((Sum.inl p.1,_)::_) (Sum.inl k)=_;unfold gK at e ⊢;rw[List.find?_cons,d4 (λz=>c (Sum.inl.inj z))];exact e
def Oh:∀{m:IM}{vs:List V}{k:Int}{v:V}{ok:Addr->Prop}{H:Hp}{d:D},Rps ok H vs (m.map (·.2))->Rp ok H v d->Rkv ok H (putK ((m.map (·.1)).zipWith (λi v=>((Sum.inl i:Key),v)) vs) (Sum.inl k) v) (kvD (iC m k d)):=by
 intro m vs k v ok H d g o;have hl:⇑vs=⇑m:=by rw[⇑g,List.length_map]
 have j:∀{m:IM}{vs:List V},Rps ok H vs (m.map (·.2))->Rkv ok H ((m.map (·.1)).zipWith (λi v=>((Sum.inl i:Key),v)) vs) (kvD m):=by
  intro m;induction m with
  |nil=>intro vs r;cases r;exact .nil
  |cons p m e =>
   intro vs r;cases r with
   |cons h t=>exact .cons (k:=Sum.inl p.1) h (e t)
 unfold putK iC;rw[vW k hl];by_cases c:fX m k=true
 ·rw[ed c,ed c];clear c hl;induction m generalizing vs with
  |nil=>cases g;exact .nil
  |cons p m e =>
   cases g with
   |cons h t =>
    have:=e t;by_cases f:p.1=k
    ·have n:(Sum.inl p.1:Key)=Sum.inl k:=by rw[f]
     show Rkv ok H ((if(Sum.inl p.1:Key)=Sum.inl k then((Sum.inl p.1:Key),v)else(Sum.inl p.1,_))::_) (kvD ((if p.1=k then(p.1,d)else p)::_));rw[ed n,ed f];exact .cons (k:=Sum.inl p.1) o this
    ·have n:¬((Sum.inl p.1:Key)=Sum.inl k):=λz=>f (Sum.inl.inj z);show Rkv ok H ((if(Sum.inl p.1:Key)=Sum.inl k then((Sum.inl p.1:Key),v)else(Sum.inl p.1,_))::_) (kvD ((if p.1=k then(p.1,d)else p)::_));rw[ee n,ee f];exact .cons (k:=Sum.inl p.1) h this
 ·rw[ee c,ee c];have l:∀{a b:List (Key×V)}{x y:List (D×D)},Rkv ok H a x->Rkv ok H b y->Rkv ok H (a++b) (x++y):=by
   intro a b x y h1 h2;induction a generalizing x with
   |nil=>cases h1;exact h2
   |cons p a e=>cases h1 with|cons h t=>exact .cons h (e t)
  unfold kvD;rw[List.map_append];exact l (j g) (.cons (k:=Sum.inl k) o .nil)
section
variable{pos pos' p2:Pos}{a b e:Zt}{ta tb te tj tm:DE}{st st2:ZF}{rest:List ZF}{ti:DI}{g:DG}{t:DS}
def tD1(ta tb:DE):DE:=λρ P=>ta ρ λ_ d1=>tb ρ λk2 d2=>match d1 with
 |.int i=>(norm k2 d2).le .new=true/\P .new (.dict (kvD [(i,d2)]))
 |_=>False
theorem rB(ha:PD X a ta)(hb:PD X b tb):PD X (.Dict [some a] [b] pos) (tD1 ta tb):=PE.wk (Dd (nC ha hb CZ) rfl rfl (by intro z;cases z) (by show 1<=15;decide)) (by
 rintro σ H Q ⟨p,H0,own,ρ,P,E,t,q⟩;intro c hc;have d:=E.at;let⟨m,l,s⟩:=d.new hc (.dK []);have j:=d.nfb hc;refine⟨p,H0,own,ρ,_,E.go m l,t,λk1 d1 v1 H1 t1 A1 r1=>?_⟩;refine⟨p,H0,own,ρ,_,(E.go m l).go A1.kp A1.pen,t1,λk2 d2 v2 H2 t2 A2 r2=>?_⟩;have h1:H1 c=some (.dK []):=A1.kp c _ aB j;have h2:H2 c=some (.dK []):=A2.kp c _ h1 j;refine⟨h2,?_⟩;cases d1 with
 |int i =>
  have r:=Rp.int' r1;subst r;refine⟨[(Sum.inl i,v2)],rfl,(by show 1<=15;decide),?_⟩;show Q (.ref c) (upd H2 c (.dK [(Sum.inl i,v2)]));have K:Kp p H (upd H2 c (.dK [(Sum.inl i,v2)])):=λx o ex nx=>by
   rw[ao (aA ex hc)];exact A2.kp x o (A1.kp x o (by rw[ao (aA ex hc)];exact ex) nx) nx
  have f:p.PI (upd H2 c (.dK [(Sum.inl i,v2)])):=p.mono H2 _ A2.pen λx o fx ex=>by
   rw[ao (λz:x=c=>fx.elim (λfx=>j (by rw[←z];exact fx)) λ⟨_,_,y⟩=>by rw[z,h2,y]at ex;cases ex)];exact ex
  refine q _ _ _ _ t2.2 ⟨d.k0,K,d.penb,f,d.ow⟩ (.dct s aB (.cons (k:=Sum.inl i) ?_ .nil));have v:Rp (okK p H0 own H1 .new) H2 v2 d2:=eN A2 t2.1 (aR r2);refine v.bO (λx o n ex=>⟨?_,?_⟩) λx xs ex=>?_
  ·have n:H1 x=none:=n;cases h:H x with
   |none=>exact h
   |some u =>
    have:=A1.kp x u (by rw[ao (aA h hc)];exact h) (A2.nfb n);rw[n]at this;cases this
  ·have n:H1 x=none:=n;rw[ao (λz=>by rw[z,h1]at n;cases n)];exact ex
  ·rw[ao (λz=>by rw[z,h2]at ex;cases ex)];exact ex
 |_=>exact t2.elim)
def Om(neg:Bool):G2:=λ_ d1 _ d2 P=>match d1,d2 with
 |.int k,.dict ds=>∃m:IM,ds=kvD m/\P .imm (.bool (if neg then !(fX m k)else fX m k))
 |_,_=>False
def Rp.O1{ok:Addr->Prop}{H:Hp}{v:V}{ds:List (D×D)}(r:Rp ok H v (.dict ds)):∃a kvs,v=.ref a/\ok a/\H a=some (.dK kvs)/\Rkv ok H kvs ds:=by
 cases r with
 |dct o h r=>exact⟨_,_,rfl,o,h,r⟩
def yp:∀σ H Q,bI (t2 (Om true) ta tb) σ H Q->Cr (bI ta) (bI tb) σ H Q:=by
 rintro σ H Q ⟨p,H0,own,ρ,P,E,t,q⟩;refine⟨p,H0,own,ρ,_,E,t,λk1 d1 v1 H1 t1 A1 r1=>?_⟩;refine⟨p,H0,own,ρ,_,E.go A1.kp A1.pen,t1,λk2 d2 v2 H2 t2 A2 r2=>?_⟩;have A:=A1.fw A2;unfold Om at t2;split at t2
 ·rename_i k ds;let⟨m,rfl,t2⟩:=t2;have d:=Rp.int' r1;subst d;let⟨c,f,rfl,o,hc,h⟩:=Rp.O1 r2;let⟨vs,rfl,i⟩:=h.kv;refine⟨c,_,rfl,mW.k (k:=Sum.inl k) hc,?_⟩;rw[Ht,vW k (by rw[⇑i,List.length_map])];exact q _ _ _ _ t2 A (.bl _)
 ·exact t2.elim
def hu1(hu:X.A.units+64<Yh):X.A.units+1<Yh:=()
def jf(hu:X.A.units+64<Yh)(ha:PD X a ta)(hb:PD X b tb)(hm:ZL .NotIn b=false:=by rfl):PDT X (.Compare a [.NotIn] [b] pos) (dY (t2 (Om true) ta tb)):=PT.wk (Ra (Fw (hu1 hu) ha hb) hm) λσ H Q q=>yp σ H _ (by
 let⟨p,H0,own,ρ,P,E,t,q⟩:=q;refine⟨p,H0,own,ρ,_,E,t,λk d v H' h A r=>?_⟩;cases d with
 |bool b=>exact⟨b,Rp.bl' r,q b H' h A⟩
 |_=>exact h.elim)
def Kw:G2:=λk1 d1 _ d2 P=>match d1,d2 with
 |.dict ds,.int k=>∃(m:IM)(d:D),ds=kvD m/\lM m k=some d/\P (norm k1 d) d
 |_,_=>False
def qJ(hu:X.A.units+64<Yh)(ha:PD X a ta)(hb:PD X b tb)(hs:Pg b:=by exact λ_ _=>rfl):PD X (.Subscript a b pos) (t2 Kw ta tb):=PE.wk (gq (hu1 hu) ha hb hs) (by
 rintro σ H Q ⟨p,H0,own,ρ,P,E,t,q⟩;refine⟨p,H0,own,ρ,_,E,t,λk1 d1 v1 H1 t1 A1 r1=>?_⟩;refine⟨p,H0,own,ρ,_,E.go A1.kp A1.pen,t1,λk2 d2 v2 H2 t2 A2 r2=>?_⟩;have A:=A1.fw A2;unfold Kw at t2;split at t2
 ·rename_i ds k;let⟨m,d,rfl,hg,t2⟩:=t2;have f:=Rp.int' r2;subst f;let⟨c,i,rfl,o,hc,j⟩:=Rp.O1 (nq A1 A2.kp r1);let⟨vs,rfl,l⟩:=j.kv;let⟨v,h,n⟩:=Dt l hg;refine⟨c,v,rfl,?_,q _ _ _ _ t2 A (aR n)⟩;rw[←h];exact mW.k (k:=Sum.inl k) hc
 ·exact t2.elim)
def Li(i:Nat)(tk c:DE):DS:=λP ρ=>match ρ[i]? with
 |some (.dw r (.dict ds))=>c ρ λ_ dv=>tk ρ λ_ dk=>match dk with
  |.int k=>∃m:IM,ds=kvD m/\fj dv=true/\pQ m=true/\⇑m<1000/\P.nx ((forget r ρ).set i (.dw r (.dict (kvD (iC m k dv)))))
  |_=>False
 |_=>False
theorem yC{ok:Addr->Prop}{H:Hp}:∀{m:IM}{vs:List V},pQ m=true->Rps ok H vs (m.map (·.2))->Rps (λ_=>False) H vs (m.map (·.2))
 |[],_,_,.nil=>.nil
 |p::m,_,h,.cons r t=>by
  unfold pQ at h;rw[List.all_cons,Bool.and_eq_true]at h;exact .cons (r.imm h.1) (yC (m:=m) h.2 t)
def oO{i:Nat}{tk B:DE}(h:PS X st (Pu (jw i) (bI tk) (bI B))):PDS X st (Li i tk B):=PS.wk' h (by
 rintro Q σ H ⟨p,H0,own,ρ,P,E,t,w⟩;unfold Li at t;split at t
 ·rename_i r ds hr;let⟨v,hv,_⟩:=E.slot i _ hr;refine⟨p,H0,own,ρ,_,E,t,λkv dv vv H1 t1 A1 r1=>?_⟩;have n:=E.go A1.kp A1.pen;refine⟨v,hv,p,H0,own,ρ,_,n,t1,λkk dk vk H2 t2 A2 r2=>?_⟩;have q:=n.go A2.kp A2.pen;cases dk with
  |int k =>
   let⟨m,rfl,im,imm,u,J⟩:=t2;let⟨M,d,x⟩:=q.slot i _ hr;rw[hv]at d;cases d;let⟨l,G,rfl,o,hl,K⟩:=Rp.O1 x;let⟨vs,rfl,A⟩:=K.kv;have D:=Rp.int' r2;subst D;have F:=Z9;have f:=yC imm A;have j:Rp (λ_=>False) H2 vv dv:=(nq A1 A2.kp r1).imm im;have I:⇑((m.map (·.1)).zipWith (λi v=>((Sum.inl i:Key),v)) vs)=⇑m:=by
    rw[List.length_zipWith,List.length_map,⇑A,List.length_map,Nat.min_self]
   refine⟨l,_,rfl,wM.k (k:=Sum.inl k) hl (by rw[I];lia),?_⟩;have y:=Oh (k:=k) f j;generalize putK ((m.map (·.1)).zipWith (λi v=>((Sum.inl i:Key),v)) vs) (Sum.inl k) vv=c at y;have L:∀a xs,H2 a=some (.tup xs)->upd H2 l (.dK c) a=some (.tup xs):=λa xs e=>by
    rw[ao (λz=>by rw[z,hl]at e;cases e)];exact e
   have C:=(q.write (o':=.dK c) o hl λxs z=>nomatch z).put (v:=.ref l) (i:=i) (s:=.dw r (.dict (kvD (iC m k dv)))) ⟨_,hv,.dct o aB (y.mono (λ_ o=>o.elim) (λ_ _ o=>o.elim) L)⟩;exact w.nx _ σ _ _ C ((A1.frs.trans A2.frs).trans (d8 o hl λxs z=>nomatch z)) J
  |_=>exact t2.elim
 ·exact t.elim)
def Ue(te:DE):DT:=λρ P=>te ρ λ_ d=>match d with
 |.list ds=>P (!ds.isEmpty)
 |.tuple ds=>P (!ds.isEmpty)
 |.bool b=>P b
 |_=>False
def K7{ok:Addr->Prop}{H:Hp}{vs:List V}{ds:eI}(r:Rps ok H vs ds):(!vs.isEmpty)=!ds.isEmpty:=by
 cases r <;> rfl
def vD(h:PD X e te)(he:∀whole,ZE e X.env whole=(do let v ←whole;standAt e.pos;holding [v] (ZO v)):=by intro _;rfl):PDT X e (Ue te):=PT.wk (I9 h he) (by
 rintro σ H Q ⟨p,H0,own,ρ,P,E,t,q⟩;refine⟨p,H0,own,ρ,_,E,t,λk d v H' h A r=>?_⟩;cases d with
 |list ds =>
  let⟨c,vs,rfl,o,hc,f⟩:=Rp.cV r;exact⟨_,.inl ⟨vs,SqL.of hc,rfl⟩,by rw[K7 f];exact q _ _ h A⟩
 |tuple ds =>
  let⟨c,vs,rfl,hc,f⟩:=Rp.dX r;exact⟨_,.inr (.inl ⟨vs,SqT.of hc,rfl⟩),by rw[K7 f];exact q _ _ h A⟩
 |bool b =>
  have e:=Rp.bl' r;subst e;exact⟨b,rfl,q _ _ h A⟩
 |_=>exact h.elim)
end
variable [Gr]
def Bt(r:Nat)(ρ:List Sl):forget r (forget r ρ)=forget r ρ:=by
 unfold forget;rw[List.map_map];refine List.map_congr_left λs _=>?_;show(if(if s.region=some r then Sl.any else s).region=some r then Sl.any else(if s.region=some r then Sl.any else s))=_;by_cases h:s.region=some r
 ·rw[ed h];rfl
 ·rw[ee h,ee h]
section
variable{te te1 te2 tj tm:DE}{st st2:ZF}{rest:List ZF}{t:DS}
end
variable [Gr]
def EnvD.forgets{p:Pn}{H0 H:Hp}{own:Addr->Option Nat}{σ:L2.St}{ρ:List Sl}(E:EnvD p H0 own σ H ρ)(r:Nat):EnvD p H0 own σ H (forget r ρ):=by
 refine⟨E.k0,E.pen,E.ow,λi s e=>?_,by unfold forget;rw[List.length_map];exact E.len,E.gr⟩;unfold forget at e;rw[List.getElem?_map]at e;cases h:ρ[i]? with
 |none=>rw[h]at e;cases e
 |some s0 =>
  rw[h]at e;have e:(if s0.region=some r then Sl.any else s0)=s:=Option.some.inj e;by_cases z:s0.region=some r
  ·rw[ed z]at e;subst e;trivial
  ·rw[ee z]at e;subst e;exact E.slot i s0 h
def Bu(r:Nat)(ρ:List Sl)(j:Nat):forget r ((forget r ρ).set j .any)=(forget r ρ).set j .any:=by
 have h:=Bt r ρ;unfold forget at h ⊢;rw[List.map_set,h];rfl
section
variable{te tj:DE}{st:ZF}{t:DS}
end
end Dl
namespace L2
open PySem.Spec
def Ph(K:W.Frag)(a:Addr):It :=
 ⟨λi H=>∃xs x,SqL K H a xs/\xs[i]?=some x,λi H x H'=>∃t v,x=.ref t/\H t=none/\H'=upd H t (.tup [.int i,v])/\∀xs,SqL K H a xs->xs[i]?=some v,λi H=>∃xs,SqL K H a xs/\⇑xs<=i⟩
def zM{P:Za}{w:Zb}{K:W.Frag}{elts:List Zt}{kk:Nat}{pos:Pos}(a e it:Addr)(hei:e≠it) :
  Turn P w K (.Tuple elts kk pos) (Ph K a) [e,it] e (λi h=>(∃old,IsEnum h e it i old)/\h.IsListIter it a i) where
 mem:=by simp
 obj:=λi h st b hb=>by
  let⟨⟨old,he⟩,o,ho,hc,hd⟩:=st;rcases List.mem_cons.mp hb with rfl|hb
  ·exact⟨_,he,λv z=>nomatch z⟩
  ·have e1:b=it:=↑hb
   subst e1;exact⟨o,ho,λv z=>by rw[hd]at z;cases z⟩
 keep:=λi h h' st k=>by
  let⟨⟨old,he⟩,o,ho,r⟩:=st;exact⟨⟨old,k e (by simp) _ he⟩,o,k it (by simp) _ ho,r⟩
 item:=by
  intro X hP hw hK hc i pins s σ H E I hf st hg;subst hP hw hK;let⟨xs,x,hq,hx⟩:=hg;let⟨its,rv,p,hz⟩:=I.list hq;let⟨u,hu,ru⟩:=rv.get hx;let⟨⟨old,he⟩,hit⟩:=st;have hai:a≠it:=λz=>by
   let⟨o,_,ho,hc1,_⟩:=p;let⟨o',ho',hc2,_⟩:=hit;rw[z,ho']at ho;cases ho;rw[hc2]at hc1;injection hc1 with z2;exact ef z2 ∅
  have hae:e≠a:=λz=>by
   let⟨o,_,ho,hc1,_⟩:=p;have he':s.heap.get? e=some _:=he;rw[z,ho]at he';cases he';have z1:Value.type "enumerate"=Value.type "list":=hc1;injection z1 with z2;exact ef z2 ∅
  have hlt:i<its.toArray.size:=by have:=(List.getElem?_eq_some_iff.mp hu).1;simpa using this
  let⟨e0,e1,e2,e3,e4,e5⟩:=hf e (by simp);let⟨f0,f1,f2,f3,f4,f5⟩:=hf it (by simp);have D:=Draws.list (prog:=X.prog) (w:=X.w) (A:=X.A.in1) (I.ok.hd hc) it a hai its.toArray;refine XW D he ⟨hit,p.isList⟩ hlt hei (by simp[hei,hae]) λx' h' tk hP ho hs' hT hsz hk=>⟨_,rfl,?_⟩
  have ex:x'=u:=by
   have hP':its[i]?=some x':=↑hP
   rw[hu]at hP';exact(Option.some.inj hP').symm
  subst ex;refine XX ho λh2 he2 hs2=>?_;have hTn:H ↥s=none:=I.hok.fresh (Nat.le_refl _);have keep2:∀b o,b≠e->b≠it->s.heap.get? b=some o->h2.get? b=some o:=λb o hb1 hb2 q=>(hs2.2 b hb1).trans (hk b o hb1 hb2 q);have hTe:↥s≠e:=Nat.ne_of_gt (Heap.lt_size he);have hTup:h2.get? ↥s=some { cls:=.type "tuple",data:=.seq #[.int i tk,x']}:=(hs2.2 _ hTe).trans hT;have J:Inv X pins σ (upd H ↥s (.tup [.int i,x])) { s with heap:=h2,toks:=tk+1 }:=by
   refine I.step (g':=s.gens) (d':=s.drawn) (t':=tk+1) (ch:=[e,it]) (λb hb=>?_) (λb o _ _ hcb q _=>keep2 b o (λz=>hcb (by simp[z])) (λz=>hcb (by simp[z])) q)
    (λb o _ _ hcb q _=>⟨o.slots,keep2 b o (λz=>hcb (by simp[z])) (λz=>hcb (by simp[z])) q⟩) (λb o _ q n=>by rw[ao (Nat.ne_of_lt (Heap.lt_size q))];exact n)
    (λb o hcb q=>⟨o,keep2 b o (λz=>hcb (by simp[z])) (λz=>hcb (by simp[z])) q⟩) (λb ys q=>by rw[ao (aA q hTn)];exact q) (λb o y q=>by rw[ao (aA q hTn)];exact q)
    (λb ps q=>⟨#[],by rw[ao (aA q hTn),q];simp⟩) (λm hm=>?_) ?_ I.bare
   ·rcases List.mem_cons.mp hb with rfl|hb
    ·exact⟨e3,e1,e4,e5⟩
    ·have z:b=it:=↑hb
     subst z;exact⟨f3,f1,f4,f5⟩
   ·let⟨o,es,ep,ho',r⟩:=hm;exact⟨o,es,ep,keep2 _ o (Ne.symm e1) (Ne.symm f1) ho',r⟩
   ·intro b u' q;have nT:∀{c y},H c=some y->c≠e/\c≠it:=λ{c y} z=>⟨λv=>(by rw[v,e0]at z;exact nomatch z),λv=>(by rw[v,f0]at z;exact nomatch z)⟩
    by_cases hb:b=↥s
    ·subst hb;rw[aB]at q;cases q;exact⟨(by show 2<=sizeLine;decide),[.int i tk,x'],.cons ⟨_,rfl⟩ (.cons ru .nil),_,hTup,rfl,_,rfl⟩
    ·rw[ao hb]at q;refine(I.hok b u' q).stay (λc v hcv y=>keep2 c v ?_ ?_ y) (λc y=>by rw[ao (aA y hTn)];exact y) λc ys y=>by rw[ao (aA y hTn)];exact y
     ·rcases hcv with rfl|z
      ·exact(nT q).1
      ·exact(nT z).1
     ·rcases hcv with rfl|z
      ·exact(nT q).2
      ·exact(nT z).2
  refine⟨.ref ↥s,_,J,rfl,⟨_,x,rfl,hTn,rfl,λys hy=>by rw[I.n8 hy hq];exact hx⟩,⟨⟨x',?_⟩,?_⟩,λb hb=>?_⟩
  ·have he3:IsEnum h2 e it ((i:Int)+1) x':=↑he2
   have ec:(~~~(i+1))=(i:Int)+1:=()
   rw[ec];exact he3
  ·let⟨o,ho2,r⟩:=hs'.1;exact⟨o,(hs2.2 it (Ne.symm hei)).trans ho2,r⟩
  ·rw[ao]
   ·exact(hf b hb).1
   ·rcases List.mem_cons.mp hb with rfl|hb
    ·exact Ne.symm hTe
    ·have z:b=it:=↑hb
     subst z;let⟨o,ho2,_⟩:=hit;exact Nat.ne_of_lt (Heap.lt_size ho2)
 done:=by
  intro X hP hw hK hc i pins s σ H E I hf st hg;subst hP hw hK;let⟨xs,hq,hx⟩:=hg;let⟨its,rv,p,hz⟩:=I.list hq;let⟨⟨old,he⟩,hit⟩:=st;let⟨f0,f1,f2,f3,f4,f5⟩:=hf it (by simp);have hl:=⇑rv;have hT:s.TypeIs (.ref e) "enumerate":=⟨_,he,rfl⟩
  unfold ZY;refine wpAny_bind (XY (Yx (name:=Str.ofString "__next__") hT PySem.F.slot_enumerate_next
   (Yy PySem.F.slot_enumerate_next hT PySem.F.entry_enumerate_next ?_ (PySem.F.args_enumerate_next_1 _))))
  show wpAny _ _ (XR (.ref e) 2 >>=_) _ _ _;refine wpAny_bind (Yu he rfl (x:=.ref it) rfl ?_);refine wpAny_bind (wpAny_nextOf_list_end (I.ok.hd hc) hit p.isList (by simp;lia) λh' x he' hx'=>?_);let⟨o,ho,hc'⟩:=hx';refine wpAny_bind (XZ (T:="StopIteration") (b:=true) ⟨o,ho,hc'⟩ X0 ?_);exact Z0 ⟨rfl,I.turned (t':=s.toks) (λb o hb e=>he' b o hb e) f0 f1 f3 f4 f5⟩
 self:=λA i s Q E st h=>by
  let⟨⟨old,he⟩,_⟩:=st;have hT:s.TypeIs (.ref e) "enumerate":=⟨_,he,rfl⟩
  refine X1 hT PySem.F.slot_enumerate_iter (Yy PySem.F.slot_enumerate_iter hT PySem.F.entry_enumerate_iter ?_ (PySem.F.args_enumerate_iter_1 _));show wpAny _ _ (ret (.ref e)) _ _ s;exact Z0 ⟨_,rfl,"enumerate",_,hT,PySem.F.slot_enumerate_next.lookup,h⟩
def SQ(K:W.Frag)(b:TA):TI:=λσ H R=>b σ H λvs H1=>∃a,vs=[.ref a]/\(∃xs,SqL K H1 a xs)/\R (Ph K a) H1
def Jl{X:Cx}{elts:List Zt}{kk:Nat}{f:Pos}{a:Zt}{g:TA}{p pos:Pos}(hg:Gl X "enumerate")(hm:X.mg "enumerate"=none)(ha:PA X [a] g)(hs:Zu [a] X.env=[(false,Zv a X.env)]:=by rfl):PI X (.Tuple elts kk f) (.Call (.Name "enumerate" p) [a] [] pos) (SQ X.K g):=by
 intro d s σ H R I h;refine Call_ (jV I hg hm boot_enumerate (PyProof.Rows.callWith_type1 (thn (ha pos d s σ H _ I h) λus s1 ⟨vs,H1,I1,r1,q1⟩=>?_) hs rfl));let⟨b,e,⟨xs,k⟩,q⟩:=q1;subst e;let⟨u,rfl,m⟩:=vals1 r1;cases m;let⟨its,o,l,n⟩:=I1.list k;refine call_enumerate_list l.isList λh' he hit hsz hk=>?_;have j:Inv X d σ H1 { s1 with heap:=h' }:=I1.kept (t':=s1.toks) hk;have T:Turn X.prog X.w X.K (.Tuple elts kk f) (Ph X.K b) [↥s1+1,↥s1] (↥s1+1) (λi h=>(∃old,IsEnum h (↥s1+1) ↥s1 i old)/\h.IsListIter ↥s1 b i):=zM b _ _ (Nat.ne_of_gt (Nat.lt_succ_self _));refine T.self _ 0 _ _ _ ⟨⟨_,he⟩,hit⟩ ⟨_,_,_,_,H1,rfl,j,T,⟨⟨_,he⟩,hit⟩,λc hc=>?_,q⟩;rcases List.mem_cons.mp hc with rfl|hc
 ·exact I1.yH (Nat.le_succ _) (I1.hok.fresh (Nat.le_succ _))
 ·have z:c=↥s1:=↑hc
  subst z;exact I1.yH (Nat.le_refl _) (I1.hok.fresh (Nat.le_refl _))
end L2
namespace Dl
open L2
variable{X:Cx}
variable [Gr]
section
variable{tg:Zt}{pos:Pos}{ta:DA}
def zE{K:W.Frag}{ok:Addr->Prop}{a:Addr}{ds:eI}:Wlk (λH=>Rp ok H (.ref a) (.list ds)) (Ph K a) (oK ds) ok where
 go:=λi H r hi=>by
  let⟨b,vs,e,_,h,rs⟩:=r.cV;cases e;have:i<⇑vs:=by rw[⇑rs];rw[gG]at hi;exact hi
  exact⟨vs,vs[i],SqL.of h,by simp[this]⟩
 stop:=λH r=>by
  let⟨b,vs,e,_,h,rs⟩:=r.cV;cases e;exact⟨vs,SqL.of h,by rw[⇑rs,gG];exact Nat.le_refl _⟩
 yld:=λi H x H' r y=>by
  let⟨t,v,rfl,ht,rfl,y⟩:=y;have sm:Same H (upd H t (.tup [.int i,v])):=λb u q=>by rw[ao (aA q ht)];exact q
  refine⟨sm,λd hd=>?_⟩;let⟨b,vs,e,_,h,rs⟩:=r.cV;cases e;rw[iY]at hd;cases he:ds[i]? with
  |none=>rw[he]at hd;cases hd
  |some d0 =>
   rw[he]at hd;have e:=Option.some.inj hd;subst e;let⟨v',hv,rv⟩:=rs.getD he;have:=y vs (SqL.of h);rw[hv]at this;cases this;exact .tup aB (.cons (.int _) (.cons (rv.mono (λ_ o=>o) (λa o _ e=>sm a o e) λa xs e=>sm a _ e) .nil))
 stab:=λH H' r f t=>r.bO (λa o n e=>⟨n,f a o n e⟩) t
def Vu(ta:DA):DI:=λρ P=>ta ρ λks=>match ks with
 |[(k,.list ds)]=>P k (oK ds)
 |_=>False
def sX{elts:List Zt}{kk:Nat}{b:Pos}{a:Zt}{ps:Pos}(hm:X.mg "enumerate"=none)(ha:PDA X [a] ta)(hg:Gl X "enumerate":=by rfl)(hs:Zu [a] X.env=[(false,Zv a X.env)]:=by rfl):PDI X (.Tuple elts kk b) (.Call (.Name "enumerate" ps) [a] [] pos) (Vu ta):=PI.wk (Jl hg hm ha hs) (by
 rintro σ H R ⟨p,H0,own,ρ,P,E,t,q⟩;refine⟨p,H0,own,ρ,_,E,t,λks vs H1 h A r=>?_⟩;split at h
 ·rename_i k ds;let⟨v,rfl,c⟩:=iB r;let⟨a,vs,e,_,ha,d⟩:=Rp.cV c;subst e;exact⟨a,rfl,⟨vs,SqL.of ha⟩,q k _ _ H1 _ h A zE (rpA c)⟩
 ·exact h.elim)
end
section
section
variable{prog:Za}{w:Zb}{A:Zr}{E:em}
end
section
variable{pos:Pos}
variable [Gr]
end
section
variable{pos:Pos}{a:Zt}{t:DA} [Gr]
def Xj(f:Int->Int->Int)(le:Int->Int->Prop):GC:=λks P=>match ks with
 |[(_,.tuple [.int i,.int j])]=>P .imm (.int (f i j))
 |[(_,.list ds)]=>∃ns:ew,ds=ns.map PyData.int/\ns≠[]/\∀M,M∈ns->(∀a∈ns,le M a)->P .imm (.int M)
 |_=>False
def Bs:GC:=λks P=>match ks with
 |[(_,.dict ds)]=>∃m:IM,ds=kvD m/\⇑m<64/\∀out:ew,out.Perm (m.map (·.1))->out.Pairwise (·<=·)->P .new (.list (out.map PyData.int))
 |_=>False
theorem w5{ok:Addr->Prop}{H:Hp}:∀{b:List (Key×V)}{ds:List (D×D)}{m:IM},Rkv ok H b ds->ds=kvD m->b.map (·.1)=(m.map (·.1)).map Sum.inl
 |_,_,[],.nil,_=>rfl
 |_,_,p::m,.cons h t,e=>by
  have c:kD _=PyData.int p.1:=eh Prod.fst (List.cons.inj e).1;have d:=Kg c;rw[List.map_cons,List.map_cons,List.map_cons,w5 (m:=m) t (List.cons.inj e).2,←d]
 |_,_,[],.cons _ _,e=>nomatch e
 |_,_,_::_,.nil,e=>nomatch e
def rA{ps:Pos}(hc:X.calm=true)(hm:X.mg "sorted"=none)(ha:PDA X [a] t)(hg:Gl X "sorted":=by rfl)(he:zS X a []:=by rfl)(hpl:zP X pos []:=by rfl):PD X (.Call (.Name "sorted" ps) [a] [] pos) (tCl Bs t) :=
 gP (wF hc) (by
  intro p H0 own j H vs ks P Q A r t q;unfold Bs at t;split at t
  ·let⟨m,rfl,hl,t⟩:=t;let⟨v,rfl,h⟩:=iB r;let⟨x,b,d,k,h1,c⟩:=Rp.O1 h;subst d;refine⟨x,b,m.map (·.1),rfl,h1,w5 c rfl,by rw[List.length_map];exact hl,λl out hl' hp hs=>?_⟩;let⟨f,e,g⟩:=A.new hl' (.lst (out.map V.int));exact q _ _ _ _ (t out hp hs) f e (.lst g aB (Rps.ofMap (λi=>.int i) out))
  ·exact t.elim) hg hm Wl ha ∅ ∅ he hpl
def DQ:G2:=λ_ d1 _ d2 P=>match d2 with
 |.none=>P .imm (.bool (!NQ d1))
 |_=>False
def RV:Ok2 DQ (λx y H Q=>y=.non/\Q (.bl (!decide (x=.non))) H):=by
 intro p H0 own d H x y g e h f P Q A b c t q;unfold DQ at t;split at t
 ·cases c;rw[Cz b];exact⟨rfl,q _ _ _ _ t Kp.refl A.pen (.bl _)⟩
 ·exact t.elim
variable{b:Zt}{ta tb:DE}
def mF(ha:PD X a ta)(hb:PD X b tb):PDT X (.Compare a [.IsNot] [b] pos) (dY (t2 DQ ta tb)):=gw Nu RV ha hb (dJ _)
end
end
section
variable{pos:Pos}{a e:Zt}{te ta:DE}{t:DA}{st st2:ZF}{rest:List ZF} [Gr]
end
section
variable{tg iter c:Zt}{pos pos1:Pos}{ret:ZF}{ti:DI}{g:DG}{tc:DT} [Gr]
end
end Dl
namespace L2
def Asc(xs:Array Nat):Prop:=xs.toList.Pairwise (·<·)
structure Good(w:Zb)(t:WA):Prop where
 asc:Asc t.place
 dum:t.dummies=#[]
 led:t.led=!w.params.followText "set-order"
section
variable{w:Zb}{t:WA}
end
section
variable{P:Za}{w:Zb}{A:Zr}{E:em}{s:Shared}
section
variable{P:Za}{w:Zb}{A:Zr}{R:Result->Shared->Prop}{I:Addr}{fp wr:List Addr}{G:Array ZC->Array ZC->Prop}{n:Nat}{W:Nat->Value->Prop}{St:Nat->Shared->Prop}
end
end
section
variable{P:Za}{w:Zb}{A:Zr}{E:em}{s:Shared}{I a:Addr}{f:Value}{i n ep:Nat}{o:Obj}{es:Array (Int×Value)}{t:WA}
end
section
variable{P:Za}{w:Zb}{A:Zr}{E:em}{s:Shared}
variable{a:Addr}{i ep:Nat}{o:Obj}{es:Array (Int×Value)}{t:WA}
end
section
variable{P:Za}{w:Zb}{A:Zr}{E:em}{s:Shared}{I a:Addr}{ep:Nat}{o:Obj}{es:Array (Int×Value)}{t:WA}
end
end L2
namespace L2
open PySem.Spec
section
variable{P:Za}{w:Zb}{A:Zr}{E:em}{s:Shared}{a:Addr}{S:Int->Bool}{n:Nat}
end
end L2
set_option autoImplicit true
set_option relaxedAutoImplicit true
namespace Wr
open L2 Dl
structure WD[Gr](X:Cx)(e:Zt)(t:DE):Prop where
 h:PD X e t
structure WDT[Gr](X:Cx)(e:Zt)(t:DT):Prop where
 h:PDT X e t
structure WDW[Gr](X:Cx)(e:Zt)(t:DT):Prop where
 h:PDW X e t
structure WDA[Gr](X:Cx)(e:List Zt)(t:DA):Prop where
 h:PDA X e t
structure WDS[Gr](X:Cx)(e:ZF)(t:DS):Prop where
 h:PDS X e t
structure WDSs[Gr](X:Cx)(e:List ZF)(t:DS):Prop where
 h:mV X e t
structure WDI[Gr](X:Cx)(tg e:Zt)(t:DI):Prop where
 h:PDI X tg e t
structure WDG[Gr](X:Cx)(e:Zt)(t:DG):Prop where
 h:PDG X e t
structure WDGs[Gr](X:Cx)(e:List Zt)(t:DGs):Prop where
 h:PGs X e (rW t)
structure WDTs[Gr](X:Cx)(e:List Zt)(t:DT):Prop where
 h:Ce X e t
structure WDO[Gr](X:Cx)(e:Option Zt)(t:DO):Prop where
 h:PO X e (yq t)
structure WV(X:Cx)(e:Zt)(i:Nat):Prop where
 h:PE X e (jw i)
structure WC(X:Cx)(e:Zt)(v:V):Prop where
 h:PE X e (tC v)
section
variable [Gr]
def wv(i:Nat){x:Str}{pos:Pos}(hN:X.N[i]?=some x:=by rfl)(hv:Vis X.env.scope x:=by first|exact Or.inl rfl|exact Or.inr (Or.inl rfl)|exact Or.inr (Or.inr rfl))(hd:zB x:=by decide)(hcd:(x==("__classdict__":Str))=false:=by decide):WV X (.Name x pos) i:=⟨pv i hN hv hd hcd⟩
def wpt{t:DT}(h:WDW X e t):WDT X e t:=⟨PDW.pt h.h⟩
def pG{g d:ZJ}{f k:Int->Int->Bool}(l:OpR X (ZK g) (rI0 λi j=>.bl (f i j)))(e:OpR X (ZK d) (rI0 λi j=>.bl (k i j)))(ha:WD X a ta)(hb:WD X b tb)(hc:WD X c tc)(hm:Z8 [g,d] [b,c]=false:=by with_unfolding_all rfl):WDT X (.Compare a [g,d] [b,c] pos) (dY (tCh f k ta tb tc)):=⟨Dl.pG (Ja l e ha.h hb.h hc.h hm) Dk⟩
def wty{x:Str}{T:String}(hg:Gl X x)(hm:X.mg x=none)(hv:Zq x=some (.type T))(hn:x≠"__name__":=by decide)(hd:zB x:=by decide):WC X (.Name x ps) (.ty T):=⟨Nt hg hm hv rfl hn hd⟩
def aO{i:Nat}{x:Str}{e:Zt}{c:DE}{a pos:Pos}(b:Option Nat)(hN:X.N.Nodup)(hi:X.N[i]?=some x)(f:Loc X.env.scope x)(he:WD X e c)(hs:ZQ e (some (.Name x a)) pos.line X.env=pure false:=by rfl)(d:zL X x:=by first|exact .inl rfl|exact .inr rfl|assumption) :
  WDS X (.Assign [.Name x a] e pos) (GK i b c):=⟨Dl.aO b (eY hN hi f he.h hs d)⟩
def yL(f:Option Nat)(own:List Str){i:Nat}{y:Str}{e a:Pos}(hc:X.calm=true)(hN:X.N.Nodup)(b:X.N[i]?=some y)(k:Loc X.env.scope y)(hi:WDI X tg iter ti)(hg:∀c,WDG (X.comp own scope c) tg g)(ht:∀c,WDTs (X.comp own scope c) ifs tt)(he:∀c,WD (X.comp own scope c) elt te)(d:ZQ (.ListComp elt [⟨tg,iter,ifs,0⟩] scope pos) (some (.Name y e)) a.line X.env=pure true:=by rfl)(hk:gY X.env scope X.N=true:=by rfl)(hs:zF X iter:=by intro _;rfl)(j:zL X y:=by first|exact .inl rfl|exact .inr rfl|assumption) :
  WDS X (.Assign [.Name y e] (.ListComp elt [⟨tg,iter,ifs,0⟩] scope pos) a) (GK i f (dLC ⇑own ti g tt te)):=⟨Dl.aO f (Rb own hc hN b k hi.h (λc=>(hg c).h) (λc=>(ht c).h) (λc=>(he c).h) d hk hs j)⟩
def Gy(f:Option Nat)(own M:List Str){i:Nat}{y:Str}{e a:Pos}(hc:X.calm=true)(hN:X.N.Nodup)(b:X.N[i]?=some y)(k:Loc X.env.scope y)(hi:WDI X tg iter ti)(hg:∀c,WDG (X.bB own M scope c) tg g)(ht:∀c,WDTs (X.bB own M scope c) ifs tt)(he:∀c,WD (X.bB own M scope c) elt te)(d:ZQ (.ListComp elt [⟨tg,iter,ifs,0⟩] scope pos) (some (.Name y e)) a.line X.env=pure true:=by rfl)(hk:bH X.env scope X.N M=true:=by rfl)(hs:zF X iter:=by intro _;rfl)(j:zL X y:=by first|exact .inl rfl|exact .inr rfl|assumption) :
  WDS X (.Assign [.Name y e] (.ListComp elt [⟨tg,iter,ifs,0⟩] scope pos) a) (GK i f (dLC ⇑own ti g tt te)):=⟨Dl.aO f (M8 own M hc hN b k hi.h (λc=>(hg c).h) (λc=>(ht c).h) (λc=>(he c).h) d hk hs j)⟩
def sU(r:Nat)(own:List Str){i j:Nat}{y z:Str}{g a b f:Pos}(hc:X.calm=true)(hN:X.N.Nodup)(d:X.N[i]?=some y)(l:Loc X.env.scope y)(hi:WDI X (.Name z b) iter ti)(hg:∀c,WDG (X.comp own scope c) (.Name z b) (gNm j))(e:ZQ (.ListComp (.List [] f) [⟨.Name z b,iter,[],0⟩] scope pos) (some (.Name y g)) a.line X.env=pure true:=by rfl)(hk:gY X.env scope X.N=true:=by rfl)(hs:zF X iter:=by intro _;rfl)(k:zL X y:=by first|exact .inl rfl|exact .inr rfl|assumption) :
  WDS X (.Assign [.Name y g] (.ListComp (.List [] f) [⟨.Name z b,iter,[],0⟩] scope pos) a) (Lh i r ti):=⟨Dl.sU r (PB own hc hN d l hi.h (λc=>(hg c).h) (λc=>cZ) (λc=>vC dZ) e hk hs k)⟩
def fu{i:Nat}{x:Str}{e:Zt}{es:List Zt}{b a g pos:Pos}(hv:WV X (.Name x g) i)(ha:WDA X (e::es) (fU te lR))(d:Yd (.Name x g) "append" X.env (Zv (.Name x g) X.env)=Zv (.Name x g) X.env:=by rfl)(j:zW X a (e::es):=by rfl)(f:(b.endLine==a.line)=true:=by rfl)(hst:zS X e es:=by rfl)(c:zP X a es:=by rfl)(hs:ZQ (.Call (.Attribute (.Name x g) "append" b) (e::es) [] a) none pos.line X.env=pure false:=by rfl) :
  WDS X (.Expr (.Call (.Attribute (.Name x g) "append" b) (e::es) [] a) pos) (O4 i te):=⟨Dl.fu (gb (uJ PySem.F.plainAttrs_list PySem.F.slot_list_append PySem.F.type_list_append iV hv.h ha.h d j f hst c) hs)⟩
def wg{i:Nat}{x:Str}{e:Zt}{es:List Zt}{b a g pos:Pos}(hv:WV X (.Name x g) i)(ha:WDA X (e::es) (fU te lR))(d:Yd (.Name x g) "append" X.env (Zv (.Name x g) X.env)=Zv (.Name x g) X.env:=by rfl)(j:zW X a (e::es):=by rfl)(f:(b.endLine==a.line)=true:=by rfl)(hst:zS X e es:=by rfl)(c:zP X a es:=by rfl)(hs:ZQ (.Call (.Attribute (.Name x g) "append" b) (e::es) [] a) none pos.line X.env=pure false:=by rfl) :
  WDS X (.Expr (.Call (.Attribute (.Name x g) "append" b) (e::es) [] a) pos) (Lk i te):=⟨Dl.wg (gb (uJ PySem.F.plainAttrs_list PySem.F.slot_list_append PySem.F.type_list_append iV hv.h ha.h d j f hst c) hs)⟩
def lG{i:Nat}{x:Str}{e d:Zt}{es:List Zt}{b a j sp pos:Pos}(hv:WV X (.Name x j) i)(m:WD X d tj)(ha:WDA X (e::es) (fU te lR))(l:qR d:=by exact λ_ _=>rfl)(f:Yd (.Subscript (.Name x j) d sp) "append" X.env (Zv (.Subscript (.Name x j) d sp) X.env)=Zv (.Subscript (.Name x j) d sp) X.env:=by rfl)(k:zW X a (e::es):=by rfl)(g:(b.endLine==a.line)=true:=by rfl)(hst:zS X e es:=by rfl)(c:zP X a es:=by rfl)(hs:ZQ (.Call (.Attribute (.Subscript (.Name x j) d sp) "append" b) (e::es) [] a) none pos.line X.env=pure false:=by rfl) :
  WDS X (.Expr (.Call (.Attribute (.Subscript (.Name x j) d sp) "append" b) (e::es) [] a) pos) (wz i tj te):=⟨Dl.lG (gb (uJ PySem.F.plainAttrs_list PySem.F.slot_list_append PySem.F.type_list_append iV (xK qO hv.h m.h l) ha.h f k g hst c) hs)⟩
def oO{i:Nat}{x:Str}{b e:Zt}{c a pos:Pos}(hu:X.A.units+64<Yh)(hv:WV X (.Name x c) i)(hk:WD X b tk)(he:WD X e tv)(hs:ZQ e (some (.Subscript (.Name x c) b a)) pos.line X.env=pure false:=by rfl) :
  WDS X (.Assign [.Subscript (.Name x c) b a] e pos) (Li i tk tv):=⟨Dl.oO (qz (hu1 hu) hv.h hk.h he.h hs)⟩
def jH{x:Str}{i:Int}{u:Value}{ps:Pos}(hg:Gl X x)(hm:X.mg x=some u)(r:RelV (.int i) u)(hd:zB x:=by decide):WD X (.Name x ps) (tK (.int i)):=⟨Dl.jH hg hm r hd⟩
def aF{i:Nat}{x:Str}(hN:X.N.Nodup)(hi:X.N[i]?=some x)(b:Loc X.env.scope x)(a:zL X x:=by first|exact .inl rfl|exact .inr rfl|assumption):WDG X (.Name x pos) (gNm i):=⟨Dl.aF (vB hN hi b a)⟩
def au{i:Int}{j:Nat}:WD X (.Constant (.int i) j pos) (tK (.int i)):=⟨Dl.au ⟩
def jt{i:Bool}{j:Nat}:WD X (.Constant (.bool i) j pos) (tK (.bool i)):=⟨Dl.jt ⟩
def iI{j:Nat}:WD X (.Constant .none j pos) (tK .none):=⟨Dl.iI ⟩
def bT{e:Zt}{t:DE}(h:WD X e t)(he:∀whole,ZE e X.env whole=(do let v ←whole;standAt e.pos;holding [v] (ZO v)):=by intro _;rfl):WDT X e (dY t):=⟨Dl.bT (h:=h.h) (he:=he)⟩
def cJ{t:DT}(ha:WDT X a t):WDT X (.UnaryOp .Not a pos) (V7 t):=⟨Dl.cJ (ha:=ha.h)⟩
def jD(ha:WDT X a t):WDW X (.BoolOp .And [a] pos) t:=⟨Dl.jD (ha:=ha.h)⟩
def fH(ha:WDT X a t):WDW X (.BoolOp .Or [a] pos) t:=⟨Dl.fH (ha:=ha.h)⟩
def nF{rest:List Zt}(ha:WDT X a t)(hb:WDW X (.BoolOp .And (b::rest) pos) u):WDW X (.BoolOp .And (a::b::rest) pos) (GP t u):=⟨Dl.nF (ha:=ha.h) (hb:=hb.h)⟩
def iG{rest:List Zt}(ha:WDT X a t)(hb:WDW X (.BoolOp .Or (b::rest) pos) u):WDW X (.BoolOp .Or (a::b::rest) pos) (dOr t u):=⟨Dl.iG (ha:=ha.h) (hb:=hb.h)⟩
def ak :WDA X [] lR:=⟨Dl.ak ⟩
def aj(ha:WD X e te)(hr:WDA X es t)(hs:zS X e es:=by rfl):WDA X (e::es) (fU te t):=⟨Dl.aj (ha:=ha.h) (hr:=hr.h) (hs:=hs)⟩
def bM(h:WDA X es t):WD X (.List es pos) (Pk t):=⟨Dl.bM (h:=h.h)⟩
def aV{x1}(h:WDA X es t):WD X (.Tuple es x1 pos) (zN t):=⟨Dl.aV (h:=h.h)⟩
def jg(ha:WD X a ta)(hb:WD X b tb):WD X (.BinOp a .Sub b pos) (t2 (gI0 λi j=>.int (i - j)) ta tb):=⟨Dl.jg (ha:=ha.h) (hb:=hb.h)⟩
def qH(ha:WD X a ta)(hb:WD X b tb):WD X (.BinOp a .FloorDiv b pos) (t2 (gI T6 λi j=>.int (i / j)) ta tb):=⟨Dl.qH (ha:=ha.h) (hb:=hb.h)⟩
def vH(ha:WD X a ta)(hb:WD X b tb):WD X (.BinOp a .Mod b pos) (t2 (gI (λ_ j=>0<j) λi j=>.int (i % j)) ta tb):=⟨Dl.vH (ha:=ha.h) (hb:=hb.h)⟩
def Jw(ha:WD X a ta)(hb:WD X b tb):WD X (.Compare a [.Lt] [b] pos) (t2 (gI0 λi j=>.bool (decide (i<j))) ta tb):=⟨Dl.Jw (ha:=ha.h) (hb:=hb.h)⟩
def uL(ha:WD X a ta)(hb:WD X b tb):WD X (.Compare a [.Gt] [b] pos) (t2 (gI0 λi j=>.bool (decide (j<i))) ta tb):=⟨Dl.uL (ha:=ha.h) (hb:=hb.h)⟩
def Ac(ha:WD X a ta)(hb:WD X b tb):WDT X (.Compare a [.Lt] [b] pos) (dY (t2 (gI0 λi j=>.bool (decide (i<j))) ta tb)):=⟨Dl.Ac (ha:=ha.h) (hb:=hb.h)⟩
def pF(ha:WD X a ta)(hb:WD X b tb):WDT X (.Compare a [.Gt] [b] pos) (dY (t2 (gI0 λi j=>.bool (decide (j<i))) ta tb)):=⟨Dl.pF (ha:=ha.h) (hb:=hb.h)⟩
def Ad(ha:WD X a ta)(hb:WD X b tb):WDT X (.Compare a [.GtE] [b] pos) (dY (t2 (gI0 λi j=>.bool (decide (j<=i))) ta tb)):=⟨Dl.Ad (ha:=ha.h) (hb:=hb.h)⟩
def cM{ps:Pos}(hm:X.mg "len"=none)(ha:WDA X [a] t)(hg:Gl X "len":=by rfl)(he:zS X a []:=by rfl)(hpl:zP X pos []:=by rfl):WD X (.Call (.Name "len" ps) [a] [] pos) (tCl Ol t):=⟨Dl.cM (hm:=hm) (ha:=ha.h) (hg:=hg) (he:=he) (hpl:=hpl)⟩
def iu{ps:Pos}(hm:X.mg "int"=none)(hv:Zq "int"=some (.type "int"))(ha:WDA X [a] t)(hg:Gl X "int":=by rfl)(he:zS X a []:=by rfl)(hpl:zP X pos []:=by rfl):WD X (.Call (.Name "int" ps) [a] [] pos) (tCl S7 t):=⟨Dl.iu (hm:=hm) (hv:=hv) (ha:=ha.h) (hg:=hg) (he:=he) (hpl:=hpl)⟩
def aM :WDSs X [] qe:=⟨Dl.aM ⟩
def aq{st:ZF}{rest:List ZF}(h1:WDS X st t)(h2:WDSs X rest u):WDSs X (st::rest) (ur t u):=⟨Dl.aq (h1:=h1.h) (h2:=h2.h)⟩
def aC{st:ZF}(h1:WDS X st t):WDSs X [st] t:=⟨Dl.aC (h1:=h1.h)⟩
def gW{st:ZF}:WDS X st (λ_ _=>False):=⟨Dl.gW ⟩
def aL(he:WD X e te):WDS X (.Return (some e) pos) (Tq te):=⟨Dl.aL (he:=he.h)⟩
def cF{c:Zt}{a b:List ZF}{d:DT}(hc:WDT X c d)(ha:WDSs X a t)(hb:WDSs X b u):WDS X (.If c a b pos) (dIf d t u):=⟨Dl.cF (hc:=hc.h) (ha:=ha.h) (hb:=hb.h)⟩
def lH(he:WD X e te)(hs:ZQ e none pos.line X.env=pure false:=by rfl):WDS X (.Expr e pos) (Qu te):=⟨Dl.lH (he:=he.h) (hs:=hs)⟩
def gC :WDGs X [] Ko:=⟨Dl.gC ⟩
def bQ{g:DG}{a:DGs}(h1:WDG X e g)(h2:WDGs X es a)(hs:(ZU (e::es) X.env).map (·.2)=ZR e X.env::(ZU es X.env).map (·.2):=by rfl):WDGs X (e::es) (v7 g a):=⟨Dl.bQ (h1:=h1.h) (h2:=h2.h) (hs:=hs)⟩
def jo{a:DGs}{k n:Nat}(hc:X.calm=true)(h:WDGs X es a)(hn:⇑(ZU es X.env)=n:=by rfl)(hst:(ZU es X.env).findIdx? (·.1)=none:=by rfl):WDG X (.Tuple es k pos) (gTp n a):=⟨Dl.jo (hc:=hc) (h:=h.h) (hn:=hn) (hst:=hst)⟩
def bV(hl:WD X l tl):WDI X tg l (iSq tl):=⟨Dl.bV (hl:=hl.h)⟩
def cj{a:Zt}{ps:Pos}(hm:X.mg "range"=none)(ha:WDA X [a] ta)(hg:Gl X "range":=by rfl)(hs:Zu [a] X.env=[(false,Zv a X.env)]:=by rfl):WDI X tg (.Call (.Name "range" ps) [a] [] pos) (iR1 ta):=⟨Dl.cj (hm:=hm) (ha:=ha.h) (hg:=hg) (hs:=hs)⟩
def oR{elts:List Zt}{kk:Nat}{b:Pos}{a:Zt}{ps:Pos}(hm:X.mg "enumerate"=none)(ha:WDA X [a] ta)(hg:Gl X "enumerate":=by rfl)(hs:Zu [a] X.env=[(false,Zv a X.env)]:=by rfl):WDI X (.Tuple elts kk b) (.Call (.Name "enumerate" ps) [a] [] pos) (iEn ta):=⟨Dl.oR (hm:=hm) (ha:=ha.h) (hg:=hg) (hs:=hs)⟩
def dF{a:List ZF}(hp:ZW (model X.prog X.w) X.A X.env X.xe)(hc:X.calm=true)(hi:WDI X tg iter ti)(hg:WDG X tg g)(hb:WDSs X a tb)(hs:zF X iter:=by intro _;rfl):WDS X (.For tg iter a [] pos) (Tw ti g tb):=⟨Dl.dF (hp:=hp) (hc:=hc) (hi:=hi.h) (hg:=hg.h) (hb:=hb.h) (hs:=hs)⟩
def oM{a:List ZF}{c:Zt}{b:DT}(hp:ZW (model X.prog X.w) X.A X.env X.xe)(hc:WDT X c b)(hb:WDSs X a tb):WDS X (.While c a [] pos) (Lg b tb):=⟨Dl.oM (hp:=hp) (hc:=hc.h) (hb:=hb.h)⟩
def cZ{X:Cx}:WDTs X [] (λ_ P=>P true):=⟨Dl.cZ ⟩
def dU{X:Cx}{c:Zt}{t:DT}(hc:WDT X c t):WDTs X [c] t:=⟨Dl.dU (hc:=hc.h)⟩
def gO(own:List Str)(hc:X.calm=true)(hi:WDI X tg iter ti)(hg:∀c,WDG (X.comp own scope c) tg g)(ht:∀c,WDTs (X.comp own scope c) ifs tt)(he:∀c,WD (X.comp own scope c) elt te)(hk:gY X.env scope X.N=true:=by rfl)(hs:zF X iter:=by intro _;rfl):WD X (.ListComp elt [⟨tg,iter,ifs,0⟩] scope pos) (dLC ⇑own ti g tt te):=⟨Dl.gO (own:=own) (hc:=hc) (hi:=hi.h) (hg:=λc=>(hg c).h) (ht:=λc=>(ht c).h) (he:=λc=>(he c).h) (hk:=hk) (hs:=hs)⟩
def mJ(own M:List Str)(hc:X.calm=true)(hi:WDI X tg iter ti)(hg:∀c,WDG (X.bB own M scope c) tg g)(ht:∀c,WDTs (X.bB own M scope c) ifs tt)(he:∀c,WD (X.bB own M scope c) elt te)(hk:bH X.env scope X.N M=true:=by decide +kernel)(hs:zF X iter:=by intro _;rfl):WD X (.ListComp elt [⟨tg,iter,ifs,0⟩] scope pos) (dLC ⇑own ti g tt te):=⟨Dl.mJ (own:=own) (M:=M) (hc:=hc) (hi:=hi.h) (hg:=λc=>(hg c).h) (ht:=λc=>(ht c).h) (he:=λc=>(he c).h) (hk:=hk) (hs:=hs)⟩
def vJ(ha:WD X a ta)(hb:WD X b tb)(hc:WD X c tc)(hm:Z8 [.LtE,.Lt] [b,c]=false:=by with_unfolding_all rfl):WD X (.Compare a [.LtE,.Lt] [b,c] pos) (tCh (λi j=>decide (i<=j)) (λi j=>decide (i<j)) ta tb tc):=⟨Dl.vJ (ha:=ha.h) (hb:=hb.h) (hc:=hc.h) (hm:=hm)⟩
def Ae(ha:WD X a ta):WD X (.UnaryOp .Not a pos) (Pj ta):=⟨Dl.Ae (ha:=ha.h)⟩
def iH{op}(h:WD X a ta):WD X (.BoolOp op [a] pos) ta:=⟨Dl.iH (h:=h.h)⟩
def fV{rest:List Zt}(ha:WD X a ta)(hb:WD X (.BoolOp .And (b::rest) pos) tb):WD X (.BoolOp .And (a::b::rest) pos) (Pq ta tb):=⟨Dl.fV (ha:=ha.h) (hb:=hb.h)⟩
def jG{u:DT}(hc:WDT X c u)(ha:WD X a ta)(hb:WD X b tb):WD X (.IfExp c a b pos) (Ut u ta tb):=⟨Dl.jG (hc:=hc.h) (ha:=ha.h) (hb:=hb.h)⟩
def rF{ps:Pos}(hc:X.calm=true)(hm:X.mg "all"=none)(hv:Zq "all"=some (.builtin "all"))(ha:WDA X [a] t)(hg:Gl X "all":=by rfl)(he:zS X a []:=by rfl)(hpl:zP X pos []:=by rfl):WD X (.Call (.Name "all" ps) [a] [] pos) (tCl S9 t):=⟨Dl.rF (hc:=hc) (hm:=hm) (hv:=hv) (ha:=ha.h) (hg:=hg) (he:=he) (hpl:=hpl)⟩
def vI{ps:Pos}(hc:X.calm=true)(hm:X.mg "max"=none)(ha:WDA X [a,b] t)(hg:Gl X "max":=by rfl)(he:Zu [a,b] X.env=(false,Zv a X.env)::Zu [b] X.env:=by rfl)(hpl:(Zw pos (Zu [b] X.env)).any (·.1)=false:=by rfl):WD X (.Call (.Name "max" ps) [a,b] [] pos) (tCl (gMM λi j=>if j > i then j else i) t):=⟨Dl.vI (hc:=hc) (hm:=hm) (ha:=ha.h) (hg:=hg) (he:=he) (hpl:=hpl)⟩
def qF{ps:Pos}(hc:X.calm=true)(hm:X.mg "min"=none)(ha:WDA X [a,b] t)(hg:Gl X "min":=by rfl)(he:Zu [a,b] X.env=(false,Zv a X.env)::Zu [b] X.env:=by rfl)(hpl:(Zw pos (Zu [b] X.env)).any (·.1)=false:=by rfl):WD X (.Call (.Name "min" ps) [a,b] [] pos) (tCl (gMM λi j=>if j<i then j else i) t):=⟨Dl.qF (hc:=hc) (hm:=hm) (ha:=ha.h) (hg:=hg) (he:=he) (hpl:=hpl)⟩
def qG{ps:Pos}(hm:X.mg "list"=none)(ha:WDA X [a] t)(hg:Gl X "list":=by rfl)(he:zS X a []:=by rfl)(hpl:zP X pos []:=by rfl):WD X (.Call (.Name "list" ps) [a] [] pos) (tCl Oj t):=⟨Dl.qG (hm:=hm) (ha:=ha.h) (hg:=hg) (he:=he) (hpl:=hpl)⟩
def kZ{ps:Pos}(hm:X.mg "tuple"=none)(ha:WDA X [a] t)(hg:Gl X "tuple":=by rfl)(he:zS X a []:=by rfl)(hpl:zP X pos []:=by rfl):WD X (.Call (.Name "tuple" ps) [a] [] pos) (tCl Ku t):=⟨Dl.kZ (hm:=hm) (ha:=ha.h) (hg:=hg) (he:=he) (hpl:=hpl)⟩
def nJ{ps:Pos}(hm:X.mg "sorted"=none)(ha:WDA X [a] t)(hg:Gl X "sorted":=by rfl)(he:zS X a []:=by rfl)(hpl:zP X pos []:=by rfl):WD X (.Call (.Name "sorted" ps) [a] [] pos) (tCl Br t):=⟨Dl.nJ (hm:=hm) (ha:=ha.h) (hg:=hg) (he:=he) (hpl:=hpl)⟩
def nH{ps:Pos}(hm:X.mg "sorted"=none)(ha:WDA X [a] t)(hg:Gl X "sorted":=by rfl)(he:zS X a []:=by rfl)(hpl:zP X pos []:=by rfl):WD X (.Call (.Name "sorted" ps) [a] [] pos) (tCl Bq t):=⟨Dl.nH (hm:=hm) (ha:=ha.h) (hg:=hg) (he:=he) (hpl:=hpl)⟩
def jE(hu:X.A.units+64<Yh)(ha:WD X a ta)(hb:WD X b tb)(hm:ZL .In b=false:=by rfl):WDT X (.Compare a [.In] [b] pos) (dY (t2 (gIn false) ta tb)):=⟨Dl.jE (hu:=hu) (ha:=ha.h) (hb:=hb.h) (hm:=hm)⟩
def eZ(hu:X.A.units+64<Yh)(ha:WD X a ta)(hb:WD X b tb)(hm:ZL .NotIn b=false:=by rfl):WDT X (.Compare a [.NotIn] [b] pos) (dY (t2 (gIn true) ta tb)):=⟨Dl.eZ (hu:=hu) (ha:=ha.h) (hb:=hb.h) (hm:=hm)⟩
def dW :WDO X none JN:=⟨Dl.dW ⟩
def dg(h:WD X e te):WDO X (some e) (JM te):=⟨Dl.dg (h:=h.h)⟩
def dc{f:eo}(C:Cal X.prog X.w X.K X.mg X.fw k x ps (spD f))(hr:Room j X.A)(ha:WDA X (e::es) t)(hk:k<=j:=by decide)(hg:Gl X x:=by rfl)(hdb:zB x:=by decide)(he:zS X e es:=by rfl)(hpl:zP X pos es:=by rfl):WD X (.Call (.Name x p) (e::es) [] pos) (tFn f t):=⟨Dl.dc (C:=C) (hr:=hr) (ha:=ha.h) (hk:=hk) (hg:=hg) (hdb:=hdb) (he:=he) (hpl:=hpl)⟩
def dcP{C:Pn->Prop}{i:Nat}{f:eo}{y:Str}{a:Pos}(CC:Cal X.prog X.w X.K X.mg X.fw k x ps (spP C f))(hr:Room j X.A)(hi:WV X (.Name y a) i)(ha:WDA X es t)(hk:k<=j:=by decide)(hg:Gl X x:=by rfl)(hdb:zB x:=by decide)(he:Zu (.Name y a::es) X.env=(false,Zv (.Name y a) X.env)::Zu es X.env:=by rfl)(hpl:zP X pos es:=by rfl):WD X (.Call (.Name x p) (.Name y a::es) [] pos) (Ml C f i t):=⟨Dl.dcP (CC:=CC) (hr:=hr) (hi:=hi.h) (ha:=ha.h) (hk:=hk) (hg:=hg) (hdb:=hdb) (he:=he) (hpl:=hpl)⟩
def dv(i:Nat){x:Str}{pos:Pos}(hN:X.N[i]?=some x:=by rfl)(hv:Vis X.env.scope x:=by first|exact Or.inl rfl|exact Or.inr (Or.inl rfl)|exact Or.inr (Or.inr rfl))(hd:zB x:=by decide)(hcd:(x==("__classdict__":Str))=false:=by decide):WD X (.Name x pos) (tV i):=⟨Dl.dv (i:=i) (hN:=hN) (hv:=hv) (hd:=hd) (hcd:=hcd)⟩
def Ag(ha:WD X a ta)(hb:WD X b tb):WD X (.Compare a [.Is] [b] pos) (t2 Gx ta tb):=⟨Dl.Ag (ha:=ha.h) (hb:=hb.h)⟩
def qD(ha:WD X a ta)(hb:WD X b tb):WDT X (.Compare a [.Is] [b] pos) (dY (t2 Gx ta tb)):=⟨Dl.qD (ha:=ha.h) (hb:=hb.h)⟩
def aH(ha:WD X a ta)(hb:WD X b tb)(hs:qR b:=by exact λ_ _=>rfl):WD X (.Subscript a b pos) (t2 gIx ta tb):=⟨Dl.aH (ha:=ha.h) (hb:=hb.h) (hs:=hs)⟩
def bG(ha:WD X a ta)(hb:WD X b tb):WD X (.BinOp a .Add b pos) (t2 DP ta tb):=⟨Dl.bG (ha:=ha.h) (hb:=hb.h)⟩
def jF(ha:WD X a ta)(hb:WD X b tb):WD X (.BinOp a .Mult b pos) (t2 Kv ta tb):=⟨Dl.jF (ha:=ha.h) (hb:=hb.h)⟩
def jJ(hu:X.A.units+64<Yh)(ha:WD X a ta)(hb:WD X b tb):WD X (.Compare a [.Eq] [b] pos) (t2 (lN false) ta tb):=⟨Dl.jJ (hu:=hu) (ha:=ha.h) (hb:=hb.h)⟩
def Af(hu:X.A.units+64<Yh)(ha:WD X a ta)(hb:WD X b tb):WD X (.Compare a [.NotEq] [b] pos) (t2 (lN true) ta tb):=⟨Dl.Af (hu:=hu) (ha:=ha.h) (hb:=hb.h)⟩
def dO(hu:X.A.units+64<Yh)(ha:WD X a ta)(hb:WD X b tb):WDT X (.Compare a [.Eq] [b] pos) (dY (t2 (lN false) ta tb)):=⟨Dl.dO (hu:=hu) (ha:=ha.h) (hb:=hb.h)⟩
def nG(hu:X.A.units+64<Yh)(ha:WD X a ta)(hb:WD X b tb):WDT X (.Compare a [.NotEq] [b] pos) (dY (t2 (lN true) ta tb)):=⟨Dl.nG (hu:=hu) (ha:=ha.h) (hb:=hb.h)⟩
def BJ{rest:List ZF}(i:Nat)(h:WDSs X rest t):WDSs X rest (Tv i t):=⟨Dl.BJ (i:=i) (h:=h.h)⟩
def K8{rest:List ZF}(i:Nat)(b:Bool)(h:WDSs X rest t):WDSs X rest (dSp i b t):=⟨Dl.K8 (i:=i) (b:=b) (h:=h.h)⟩
def aJ{rest:List ZF}(js:eA)(h:WDSs X rest t):WDSs X rest (tu js t):=⟨Dl.aJ (js:=js) (h:=h.h)⟩
def qI :WD X (.Dict [] [] pos) (λ_ P=>P .new (.dict [])):=⟨Dl.qI ⟩
def mH{ps b:Pos}(hc:X.calm=true)(hml:X.mg "list"=none)(hmr:X.mg "range"=none)(ha:WDA X [a] t)(hgl:Gl X "list":=by rfl)(hgr:Gl X "range":=by rfl)(he:zS X a []:=by rfl)(hpl:(Zw pos' (Zu [] X.env)).any (·.1)=false:=by rfl)(he2:Zu [.Call (.Name "range" b) [a] [] pos'] X.env=(false,Zv (.Call (.Name "range" b) [a] [] pos') X.env)::Zu [] X.env:=by rfl)(hpl2:zP X pos []:=by rfl):WD X (.Call (.Name "list" ps) [.Call (.Name "range" b) [a] [] pos'] [] pos) (Ur t):=⟨Dl.mH (hc:=hc) (hml:=hml) (hmr:=hmr) (ha:=ha.h) (hgl:=hgl) (hgr:=hgr) (he:=he) (hpl:=hpl) (he2:=he2) (hpl2:=hpl2)⟩
def iR{lo hi:Option Zt}{b a:DO}(he:WD X e te)(hl:WDO X lo b)(hh:WDO X hi a):WD X (.Subscript e (.Slice lo hi none p2) pos) (QC te b a):=⟨Dl.iR (he:=he.h) (hl:=hl.h) (hh:=hh.h)⟩
def rB(ha:WD X a ta)(hb:WD X b tb):WD X (.Dict [some a] [b] pos) (tD1 ta tb):=⟨Dl.rB (ha:=ha.h) (hb:=hb.h)⟩
def jf(hu:X.A.units+64<Yh)(ha:WD X a ta)(hb:WD X b tb)(hm:ZL .NotIn b=false:=by rfl):WDT X (.Compare a [.NotIn] [b] pos) (dY (t2 (Om true) ta tb)):=⟨Dl.jf (hu:=hu) (ha:=ha.h) (hb:=hb.h) (hm:=hm)⟩
def qJ(hu:X.A.units+64<Yh)(ha:WD X a ta)(hb:WD X b tb)(hs:Pg b:=by exact λ_ _=>rfl):WD X (.Subscript a b pos) (t2 Kw ta tb):=⟨Dl.qJ (hu:=hu) (ha:=ha.h) (hb:=hb.h) (hs:=hs)⟩
def vD(h:WD X e te)(he:∀whole,ZE e X.env whole=(do let v ←whole;standAt e.pos;holding [v] (ZO v)):=by intro _;rfl):WDT X e (Ue te):=⟨Dl.vD (h:=h.h) (he:=he)⟩
def rA{ps:Pos}(hc:X.calm=true)(hm:X.mg "sorted"=none)(ha:WDA X [a] t)(hg:Gl X "sorted":=by rfl)(he:zS X a []:=by rfl)(hpl:zP X pos []:=by rfl):WD X (.Call (.Name "sorted" ps) [a] [] pos) (tCl Bs t):=⟨Dl.rA (hc:=hc) (hm:=hm) (ha:=ha.h) (hg:=hg) (he:=he) (hpl:=hpl)⟩
def mF(ha:WD X a ta)(hb:WD X b tb):WDT X (.Compare a [.IsNot] [b] pos) (dY (t2 DQ ta tb)):=⟨Dl.mF (ha:=ha.h) (hb:=hb.h)⟩
end
section
def bC[Gr]{T:String}{x:Str}{e:Zt}{b:DE}{ps a pos:Pos}(hk:∀t:Value,(t=.type "NoneType"\/t=.type "bool"\/t=.type "int"\/t=.type "str"\/t=.type "list"\/t=.type "tuple"\/t=.type "dict")->∃n,t=.type n/\W.kitOne X.K t (.type T)=some (n==T || (T=="int"&&n=="bool")))(hm:X.mg "isinstance"=none)(he:WD X e b)(c:WC X (.Name x a) (.ty T))(hg:Gl X "isinstance":=by rfl)(h1:Zu [e,.Name x a] X.env=(false,Zv e X.env)::Zu [.Name x a] X.env:=by rfl)(h2:Zu [.Name x a] X.env=(false,Zv (.Name x a) X.env)::Zu [] X.env:=by rfl)(hpl:(Zw pos (Zu [.Name x a] X.env)).any (·.1)=false:=by rfl) :
  WD X (.Call (.Name "isinstance" ps) [e,.Name x a] [] pos) (tIs T b):=⟨Dl.bC hk hm he.h c.h hg h1 h2 hpl⟩
def nM[Gr]{x y:Str}{ps b a c pos:Pos}{kk:Nat}{e:Zt}{f:DE}(hm:X.mg "isinstance"=none)(he:WD X e f)(j:WC X (.Name x b) (.ty "list"))(d:WC X (.Name y a) (.ty "tuple"))(hg:Gl X "isinstance":=by rfl)(h1:Zu [e,.Tuple [.Name x b,.Name y a] kk c] X.env=(false,Zv e X.env)::Zu [.Tuple [.Name x b,.Name y a] kk c] X.env:=by rfl)(h2:Zu [.Tuple [.Name x b,.Name y a] kk c] X.env=(false,Zv (.Tuple [.Name x b,.Name y a] kk c) X.env)::Zu [] X.env:=by rfl)(g:Zu [.Name x b,.Name y a] X.env=(false,Zv (.Name x b) X.env)::Zu [.Name y a] X.env:=by rfl)(i:Zu [.Name y a] X.env=(false,Zv (.Name y a) X.env)::Zu [] X.env:=by rfl)(hpl:(Zw pos (Zu [.Tuple [.Name x b,.Name y a] kk c] X.env)).any (·.1)=false:=by rfl) :
  WD X (.Call (.Name "isinstance" ps) [e,.Tuple [.Name x b,.Name y a] kk c] [] pos) (Us f):=⟨Dl.nM hm he.h j.h d.h hg h1 h2 g i hpl⟩
end
end Wr
set_option autoImplicit false
set_option autoImplicit true
namespace Wr
open L2 Dl
section
variable [Gr] {X:Cx}{tj te:DE}
def sX{elts:List Zt}{kk:Nat}{b pos:Pos}{a:Zt}{ps:Pos}(hm:X.mg "enumerate"=none)(ha:WDA X [a] ta)(hg:Gl X "enumerate":=by rfl)(hs:Zu [a] X.env=[(false,Zv a X.env)]:=by rfl):WDI X (.Tuple elts kk b) (.Call (.Name "enumerate" ps) [a] [] pos) (Vu ta):=⟨Dl.sX hm ha.h hg hs⟩
end
section
variable [Gr] {X:Cx}{tj te te1 te2 ta:DE}{t:DS}
end
end Wr
namespace Dl
open L2
variable{X:Cx}
section
variable{pins:er}{σ:L2.St}{H:Hp}{s:Shared}{ok ok':Addr->Prop}
mutual
theorem Rp.mj(f:∀a o,ok a->((∀xs,o≠.tup xs)/\¬Fxd o)->H a=some o->ok' a):∀{v:V}{d:D},Rp ok H v d->Rp ok' H v d
 |_,_,.non=>.non
 |_,_,.bl b=>.bl b
 |_,_,.int i=>.int i
 |_,_,.str x=>.str x
 |_,_,.lst o h r=>.lst (f _ _ o ⟨(λ_ z=>by cases z),λ⟨_,_,z⟩=>by cases z⟩ h) h (Rps.mj f r)
 |_,_,.tup h r=>.tup h (Rps.mj f r)
 |_,_,.dct o h r=>.dct (f _ _ o ⟨(λ_ z=>by cases z),λ⟨_,_,z⟩=>by cases z⟩ h) h (Rkv.mj f r)
theorem Rps.mj(f:∀a o,ok a->((∀xs,o≠.tup xs)/\¬Fxd o)->H a=some o->ok' a):∀{v:List V}{d:eI},Rps ok H v d->Rps ok' H v d
 |_,_,.nil=>.nil
 |_,_,.cons h r=>.cons (Rp.mj f h) (Rps.mj f r)
theorem Rkv.mj(f:∀a o,ok a->((∀xs,o≠.tup xs)/\¬Fxd o)->H a=some o->ok' a):∀{v:List (Key×V)}{d:List (D×D)},Rkv ok H v d->Rkv ok' H v d
 |_,_,.nil=>.nil
 |_,_,.cons h r=>.cons (Rp.mj f h) (Rkv.mj f r)
end
end
section
variable{pos:Pos}{a e:Zt}{te:DE}{t:DA} [Gr]
end
def spR(f:eo):Sp:=λvs H Q _=>∃ok ds P,Rps ok H vs ds/\f ds P/\∀d v H',P d->Same H H'->Rp (λa=>ok a\/H a=none) H' v d->Q v H'
def Dq{f:eo}{n:Nat}(hn:∀ds P,f ds P->⇑ds=n:=by intro _ _ h;repeat (first|(let⟨rfl,_⟩:=h;rfl)|let⟨_,h⟩:=h)):∀vs H Q E,spR f vs H Q E->⇑vs=n:=λvs H Q E h=>by
 let⟨ok,ds,P,r,t,_⟩:=h;rw[⇑r];exact hn ds P t
section
variable [Gr]
abbrev DR:=(D->Prop)->List Sl->Prop
structure WishR(p:Pn)(own:Addr->Option Nat)(H:Hp)(P:D->Prop)(Q:Ends):Prop where
 rt:∀d v H',P d->p.PI H'->(∀b o,H b=some o->¬p.fp b->own b=none->H' b=some o)->Rp (λa=>¬p.fp a) H' v d->Q.rt v H'
def Qh(t:DR):TS:=λQ σ H=>∃p H0 own ρ P,EnvD p H0 own σ H ρ/\t P ρ/\WishR p own H P Q
structure WR(X:Cx)(ss:List ZF)(t:DR):Prop where
 h:PSs X ss (Qh t)
def Ww(a:DE):DR:=λP ρ=>a ρ λ_ d=>P d
variable{pos:Pos}{e:Zt}{te:DE}{st:ZF}{rest:List ZF}{t:DS}{u:DR}
def Ig(he:Wr.WD X e te):WR X [.Return (some e) pos] (Ww te):=⟨PSs.wk' (fZ (mD he.h)) (by
 rintro Q σ H ⟨p,H0,own,ρ,P,E,t,w⟩;exact⟨p,H0,own,ρ,_,E,t,λk d v H' h A r=>w.rt d v H' h A.pen (λb o e n _=>A.kp b o e n) (r.mono (λa o=>jh A o) (λ_ _ _ e=>e) λ_ _ e=>e)⟩)⟩
def K6{f:eo}{T:DR}{N:List Str}{vs:List V}{H:Hp}{Q:VK}{E:XK}(h:spR f vs H Q E)(j:∀ds P,f ds P->∃ρ,ds.map d7++List.replicate (⇑N - ⇑ds) .any=ρ/\T P ρ)(g:∀p,Gr.G p H:=by intro _;trivial):Qh T { nx:=λ_ H'=>Q .non H',rt:=Q } (L2.start N vs) H:=by
 let⟨ok,ds,P,r,t,q⟩:=h;let⟨ρ,e,b⟩:=j ds P t
 let p:Pn:=⟨λa=>¬ok a/\∃o,H a=some o/\(∀xs,o≠.tup xs)/\¬Fxd o,λH'=>∀b o,¬ok b->H b=some o->((∀xs,o≠.tup xs)/\¬Fxd o)->H' b=some o,.non,
  λH1 H2 h1 h2 b o n i c=>h2 b o (.inl ⟨n,o,i,c⟩) (h1 b o n i c),λH1 b h1 ⟨n,o,i,c⟩=>⟨o,h1 b o n i c,c⟩⟩
 have E:=lF (p:=p) (N:=N) (g p) (λb o _ e _=>e) (r.mono (ok':=λa=>¬p.fp a) (λa o z=>z.1 o) (λ_ _ _ e=>e) λ_ _ e=>e);rw[⇑r]at E;rw[e]at E;refine⟨p,H,λ_=>none,_,_,E,b,⟨λd v H' hP hI hk rp=>?_⟩⟩;have m:Same H H':=λb o e=>by
  by_cases k:p.fp b
  ·let⟨n,o',i,c⟩:=k;rw[e]at i;cases i;exact hI b o n e c
  ·exact hk b o e k rfl
 refine q d v H' hP m (rp.mj λa o n1 n2 i=>?_);cases l:H a with
 |none=>exact .inr rfl
 |some o' =>
  have c:=m a o' l;rw[i]at c;cases c;exact .inl (Classical.byContradiction λz=>n1 ⟨z,o,l,n2⟩)
variable{k j:Nat}{x:Str}{ps:List Str}{es:List Zt}{ta:DA}{p:Pos}
end
end Dl
namespace Wr
open L2 Dl
variable [Gr] {X:Cx}{pos:Pos}{a:Zt}{t:DA}
end Wr
namespace Dl
open L2
variable [Gr]
section
variable{X:Cx}{pos:Pos}{st:ZF}{rest:List ZF}{t u:DS}{te tj t1 t2:DE}
end
end Dl
namespace Wr
open L2 Dl
section
variable [Gr] {X:Cx}{tj te t1 t2:DE}{t u:DS}
end
end Wr
set_option autoImplicit false
namespace L2
open PySem.Spec
section
variable{X:Cx}{k:Nat}{f CF:Addr}{fd:Yi}{ps:List Str}{sp:Sp}{E:XK}{x hx n:Str}{p np cpos epos hpos pos:Pos}{e:Zt}{es:List Zt}{t:TA}{b₀:ZF}{suite:List ZF}{ts:TS}{j:Nat}
end
end L2
namespace Dl
open L2
section
variable [Gr] {X:Cx}{pos:Pos}{a:Zt}{t:DA}
def boot_str:Zq "str"=some (.type "str"):=⋯
end
end Dl
namespace Wr
open L2 Dl
section
variable [Gr] {X:Cx}{pos:Pos}{a:Zt}{t:DA}
end
end Wr
namespace Dl
open L2
structure Ext(p q:Pn):Prop where
 pv:q.pv=p.pv
 fp:∀a,p.fp a->q.fp a
 pi:∀H,q.PI H->p.PI H
 go:∀H H',q.PI H->Kp p H H'->p.PI H'->q.PI H'
def CE(C:Pn->Prop)(q:Pn):Prop:=∃p,C p/\Ext p q
section
variable [Gr]
variable{X:Cx}{pos:Pos}{c:Zt}{a rest:List ZF}{tc:DT}{t u:DR}
variable{k j i:Nat}{x y:Str}{ps:List Str}{es:List Zt}{ta:DA}{pp py:Pos}
end
end Dl
namespace L2
open PySem.Spec Builtin
section
variable{X:Cx}
end
end L2
namespace Dl
open L2
section
variable [Gr]
variable{X:Cx}{pos:Pos}{a b e:Zt}{ta tb te:DE}{p1 p2 p3:Pos}
end
end Dl
namespace Wr
open L2 Dl
section
variable [Gr] {X:Cx}{pos:Pos}{a b e:Zt}{ta tb te:DE}{p1 p2 p3:Pos}
end
end Wr
namespace L2
open PySem.Spec Builtin
section
variable{X:Cx}
end
end L2
namespace Dl
open L2
section
variable [Gr] {X:Cx}{pos p2:Pos}{a b e:Zt}{t:DA}{ta tb te:DE}
end
end Dl
namespace Wr
open L2 Dl
section
variable [Gr] {X:Cx}{pos p2:Pos}{a b e:Zt}{t:DA}{ta tb te:DE}
end
end Wr
namespace Dl
open L2
variable{X:Cx}
variable [Gr]
section
variable{st st2:ZF}{rest:List ZF}{te1 te2:DE}{tt:DT}{tr:TS}{t:DS}
end
section
variable{own:List Str}{scope:Zs}{tg iter elt:Zt}{ifs:List Zt}{pos:Pos}{g:DG}{tt:DT}{te:DE}
end
end Dl
namespace Wr
open L2 Dl
variable [Gr]
section
variable{X:Cx}{te1 te2:DE}{tt:DT}{tr:TS}{t:DS}
end
end Wr
namespace PySem
open PySem.W PySem.Spec
section
variable{prog:Za}{w:Zb}{A:Zr}{E:em}{s:Shared}{it l:Addr}{items:eB}
end
end PySem
namespace L2
open PySem.Spec
section
variable{X:Cx}
end
end L2
namespace Dl
open L2
section
variable [Gr] {X:Cx}{a:Zt}{t:DA}
end
end Dl
namespace Wr
open L2 Dl
section
variable [Gr] {X:Cx}{a:Zt}{t:DA}
end
end Wr
namespace L2
section
variable{X:Cx}{pins:er}{σ:List (Option V)}{H:Hp}{s:Shared}
end
end L2
namespace Dl
open L2
variable [Gr]
section
variable{X:Cx}{pos pos':Pos}{a:Zt}{t:DA}
end
end Dl
namespace Wr
open L2 Dl
section
variable [Gr] {X:Cx}{pos pos':Pos}{a:Zt}{t:DA}
end
end Wr
namespace L2
open PySem.Spec
open PySem.AutoSeq1 (wpAny_loadPart')
open PySem.MeetsSeq PySem.MeetsSeq3
section
variable{prog:Za}{w:Zb}{A:Zr}{E:em}{s:Shared}
end
section
variable{X:Cx}
end
end L2
namespace Dl
open L2
section
variable{X:Cx}{pos:Pos}{a:Zt}{t:DA} [Gr]
end
end Dl
namespace L2
open PySem.Spec
section
variable{prog:Za}{w:Zb}{A:Zr}{E:em}{s:Shared}
end
section
variable{X:Cx}
end
end L2
namespace Dl
open L2
section
variable{X:Cx}{pos:Pos}{a e:Zt}{t:DA} [Gr]
end
end Dl
namespace L2
open PySem.Spec
open AutoSeq1 in
section
variable{X:Cx}
end
end L2
namespace Dl
open L2
variable [Gr]
section
variable{X:Cx}{st:ZF}{te:DE}{pos:Pos}{ta:DA}
end
end Dl
namespace Wr
open L2 Dl
section
variable [Gr] {X:Cx}{pos:Pos}{a:Zt}{ta t:DA}{te:DE}
end
end Wr
namespace Dl
open L2
variable [Gr]
section
variable{X:Cx}{st st2:ZF}{rest:List ZF}{tj te1 te2:DE}{tt:DT}{t:DS}{K:W.Frag}
end
end Dl
namespace Wr
open L2 Dl
section
variable [Gr] {X:Cx}{tj te1 te2:DE}
end
end Wr
namespace L2
open PySem.Spec
variable{X:Cx}
structure LamScope(ps ys:List Str)(sc:Zs)(cl:List (Str×Addr)):Prop where
 kind:sc.kind=.function
 co:sc.isCoroutine=false
 gen:sc.isGenerator=false
 nd:(ps++ys).Nodup
 par:∀x∈ps,sc.names.lookup x=some .local
 fre:∀y∈ys,sc.names.lookup y=some .free
 nocell:∀x∈sc.names,x.2≠.cell
 all:∀x,sc.names.lookup x=some .free->∃c,cl.lookup x=some c
 inj:∀x y c,cl.lookup x=some c->cl.lookup y=some c->x=y
def cxL(CX:CXT)(P:Za)(w:Zb)(K:W.Frag)(mg:Str->eH)(fw:Heap)(N:List Str)(qual:Str)(scope:Zs)(f:Addr)(cd:Value)(cl:List (Str×Addr))(A:Zr)(outer:List Env)(s:Shared)(H:Hp)(E:XK):Cx where
 prog:=P
 w:=w
 K:=K
 mg:=mg
 fw:=fw
 A:=A.deeper (W.envX qual scope ↥s f cd cl)
 N:=N
 s₀:=s
 H₀:=H
 env:=W.envX qual scope ↥s f cd cl
 outer:=outer
 stack:=W.envX qual scope ↥s f cd cl::outer
 ex:=[]
 calm:=true
 fn:=λ_=>false
 pn:=[]
 xe:=λe s'=>wpAny (model P w) (A.deeper (W.envX qual scope ↥s f cd cl)) (leaving (W.envX qual scope ↥s f cd cl) e) (λ_ s''=>CX outer H s E e s'') (λe' s''=>CX outer H s E e' s'') s'
structure Caps(fw:Heap)(cl:List (Str×Addr))(ys:List Str)(cvs:List V):Prop where
 len:⇑cvs=⇑ys
 cells:∀x c,cl.lookup x=some c->∃v,fw.IsCell c v
 val:∀(j:Nat)(y:Str)(v:V),ys[j]?=some y->cvs[j]?=some v->∃c u,cl.lookup y=some c/\fw.IsCell c (some u)/\RelV v u
def Bh{F:CXT}{P:Za}{w:Zb}{K:W.Frag}{mg:Str->eH}{fw:Heap}{ps ys:List Str}{qual:Str}{d:Zs}{f:Addr}{I:Value}{cl:List (Str×Addr)}{A:Zr}{g:List Env}{s:Shared}{h1:Heap}{tk:Nat}{H:Hp}{E:XK}{us:eC}{vs cvs:List V}(S:LamScope ps ys d cl)(hd:A.handled=none)(j:Env0 P w K mg fw A g s H)(hl:⇑vs=⇑ps)(r:Vals vs us)(C:Caps fw cl ys cvs)(hn:h1.Ns ↥s (λx=>(ps.zip us).reverse.lookup x))(hk:∀b o,s.heap.get? b=some o->h1.get? b=some o) :
  Inv (cxL F P w K mg fw (ps++ys) qual d f I cl A g s H E) [] (start (ps++ys) (vs++cvs)) H { s with heap:=h1,toks:=tk }:=by
 have m:∀b:Addr,b∉(cxL F P w K mg fw (ps++ys) qual d f I cl A g s H E).ex:=λb z=>ef (show b∈([]:List Addr)from z) (by simp);have G:∀b o,fw.get? b=some o->h1.get? b=some o:=λb o e=>hk b o (j.bs b o e).1;have n:∀x c,cl.lookup x=some c->H c=none:=λx c e=>by
  let⟨v,o,J,_⟩:=C.cells x c e;exact(j.bs c o J).2
 refine⟨⟨j.mod,S.kind,rfl,rfl,Nat.le_refl _,S.inj,λy k=>?_,(λy c z _=>(nomatch z)),λ_=>hd,Around.frames_deeper j.frames,.inr ⟨rfl,rfl⟩,λb z=>ef z (m b),j.bs,j.bsz,λb _ _=>m b,λb z=>ef z (m b),j.lO,j.frf,λq z=>nomatch (show q∈([]:List (Addr×Obj×HO))from z)⟩,
  rfl,j.bare,Un.kept hk,⟨_,hn,λi y v h1 h2 h3=>?_⟩,λy c h=>?_,j.hok.fresh (Nat.le_refl _),λy c h=>n y c h,λp hp=>ef (show p∈([]:er)from hp) (by simp),j.hok.kept hk,?_⟩
 ·have k:d.names.lookup y=some .cell\/d.names.lookup y=some .free:=k;rcases k with k|k
  ·exact ef rfl (S.nocell _ (PySem.mem_of_lookup k))
  ·exact S.all y k
 ·have ha:(vs++cvs)[i]?=some v:=by
   unfold start at h2;by_cases hi:i<⇑(vs++cvs)
   ·rw[List.getElem?_append_left ↑hi,List.getElem?_map]at h2;cases e:(vs++cvs)[i]? with
    |none=>rw[e]at h2;cases h2
    |some a=>rw[e]at h2;cases h2;rfl
   ·rw[List.getElem?_append_right ↑hi]at h2;rw[List.getElem?_replicate]at h2;split at h2 <;> cases h2
  have h1:(ps++ys)[i]?=some y:=h1;by_cases hi:i<⇑ps
  ·rw[List.getElem?_append_left ()]at h1 ha;let⟨u,hu,D⟩:=r.get ha;have B:ps.Nodup:=(List.nodup_append.mp S.nd).1;refine⟨u,D,.inl ⟨S.par y (List.mem_of_getElem? h1),?_⟩⟩;have rl:∀(l:List (Str×Value))(x:Str)(u:Value),(l.map (·.1)).Nodup->(x,u)∈l->l.lookup x=some u:=λl x u=>by
    induction l with
    |nil=>intro _ z;cases z
    |cons p l ih =>
     intro t z;let⟨a,b⟩:=p;rw[List.map_cons,List.nodup_cons]at t;rcases List.mem_cons.mp z with z|z
     ·cases z;rw[List.lookup_cons];simp
     ·have:x≠a:=λe=>t.1 (by rw[←e];exact List.mem_map.mpr ⟨(x,u),z,rfl⟩);rw[List.lookup_cons,show(x==a)=false by simpa using this];exact ih t.2 z
   refine rl _ _ _ ?_ (List.mem_reverse.mpr ?_)
   ·rw[List.map_reverse,List.map_fst_zip (by rw[←⇑r,hl];exact Nat.le_refl _)];exact List.pairwise_reverse.mpr (B.imp λh e=>h e.symm)
   ·exact List.mem_of_getElem? (i:=i) (by rw[List.getElem?_zip_eq_some];exact⟨h1,hu⟩)
  ·rw[List.getElem?_append_right ()]at h1 ha;rw[hl]at ha;let⟨c,u,e,hc,D⟩:=C.val _ _ _ h1 ha;exact⟨u,D,.inr ⟨.inr (S.fre y (List.mem_of_getElem? h1)),c,e,hc.keeps G⟩⟩
 ·let⟨v,hc⟩:=C.cells y c h;exact⟨v,hc.keeps G⟩
 ·unfold start;show _=⇑(ps++ys);rw[List.length_append,List.length_map,List.length_replicate,List.length_append,List.length_append,C.len,hl];lia
def Wc(x:Obj)(qual:Str):Prop:=∃vs t,x.data=.fields vs/\vs[1]?=some (.str qual t)
def tU(H:Hp)(a:Addr)(qual:Str):Prop:=∃x φ,H a=some (.frz x (.ext φ))/\Wc x qual
def Tc{B:CXT}{P:Za}{w:Zb}{K:W.Frag}{mg:Str->eH}{fw:Heap}{k:Nat}{f i:Addr}{name qual:Str}{g:Yp}{d:Zt}{a:Zs}{G l:Value}{cl:List (Str×Addr)}{ps ys:List Str}{cvs:List V}{sp:Sp}(M:fw.get? f=some (W.kla_obj name qual g d a cl G i l))(hcd:∀vs H Q E,sp vs H Q E->tU H i qual)(S:LamScope ps ys a cl)(C:Caps fw cl ys cvs)(z:∀vs H Q E,sp vs H Q E->⇑vs=⇑ps)(j:∀(A:Zr)(c:List Env)(s:Shared)(H:Hp)(vs:List V)(Q:VK)(E:XK),Room k (A.deeper (W.envX qual a ↥s f (.ref i) cl))->sp vs H Q E ->
   ∃t,PE (cxL B P w K mg fw (ps++ys) qual a f (.ref i) cl A c s H E) d t/\t (start (ps++ys) (vs++cvs)) H Q) :
  FnOk P w K mg fw B (k+1) f (W.kla_fn name qual g d a cl G (.ref i) l) ps sp:=by
 refine⟨z,λA c s H args us vs Q E hr e0 hb r hsp=>?_⟩;have hl:=z _ _ _ _ hsp;have F:∀b o,fw.get? b=some o->s.heap.get? b=some o:=λb o e=>(e0.bs b o e).1;have D:s.heap.NoLimit:=e0.mod.nolimit.keeps F;have m:s.heap.CodeRec (.ref i) qual:=by
  let⟨x,φ,e,vs,t,h1,h2⟩:=hcd _ _ _ _ hsp;exact⟨i,x,vs,t,rfl,(e0.hok _ _ e).1,h1,h2⟩
 refine W.kla_callFunE hr.depth (F _ _ M) rfl S.co S.gen rfl m (hb _ _ _ _ ?_);have p:∀y∈ps.zip us,a.names.lookup y.1=some .local:=λ⟨n,v⟩ hy=>S.par n (List.of_mem_zip hy).1;refine wpAny_newFunctionEnv S.nocell p (λh₁ hns hsb=>?_) S.kind;have h:∀b o,s.heap.get? b=some o->h₁.get? b=some o:=λb o e=>hsb.extBut b o (Nat.ne_of_lt (Heap.lt_size e)) (Heap.get?_push_of_some _ e);refine⟨D.keeps h,?_⟩;show Yc _ _ (.expr d (W.envX qual a ↥s f (.ref i) cl)) _ _;let⟨t,ht,L⟩:=j A c s H vs Q E (hr.deeper _) hsp;have I:Inv (cxL B P w K mg fw (ps++ys) qual a f (.ref i) cl A c s H E) [] (start (ps++ys) (vs++cvs)) H { s with heap:=h₁,toks:=s.toks+⇑(ps.zip us) }:=Bh S hr.hd e0 hl r C hns h;refine W.kla_codeExpr (ZG (ht [] _ _ H _ I L) (λu s' hs=>?_) λe s' hs=>hs);let⟨v,H',J,N,q⟩:=hs;exact⟨v,H',J.os,J.bare,J.fw,J.hok,N,q⟩
def reb(fw h:Heap)(L:List Addr):Heap:=W.hideAll h ((List.range h.objs.size).filter λb=>(fw.get? b).isNone&&!decide (b∈L))
def vq{fw h:Heap}{L:List Addr}{b:Addr}:b∉((List.range h.objs.size).filter λb=>(fw.get? b).isNone&&!decide (b∈L))↔(h.objs.size<=b\/(∃o,fw.get? b=some o)\/b∈L):=by
 rw[List.mem_filter,List.mem_range,Bool.and_eq_true,Option.isNone_iff_eq_none,Bool.not_eq_true',decide_eq_false_iff_not];constructor
 ·intro z;by_cases h1:b<h.objs.size
  ·cases e:fw.get? b with
   |some o=>exact .inr (.inl ⟨o,rfl⟩)
   |none =>
    by_cases h2:b∈L
    ·exact .inr (.inr h2)
    ·exact ef ⟨h1,e,h2⟩ z
  ·exact .inl (Nat.le_of_not_lt h1)
 ·rintro(z|⟨o,z⟩|z) ⟨a,b,c⟩
  ·exact ef a (Nat.not_lt.mpr z)
  ·rw[z]at b;cases b
  ·exact c z
def Ik{fw h:Heap}{L:List Addr}{b:Addr}{o:Obj}(e:h.get? b=some o)(m:b∈L):(reb fw h L).get? b=some o:=W.hideAll_get _ e (vq.mpr (.inr (.inr m)))
def Il{fw h:Heap}{L:List Addr}(a:∀b o,fw.get? b=some o->h.get? b=some o):∀b o,fw.get? b=some o->(reb fw h L).get? b=some o:=λb o e=>W.hideAll_get _ (a b o e) (vq.mpr (.inr (.inl ⟨o,e⟩)))
def JL{fw h:Heap}{L:List Addr}{b:Addr}{o:Obj}(e:(reb fw h L).get? b=some o):h.get? b=some o/\((∃o,fw.get? b=some o)\/b∈L):=by
 have a:=W.of_hideAll _ e;refine⟨a,?_⟩;have n:b∉((List.range h.objs.size).filter λb=>(fw.get? b).isNone&&!decide (b∈L)):=λz=>by
  have:=W.hideAll_none (h:=h) _ z;rw[show(W.hideAll h ((List.range h.objs.size).filter λb=>(fw.get? b).isNone&&!decide (b∈L))).get? b=some o from e]at this;cases this
 exact(vq.mp n).resolve_left (λz=>ef (Heap.lt_size a) (Nat.not_lt.mpr z))
def Mod.reb{K:W.Frag}{mg:Str->eH}{fw h:Heap}{L:List Addr}(m:Mod K mg fw)(a:∀b o,fw.get? b=some o->h.get? b=some o):Mod K mg (reb fw h L):=by
 have k:=Il (L:=L) a;let⟨d,hb,c⟩:=m.blt;exact⟨m.kin.keeps k,m.glob.keeps k,⟨d,hb.keeps k,c⟩,m.nolimit.keeps k⟩
def Env0.reb{P:Za}{w:Zb}{K:W.Frag}{mg:Str->eH}{fw:Heap}{A:Zr}{a:List Env}{s:Shared}{H:Hp}{L:List Addr}(e:Env0 P w K mg fw A a s H)(g:∀b∈L,H b=none)(c:∀b∈L,b∉frs a):Env0 P w K mg (reb fw s.heap L) A a s H:=by
 have f:∀b o,fw.get? b=some o->s.heap.get? b=some o:=λb o z=>(e.bs b o z).1;refine⟨e.frames,e.mod.reb f,λb o z=>?_,?_,?_,e.frf,e.hok,e.bare⟩
 ·let⟨h1,h2⟩:=JL z;refine⟨h1,?_⟩;rcases h2 with⟨o',h2⟩|h2
  ·exact(e.bs b o' h2).2
  ·exact g b h2
 ·unfold L2.reb;rw[W.hideAll_size];exact Nat.le_refl _
 ·have d:∀l:List Env,(∀b∈L,b∉frs l)->s.heap.FunFrames fw l->s.heap.FunFrames (L2.reb fw s.heap L) l:=by
   intro l;induction l with
   |nil=>intro _ _;trivial
   |cons env r ih =>
    intro hs hl;let⟨hk,⟨F,o,c,hn,h,hd⟩,hr⟩:=hl;refine⟨hk,⟨F,o,c,?_,h,hd⟩,ih (λb hb z=>hs b hb ?_) hr⟩
    ·cases q:(L2.reb fw s.heap L).get? F with
     |none=>rfl
     |some u =>
      let⟨_,h2⟩:=JL q;rcases h2 with⟨o',h2⟩|h2
      ·rw[hn]at h2;cases h2
      ·exact ef (by unfold frs;rw[List.filterMap_cons,c];exact List.mem_cons_self) (hs F h2)
    ·unfold frs at z ⊢;rw[List.filterMap_cons,c];exact List.mem_cons_of_mem _ z
  exact d a c e.lO
section
variable{CX:CXT}{k i:Nat}{f:Addr}{fd:Yi}{ps:List Str}{sp:Sp}{E:XK}{x:Str}{p pos:Pos}{e:Zt}{es:List Zt}{t:TA}
end
def tQ(P:Addr)(pos:Pos)(qual:Str)(H:Hp):Prop:=∃ps,H P=some (.tbl ps)/\(ps=#[]\/∃c',ps=#[Z2 pos.line,Z2 pos.col,.ref c']/\tU H c' qual)
def Wd{h h':Heap}{L:Addr}{m:Str->eH}(x:h.Ns L m)(k:∀o,h.get? L=some o->h'.get? L=some o):h'.Ns L m:=by
 let⟨o,es,ep,a,r⟩:=x;exact⟨o,es,ep,k o a,r⟩
section
variable{pins:er}{σ:St}{H:Hp}{s:Shared}{c P:Addr}{pos:Pos}{qual:Str}{params:Yp}{body:Zt}{scope:Zs}{cl:List (Str×Addr)}{Q:em}{E:em}
def Gd(I:Inv X pins σ H s)(hq:X.env.qual++"<lambda>"=qual)(G:defaultsOf params X.env=([],[]))(F:YN scope X.env=pure cl)(i:X.env.code=.ref c)(N:X.K.In X.fw->W.CodeHd X.fw c P)(O:X.K.In X.fw->X.fw.BuiltinsAt X.mg P)(T:tQ P pos qual H)(h:∀f c' ctv pm s' H',Inv X pins σ H' s'->tQ P pos qual H'->tU H' c' qual->H' f=none->s'.heap.get? f=some (W.kla_obj "<lambda>" qual params body scope cl pm c' ctv)->f∉frs X.stack->(∀b o,H b=some o->b≠P->H' b=some o) ->
   (∀b o,s.heap.get? b=some o->H b=none->s'.heap.get? b=some o/\H' b=none)->Q (.ref f) s') :
  wpAny (model X.prog X.w) X.A (Zv (.Lambda params body scope pos) X.env) Q E s:=by
 have N:=N I.ok.mod.kin;have O:=O I.ok.mod.kin;let⟨ps,k,V⟩:=T;have v:s.heap.get? P=some (W.tabObj ps):=I.hok P _ k;have g:∀b,H b=none->b≠P:=λb e z=>by rw[z,k]at e;cases e
 have L:s.heap.Ns mainGlobals X.mg:=I.mod.glob.keeps I.bk;have R:mainGlobals≠P:=by
  let⟨o,_,_,S,_⟩:=I.mod.glob;exact g _ (I.bs _ _ S).2
 have C:s.heap.BuiltinsAt X.mg P:=by
  let⟨bm,o,h1,h2,h3,h4,h5,r⟩:=O;exact⟨bm,o,h1,h2,h3,h4,I.bk _ _ h5,r⟩
 have B:∀b,↥s<=b->b∉frs X.stack:=λb hb z=>by
  let⟨_,o,S,_⟩:=I.stack.mem z;exact ef (Heap.lt_size S) (Nat.not_lt.mpr hb)
 refine W.kla_eval G ?_;rw[hq];rcases V with rfl|⟨c',rfl,M⟩
 ·refine W.kla_makeFunction (mg:=X.mg) F I.ok.glob L i (N.keeps I.bk) v (by trivial) (by rfl) R C λc' ctv h' tk hx hge hlt hrec htb=>?_;let⟨c₂,Y,vs,t,e2,U,hd,hv⟩:=hrec;cases e2;have d:∀b o,b≠P->s.heap.get? b=some o->(h'.push (W.kla_obj "<lambda>" qual params body scope cl ((X.mg "__name__").getD .none) c' ctv)).get? b=some o:=λb o n e=>Heap.get?_push_of_some _ (hx b o n e);have D:H c'=none:=I.hok.fresh hge;have cP:c'≠P:=g c' D;have cS:∀b o,s.heap.get? b=some o->b≠c':=λb o e z=>by subst z;exact ef (Heap.lt_size e) (Nat.not_lt.mpr hge)
  have p:(h'.push (W.kla_obj "<lambda>" qual params body scope cl ((X.mg "__name__").getD .none) c' ctv)).get? P=some (W.tabObj (#[]++#[Z2 pos.line,Z2 pos.col,.ref c'])):=Heap.get?_push_of_some _ htb;have l:=Heap.get?_push_of_some (W.kla_obj "<lambda>" qual params body scope cl ((X.mg "__name__").getD .none) c' ctv) U
  let H':Hp:=upd (upd H P (.tbl #[Z2 pos.line,Z2 pos.col,.ref c'])) c' (.frz Y (.ext λ_=>True))
  have j:∀b,b≠P->b≠c'->H' b=H b:=λb h1 h2=>by show upd _ _ _ b=_;rw[ao h2,ao h1]
  have Z:H' P=some (.tbl #[Z2 pos.line,Z2 pos.col,.ref c']):=by show upd _ _ _ P=_;rw[ao (Ne.symm cP),aB]
  have uc:H' c'=some (.frz Y (.ext λ_=>True)):=aB;have x:∀b o,H b=some o->b≠c':=λb o e z=>by rw[z,D]at e;cases e
  have M:tU H' c' qual:=⟨Y,_,uc,vs,t,hd,hv⟩
  have J:Inv X pins σ H' { s with heap:=h'.push (W.kla_obj "<lambda>" qual params body scope cl ((X.mg "__name__").getD .none) c' ctv),toks:=tk }:=by
   refine I.step (g':=s.gens) (d':=s.drawn) (ch:=[]) (λ_ z=>nomatch z) (λb o _ _ _ e n=>d b o (g b n) e) (λb o _ _ _ e n=>⟨o.slots,d b o (g b n) e⟩) (λb o _ e n=>by rw[j b (g b n) (cS b o e)];exact n) (λb o _ e=>?_) (λb xs e=>?_) (λb o u e=>?_) (λb ps e=>?_) (λm hm=>Wd hm λo e=>d _ o (g _ I.free) e) (λa o e=>?_) I.bare
   ·by_cases z:b=P
    ·subst z;exact⟨_,p⟩
    ·exact⟨o,d b o z e⟩
   ·rw[j b (λz=>by rw[z,k]at e;cases e) (x b _ e)];exact e
   ·rw[j b (λz=>by rw[z,k]at e;cases e) (x b _ e)];exact e
   ·by_cases z:b=P
    ·subst z;rw[k]at e;cases e;exact⟨#[Z2 pos.line,Z2 pos.col,.ref c'],by rw[Z];simp⟩
    ·exact⟨#[],by rw[j b z (x b _ e),e];simp⟩
   ·by_cases z:a=c'
    ·subst z;rw[uc]at e;cases e;exact⟨l,trivial,⟨_,l⟩,λ_ _ _ _=>trivial⟩
    ·by_cases z2:a=P
     ·subst z2;rw[Z]at e;cases e;exact p
     ·rw[j a z2 z]at e;have ow:∀b,H b=some (.own a)->b≠P:=λb q y=>by rw[y,k]at q;cases q
      exact(I.hok a o e).stay (λb u hb q=>d b u (hb.elim (λy=>y ▸ z2) (ow b)) q) (λb q=>by rw[j b (ow b q) (x b _ q)];exact q) λb xs q=>by rw[j b (λy=>by rw[y,k]at q;cases q) (x b _ q)];exact q
  have hsz:↥s<=h'.objs.size:=Nat.le_of_lt (Nat.lt_of_le_of_lt hge hlt);have fP:h'.objs.size≠P:=λz=>ef (Heap.lt_size v) (Nat.not_lt.mpr (z ▸ hsz));refine h h'.objs.size c' ctv _ _ H' J ⟨_,Z,.inr ⟨c',rfl,M⟩⟩ M (by rw[j _ fP (Nat.ne_of_gt hlt)];exact I.hok.fresh hsz) (Heap.get?_push_size _ rfl) (B _ hsz) (λb o e n=>by rw[j b n (x b _ e)];exact e) λb o e n=>⟨d b o (g b n) e,by rw[j b (g b n) (cS b o e)];exact n⟩
 ·refine W.kla_makeFunctionHit (mg:=X.mg) (cv:=.ref c') F I.ok.glob L i (N.keeps I.bk) v (by trivial) (codeAmong_snoc (pos:=pos) (c:=.ref c') [] trivial rfl) C λctv h' tk hk hsz=>?_;have d:∀b o,s.heap.get? b=some o->(h'.push { cls:=.type "function",data:=.func (W.kla_fn "<lambda>" qual params body scope cl ((X.mg "__name__").getD .none) (.ref c') ctv)}).get? b=some o:=λb o e=>Heap.get?_push_of_some _ (hk b o e);exact h h'.objs.size c' ctv _ _ H (I.kept (t':=tk) d) ⟨_,k,.inr ⟨c',rfl,M⟩⟩ M (I.hok.fresh hsz) (Heap.get?_push_size _ rfl) (B _ hsz) (λb o e _=>e) λb o e n=>⟨d b o e,n⟩
end
structure LamAt(fw:Heap)(f c':Addr)(qual:Str)(params:Yp)(body:Zt)(scope:Zs)(cl:List (Str×Addr))(ys:List Str)(cvs:List V)(H:Hp):Prop where
 fn:∃pm ctv,fw.get? f=some (W.kla_obj "<lambda>" qual params body scope cl pm c' ctv)
 caps:Caps fw cl ys cvs
 kn:tU H c' qual
section
variable{k:Nat}{fh c P:Addr}{fdh:Yi}{ps ys:List Str}{sp:Heap->Sp}{x:Str}{p pos lpos:Pos}{e:Zt}{te:TE}{qual:Str}{params:Yp}{body:Zt}{scope:Zs}{cl:List (Str×Addr)}
end
end L2
namespace Dl
open L2
def xG(P:Addr)(pos:Pos)(qual:Str):Pn where
 fp:=λb=>b=P
 PI:=tQ P pos qual
 pv:=.non
 mono:=λH H' ⟨ps,h,r⟩ k=>⟨ps,k _ _ (.inl rfl) h,r.imp id λ⟨c',e,x,φ,hc,cx⟩=>⟨c',e,x,φ,k _ _ (.inr ⟨x,φ,rfl⟩) hc,cx⟩⟩
 is:=λH b ⟨ps,h,_⟩ hb=>by
  subst hb;exact⟨_,h,(λxs z=>(nomatch z)),λ⟨_,_,z⟩=>(nomatch z)⟩
def spT(T:Pn)(f:eo):Sp:=λvs H Q _=>∃ds P,T.PI H/\Rps (λa=>¬T.fp a) H vs ds/\f ds P/\∀d v H',P d->Kp T H H'->T.PI H'->Rp (λa=>H a=none) H' v d->Q v H'
def Oa{T:Pn}{f:eo}{n:Nat}(hn:∀ds P,f ds P->⇑ds=n:=by intro _ _ h;repeat (first|(let⟨rfl,_⟩:=h;rfl)|let⟨_,h⟩:=h)):∀vs H Q E,spT T f vs H Q E->⇑vs=n:=λvs H Q E ⟨ds,P,_,r,t,_⟩=>by
 rw[⇑r];exact hn ds P t
def Pn.plus(p T:Pn):Pn where
 fp:=λb=>p.fp b\/T.fp b
 PI:=λH=>p.PI H/\T.PI H
 pv:=p.pv
 mono:=λH H' h k=>⟨p.mono H H' h.1 λb o z e=>k b o (z.imp .inl id) e,T.mono H H' h.2 λb o z e=>k b o (z.imp .inr id) e⟩
 is:=λH b h z=>z.elim (p.is H b h.1) (T.is H b h.2)
def Apart(p T:Pn):Prop:=∀H,p.PI H->T.PI H->∀b,p.fp b->¬T.fp b
def CT(C:Pn->Prop)(T:Pn):Pn->Prop:=λq=>∃p,C p/\Apart p T/\q=p.plus T
def Ar{p:Pn}{H:Hp}{b:Addr}{o:HO}(h:p.PI H)(e:H b=some o)(c:Fxd o):¬p.fp b:=λz=>by
 let⟨o',a,n⟩:=p.is H b h z;rw[e]at a;cases a;exact n.2 c
def HF{C:Pn->Prop}{T:Pn}{f:eo}:∀vs H Q E,spP (CT C T) f vs H Q E->spP C f vs H Q E:=by
 rintro vs H Q E ⟨q,vs',ds,P,⟨p,c,h,rfl⟩,rfl,g,r,t,k⟩;refine⟨p,vs',ds,P,c,rfl,g.1,r.mono (λa o z=>o (.inl z)) (λ_ _ _ e=>e) (λ_ _ e=>e),t,λd v H' hP kp pi' rp=>k d v H' hP (λb o e n=>kp b o e λz=>n (.inl z)) ⟨pi',T.mono H H' g.2 λb o z e=>kp b o e λy=>?_⟩ rp⟩;rcases z with z|z
 ·exact h H g.1 g.2 b y z
 ·exact Ar g.1 e z y
def Cal.plus{P:Za}{w:Zb}{K:W.Frag}{mg:Str->eH}{fw:Heap}{k:Nat}{x:Str}{ps:List Str}{C:Pn->Prop}{T:Pn}{f:eo}(c:Cal P w K mg fw k x ps (spP C f)):Cal P w K mg fw k x ps (spP (CT C T) f):=by
 let⟨g,a,F,r⟩:=c.ex;exact⟨g,a,F.imp HF,r⟩
section
variable [Gr] {X:Cx}{k j:Nat}{x:Str}{ps:List Str}{e:Zt}{es:List Zt}{t:DA}{p pos:Pos}{C:Pn->Prop}{T:Pn}{i:Nat}{f:eo}
end
section
variable{X:Cx}{k j:Nat}{x:Str}{ps:List Str}{e:Zt}{es:List Zt}{t:DA}{p pos:Pos}{Z:Hp->Prop}{i:Nat}{f:Addr}{fd:Yi}{g:eo}
end
end Dl
namespace Wr
open L2 Dl
variable{X:Cx}{k j:Nat}{x:Str}{ps:List Str}{e:Zt}{es:List Zt}{t:DA}{p pos:Pos}{Z:Hp->Prop}{i:Nat}{f:Addr}{fd:Yi}{g:eo}
end Wr
namespace Dl
open L2
section
variable [Gr] {X:Cx}{st:ZF}{i k a b:Nat}{f:eo}
end
end Dl
namespace Wr
open L2 Dl
section
variable [Gr] {X:Cx}{i k a b lv j:Nat}{f:eo}{x g y z1 z2:Str}{ps:List Str}{apos cpos np pos gp gpos py px pa pb:Pos}
end
end Wr
namespace L2
open PySem.Spec
def Gh{P:Za}{w:Zb}{K:W.Frag}{mg mb:Str->eH}{k:Nat}{X a:Addr}{g:List Addr}{fd:Yi}{x:Str}{sp:Sp}{f:Shared}{vs:eC}{ns:ew}(KX:K.In f.heap)(hKP:∀PT∈g,K.lookup PT=none)(hC:∀PT∈g,∃c,W.CodeHd f.heap c PT)(j:∀PT∈g,f.heap.get? PT=some (W.tabObj #[]))(M:f.heap.Ns mainGlobals mg)(hb:f.heap.Ns Zp mb)(hbb:∀x:Str,x≠"__name__"->mb x=Zq x)(L:f.heap.NoLimit)(Z:∀PT∈g,f.heap.BuiltinsAt mg PT)(hg:f.gens=#[])(ha:f.heap.get? a=some { cls:=.type "list",data:=.seq vs.toArray })(hi:IntsAre vs ns)(hl:⇑ns<=sizeLine)(hr:Room k callerA)(F:∀fw:Heap,K.In fw->fw.Ns mainGlobals mg->(∀PT∈g,fw.BuiltinsAt mg PT)->(∀(b:Addr)(m:Str->eH),f.heap.Ns b m->fw.Ns b m)->FnOk P w K mg fw CX0 k X fd [x] sp)(C:∀(s:Shared)(u:Value),Yj s fd ⟨[u],[]⟩ [(x,u)])(hsp:∀H:Hp,SqL K H a (ns.map V.int)->(∀PT∈g,H PT=some (.tbl #[]))->sp [.ref a] H (λv _=>v=.bl true) λ_ _ _=>False) :
  Yc (model P w) callerA (.call (.ref X) ⟨[.ref a],[]⟩) (λr s'=>r=.ok (.ret (.bool true))/\OldK f.heap s'.heap/\s'.os=f.os/\ZB s'.gens) f:=by
 have rv:=kI hi;have O:=⇑hi;have aP:a∉g:=λz=>by rw[j a z]at ha;cases ha
 have p:∀H:Hp,SqL K H a (ns.map V.int)->HOk P w H f.heap->(∀PT∈g,H PT=some (.tbl #[]))->(∀b u,H b=some u->b∉g->b=a/\K.lookup a=none/\∃o u',u=.frz o u') ->
   Yc (model P w) callerA (.call (.ref X) ⟨[.ref a],[]⟩) (λr s'=>r=.ok (.ret (.bool true))/\OldK f.heap s'.heap/\s'.os=f.os/\ZB s'.gens) f:=by
  intro H hS N hT T;have nD:∀{b:Addr}{o:Obj}{es:Array Ze}{ep:Nat},f.heap.get? b=some o->o.data=.dict es ep->H b=none:=λ{b o es ep} e d=>by
   cases q:H b with
   |none=>rfl
   |some u =>
    by_cases z:b∈g
    ·rw[j b z]at e;cases e;cases d
    ·have:=(T b u q z).1;subst this;rw[ha]at e;cases e;cases d
  have n:∀{b:Addr}{m:Str->eH},f.heap.Ns b m->(vZ f.heap H).Ns b m:=λ{b m} ⟨o,es,ep,e,d,r⟩=>⟨o,es,ep,sE e (nD e d),d,r⟩
  have G:K.In (vZ f.heap H):=λb o e=>sE (KX b o e) (by
   cases q:H b with
   |none=>rfl
   |some u =>
    by_cases z:b∈g
    ·rw[hKP b z]at e;cases e
    ·let⟨z1,z2,_⟩:=T b u q z;rw[z1,z2]at e;cases e)
  have hM:Mod K mg (vZ f.heap H):=⟨G,n M,⟨mb,n hb,hbb⟩,let⟨mc,h1,h2⟩:=L;⟨mc,n h1,h2⟩⟩
  have e0:Env0 P w K mg (vZ f.heap H) callerA [] f H:=⟨rfl,hM,λb o e=>NP e,Nat.le_of_eq (Gv _ _),trivial,λb hb=>ef (show b∈([]:List Addr)from hb) (by simp),N,.of_eq hg⟩
  have Y:∀PT∈g,(vZ f.heap H).BuiltinsAt mg PT:=λPT hP=>by
   let⟨R,o,h1,h2,h3,h4,S,A,h7⟩:=Z PT hP;refine⟨R,o,h1,h2,h3,h4,sE S ?_,A,h7⟩;cases q:H R with
   |none=>rfl
   |some u =>
    have:=(T R u q λz=>by
     have e5:=S;rw[j R z]at e5;cases e5;have A:Value.none=Value.type "module":=A;cases A).1
    subst this;rw[ha]at S;cases S;have A:Value.type "list"=Value.type "module":=A;exact ef A ∅
  refine Yl ((F _ G (n M) Y λb m z=>n z).run callerA [] f H ⟨[.ref a],[]⟩ [.ref a] [.ref a] _ _ hr e0 (C f (.ref a)) (.cons rfl .nil) (hsp H hS hT)) λr s' h=>?_;cases r with
  |error e=>exact h.elim
  |ok fl =>
   cases fl with
   |next=>exact False.elim h
   |brk=>exact False.elim h
   |cont=>exact False.elim h
   |ret u =>
    let⟨v,H',os,D,un,t,r',q⟩:=h;have q':v=.bl true:=q;subst q';obtain rfl:u=Value.bool true:=r';have E:∀PT∈g,∃i,s'.heap.get? PT=some { cls:=.none,data:=.fields (#[]++i)}:=λPT hP=>by
     let⟨i,hT'⟩:=un.tbls PT _ (hT PT hP);exact⟨i,t PT _ hT'⟩
    have y:∀b o,f.heap.get? b=some o->b∉g->s'.heap.get? b=some o:=λb o e nb=>by
     cases q:H b with
     |none=>exact un.keep b o e q (by intro z;exact ef (show b∈([]:List Addr)from z) (by simp)) (by simp)
     |some u =>
      let⟨_,_,ob,u',rfl⟩:=T b u q nb;have e1:=(N b _ q).1;rw[e]at e1;cases e1;exact(t b _ (un.frzs b _ _ q)).1
    refine⟨rfl,⟨λb o e=>?_,λb o e=>?_⟩,os,D⟩
    ·by_cases z:b∈g
     ·let⟨i,U⟩:=E b z;let⟨c,hc⟩:=hC b z;rw[j b z]at e;cases e;exact .inr (.inl ⟨(hc.tab (j b z)).isCodeTable,rfl,#[],i,rfl,U⟩)
     ·exact .inl (y b o e z)
    ·by_cases z:b∈g
     ·let⟨i,U⟩:=E b z;exact⟨_,U⟩
     ·exact⟨o,y b o e z⟩
 cases hk:K.lookup a with
 |some o =>
  have e:=KX a o hk;rw[ha]at e;cases e;refine p (λb=>if b∈g then some (.tbl #[])else none) (.inr ⟨_,vs.toArray,_,hk,rfl,rfl,rfl,by rw[List.size_toArray,O];exact hl,↑rv⟩) (λb u z=>?_) (λPT hP=>ed hP) λb u z nb=>?_
  ·by_cases hb:b∈g
   ·have Q:=(ed hb).symm.trans z;cases Q;exact j b hb
   ·have Q:=(ee hb).symm.trans z;cases Q
  ·have Q:=(ee nb).symm.trans z;cases Q
 |none =>
  let H:Hp:=λb=>if b∈g then some (.tbl #[])else if b=a then some (.frz { cls:=.type "list",data:=.seq vs.toArray } (.lst (ns.map V.int)))else none
  have J:∀PT∈g,H PT=some (.tbl #[]):=λPT hP=>ed hP;have B:H a=some (.frz { cls:=.type "list",data:=.seq vs.toArray } (.lst (ns.map V.int))):=(ee aP).trans (ed rfl);have I:∀b,b∉g->b≠a->H b=none:=λb h1 h2=>(ee h1).trans (ee h2);refine p H (.inl (.inr ⟨_,B⟩)) (λb u z=>?_) J λb u z nb=>?_
  ·by_cases hb:b∈g
   ·rw[J b hb]at z;cases z;exact j b hb
   ·by_cases l:b=a
    ·subst l;rw[B]at z;cases z;exact⟨ha,by rw[List.length_map];exact hl,vs,_,rv,ha⟩
    ·rw[I b hb l]at z;cases z
  ·by_cases l:b=a
   ·subst l;rw[B]at z;cases z;exact⟨rfl,hk,_,_,rfl⟩
   ·rw[I b nb l]at z;cases z
def Hr{l:W.OpenLaw}{n k:Nat}{q:Za}{loose:List Str}{XP:(Str->eH)->Heap->Prop}{YP:Zb->Heap->Prop}{d:DefRec}{K:Zd->W.Frag}{x:Str}(hi:importsNone q=true)(hn:l.most=some n)(A:n<=sizeLine)(y:d.params.defaults=[])(hr:Room k callerA)(E:∀(w:Zb)(h:Heap),YP w h->(K w.params).In h)(F:∀(w:Zb)(mg:Str->eH)(m:Addr)(h:Heap),(K w.params).In h->h.Ns mainGlobals mg->mg d.name=some (.ref m) ->
   ∃(j:W.Frag)(i:List Addr)(r:Yi)(sp:Sp),j.In h/\(∀PT∈i,j.lookup PT=none)/\(∀PT∈i,∃c,W.CodeHd h c PT)/\(∀PT∈i,h.get? PT=some (W.tabObj #[]))/\(∀(s:Shared)(u:Value),Yj s r ⟨[u],[]⟩ [(x,u)]) /\
    (∀fw:Heap,j.In fw->fw.Ns mainGlobals mg->(∀PT∈i,fw.BuiltinsAt mg PT)->(∃o,fw.get? Zn=some o)->FnOk l.prog w j mg fw CX0 k m r [x] sp)/\∀(H:Hp)(a:Addr)(ns:ew),SqL j H a (ns.map V.int)->(∀PT∈i,H PT=some (.tbl #[]))->sp [.ref a] H (λv _=>v=.bl true) λ_ _ _=>False) :
  W.WalkO q loose XP YP l.row.toRowW d [] (λf vs=>PySem.call f vs):=by
 refine Att.zu hn y λw s₀ s₁ mg mb m o pm cd doc a vs ns G Y ho hd hcd hmg hobj hints hlen hg=>?_;let⟨j,i,r,sp,I,J,L,C,hb,D,B⟩:=F w mg m _ (E w _ Y) G.T.g hmg;have t:∀PT∈i,s₁.heap.BuiltinsAt mg PT:=λPT hP=>by
  let⟨p,O,b1,b2,b3,b4,b5,b6⟩:=G.T.bmain;have M:p≠PT:=λz=>by rw[z,C PT hP]at b3;cases b3;cases b4
  have N:p≠mainGlobals:=λz=>by
   let⟨o,es,ep,e,hd,_⟩:=G.T.g;rw[z,e]at b3;cases b3;rw[hd]at b6;cases b6
  exact⟨p,O,b1,b2,N,M,b3,b4,b5,b6⟩
 let⟨P,hm,_⟩:=(G.T.seer hi).mods;exact Gh I J L C G.T.g G.T.b G.T.builtins G.T.nolimit t hg hobj hints (Nat.le_trans hlen A) hr (λfw h1 h2 h3 h4=>D fw h1 h2 h3 (let⟨o,_,_,e,_⟩:=h4 _ _ hm;⟨o,e⟩)) hb λH hS hT=>B H a ns hS hT
def Mh{K:W.Frag}{b:List Addr}{h:Heap}(X:W.Frag.In ((b.map λa=>(a,W.tabObj #[]))++K) h)(n:∀PT∈b,K.lookup PT=none):K.In h/\∀PT∈b,h.get? PT=some (W.tabObj #[]):=by
 have d:∀(b:List Addr)(a:Addr),a∉b->List.lookup a ((b.map λa=>(a,W.tabObj #[]))++K)=K.lookup a:=λb a h=>by
  induction b with
  |nil=>rfl
  |cons p b ih =>
   rw[List.map_cons,List.cons_append,List.lookup_cons,show(a==p)=false by simpa using λz:a=p=>h (by rw[z];exact List.mem_cons_self)];exact ih λz=>h (List.mem_cons_of_mem _ z)
 have c:∀(b:List Addr)(a:Addr),a∈b->List.lookup a ((b.map λa=>(a,W.tabObj #[]))++K)=some (W.tabObj #[]):=λb a h=>by
  induction b with
  |nil=>cases h
  |cons p b ih =>
   rw[List.map_cons,List.cons_append,List.lookup_cons];by_cases z:a=p
   ·rw[z,ei]
   ·rw[show(a==p)=false by simpa using z];exact ih ((List.mem_cons.mp h).resolve_left z)
 refine⟨λa o e=>X a o ?_,λPT hP=>X PT _ (c b PT hP)⟩;rw[d b a λz=>by rw[n a z]at e;cases e];exact e
end L2
set_option autoImplicit true
namespace Wr
open L2 Dl
variable [Gr] {X:Cx}{pos:Pos}{a b:Zt}{ta tb:DE}
end Wr
namespace Dl
open L2
structure Spo(ok:Addr->Prop)(H H':Hp):Prop where
 keep:∀b o,H b=some o->¬ok b->H' b=some o
 tup:∀b xs,H b=some (.tup xs)->H' b=some (.tup xs)
 al:∀b,H b≠none->H' b≠none
 fx:∀b o,Fxd o->H b=some o->H' b=some o
def LiI(ok:Addr->Prop)(H:Hp)(k:Nat)(a:Addr):Prop:=ok a/\∃ns:ew,H a=some (.lst (ns.map V.int))/\⇑ns<=k
inductive Part(ok:Addr->Prop)(H:Hp)(k:Nat):V->Prop
 |int (i:Int):Part ok H k (.int i)
 |lst {a:Addr} (h:LiI ok H k a):Part ok H k (.ref a)
 |two {t a b:Addr} (h:H t=some (.tup [.ref a,.ref b])) (ha:LiI ok H k a) (hb:LiI ok H k b):Part ok H k (.ref t)
section
variable [Gr] {p:Pn}{H0 H:Hp}{own:Addr->Option Nat}{σ:L2.St}{ρ:List Sl}
def EnvD.many{r:Nat}{H':Hp}(E:EnvD p H0 own σ H ρ)(S:Spo (λa=>own a=some r) H H'):EnvD p H0 own σ H' (forget r ρ):=by
 have k:=S.tup;refine⟨λb o e n=>?_,p.mono H _ E.pen λb o f e=>?_,λa q e=>?_,λj s e=>?_,by unfold forget;rw[List.length_map];exact E.len,E.gr⟩
 ·exact S.keep b o (E.k0 b o e n) λz=>by
   rw[(E.ow b r z).1]at e;cases e
 ·exact f.elim (λf=>S.keep b o e λz=>(E.ow b r z).2.1 f) λc=>S.fx b o c e
 ·let⟨x,y,z⟩:=E.ow a q e;exact⟨x,y,S.al a z⟩
 ·unfold forget at e;rw[List.getElem?_map]at e;cases hr:ρ[j]? with
  |none=>rw[hr]at e;cases e
  |some s0 =>
   rw[hr]at e;have e:=Option.some.inj e;have q:=E.slot j s0 hr;cases s0 with
   |any=>simp only[Sl.region]at e;subst e;trivial
   |im d =>
    have e:Sl.im d=s:=e;subst e;exact let⟨v,a,b⟩:=q;⟨v,a,b.mono (λ_ o=>o) (λ_ _ o=>o.elim) k⟩
   |sh d =>
    have e:Sl.sh d=s:=e;subst e;exact let⟨v,a,b⟩:=q;⟨v,a,b.mono (λ_ o=>o) (λc o n e=>S.keep _ _ e (by rw[n.2];exact λz=>nomatch z)) k⟩
   |sn d =>
    have e:Sl.sn d=s:=e;subst e;exact let⟨v,a,b⟩:=q;⟨v,a,b.mono (λ_ o=>o) (λc o n e=>S.keep _ _ e (by rw[n.2.2];exact λz=>nomatch z)) k⟩
   |dw r' d =>
    by_cases i:r'=r
    ·subst i;have e:(if(some r':Option Nat)=some r' then Sl.any else Sl.dw r' d)=s:=e;rw[ed rfl]at e;subst e;trivial
    ·have e:(if(some r':Option Nat)=some r then Sl.any else Sl.dw r' d)=s:=e;rw[ee ↑i]at e;subst e;exact let⟨v,a,b⟩:=q;⟨v,a,b.mono (λ_ o=>o) (λc o n e=>S.keep _ _ e (by rw[n];simpa using i)) k⟩
   |pen C =>
    have e:Sl.pen C=s:=e;subst e;exact q
   |scr v b =>
    have e:Sl.scr v b=s:=e;subst e;exact q
   |sp r' b ds =>
    by_cases i:r'=r
    ·subst i;have e:(if(some r':Option Nat)=some r' then Sl.any else Sl.sp r' b ds)=s:=e;rw[ed rfl]at e;subst e;trivial
    ·have e:(if(some r':Option Nat)=some r then Sl.any else Sl.sp r' b ds)=s:=e;rw[ee ↑i]at e;subst e;exact let⟨l',vs,a,o,h,y⟩:=q;⟨l',vs,a,o,S.keep _ _ h (by rw[o];simpa using i),y.mono (λ_ o=>o) (λc o n e=>S.keep _ _ e (by rw[n.2.2];exact λz=>nomatch z)) k⟩
   |rw r' L =>
    by_cases i:r'=r
    ·subst i;have e:(if(some r':Option Nat)=some r' then Sl.any else Sl.rw r' L)=s:=e;rw[ed rfl]at e;subst e;trivial
    ·have e:(if(some r':Option Nat)=some r then Sl.any else Sl.rw r' L)=s:=e;rw[ee ↑i]at e;subst e;exact let⟨st,as,a,b⟩:=q;⟨st,as,a,b.mono (λc o n e=>⟨n,S.keep _ _ e (by rw[n];simpa using i)⟩) k⟩
   |tw r' L =>
    by_cases i:r'=r
    ·subst i;have e:(if(some r':Option Nat)=some r' then Sl.any else Sl.tw r' L)=s:=e;rw[ed rfl]at e;subst e;trivial
    ·have e:(if(some r':Option Nat)=some r then Sl.any else Sl.tw r' L)=s:=e;rw[ee ↑i]at e;subst e;exact let⟨st,as,a,b⟩:=q;⟨st,as,a,b.mono (λc o n e=>⟨n,S.keep _ _ e (by rw[n];simpa using i)⟩) k⟩
   |gn r' g =>
    by_cases i:r'=r
    ·subst i;have e:(if(some r':Option Nat)=some r' then Sl.any else Sl.gn r' g)=s:=e;rw[ed rfl]at e;subst e;trivial
    ·have e:(if(some r':Option Nat)=some r then Sl.any else Sl.gn r' g)=s:=e;rw[ee ↑i]at e;subst e;exact let⟨v,a,b⟩:=q;⟨v,a,g.mono (λc o n e=>⟨n,S.keep _ _ e (by rw[n];simpa using i)⟩) (λc o n e _ _=>⟨n,S.keep _ _ e (by rw[n.2];exact λz=>nomatch z)⟩) k b⟩
end
end Dl
namespace Wr
open L2 Dl
variable [Gr] {X:Cx}{pos p1 p2 p3:Pos}
end Wr
namespace Dl
open L2
variable{X:Cx}
inductive FD where
 |nb (d:D)
 |ls (l:Addr) (ds:eI)
abbrev FS:=List (Str×FD)
def Cg(ok nb:Addr->Prop)(H:Hp)(v:V):FD->Prop
 |.nb d=>Rp nb H v d
 |.ls l ds=>v=.ref l/\ok l/\∃ws,H l=some (.lst ws)/\Rps nb H ws ds
inductive FsOk(ok nb:Addr->Prop)(H:Hp):List (Str×V)->FS->Prop
 |nil:FsOk ok nb H [] []
 |cons {f:Str}{v:V}{d:FD}{fv:List (Str×V)}{fs:FS} (h:Cg ok nb H v d) (t:FsOk ok nb H fv fs):FsOk ok nb H ((f,v)::fv) ((f,d)::fs)
def jj:FS->List Addr
 |[]=>[]
 |(_,.nb _)::r=>jj r
 |(_,.ls l _)::r=>l::jj r
def adr(x:Addr)(a:FS):List Addr:=x::jj a
def eO(f:Str)(d:FD):FS->FS
 |[]=>[(f,d)]
 |(g,y)::r=>if g=f then(g,d)::r else(g,y)::eO f d r
def NT(o:HO):Prop:=(∀xs,o≠.tup xs)/\¬Fxd o
def rO{vs:List V}:NT (.lst vs):=⟨(λxs z=>nomatch z),(λ⟨_,_,z⟩=>nomatch z)⟩
section
variable{ok ok' nb nb':Addr->Prop}{H H':Hp}
mutual
theorem Rp.nt(f:∀a o,nb a->H a=some o->NT o->nb' a/\H' a=some o)(t:∀a xs,H a=some (.tup xs)->H' a=some (.tup xs)):∀{v:V}{d:D},Rp nb H v d->Rp nb' H' v d
 |_,_,.non=>.non
 |_,_,.bl b=>.bl b
 |_,_,.int i=>.int i
 |_,_,.str x=>.str x
 |_,_,.lst o h r=>.lst (f _ _ o h rO).1 (f _ _ o h rO).2 (Rps.nt f t r)
 |_,_,.tup h r=>.tup (t _ _ h) (Rps.nt f t r)
 |_,_,.dct o h r=>.dct (f _ _ o h ⟨(λxs z=>nomatch z),(λ⟨_,_,z⟩=>nomatch z)⟩).1 (f _ _ o h ⟨(λxs z=>nomatch z),(λ⟨_,_,z⟩=>nomatch z)⟩).2 (Rkv.nt f t r)
theorem Rps.nt(f:∀a o,nb a->H a=some o->NT o->nb' a/\H' a=some o)(t:∀a xs,H a=some (.tup xs)->H' a=some (.tup xs)):∀{v:List V}{d:eI},Rps nb H v d->Rps nb' H' v d
 |_,_,.nil=>.nil
 |_,_,.cons h r=>.cons (Rp.nt f t h) (Rps.nt f t r)
theorem Rkv.nt(f:∀a o,nb a->H a=some o->NT o->nb' a/\H' a=some o)(t:∀a xs,H a=some (.tup xs)->H' a=some (.tup xs)):∀{v:List (Key×V)}{d:List (D×D)},Rkv nb H v d->Rkv nb' H' v d
 |_,_,.nil=>.nil
 |_,_,.cons h r=>.cons (Rp.nt f t h) (Rkv.nt f t r)
end
theorem Cg.go{v:V}:∀{d:FD},Cg ok nb H v d->(∀l ws,ok l->H l=some (.lst ws)->ok' l/\H' l=some (.lst ws))->(∀a o,nb a->H a=some o->NT o->nb' a/\H' a=some o)->(∀a xs,H a=some (.tup xs)->H' a=some (.tup xs))->Cg ok' nb' H' v d
 |.nb d,h,_,b,t=>Rp.nt b t h
 |.ls l ds,⟨e,o,ws,hl,r⟩,a,b,t=>⟨e,(a l ws o hl).1,ws,(a l ws o hl).2,Rps.nt b t r⟩
def FsOk.go{d:List (Str×V)}{c:FS}(h:FsOk ok nb H d c)(a:∀l ws,ok l->H l=some (.lst ws)->ok' l/\H' l=some (.lst ws))(b:∀a o,nb a->H a=some o->NT o->nb' a/\H' a=some o)(t:∀a xs,H a=some (.tup xs)->H' a=some (.tup xs)):FsOk ok' nb' H' d c:=by
 induction h with
 |nil=>exact .nil
 |cons h _ e=>exact .cons (h.go a b t) e
def FsOk.get{b:List (Str×V)}{a:FS}(h:FsOk ok nb H b a){f:Str}{d:FD}(e:a.lookup f=some d):∃v,b.lookup f=some v/\Cg ok nb H v d:=by
 induction h with
 |nil=>cases e
 |cons h _ ih =>
  rename_i g v d' b a _;by_cases z:(f==g)=true
  ·simp only[List.lookup,z]at e ⊢;cases e;exact⟨v,rfl,h⟩
  ·simp only[List.lookup,z]at e ⊢;exact ih e
def FsOk.not{b:List (Str×V)}{a:FS}(h:FsOk ok nb H b a){f:Str}(e:a.lookup f=none):b.lookup f=none:=by
 induction h with
 |nil=>rfl
 |cons h _ ih =>
  rename_i g v d' b a _;by_cases z:(f==g)=true
  ·simp only[List.lookup,z]at e;cases e
  ·simp only[List.lookup,z]at e ⊢;exact ih e
def FsOk.length{b:List (Str×V)}{a:FS}(h:FsOk ok nb H b a):⇑b=⇑a:=by
 induction h with
 |nil=>rfl
 |cons h _ c=>rw[List.length_cons,List.length_cons,c]
def FsOk.put{b:List (Str×V)}{a:FS}(h:FsOk ok nb H b a){f:Str}{v:V}{d:FD}(q:Cg ok nb H v d):FsOk ok nb H (iM f v b) (eO f d a):=by
 induction h with
 |nil=>exact .cons q .nil
 |cons h t ih =>
  rename_i g w e b a;unfold iM eO;by_cases z:g=f
  ·rw[ed z,ed z];exact .cons q t
  ·rw[ee z,ee z];exact .cons h ih
def FsOk.Vj{c:List (Str×V)}{a:FS}(h:FsOk ok nb H c a):∀l∈jj a,ok l/\∃ws,H l=some (.lst ws):=by
 induction h with
 |nil=>exact λl hl=>(nomatch hl)
 |cons h t ih =>
  rename_i g w e c a;cases e with
  |nb d=>exact ih
  |ls l ds =>
   intro b hb;rcases List.mem_cons.mp hb with z|z
   ·subst z;let⟨_,o,ws,e,_⟩:=h;exact⟨o,ws,e⟩
   ·exact ih b z
def FsOk.only{f:List (Str×V)}{b:FS}(h:FsOk ok nb H f b):FsOk (λa=>ok a/\a∈jj b) nb H f b:=by
 have c:∀S:List Addr,(∀a∈jj b,a∈S)->FsOk (λa=>ok a/\a∈S) nb H f b:=by
  intro S;induction h with
  |nil=>exact λ_=>.nil
  |cons h t ih =>
   rename_i g w e f b;cases e with
   |nb d=>exact λs=>.cons h (ih s)
   |ls l ds =>
    intro s;let⟨e,o,r⟩:=h;exact .cons ⟨e,⟨o,s l List.mem_cons_self⟩,r⟩ (ih λa ha=>s a (List.mem_cons_of_mem _ ha))
 exact c _ λ_ h=>h
def FsOk.wr{j:List (Str×V)}{c:FS}{f:Str}{l:Addr}{ds ds':eI}{ws':List V}(h:FsOk ok nb H j c)(e:c.lookup f=some (.ls l ds))(i:jj c=[l])(hl:ok l)(b:∀a o,nb a->H a=some o->NT o->nb a/\H' a=some o)(t:∀a xs,H a=some (.tup xs)->H' a=some (.tup xs))(u:H' l=some (.lst ws'))(r:Rps nb H' ws' ds'):FsOk ok nb H' j (eO f (.ls l ds') c):=by
 induction h with
 |nil=>cases e
 |cons h tl ih =>
  rename_i g w d j c;unfold eO;by_cases z:g=f
  ·have k:(f==g)=true:=beq_iff_eq.mpr z.symm;simp only[List.lookup,k]at e;cases e;rw[ed z];let⟨p,_,_⟩:=h;have none:jj c=[]:=by
    have:l::jj c=[l]:=i;injection this
   exact .cons ⟨p,hl,ws',u,r⟩ (tl.only.go (ok':=ok) (λa ws o _=>by rw[none]at o;exact nomatch o.2) b t)
  ·have k:(f==g)=false:=beq_eq_false_iff_ne.mpr λy=>z y.symm;simp only[List.lookup,k]at e;rw[ee z];cases d with
   |nb d=>exact .cons (Rp.nt b t h) (ih e i)
   |ls l2 ds2 =>
    have:l2::jj c=[l]:=i;injection this with e1 e2
    have hm:∀{c:FS},c.lookup f=some (.ls l ds)->l∈jj c:=by
     intro c;induction c with
     |nil=>exact λq=>nomatch q
     |cons y r ih2 =>
      let⟨s,n⟩:=y;intro q;by_cases m:(f==s)=true
      ·simp only[List.lookup,m]at q;cases q;exact List.mem_cons_self
      ·simp only[List.lookup,m]at q;cases n with
       |nb d=>exact ih2 q
       |ls x v=>exact List.mem_cons_of_mem _ (ih2 q)
    have:=hm e;rw[e2]at this;exact nomatch this
end
def g8(C:eD)(H:Hp)(x:Addr)(a:List (Str×V)):Prop:=match C with
 |some C=>∃dx,H x=some (.ins C dx a)
 |none=>H x=some (.dK (a.map λp=>(Sum.inr p.1,p.2)))
def g8.is{C:eD}{H:Hp}{x:Addr}{a:List (Str×V)}(h:g8 C H x a):∃o,H x=some o/\NT o/\∀vs,o≠.lst vs:=by
 cases C with
 |some C=>exact let⟨dx,e⟩:=h;⟨_,e,⟨(λxs z=>nomatch z),(λ⟨_,_,z⟩=>nomatch z)⟩,(λvs z=>nomatch z)⟩
 |none=>exact⟨_,h,⟨(λxs z=>nomatch z),(λ⟨_,_,z⟩=>nomatch z)⟩,(λvs z=>nomatch z)⟩
def g8.go{C:eD}{H H':Hp}{x:Addr}{a:List (Str×V)}(h:g8 C H x a)(e:∀o,H x=some o->H' x=some o):g8 C H' x a:=by
 cases C with
 |some C=>exact let⟨dx,q⟩:=h;⟨dx,e _ q⟩
 |none=>exact e _ h
def bJ(C:eD)(x:Addr)(fs:FS):GS where
 Φ:=λok nb H v=>v=.ref x/\ok x/\∃fv,g8 C H x fv/\FsOk ok nb H fv fs
 mono:=λa b t ⟨e,o,fv,h,f⟩=>by
  let⟨u,hu,_⟩:=h.is;exact⟨e,(a x u o hu).1,fv,h.go λu' hu'=>(a x u' o hu').2,f.go (λl ws o h=>a l _ o h) (λc u n h q=>b c u n h q.1 q.2) t⟩
def shG(C:eD)(x:Addr)(fs:FS):GS where
 Φ:=λok nb H v=>v=.ref x/\nb x/\∃fv,g8 C H x fv/\FsOk nb nb H fv fs
 mono:=λa b t ⟨e,o,fv,h,f⟩=>by
  let⟨u,hu,n,_⟩:=h.is;exact⟨e,(b x u o hu n.1 n.2).1,fv,h.go λu' hu'=>(b x u' o hu' (by rw[hu]at hu';cases hu';exact n.1) (by rw[hu]at hu';cases hu';exact n.2)).2,f.go (λl ws o h=>b l _ o h rO.1 rO.2) (λc u n h q=>b c u n h q.1 q.2) t⟩
section
variable{C:eD}{x:Addr}{fs:FS}{ok nb:Addr->Prop}{H:Hp}{v:V}
def tO(h:(bJ C x fs).Φ ok nb H v):(bJ C x fs).Φ (λa=>ok a/\a∈adr x fs) nb H v:=by
 let⟨e,o,c,b,f⟩:=h;exact⟨e,⟨o,List.mem_cons_self⟩,c,b,f.only.go (λl ws o h=>⟨⟨o.1,List.mem_cons_of_mem _ o.2⟩,h⟩) (λa o n h _=>⟨n,h⟩) λ_ _ e=>e⟩
def oW(h:(bJ C x fs).Φ ok nb H v):∀a∈adr x fs,ok a/\∃o,H a=some o/\NT o:=by
 let⟨e,o,c,b,f⟩:=h;intro a ha;rcases List.mem_cons.mp ha with z|z
 ·subst z;let⟨u,hu,n,_⟩:=b.is;exact⟨o,u,hu,n⟩
 ·let⟨o,d,e⟩:=f.Vj a z;exact⟨o,_,e,rO⟩
end
def zx(ρ:List Sl)(i:Nat)(C:eD)(a:FS):Prop:=∃r x,ρ[i]?=some (.gn r (bJ C x a))\/ρ[i]?=some (.gn r (shG C x a))
section
variable [Gr] {p:Pn}{H0 H:Hp}{own:Addr->Option Nat}{σ:L2.St}{ρ:List Sl}{i:Nat}{C:eD}{fs:FS}
def EnvD.box(E:EnvD p H0 own σ H ρ)(h:zx ρ i C fs):∃x fv,σ[i]?=some (some (.ref x))/\g8 C H x fv/\FsOk (λa=>¬p.fp a) (λa=>¬p.fp a/\own a=none) H fv fs:=by
 obtain⟨r,x,h|h⟩:=h
 ·let⟨v,hv,rfl,o,fv,b,f⟩:=E.slot i _ h;exact⟨x,fv,hv,b,f.go (λl ws o h=>⟨(E.ow l r o).2.1,h⟩) (λ_ _ n h _=>⟨n,h⟩) λ_ _ e=>e⟩
 ·let⟨v,hv,rfl,o,fv,b,f⟩:=E.slot i _ h;exact⟨x,fv,hv,b,f.go (λl ws o h=>⟨o.1,h⟩) (λ_ _ n h _=>⟨n,h⟩) λ_ _ e=>e⟩
def QG(C:eD)(i:Nat)(f:Str):TE:=λσ H Q=>∃x fv v,σ[i]?=some (some (.ref x))/\g8 C H x fv/\fv.lookup f=some v/\Q v H
def tFd(C:eD)(i:Nat)(f:Str):DE:=λρ P=>∃fs fd,zx ρ i C fs/\fs.lookup f=some fd/\match fd with
 |.nb d=>P (norm .shr d) d
 |.ls _ ds=>P .wk (.list ds)
variable{e:Zt}{f:Str}
theorem jK(h:PE X e (QG C i f)):Wr.WD X e (tFd C i f):=⟨PE.wk h (by
 rintro σ H Q ⟨p,H0,own,ρ,P,E,⟨fs,c,hb,hl,t⟩,q⟩;let⟨x,j,hv,b,g⟩:=E.box hb;let⟨v,m,o⟩:=g.get hl;refine⟨x,j,v,hv,b,m,?_⟩;cases c with
 |nb d=>exact q _ _ _ _ t E.at (aR (k:=.shr) o)
 |ls l ds =>
  let⟨rfl,r,u,hl,s⟩:=o;exact q _ _ _ _ t E.at (.lst r hl (s.mono (λa n=>n.1) (λ_ _ _ e=>e) λ_ _ e=>e)))⟩
end
def gj{X:Cx}{C:Addr}{i:Nat}{o:Zt}{f:Str}{pos:Pos}(cl:Cls X.K C)(e:fD X.K C f)(h:Wr.WV X o i)(hb:Yd o f X.env (Zv o X.env)=Zv o X.env:=by rfl):PE X (.Attribute o f pos) (QG (some C) i f):=PE.wk (Ro h.h hb) (by
 rintro σ H Q ⟨x,b,v,hv,⟨a,d⟩,c,q⟩;exact⟨.ref x,hv,x,C,a,b,v,rfl,d,cl,e,c,q⟩)
def Bb[Gr]{t:DE}{σ:L2.St}{H:Hp}{Q e:VK}(h:bI t σ H Q)(w:∀v H',Q v H'->e v H'):bI t σ H e :=
 let⟨p,H0,own,ρ,P,E,x,q⟩:=h;⟨p,H0,own,ρ,P,E,x,λk d v H' a b c=>w v H' (q k d v H' a b c)⟩
def Mv(C:eD)(i:Nat)(f:Str)(a:TE):TS:=λD σ H=>a σ H λy H1=>∃x fv,σ[i]?=some (some (.ref x))/\g8 C H1 x fv/\⇑fv<900/\(C=none->(fv.map (·.1)).Nodup)/\∀o',g8 C (upd H1 x o') x (iM f y fv)->D.nx σ (upd H1 x o')
def jA[Gr]{X:Cx}{C:Addr}{i:Nat}{o e:Zt}{f:Str}{pos a:Pos}{c:DE}(cl:Cls X.K C)(j:fD X.K C f)(hv:Wr.WV X o i)(he:Wr.WD X e c)(hs:ZQ e (some (.Attribute o f a)) pos.line X.env=pure false:=by rfl):PS X (.Assign [.Attribute o f a] e pos) (Mv (some C) i f (bI c)):=PS.wk' (Jg hv.h he.h hs) (by
 rintro D σ H h;refine Bb h ?_;rintro y k ⟨x,d,hv,⟨b,g⟩,hl,_,q⟩;exact⟨.ref x,hv,x,C,b,d,rfl,g,cl,j,(),q _ ⟨b,aB⟩⟩)
def Uw:TE:=λ_ H Q=>∀l,H l=none->Q (.ref l) (upd H l (.lst []))
def Jc{X:Cx}{C:Addr}{i:Nat}{o:Zt}{f:Str}{pos a c:Pos}(cl:Cls X.K C)(g:fD X.K C f)(hv:Wr.WV X o i)(hs:ZQ (.List [] c) (some (.Attribute o f a)) pos.line X.env=pure false:=by rfl):PS X (.Assign [.Attribute o f a] (.List [] c) pos) (Mv (some C) i f Uw):=PS.wk' (Jg hv.h (vC dZ) hs) (by
 rintro D σ H h;refine⟨∅,λl hl=>?_⟩;let⟨x,d,hv,⟨b,e⟩,hn,_,q⟩:=h l hl;exact⟨.ref x,hv,x,C,b,d,rfl,e,cl,g,(),q _ ⟨b,aB⟩⟩)
section
variable [Gr] {p:Pn}{H0 H H1:Hp}{own own':Addr->Option Nat}{σ:L2.St}{ρ:List Sl}{i:Nat}{C:eD}{fs:FS}
def EnvD.Ca(E:EnvD p H0 own σ H ρ)(A:At p H0 own H H1)(f:∀a o,H a=some o->own' a=own a)(new:∀a q,H a=none->own' a=some q->H1 a≠none):EnvD p H0 own' σ H1 ρ:=by
 have m:=jk E.at A.kp;refine⟨λb o e n=>A.kp b o (E.k0 b o e n) n,A.pen,λa q e=>?_,λj s e=>?_,E.len,E.gr⟩
 ·cases h:H a with
  |some o =>
   rw[f a o h]at e;let⟨x,y,z⟩:=E.ow a q e;refine⟨x,y,by rw[A.kp a o h y];exact λz=>nomatch z⟩
  |none=>exact⟨E.at.h0 h,E.at.nfb h,new a q h e⟩
 ·have q:=E.slot j s e;cases s with
  |any=>trivial
  |im d=>exact let⟨v,a,b⟩:=q;⟨v,a,b.mono (λ_ o=>o) (λ_ _ o=>o.elim) m⟩
  |sh d=>exact let⟨v,a,b⟩:=q;⟨v,a,b.bO (λc o n h=>⟨⟨n.1,by rw[f c o h];exact n.2⟩,A.kp c o h n.1⟩) m⟩
  |sn d=>exact let⟨v,a,b⟩:=q;⟨v,a,b.bO (λc o n h=>⟨⟨n.1,n.2.1,by rw[f c o h];exact n.2.2⟩,A.kp c o h n.2.1⟩) m⟩
  |dw k d=>exact let⟨v,a,b⟩:=q;⟨v,a,b.bO (λc o n h=>⟨by rw[f c o h];exact n,A.kp c o h (E.ow c k n).2.1⟩) m⟩
  |pen C=>exact q
  |rw k L=>exact let⟨st,as,a,b⟩:=q;⟨st,as,a,b.mono (λc o n h=>⟨by rw[f c o h];exact n,A.kp c o h (E.ow c k n).2.1⟩) m⟩
  |tw k L=>exact let⟨st,as,a,b⟩:=q;⟨st,as,a,b.mono (λc o n h=>⟨by rw[f c o h];exact n,A.kp c o h (E.ow c k n).2.1⟩) m⟩
  |scr v b=>exact q
  |sp k b ds=>exact let⟨l,vs,a,o,h,z⟩:=q;⟨l,vs,a,by rw[f l _ h];exact o,A.kp l _ h (E.ow l k o).2.1,z.bO (λc u n e=>⟨⟨n.1,n.2.1,by rw[f c u e];exact n.2.2⟩,A.kp c u e n.2.1⟩) m⟩
  |gn k g=>exact let⟨v,a,b⟩:=q;⟨v,a,g.mono (λc o n h=>⟨by rw[f c o h];exact n,A.kp c o h (E.ow c k n).2.1⟩) (λc o n h _ _=>⟨⟨n.1,by rw[f c o h];exact n.2⟩,A.kp c o h n.1⟩) m b⟩
def EnvD.fld{r:Nat}{x:Addr}{f:Str}{g:List (Str×V)}{v:V}{d:FD}{o':HO}(E:EnvD p H0 own σ H ρ)(hv:σ[i]?=some (some (.ref x)))(c:own x=some r)(s:g8 C H x g)(q:FsOk (λa=>own a=some r) (λa=>¬p.fp a/\own a=none) H g fs)(hd:Cg (λa=>own a=some r) (λa=>¬p.fp a/\own a=none) H v d)(hb:g8 C (upd H x o') x (iM f v g)) :
  EnvD p H0 own σ (upd H x o') ((forget r ρ).set i (.gn r (bJ C x (eO f d fs))))/\FrS p own H own (upd H x o'):=by
 let⟨u,hu,b,t⟩:=s.is;have m:=E.write (o':=o') c hu b.1 b.2;have k:∀a xs,H a=some (.tup xs)->upd H x o' a=some (.tup xs):=λa xs e=>by
  rw[ao];exact e;rintro rfl;rw[hu]at e;exact b.1 xs (Option.some.inj e)
 have h:∀l ws,own l=some r->H l=some (.lst ws)->own l=some r/\upd H x o' l=some (.lst ws):=λl ws o e=>⟨o,by rw[ao];exact e;rintro rfl;rw[hu]at e;exact t ws (Option.some.inj e)⟩
 have j:∀a o,(¬p.fp a/\own a=none)->H a=some o->NT o->(¬p.fp a/\own a=none)/\upd H x o' a=some o:=λa o n e _=>⟨n,by rw[ao];exact e;rintro rfl;rw[c]at n;cases n.2⟩
 exact⟨m.put (i:=i) (v:=.ref x) ⟨.ref x,hv,rfl,c,_,hb,(q.go h j k).put (hd.go h j k)⟩,d8 c hu b.1⟩
def Xa(C:eD)(i:Nat)(f:Str)(a:DE):DS:=λP ρ=>a ρ λk d=>∃r x fs,ρ[i]?=some (.gn r (bJ C x fs))/\(norm k d).le .shr=true/\⇑fs<900/\(C=none->(fs.map (·.1)).Nodup)/\P.nx ((forget r ρ).set i (.gn r (bJ C x (eO f (.nb d) fs))))
def FsOk.names{ok nb:Addr->Prop}{H:Hp}{b:List (Str×V)}{a:FS}(h:FsOk ok nb H b a):b.map (·.1)=a.map (·.1):=by
 induction h with
 |nil=>rfl
 |cons h _ c=>rw[List.map_cons,List.map_cons,c]
section
variable [Gr] {X:Cx}{st:ZF}{C:eD}{i:Nat}{f:Str}{te:DE}
def sV(h:PS X st (Mv C i f (bI te))):Wr.WDS X st (Xa C i f te):=⟨PS.wk' h (by
 rintro Q σ H ⟨p,H0,own,ρ,P,E,t,w⟩;refine⟨p,H0,own,ρ,_,E,t,λk d v H1 h A rv=>?_⟩;let⟨r,x,o,hr,hk,hl,m,hn⟩:=h;have b:=E.go A.kp A.pen;let⟨_,hv,rfl,n,l,c,a⟩:=b.slot i _ hr;refine⟨x,l,hv,c,by rw[⇑a];exact hl,λe=>by rw[a.names];exact m e,λo' hb=>?_⟩;let⟨g,j⟩:=b.fld (d:=.nb d) hv n c a (eN A hk (aR rv)) hb;exact w.nx own σ _ _ g (A.frs.trans j) hn)⟩
def Wa(C:eD)(i:Nat)(f:Str):DS:=λP ρ=>∃r x fs,ρ[i]?=some (.gn r (bJ C x fs))/\⇑fs<900/\(C=none->(fs.map (·.1)).Nodup)/\∀l,l∉adr x fs->P.nx ((forget r ρ).set i (.gn r (bJ C x (eO f (.ls l []) fs))))
def Oz(h:PS X st (Mv C i f Uw)):Wr.WDS X st (Wa C i f):=⟨PS.wk' h (by
 rintro Q σ H ⟨p,H0,own,ρ,P,E,⟨r,x,O,hr,hl,K,hn⟩,w⟩ l c;let⟨t,J,S⟩:=E.at.new c (.lst []);have A:At p H0 own H (upd H l (.lst [])):=E.at.go t J;have R:own l=none:=E.at.Ah c
 let own':Addr->Option Nat:=λa=>if a=l then some r else own a
 have L:own' l=some r:=ed rfl;have v:∀a o,H a=some o->own' a=own a:=λa o e=>ee (aA e c);have m:EnvD p H0 own' σ (upd H l (.lst [])) ρ:=E.Ca A v λa q e e2=>by
  by_cases z:a=l
  ·rw[z,aB];exact λz=>nomatch z
  ·exact ef e (E.ow a q (by rw[←e2];exact(ee z).symm)).2.2
 have B:FrS p own H own' (upd H l (.lst [])):=⟨λb o e n z=>⟨t b o e n,by rw[v b o e];exact z⟩,A.tups⟩
 let⟨_,I,rfl,N,G,k,j⟩:=E.slot i _ hr;let⟨_,hv,e,M,F,s,g⟩:=m.slot i _ hr;subst e;refine⟨x,F,hv,s,by rw[⇑g];exact hl,λe=>by rw[g.names];exact K e,λo' hb=>?_⟩;let⟨y,D⟩:=m.fld (d:=.ls l []) hv M s g ⟨rfl,L,[],aB,.nil⟩ hb;refine w.nx own' σ _ _ y (B.trans D) (hn l λhm=>?_);rcases List.mem_cons.mp hm with z|z
 ·subst z;let⟨u,hu,_⟩:=k.is;rw[c]at hu;cases hu
 ·let⟨_,T,hu⟩:=j.Vj l z;rw[c]at hu;cases hu)⟩
def Wb(C:eD)(i:Nat)(f:Str)(te:DE):DS:=λP ρ=>∃r x fs l ds,ρ[i]?=some (.gn r (bJ C x fs))/\fs.lookup f=some (.ls l ds)/\jj fs=[l]/\te ρ λk d=>(norm k d).le .shr=true/\⇑ds<1000/\P.nx ((forget r ρ).set i (.gn r (bJ C x (eO f (.ls l (ds++[d])) fs))))
end
def EnvD.W8{r:Nat}{x l:Addr}{f:Str}{g:List (Str×V)}{ds ds':eI}{m ws':List V}(E:EnvD p H0 own σ H ρ)(hv:σ[i]?=some (some (.ref x)))(w:own x=some r)(h:g8 C H x g)(s:FsOk (λa=>own a=some r) (λa=>¬p.fp a/\own a=none) H g fs)(hl:fs.lookup f=some (.ls l ds))(d:jj fs=[l])(c:own l=some r)(b:H l=some (.lst m))(hr:Rps (λa=>¬p.fp a/\own a=none) H ws' ds') :
  EnvD p H0 own σ (upd H l (.lst ws')) ((forget r ρ).set i (.gn r (bJ C x (eO f (.ls l ds') fs))))/\FrS p own H own (upd H l (.lst ws')):=by
 let⟨u,hu,A,t⟩:=h.is;have q:=E.write (o':=.lst ws') c b (λxs z=>nomatch z);have y:x≠l:=by rintro rfl;rw[hu]at b;exact t m (Option.some.inj b)
 have k:∀a xs,H a=some (.tup xs)->upd H l (.lst ws') a=some (.tup xs):=λa xs e=>by
  rw[ao];exact e;rintro rfl;rw[b]at e;cases e
 have j:∀a o,(¬p.fp a/\own a=none)->H a=some o->NT o->(¬p.fp a/\own a=none)/\upd H l (.lst ws') a=some o:=λa o n e _=>⟨n,by rw[ao];exact e;rintro rfl;rw[c]at n;cases n.2⟩
 exact⟨q.put (i:=i) (v:=.ref x) ⟨.ref x,hv,rfl,w,_,h.go λo e=>by rw[ao y];exact e,s.wr hl d c j k aB (Rps.nt j k hr)⟩,d8 c b λxs z=>nomatch z⟩
variable{st:ZF}{f:Str}{te:DE}
def OD(h:PS X st (pX (tBM X.K "list" kW (QG C i f) (ju (fU te lR))))):Wr.WDS X st (Wb C i f te):=⟨PS.wk' h (by
 rintro Q σ H ⟨p,H0,own,ρ,P,E,⟨r,x,fs,l,ds,hr,hl,m,t⟩,w⟩;let⟨_,hv,rfl,V,I,O,G⟩:=E.slot i _ hr;let⟨v,M,rfl,z,c,u,B⟩:=G.get hl;refine⟨x,I,_,hv,O,M,.inl ⟨rfl,c,SqL.of u⟩,p,H0,own,ρ,_,E,qL t,?_⟩;rintro ks us H1 ⟨k,d,rfl,hk,s,hn⟩ A R;let⟨y,rfl,S⟩:=iB R;have q:=E.go A.kp A.pen;have b:H1 l=some (.lst c):=A.kp l _ u (E.ow l r z).2.1;let⟨_,N,T,n,J,g,e⟩:=q.slot i _ hr;have U:=⇑B;have L:=Z9;refine⟨l,c,y,rfl,rfl,b,(),?_⟩;have o:Rps (λa=>¬p.fp a/\own a=none) H1 c ds:=cU (j:=.shr) E.at A.kp B;let⟨D,F⟩:=q.W8 (ws':=c++[y]) (ds':=ds++[d]) hv n g e hl m z b (o.snoc (eN A hk (aR S)));exact w.nx own σ _ _ D (A.frs.trans F) hn)⟩
end
structure Sub(T p:Pn):Prop where
 fp:∀a,T.fp a->p.fp a
 pi:∀H,p.PI H->T.PI H
 go:∀H H',p.PI H->Kp T H H'->T.PI H'->p.PI H'
def Sub.refl{T:Pn}:Sub T T:=⟨λ_ h=>h,λ_ h=>h,λ_ _ _ _ h=>h⟩
class Tt where
 T:Pn
instance grTt[Tt]:Gr:=⟨λp _=>Sub Tt.T p⟩
structure JEnds where
 nx:List Sl->Prop
 rt:List Sl->D->Prop
 rs:List Sl->D->Prop:=λ_ _=>False
abbrev DJ:=JEnds->List Sl->Prop
structure WishJ[Gr](p:Pn)(H0:Hp)(own:Addr->Option Nat)(H:Hp)(P:JEnds)(Q:Ends):Prop where
 nx:∀own' σ' H' ρ',EnvD p H0 own' σ' H' ρ'->FrS p own H own' H'->P.nx ρ'->Q.nx σ' H'
 rt:∀own' σ' H' ρ' d v,EnvD p H0 own' σ' H' ρ'->FrS p own H own' H'->P.rt ρ' d->Rp (λa=>own' a=some 99) H' v d->Q.rt v H'
 rs:∀own' σ' H' ρ' d v,EnvD p H0 own' σ' H' ρ'->FrS p own H own' H'->P.rs ρ' d->Rp (λa=>H0 a=none/\¬p.fp a/\own' a=none) H' v d->Q.rt v H'
def WishJ.go[Gr]{p:Pn}{H0 H H':Hp}{own own':Addr->Option Nat}{P:JEnds}{Q:Ends}(w:WishJ p H0 own H P Q)(f:FrS p own H own' H'):WishJ p H0 own' H' P Q :=
 ⟨λo s h r e g n=>w.nx o s h r e (f.trans g) n,λo s h r d v e g n y=>w.rt o s h r d v e (f.trans g) n y,λo s h r d v e g n y=>w.rs o s h r d v e (f.trans g) n y⟩
def Dm[Gr](t:DJ):TS:=λQ σ H=>∃p H0 own ρ P,EnvD p H0 own σ H ρ/\t P ρ/\WishJ p H0 own H P Q
structure WJ[Gr](X:Cx)(s:ZF)(t:DJ):Prop where
 h:PS X s (Dm t)
structure WJs[Gr](X:Cx)(s:List ZF)(t:DJ):Prop where
 h:PSs X s (Dm t)
abbrev DY:=List Sl->(List Sl->Kd->D->Prop)->Prop
def Qg[Gr](t:DY):TE:=λσ H Q=>∃p H0 own ρ P,EnvD p H0 own σ H ρ/\t ρ P/\∀own' ρ' k d v H',P ρ' k d->EnvD p H0 own' σ H' ρ'->FrS p own H own' H'->Rp (okK p H0 own' H' k) H' v d->Q v H'
abbrev DYT:=List Sl->(List Sl->Bool->Prop)->Prop
def Sd[Gr](t:DYT):TT:=λσ H Q=>∃p H0 own ρ P,EnvD p H0 own σ H ρ/\t ρ P/\∀own' ρ' b H',P ρ' b->EnvD p H0 own' σ H' ρ'->FrS p own H own' H'->Q b H'
structure WY[Gr](X:Cx)(e:Zt)(t:DY):Prop where
 h:PE X e (Qg t)
structure WYT[Gr](X:Cx)(e:Zt)(t:DYT):Prop where
 h:PT X e (Sd t)
section
variable [Gr] {X:Cx}{pos:Pos}{s:ZF}{ss a b:List ZF}{t:DS}{u u2:DJ}{te:DE}{tc:DT}{e c:Zt}{y:DY}{yt:DYT}
def jOf(t:DS):DJ:=λP ρ=>t { nx:=P.nx,rt:=λ_=>False } ρ
def fW(h:Wr.WDS X s t):WJ X s (jOf t):=⟨PS.wk' h.h (by
 rintro Q σ H ⟨p,H0,own,ρ,P,E,t,w⟩;exact⟨p,H0,own,ρ,_,E,t,⟨w.nx,λ_ _ _ n=>n.elim,λ_ _ _ _ _ _ n=>n.elim,λ_ _ _ _ _ _ n=>n.elim⟩⟩)⟩
def Vo:DJ:=λP ρ=>P.nx ρ
def uo(t u:DJ):DJ:=λP ρ=>t { nx:=u P,rt:=P.rt,rs:=P.rs } ρ
def Vn:WJs X [] Vo:=⟨PSs.wk' nA (by
 rintro Q σ H ⟨p,H0,own,ρ,P,E,t,w⟩;exact w.nx own σ H ρ E FrS.refl t)⟩
def bU(h1:WJ X s u)(h2:WJs X ss u2):WJs X (s::ss) (uo u u2):=⟨PSs.wk' (cC h1.h h2.h) (by
 rintro Q σ H ⟨p,H0,own,ρ,P,E,t,w⟩;exact⟨p,H0,own,ρ,_,E,t,⟨λo s h r e g n=>⟨p,H0,o,r,P,e,n,w.go g⟩,w.rt,w.rs⟩⟩)⟩
def yx(h1:WJ X s u):WJs X [s] u:=⟨fZ h1.h⟩
def SJ(te:DE):DJ:=λP ρ=>te ρ λk d=>((norm k d).le .new=true/\P.rt ρ d)\/(norm k d=.reg 99/\P.rt ρ d)\/((norm k d).le .snw=true/\P.rs ρ d)
def Kh(he:Wr.WD X e te):WJ X (.Return (some e) pos) (SJ te):=⟨PS.wk' (mD he.h) (by
 rintro Q σ H ⟨p,H0,own,ρ,P,E,t,w⟩;refine⟨p,H0,own,ρ,_,E,t,λk d v H' h A r=>?_⟩;have r:=aR r;rcases h with⟨hk,h⟩|⟨hk,h⟩|⟨hk,h⟩
 ·have f:=E.adopt 99 A;exact w.rt _ σ H' ρ d v f (fC A) h (oY hk A r)
 ·rw[hk]at r;exact w.rt own σ H' ρ d v (E.go A.kp A.pen) A.frs h r
 ·exact w.rs own σ H' ρ d v (E.go A.kp A.pen) A.frs h (eN A hk r))⟩
def jIf(tc:DT)(t u:DJ):DJ:=λP ρ=>tc ρ λb=>if b=true then t P ρ else u P ρ
theorem W3(hc:Wr.WDT X c tc)(ha:WJs X a u)(hb:WJs X b u2):WJ X (.If c a b pos) (jIf tc u u2):=⟨PS.wk' (xu hc.h ha.h hb.h) (by
 rintro Q σ H ⟨p,H0,own,ρ,P,E,t,w⟩;refine⟨p,H0,own,ρ,_,E,t,λb H' h A=>?_⟩;cases b with
 |true=>exact bF ⟨p,H0,own,ρ,P,E.go A.kp A.pen,↑h,w.go A.frs⟩
 |false=>exact bw ⟨p,H0,own,ρ,P,E.go A.kp A.pen,↑h,w.go A.frs⟩)⟩
def Tz(y:DY):DS:=λP ρ=>y ρ λρ' _ _=>P.nx ρ'
def Lb(he:WY X e y)(hs:ZQ e none pos.line X.env=pure false:=by rfl):Wr.WDS X (.Expr e pos) (Tz y):=⟨PS.wk' (gb he.h hs) (by
 rintro Q σ H ⟨p,H0,own,ρ,P,E,t,w⟩;exact⟨p,H0,own,ρ,_,E,t,λown' ρ' k d v H' h E' F r=>w.nx own' σ H' ρ' E' F h⟩)⟩
def stY(k:Kd)(d:D):Option Sl:=match k with
 |.imm=>some (.im d)
 |.reg r=>some (.dw r d)
 |.snw=>some (.sn d)
 |.shr=>some (.sh d)
 |_=>none
def V5(i:Nat)(y:DY):DS:=λP ρ=>y ρ λρ' k d=>∃s,stY (norm k d) d=some s/\P.nx (ρ'.set i s)
def Ei{i:Nat}{x:Str}{f:Pos}(hN:X.N.Nodup)(hi:X.N[i]?=some x)(l:Loc X.env.scope x)(he:WY X e y)(hs:ZQ e (some (.Name x f)) pos.line X.env=pure false:=by rfl)(j:zL X x:=by first|exact .inl rfl|exact .inr rfl) :
  Wr.WDS X (.Assign [.Name x f] e pos) (V5 i y):=⟨PS.wk' (eY hN hi l he.h hs j) (by
 rintro Q σ H ⟨p,H0,own,ρ,P,E,t,w⟩;refine⟨p,H0,own,ρ,_,E,t,λown' ρ' k d v H' h E' F r=>?_⟩;let⟨s,hs,hn⟩:=h;have r:=aR r;show Q.nx (σ.set i (some v)) H';refine w.nx own' _ H' _ (E'.set λhl=>?_) F hn;have g:(σ.set i (some v))[i]?=some (some v):=List.getElem?_set_self hl;generalize norm k d=m at hs r;cases m <;> first|(cases hs;exact⟨v,g,r⟩)|cases hs)⟩
end
section
variable [Gr] {X:Cx}{pos p1:Pos}{e e2:Zt}{es:List Zt}{y:DY}{yt:DYT}{te:DE}{ta:DA}{tt:DT}
end
def spQ[Tt](C:Addr)(f:FS->eo):Sp:=λvs H Q _=>∃x vs' fs ds P,vs=.ref x::vs'/\Tt.T.PI H/\¬Tt.T.fp x/\(∃fv,g8 (some C) H x fv/\FsOk (λa=>¬Tt.T.fp a) (λa=>¬Tt.T.fp a) H fv fs)/\Rps (λa=>¬Tt.T.fp a) H vs' ds/\f fs ds P/\∀d v H',P d->Kp Tt.T H H'->Tt.T.PI H'->Rp (λa=>H a=none) H' v d->Q v H'
def spM[Tt](C:Addr)(f:Addr->FS->eI->(FS->D->Prop)->Prop):Sp:=λvs H Q _=>∃x vs' nb fs ds P,vs=.ref x::vs'/\Tt.T.PI H/\(bJ (some C) x fs).Φ (λa=>a∈adr x fs) nb H (.ref x)/\(∀a∈adr x fs,¬nb a/\¬Tt.T.fp a)/\(∀a,nb a->¬Tt.T.fp a)/\Rps nb H vs' ds/\f x fs ds P /\
 ∀fs' d v H' (T:Addr->Prop),P fs' d->Spo (λa=>a∈adr x fs\/Tt.T.fp a) H H'->Tt.T.PI H'->(∀a∈jj fs,a∈jj fs')->(∀a∈adr x fs',a∈adr x fs\/H a=none)->(∀a,T a->H a=none/\H' a≠none/\a∉adr x fs') ->
  (bJ (some C) x fs').Φ (λa=>a∈adr x fs') (λa=>a∉adr x fs'/\¬T a/\(nb a\/H a=none)) H' (.ref x)->Rp T H' v d->Q v H'
section
variable [Tt] {C:Addr}{n:Nat}
def Dr{f:FS->eo}(hn:∀fs ds P,f fs ds P->⇑ds=n:=by intro _ _ _ h;repeat (first|(let⟨rfl,_⟩:=h;rfl)|let⟨_,h⟩:=h)):∀vs H Q E,spQ C f vs H Q E->⇑vs=n+1:=λvs H Q E h=>by
 let⟨x,vs',fs,ds,P,rfl,_,_,_,r,t,_⟩:=h;rw[List.length_cons,⇑r,hn fs ds P t]
def vR{f:Addr->FS->eI->(FS->D->Prop)->Prop}(hn:∀x fs ds P,f x fs ds P->⇑ds=n:=by intro _ _ _ _ h;repeat (first|(let⟨rfl,_⟩:=h;rfl)|let⟨_,h⟩:=h)):∀vs H Q E,spM C f vs H Q E->⇑vs=n+1:=λvs H Q E h=>by
 let⟨x,vs',nb,fs,ds,P,rfl,_,_,_,_,r,t,_⟩:=h;rw[List.length_cons,⇑r,hn x fs ds P t]
end
section
variable [Gr] {p:Pn}{H0 H:Hp}{own:Addr->Option Nat}{N:List Str}{vs:List V}{ρ:List Sl}
def sO(d:∀b o,H0 b=some o->¬p.fp b->H b=some o)(i:p.PI H)(f:∀a r,own a=some r->H0 a=none/\¬p.fp a/\H a≠none)(g:Gr.G p H0)(hl:⇑ρ=⇑vs)(h:∀j s,ρ[j]?=some s->fY p H0 own (L2.start N vs) H j s):EnvD p H0 own (L2.start N vs) H (ρ++List.replicate (⇑N - ⇑vs) .any):=by
 refine⟨d,i,f,λj s e=>?_,by unfold L2.start;simp[hl],g⟩;by_cases c:j<⇑ρ
 ·rw[List.getElem?_append_left c]at e;exact h j s e
 ·rw[List.getElem?_append_right ↑c,List.getElem?_replicate]at e;split at e
  ·cases e;trivial
  ·cases e
def gF{j:Nat}{v:V}(h:vs[j]?=some v):(L2.start N vs)[j]?=some (some v):=by
 unfold L2.start;rw[List.getElem?_append_left (by rw[List.length_map];exact(List.getElem?_eq_some_iff.mp h).1),List.getElem?_map,h];rfl
def wV{j:Nat}{v:V}{d:D}(h:vs[j]?=some v)(r:Rp (λa=>¬p.fp a/\own a=none) H v d):fY p H0 own (L2.start N vs) H j (d7 d):=by
 unfold d7;by_cases hi:fj d=true
 ·rw[ed hi];exact⟨v,gF h,r.imm hi⟩
 ·rw[ee hi];exact⟨v,gF h,r⟩
def qY{b:Sl}{c:V}{ds:eI}(f:fY p H0 own (L2.start N (c::vs)) H 0 b)(r:Rps (λa=>¬p.fp a/\own a=none) H vs ds):∀j s,(b::ds.map d7)[j]?=some s->fY p H0 own (L2.start N (c::vs)) H j s:=by
 intro j s e;cases j with
 |zero=>cases e;exact f
 |succ j =>
  rw[List.getElem?_cons_succ,List.getElem?_map]at e;cases hd:ds[j]? with
  |none=>rw[hd]at e;cases e
  |some d =>
   rw[hd]at e;cases e;let⟨v,hv,g⟩:=r.getD hd;exact wV (by rw[List.getElem?_cons_succ];exact hv) g
end
section
variable [Tt] {C:Addr}{N:List Str}{vs:List V}{H:Hp}{Q:VK}{E:XK}
def Ed{f:FS->eo}{T:DS}(h:spQ C f vs H Q E)(a:∀x fs ds P,f fs ds P->∃ρ,ds.map d7++List.replicate (⇑N - (⇑ds+1)) .any=ρ/\T { nx:=λ_=>P .none,rt:=P } (.gn 77 (shG (some C) x fs)::ρ)):jT T { nx:=λ_ H'=>Q .non H',rt:=Q } (L2.start N vs) H:=by
 let⟨x,vs',fs,ds,P,rfl,k,nx,⟨j,hb,i⟩,r,t,q⟩:=h;have E:=sO (p:=Tt.T) (H0:=H) (own:=λ_=>none) (N:=N) (vs:=.ref x::vs') (ρ:=.gn 77 (shG (some C) x fs)::ds.map d7) (λ_ _ e _=>e) k (λ_ _ e=>nomatch e) Sub.refl (by simp[⇑r])
  (qY ⟨.ref x,gF rfl,rfl,⟨nx,rfl⟩,j,hb,i.go (λl ws n h=>⟨⟨n,rfl⟩,h⟩) (λ_ _ n h _=>⟨⟨n,rfl⟩,h⟩) λ_ _ e=>e⟩ (r.mono (λ_ n=>⟨n,rfl⟩) (λ_ _ _ e=>e) λ_ _ e=>e))
 let⟨ρ,c,g⟩:=a x fs ds P t;rw[List.length_cons,⇑r,List.cons_append,c]at E;exact⟨Tt.T,H,λ_=>none,_,_,E,g,⟨λo s h' r' e' _ n=>q _ _ h' n (λb o e nf=>e'.k0 b o e nf) e'.pen .non,λd v h' n w=>q d v h' n w.k0 w.pen (w.rp.mono (λ_ o=>o.1) (λ_ _ _ e=>e) λ_ _ e=>e),λ_ _ _ _ _ _ n=>n.elim,λ_ _ _ _ _ _ n=>n.elim⟩⟩
def Ma(C:Addr)(x:Addr)(b:FS)(P:FS->Prop)(ρ:List Sl):Prop:=∃fs',ρ[0]?=some (.gn 0 (bJ (some C) x fs'))/\(∀a∈jj b,a∈jj fs')/\P fs'
def Bx{f:Addr->FS->eI->(FS->D->Prop)->Prop}{T:DJ}(h:spM C f vs H Q E)(L:∀x fs ds P,f x fs ds P->∃ρ,ds.map d7++List.replicate (⇑N - (⇑ds+1)) .any=ρ/\T { nx:=Ma C x fs (P · .none),rt:=λρ d=>Ma C x fs (P · d) ρ } (.gn 0 (bJ (some C) x fs)::ρ)):Dm T { nx:=λ_ H'=>Q .non H',rt:=Q } (L2.start N vs) H:=by
 let⟨x,vs',nb,fs,ds,P,rfl,U,hb,hn,Y,r,t,q⟩:=h;have ha:=oW hb
 let p:Pn:=⟨λa=>Tt.T.fp a\/(¬Tt.T.fp a/\a∉adr x fs/\¬nb a/\∃o,H a=some o/\NT o),λH'=>Tt.T.PI H'/\∀b o,¬Tt.T.fp b->b∉adr x fs->¬nb b->H b=some o->NT o->H' b=some o,.non,
  λH1 H2 h1 h2=>⟨Tt.T.mono H1 H2 h1.1 λb o z e=>h2 b o (z.imp .inl id) e,λb o u n m k l=>h2 b o (.inl (.inr ⟨u,n,m,o,k,l⟩)) (h1.2 b o u n m k l)⟩,
  λH1 b h1 z=>z.elim (λz=>Tt.T.is H1 b h1.1 z) λ⟨u,n,m,o,k,l⟩=>⟨o,h1.2 b o u n m k l,l⟩⟩
 have sub:Sub Tt.T p:=⟨λ_ z=>.inl z,λ_ z=>z.1,λH1 H2 h1 kp h2=>⟨h2,λb o u n m k l=>kp b o (h1.2 b o u n m k l) u⟩⟩
 let own:Addr->Option Nat:=λa=>if a∈adr x fs then some 0 else none
 have S:∀a,a∈adr x fs->own a=some 0:=λa h=>ed h;have Ah:∀a,own a=none->a∉adr x fs:=λa h z=>by rw[S a z]at h;cases h
 have nf:∀a,a∈adr x fs->¬p.fp a:=λa h z=>z.elim (hn a h).2 λz=>z.2.1 h;have nn:∀a,nb a->¬p.fp a/\own a=none:=λa h=>⟨λz=>z.elim (Y a h) λz=>z.2.2.1 h,ee λz=>(hn a z).1 h⟩
 let H0:Hp:=λa=>if a∈adr x fs then none else H a
 have O:∀a,H0 a=none->a∈adr x fs\/H a=none:=λa e=>by
  by_cases z:a∈adr x fs
  ·exact .inl z
  ·exact .inr (by rw[←e];exact(ee z).symm)
 have Z:∀b o,H0 b=some o->b∉adr x fs/\H b=some o:=λb o e=>by
  by_cases z:b∈adr x fs
  ·have:H0 b=none:=ed z;rw[this]at e;cases e
  ·exact⟨z,by rw[←e];exact(ee z).symm⟩
 have E:=sO (p:=p) (H0:=H0) (own:=own) (N:=N) (vs:=.ref x::vs') (ρ:=.gn 0 (bJ (some C) x fs)::ds.map d7) (λb o e _=>(Z b o e).2) ⟨U,λ_ _ _ _ _ e _=>e⟩
  (λa r e=>by
   have hm:a∈adr x fs:=Classical.byContradiction λz=>by
    have:own a=none:=ee z;rw[this]at e;cases e
   let⟨_,o,K,_⟩:=ha a hm;exact⟨ed hm,nf a hm,by rw[K];exact λz=>nomatch z⟩) sub (by simp[⇑r])
  (qY ⟨.ref x,gF rfl,(bJ (some C) x fs).mono (λa o m e=>⟨S a m,e⟩) (λa o n e _ _=>⟨nn a n,e⟩) (λ_ _ e=>e) hb⟩ (r.mono (λa n=>nn a n) (λ_ _ _ e=>e) λ_ _ e=>e))
 let⟨ρ,X,bd⟩:=L x fs ds P t;rw[List.length_cons,⇑r,List.cons_append,X]at E;have B:∀own' V H' I d v (T:Addr->Prop),EnvD p H0 own' V H' I->FrS p own H own' H'->Ma C x fs (P · d) I->(∀a,T a->own' a=some 99)->Rp T H' v d->Q v H':=by
  intro own' V H' I d v T J F ⟨i,hs,A,hP⟩ hT rv;let⟨v0,_,G⟩:=J.slot 0 _ hs;obtain rfl:v0=.ref x:=G.1;have j:=oW G;have g:∀b o,H b=some o->b∉adr x fs->¬Tt.T.fp b->H' b=some o:=λb o e n W=>by
   by_cases z:p.fp b
   ·rcases z with z|⟨u,n1,n2,o',k,l⟩
    ·exact(W z).elim
    rw[e]at k;cases k;exact J.pen.2 b o u n1 n2 e l
   ·exact(F.keep b o e z (ee n)).1
  refine q i d v H' T hP ⟨λb o e n=>g b o e (λz=>n (.inl z)) λz=>n (.inr z),F.tup,λb e=>?_,λb o c e=>?_⟩ J.pen.1 A (λa hm=>O a (J.ow a 0 (j a hm).1).1) (λa ht=>?_) ?_ rv
  ·by_cases z:b∈adr x fs
   ·have:b∈adr x i:=by
     rcases List.mem_cons.mp z with z|z
     ·rw[z];exact List.mem_cons_self
     ·exact List.mem_cons_of_mem _ (A b z)
    let⟨_,o,K,_⟩:=j b this;rw[K];exact λz=>nomatch z
   ·cases hh:H b with
    |none=>exact ef hh e
    |some o =>
     by_cases zt:Tt.T.fp b
     ·let⟨o',M,_⟩:=Tt.T.is H' b J.pen.1 zt;rw[M];exact λz=>nomatch z
     ·rw[g b o hh z zt];exact λz=>nomatch z
  ·refine g b o e (λz=>?_) (Ar U e c);let⟨_,o',K,n⟩:=ha b z;rw[e]at K;cases K;exact n.2 c
  ·have o9:=hT a ht;have R:a∉adr x i:=λz=>by rw[(j a z).1]at o9;cases o9
   have w:=J.ow a 99 o9;refine⟨(O a w.1).elim (λz=>?_) id,w.2.2,R⟩;refine ef ?_ R;rcases List.mem_cons.mp z with z|z
   ·rw[z];exact List.mem_cons_self
   ·exact List.mem_cons_of_mem _ (A a z)
  ·refine(bJ (some C) x i).mono (λa o m e=>⟨m.2,e⟩) (λa o n e n1 n2=>?_) (λ_ _ e=>e) (tO G);refine⟨⟨(λz=>by rw[(j a z).1]at n;cases n.2),(λz=>by rw[hT a z]at n;cases n.2),?_⟩,e⟩;cases hh:H a with
   |none=>exact .inr rfl
   |some o2 =>
    have ny:a∉adr x fs:=λy=>by
     have:a∈adr x i:=by
      rcases List.mem_cons.mp y with y|y
      ·rw[y];exact List.mem_cons_self
      ·exact List.mem_cons_of_mem _ (A a y)
     rw[(j a this).1]at n;cases n.2
    have W:¬Tt.T.fp a:=λz=>n.1 (.inl z);refine .inl (Classical.byContradiction λz=>n.1 (.inr ⟨W,ny,z,o2,hh,?_⟩));rw[g a o2 hh ny W]at e;cases e;exact⟨n1,n2⟩
 refine⟨p,H0,own,_,_,E,bd,⟨λo s h' r' M f n=>B o s h' r' .none .non (λ_=>False) M f n (λ_ z=>z.elim) .non,λo s h' r' d v M f n rp=>B o s h' r' d v _ M f n (λ_ z=>z) rp,λ_ _ _ _ _ _ _ _ n=>n.elim⟩⟩
end
structure CalM(P:Za)(w:Zb)(K:W.Frag)(mg:Str->eH)(fw:Heap)(C:Addr)(k:Nat)(m:Str)(ps:List Str)(sp:Sp):Prop where
 ex:∃f fd,k∩ps∩sp/\Binds K fd ps []/\Meth K C m f
 cl:Cls K C
section
variable [Tt] {X:Cx}{C:Addr}{k j i:Nat}{m y:Str}{ps:List Str}{e:Zt}{es:List Zt}{t:DA}{pos py apos:Pos}
def tQm(C:Addr)(i:Nat)(m:Str)(f:FS->eo)(t:DA):DE:=λρ P=>∃fs,zx ρ i (some C) fs/\fs.lookup m=none/\t ρ λks=>f fs (ks.map (·.2)) λd=>P (norm .new d) d
def J2{f:FS->eo}:∀σ H Q,bI (tQm C i m f t) σ H Q->Cq C m (spQ C f) [] E0 (jw i) (ju t) σ H Q:=by
 rintro σ H Q ⟨p,H0,own,ρ,P,E,⟨F,hb,hm,t⟩,q⟩;let⟨x,G,hv,⟨A,I⟩,B⟩:=E.box hb;refine⟨.ref x,hv,x,A,G,rfl,I,B.not hm,p,H0,own,ρ,_,E,t,λks vs H2 h2 A2 r2=>?_⟩;show spQ C f (.ref x::(vs++[])) H2 Q E0;rw[List.append_nil];let⟨L,w,l,b2,u⟩:=(E.go A2.kp A2.pen).box hb;rw[hv]at l;cases l;have c:Sub Tt.T p:=E.gr;have K:¬p.fp x:=by
  obtain⟨r,L,h|h⟩:=hb
  ·let⟨_,g,e,o,_⟩:=E.slot i _ h;rw[hv]at g;cases g;cases e;exact(E.ow x r o).2.1
  ·let⟨_,g,e,o,_⟩:=E.slot i _ h;rw[hv]at g;cases g;cases e;exact o.1
 refine⟨x,vs,F,_,_,rfl,c.pi _ A2.pen,λz=>K (c.fp x z),⟨w,b2,u.go (λ_ _ n h=>⟨λz=>n (c.fp _ z),h⟩) (λ_ _ n h _=>⟨λz=>n.1 (c.fp _ z),h⟩) λ_ _ e=>e⟩,(RpK.rps A2 r2).mono (λ_ n z=>n (c.fp _ z)) (λ_ _ _ e=>e) (λ_ _ e=>e),h2,λd v H' hP s pi' r3=>?_⟩;have J:Kp p H2 H':=λb o e n=>s b o e λz=>n (c.fp b z);exact q _ d v H' hP (A2.go J (c.go H2 H' A2.pen s pi')) (aR (r3.mono (λa o=>A2.free o) (λ_ _ _ e=>e) λ_ _ e=>e))
def d_q{f:FS->eo}(F:CalM X.prog X.w X.K X.mg X.fw C k m ps (spQ C f))(hr:Room j X.A)(hv:Wr.WV X (.Name y py) i)(ha:Wr.WDA X (e::es) t)(hk:k<=j:=by decide)(hst:zS X e es:=by rfl)(hpl:zP X pos es:=by rfl){pl:Sem Bool}(ht:Zv (.Call (.Attribute (.Name y py) m apos) (e::es) [] pos) X.env=(do
   let ov ←Zv (.Name y py) X.env
   standAt apos.atName
   let(f,first) ←holding [ov] (Yb ov m pl)
   Ye pos f first (Zw pos (Zu (e::es) X.env)) (Zy pos (Zz [] X.env))):=by rfl) :
  Wr.WD X (.Call (.Attribute (.Name y py) m apos) (e::es) [] pos) (tQm C i m f t):=⟨by
 let⟨g,d,a,b,c⟩:=F.ex;exact PE.wk (Dc (pl:=pl) hv.h F.cl c a (hr.mono hk) b .nil xM ha.h hst hpl ht) J2⟩
def yP{f:FS->eo}(F:CalM X.prog X.w X.K X.mg X.fw C k m ps (spQ C f))(hr:Room j X.A)(hv:Wr.WV X (.Name y py) i)(hk:k<=j:=by decide){pl:Sem Bool}(ht:Zv (.Call (.Attribute (.Name y py) m apos) [] [] pos) X.env=(do
   let ov ←Zv (.Name y py) X.env
   standAt apos.atName
   let(f,first) ←holding [ov] (Yb ov m pl)
   Ye pos f first (Zw pos (Zu [] X.env)) (Zy pos (Zz [] X.env))):=by rfl) :
  Wr.WD X (.Call (.Attribute (.Name y py) m apos) [] [] pos) (tQm C i m f lR):=⟨by
 let⟨g,v,c,b,u⟩:=F.ex;refine PE.wk (Jr (pl:=pl) hv.h F.cl u c (hr.mono hk) b .nil xM ht) λσ H Q h=>?_;have h:=J2 σ H Q h;let⟨x,s,a,d,r,l,n,o,p,H0,own,ρ,P,E,t,q⟩:=h;exact⟨x,s,a,d,r,l,n,o,q [] [] H t E.at .nil⟩⟩
def yMe(C:Addr)(i:Nat)(m:Str)(f:Addr->FS->eI->(FS->D->Prop)->Prop)(t:DA):DY:=λρ P=>∃r x fs,ρ[i]?=some (.gn r (bJ (some C) x fs))/\r≠99/\fs.lookup m=none/\t ρ λks=>(∀kd∈ks,(norm kd.1 kd.2).le .shr=true)/\f x fs (ks.map (·.2)) λfs' d=>(∀a∈jj fs',a∈jj fs)/\P ((forget r ρ).set i (.gn r (bJ (some C) x fs'))) (norm (.reg 99) d) d
def EnvD.mark{p:Pn}{H0 H H':Hp}{own own':Addr->Option Nat}{σ:L2.St}{ρ:List Sl}{r:Nat}(ok:Addr->Prop)(E:EnvD p H0 own σ H ρ)(g:∀a,ok a->own a=some r)(S:Spo (λa=>ok a\/Tt.T.fp a) H H')(x:Tt.T.PI H')(K:∀a o,ok a->H' a=some o->¬Fxd o)(s:∀a o,H a=some o->own' a=own a)(new:∀a q,H a=none->own' a=some q->H' a≠none)(L:∀a,H a=none->own' a≠some r):EnvD p H0 own' σ H' (forget r ρ)/\FrS p own H own' H':=by
 classical
 have l:Sub Tt.T p:=E.gr
 let f:Hp:=λa=>if ok a then H a else H' a
 have F:∀a,ok a->f a=H a:=λa h=>ed h;have u:∀a,¬ok a->f a=H' a:=λa h=>ee h;have w:∀a,ok a->¬Tt.T.fp a:=λa h z=>(E.ow a r (g a h)).2.1 (l.fp a z);have D:Kp Tt.T H f:=λb o e n=>by
  by_cases z:ok b
  ·rw[F b z];exact e
  ·rw[u b z];exact S.keep b o e λy=>y.elim z n
 have B:Tt.T.PI f:=Tt.T.mono H' f x λb o z e=>by
  rw[u b λy=>?_];exact e;rcases z with z|z
  ·exact w b y z
  ·exact K b o y e z
 have J:Kp p H f:=λb o e n=>D b o e λz=>n (l.fp b z);have A:At p H0 own H f:=E.at.go J (l.go H f E.pen D B);have v:∀a,H a=none->¬ok a:=λa e z=>(E.ow a r (g a z)).2.2 e;have G:EnvD p H0 own' σ f ρ:=E.Ca A s λa q e e2=>by rw[u a (v a e)];exact new a q e e2
 have I:Spo (λa=>own' a=some r) f H':=by
  have d:∀b o,f b=some o->(ok b/\H b=some o)\/H' b=some o:=λb o e=>by
   by_cases z:ok b
   ·exact .inl ⟨z,by rw[←F b z];exact e⟩
   ·exact .inr (by rw[←u b z];exact e)
  refine⟨λb o e n=>?_,λb xs e=>?_,λb e=>?_,λb o c e=>?_⟩
  ·rcases d b o e with⟨z,y⟩|y
   ·exact ef (by rw[s b o y];exact g b z) n
   ·exact y
  ·rcases d b _ e with⟨z,y⟩|y
   ·exact S.tup b xs y
   ·exact y
  ·cases hm:f b with
   |none=>exact ef hm e
   |some o =>
    rcases d b o hm with⟨z,y⟩|y
    ·exact S.al b (by rw[y];exact λz=>nomatch z)
    ·rw[y];exact λz=>nomatch z
  ·rcases d b _ e with⟨z,y⟩|y
   ·exact S.fx b o c y
   ·exact y
 refine⟨G.many I,λb o e n z=>⟨S.keep b o e λy=>y.elim (λy=>by rw[g b y]at z;cases z) λy=>n (l.fp b y),by rw[s b o e];exact z⟩,S.tup⟩
def R9{f:Addr->FS->eI->(FS->D->Prop)->Prop}:∀σ H Q,Qg (yMe C i m f t) σ H Q->Cq C m (spM C f) [] E0 (jw i) (ju t) σ H Q:=by
 rintro σ H Q ⟨p,H0,own,ρ,P,E,⟨r,x,B,hb,r9,hm,t⟩,q⟩;let⟨_,hv,rfl,ox,fv,⟨Y,hx⟩,Z⟩:=E.slot i _ hb;refine⟨.ref x,hv,x,Y,fv,rfl,hx,Z.not hm,p,H0,own,ρ,_,E,t,λks vs H2 h2 A2 r2=>?_⟩;show spM C f (.ref x::(vs++[])) H2 Q E0;rw[List.append_nil];have A:=E.go A2.kp A2.pen;let⟨_,hv2,b,I⟩:=A.slot i _ hb;subst b;have I:(bJ (some C) x B).Φ (λa=>own a=some r) (λa=>¬p.fp a/\own a=none) H2 (.ref x):=⟨rfl,I⟩
 have ha:=oW I;have W:=tO I;have rs:Rps (λa=>¬p.fp a/\own a=none) H2 vs (ks.map (·.2)):=by
  have hk:=h2.1;clear h2;induction r2 with
  |nil=>exact .nil
  |cons h tl ih=>exact .cons (eN A2 (hk _ List.mem_cons_self) (aR h)) (ih λkd hm=>hk kd (List.mem_cons_of_mem _ hm))
 have w:Sub Tt.T p:=A.gr;refine⟨x,vs,λa=>¬p.fp a/\own a=none,B,_,_,rfl,w.pi _ A2.pen,(bJ (some C) x B).mono (λa o n e=>⟨n.2,e⟩) (λa o n e _ _=>⟨n,e⟩) (λ_ _ e=>e) W,λa hm=>⟨λn=>?_,λz=>(A.ow a r (ha a hm).1).2.1 (w.fp a z)⟩,λa n z=>n.1 (w.fp a z),rs,h2.2,λfs' d v H' T K S piT hls hadr hT bx' rv=>?_⟩
 ·have N:own a=none:=n.2;rw[(ha a hm).1]at N;cases N
 ·let⟨L,K⟩:=K;have F:∀a,a∈adr x fs'->a∈adr x B:=λa h=>by
   rcases List.mem_cons.mp h with z|z
   ·rw[z];exact List.mem_cons_self
   ·exact List.mem_cons_of_mem _ (L a z)
  have g:∀a,a∈adr x B->a∈adr x fs':=λa h=>by
   rcases List.mem_cons.mp h with z|z
   ·rw[z];exact List.mem_cons_self
   ·exact List.mem_cons_of_mem _ (hls a z)
  let own':Addr->Option Nat:=by classical exact λa=>if T a then some 99 else own a
  have O:∀a,T a->own' a=some 99:=λa h=>ed h;have J:∀a,¬T a->own' a=own a:=λa h=>ee h;have G:∀a o,H2 a=some o->own' a=own a:=λa o e=>J a λz=>by rw[(hT a z).1]at e;cases e
  have l:∀a,H2 a=none->own a=none:=λa e=>A.at.Ah e;let⟨R,V⟩:=A.mark (r:=r) (own':=own') (λa=>a∈adr x B) (λa h=>(ha a h).1) S piT (λa o h e c=>by
   let⟨_,o',M,n⟩:=oW bx' a (g a h);rw[e]at M;cases M;exact n.2 c) G (λa q e b=>by
   by_cases z:T a
   ·exact(hT a z).2.1
   ·rw[J a z,l a e]at b;cases b) (λa e b=>by
   by_cases z:T a
   ·rw[O a z]at b;exact r9 (Option.some.inj b).symm
   ·rw[J a z,l a e]at b;cases b)
  have U:=R.put (i:=i) (v:=.ref x) (s:=.gn r (bJ (some C) x fs')) ⟨.ref x,hv,(bJ (some C) x fs').mono (λa o m e=>?_) (λa o n e _ _=>?_) (λ_ _ e=>e) bx'⟩
  ·exact q own' _ (norm (.reg 99) d) d v H' K U (A2.frs.trans V) (aR (k:=.reg 99) (rv.mono (λa h=>O a h) (λ_ _ _ e=>e) λ_ _ e=>e))
  ·let⟨o1,u,hu,_⟩:=ha a (F a m);exact⟨by rw[G a u hu];exact o1,e⟩
  ·refine⟨?_,e⟩;rw[J a n.2.1];exact n.2.2.elim id λz=>⟨A.at.nfb z,l a z⟩
def T9{f:Addr->FS->eI->(FS->D->Prop)->Prop}(F:CalM X.prog X.w X.K X.mg X.fw C k m ps (spM C f))(hr:Room j X.A)(hv:Wr.WV X (.Name y py) i)(ha:Wr.WDA X (e::es) t)(hk:k<=j:=by decide)(hst:zS X e es:=by rfl)(hpl:zP X pos es:=by rfl){pl:Sem Bool}(ht:Zv (.Call (.Attribute (.Name y py) m apos) (e::es) [] pos) X.env=(do
   let ov ←Zv (.Name y py) X.env
   standAt apos.atName
   let(f,first) ←holding [ov] (Yb ov m pl)
   Ye pos f first (Zw pos (Zu (e::es) X.env)) (Zy pos (Zz [] X.env))):=by rfl) :
  WY X (.Call (.Attribute (.Name y py) m apos) (e::es) [] pos) (yMe C i m f t):=⟨by
 let⟨g,d,a,b,c⟩:=F.ex;exact PE.wk (Dc (pl:=pl) hv.h F.cl c a (hr.mono hk) b .nil xM ha.h hst hpl ht) R9⟩
end
end Dl
namespace Wr
open L2 Dl
section
variable [Tt] {X:Cx}{k j:Nat}{x:Str}{ps:List Str}{e:Zt}{es:List Zt}{t:DA}{p pos:Pos}{f:eo}
def dcS(CC:Cal X.prog X.w X.K X.mg X.fw k x ps (spT Tt.T f))(hr:Room j X.A)(ha:WDA X (e::es) t)(hk:k<=j:=by decide)(hg:Gl X x:=by rfl)(hdb:zB x:=by decide)(he:zS X e es:=by rfl)(hpl:zP X pos es:=by rfl) :
  WD X (.Call (.Name x p) (e::es) [] pos) (tFn f t):=⟨PE.wk (pcS CC hr ha.h hk hg hdb he hpl) (by
 rintro σ H Q ⟨q,H0,own,ρ,P,E,t,k⟩;have c:Sub Tt.T q:=E.gr;refine⟨_,H0,own,ρ,_,E,t,λks vs H1 h A r=>?_⟩;show spT Tt.T f (vs++[]) H1 Q E0;rw[List.append_nil];refine⟨ks.map (·.2),_,c.pi _ A.pen,(RpK.rps A r).mono (λ_ o z=>o (c.fp _ z)) (λ_ _ _ e=>e) (λ_ _ e=>e),h,λd v H' h2 kp pi' r2=>?_⟩;have g:Kp q H1 H':=λb o e n=>kp b o e λz=>n (c.fp b z);exact k _ d v H' h2 (A.go g (c.go H1 H' A.pen kp pi')) (aR (r2.mono (λa o=>A.free o) (λ_ _ _ e=>e) λ_ _ e=>e)))⟩
end
end Wr
namespace Dl
open L2
variable{X:Cx}
inductive AO where
 |d (d:D)
 |b (r:Nat) (C:eD) (x:Addr) (fs:FS)
 |p
def aoS(C:Pn->Prop):AO->Sl
 |.d d=>d7 d
 |.b r c x a=>.gn r (bJ c x a)
 |.p=>.pen C
def Qv(p:Pn)(own:Addr->Option Nat)(H:Hp)(v:V):AO->Prop
 |.d d=>Rp (λa=>¬p.fp a/\own a=none) H v d
 |.b r c x e=>(bJ c x e).Φ (λa=>own a=some r) (λa=>¬p.fp a/\own a=none) H v
 |.p=>v=p.pv
inductive ArgsOk(p:Pn)(own:Addr->Option Nat)(H:Hp):List V->List AO->Prop
 |nil:ArgsOk p own H [] []
 |cons {v:V}{a:AO}{vs:List V}{as:List AO} (h:Qv p own H v a) (t:ArgsOk p own H vs as):ArgsOk p own H (v::vs) (a::as)
def ArgsOk.length{p:Pn}{own:Addr->Option Nat}{H:Hp}{vs:List V}{a:List AO}(h:ArgsOk p own H vs a):⇑vs=⇑a:=by
 induction h with
 |nil=>rfl
 |cons _ _ b=>rw[List.length_cons,List.length_cons,b]
def ArgsOk.get{p:Pn}{own:Addr->Option Nat}{H:Hp}{vs:List V}{b:List AO}(h:ArgsOk p own H vs b):∀{j:Nat}{a:AO},b[j]?=some a->∃v,vs[j]?=some v/\Qv p own H v a:=by
 induction h with
 |nil=>exact λe=>by simp at e
 |cons h _ ih =>
  intro j a e;cases j with
  |zero=>cases e;exact⟨_,rfl,h⟩
  |succ j =>
   rw[List.getElem?_cons_succ]at e;let⟨v,hv,r⟩:=ih e;exact⟨v,by rw[List.getElem?_cons_succ];exact hv,r⟩
def kh(p:Pn)(own:Addr->Option Nat)(H:Hp):List AO->List FS->Prop
 |[],[]=>True
 |[],_::_=>False
 |.b r c x fs::as,fs'::t=>(bJ c x fs').Φ (λa=>own a=some r) (λa=>¬p.fp a/\own a=none) H (.ref x)/\kh p own H as t
 |.b _ _ _ _::_,[]=>False
 |.d _::as,t=>kh p own H as t
 |.p::as,t=>kh p own H as t
def G9(ρ:List Sl):Nat->List AO->List FS->Prop
 |_,[],[]=>True
 |_,[],_::_=>False
 |j,.b r c x fs::as,fs'::t=>ρ[j]?=some (.gn r (bJ c x fs'))/\G9 ρ (j+1) as t
 |_,.b _ _ _ _::_,[]=>False
 |j,.d _::as,t=>G9 ρ (j+1) as t
 |j,.p::as,t=>G9 ρ (j+1) as t
def spO[Tt](C:Pn->Prop)(f:List AO->(List FS->D->Prop)->Prop):Sp:=λvs H Q _=>∃p own as P,Sub Tt.T p/\(AO.p∈as->C p)/\p.PI H/\(∀a r,own a=some r->¬p.fp a/\H a≠none)/\ArgsOk p own H vs as/\f as P /\
 ∀fss own' d v H',P fss d->FrS p own H own' H'->(∀a r,own' a=some r->¬p.fp a/\H' a≠none/\(H a=none\/own a≠none))->p.PI H'->kh p own' H' as fss->Rp (λa=>(H a=none\/own a≠none)/\¬p.fp a/\own' a=none) H' v d->Q v H'
def Ob[Tt]{C:Pn->Prop}{f:List AO->(List FS->D->Prop)->Prop}{n:Nat}(hn:∀as P,f as P->⇑as=n:=by intro _ _ h;repeat (first|(let⟨rfl,_⟩:=h;rfl)|let⟨_,h⟩:=h)):∀vs H Q E,spO C f vs H Q E->⇑vs=n:=λvs H Q E h=>by
 let⟨p,own,as,P,_,_,_,_,r,t,_⟩:=h;rw[⇑r,hn as P t]
section
def uQ[Gr]{p:Pn}{H0 H:Hp}{own:Addr->Option Nat}{σ:L2.St}{ρ:List Sl}(E:EnvD p H0 own σ H ρ):∀{e:List AO}{fss:List FS}{j:Nat},G9 ρ j e fss->kh p own H e fss:=by
 intro e;induction e with
 |nil=>intro fss j h;cases fss <;> exact h
 |cons a e ih =>
  intro fss j h;cases a with
  |d d=>exact ih (fss:=fss) (j:=j+1) h
  |p=>exact ih (fss:=fss) (j:=j+1) h
  |b r c x fs =>
   cases fss with
   |nil=>exact h
   |cons fs' t =>
    let⟨h1,h2⟩:=h;let⟨v,_,b⟩:=E.slot j _ h1;have:v=.ref x:=b.1;subst this;exact⟨b,ih h2⟩
def Tg[Tt]{C:Pn->Prop}{f:List AO->(List FS->D->Prop)->Prop}{T:DJ}{N:List Str}{vs:List V}{H:Hp}{Q:VK}{E:XK}(h:spO C f vs H Q E)(g:∀as P,f as P->∃ρ,as.map (aoS C)++List.replicate (⇑N - ⇑as) .any=ρ/\T { nx:=λρ=>∃fss,G9 ρ 0 as fss/\P fss .none,rt:=λ_ _=>False,rs:=λρ d=>∃fss,G9 ρ 0 as fss/\P fss d } ρ):Dm T { nx:=λ_ H'=>Q .non H',rt:=Q } (L2.start N vs) H:=by
 let⟨p,own,as,P,l,c,A,m,r,t,q⟩:=h
 let H0:Hp:=λa=>if own a=none then H a else none
 have y:∀a o,H0 a=some o->own a=none/\H a=some o:=λa o e=>by
  by_cases z:own a=none
  ·exact⟨z,by rw[←e];exact(ed z).symm⟩
  ·have:H0 a=none:=ee z;rw[this]at e;cases e
 have h1:∀a,H0 a=none->H a=none\/own a≠none:=λa e=>by
  by_cases z:own a=none
  ·exact .inl (by rw[←e];exact(ed z).symm)
  ·exact .inr z
 have E:=sO (p:=p) (H0:=H0) (own:=own) (N:=N) (vs:=vs) (ρ:=as.map (aoS C)) (λb o e _=>(y b o e).2) A (λa r e=>⟨ee (by rw[e];exact λz=>nomatch z),(m a r e).1,(m a r e).2⟩) l (by rw[List.length_map,⇑r]) (λj s e=>by
  rw[List.getElem?_map]at e;cases ha:as[j]? with
  |none=>rw[ha]at e;cases e
  |some a =>
   rw[ha]at e;cases e;let⟨v,hv,i⟩:=r.get ha;cases a with
   |d d=>exact wV hv i
   |b u B x G=>exact⟨v,gF hv,i⟩
   |p =>
    have:v=p.pv:=i;subst this;exact⟨gF hv,c (List.mem_of_getElem? ha)⟩)
 let⟨ρ,k,w⟩:=g as P t;rw[⇑r,k]at E;refine⟨p,H0,own,_,_,E,w,⟨λo s h' u e' F ⟨fss,n,hP⟩=>q fss o .none .non h' hP F (λa r e=>⟨(e'.ow a r e).2.1,(e'.ow a r e).2.2,h1 a (e'.ow a r e).1⟩) e'.pen (uQ e' n) .non,λ_ _ _ _ _ _ _ _ n=>n.elim,λo s h' u d v e' F ⟨fss,n,hP⟩ rp=>q fss o d v h' hP F (λa r e=>⟨(e'.ow a r e).2.1,(e'.ow a r e).2.2,h1 a (e'.ow a r e).1⟩) e'.pen (uQ e' n) (rp.mono (λa n=>⟨h1 a n.1,n.2⟩) (λ_ _ _ e=>e) λ_ _ e=>e)⟩⟩
end
inductive AX where
 |d (kd:Kd×D)
 |n (i:Nat)
inductive ArX(p:Pn)(H0:Hp)(own:Addr->Option Nat)(Hb H:Hp)(σ:L2.St):List V->List AX->Prop
 |nil:ArX p H0 own Hb H σ [] []
 |d {v:V}{kd:Kd×D}{vs:List V}{as:List AX} (h:Rp (okK p H0 own Hb kd.1) H v kd.2) (t:ArX p H0 own Hb H σ vs as):ArX p H0 own Hb H σ (v::vs) (.d kd::as)
 |n {v:V}{i:Nat}{vs:List V}{as:List AX} (h:σ[i]?=some (some v)) (t:ArX p H0 own Hb H σ vs as):ArX p H0 own Hb H σ (v::vs) (.n i::as)
def ArX.fw{p:Pn}{H0 b H H':Hp}{own:Addr->Option Nat}{σ:L2.St}{vs:List V}{c:List AX}(A:At p H0 own b H)(h:ArX p H0 own H H' σ vs c):ArX p H0 own b H' σ vs c:=by
 induction h with
 |nil=>exact .nil
 |d h _ a=>exact .d (kO A h) a
 |n h _ a=>exact .n h a
abbrev DX:=List Sl->(List AX->Prop)->Prop
def Sg[Gr](t:DX):TA:=λσ H Q=>∃p H0 own ρ P,EnvD p H0 own σ H ρ/\t ρ P/\∀as vs H',P as->At p H0 own H H'->ArX p H0 own H H' σ vs as->Q vs H'
structure WAX[Gr](X:Cx)(es:List Zt)(t:DX):Prop where
 h:PA X es (Sg t)
section
variable [Gr] {X:Cx}{e:Zt}{es:List Zt}{te:DE}{t:DX}{i:Nat}
def Wi:DX:=λ_ P=>P []
def xD(te:DE)(t:DX):DX:=λρ P=>te ρ λk d=>t ρ λas=>P (.d (k,d)::as)
def xN(i:Nat)(t:DX):DX:=λρ P=>((∃r g,ρ[i]?=some (.gn r g))\/∃C,ρ[i]?=some (.pen C))/\t ρ λas=>P (.n i::as)
def Ua:WAX X [] Wi:=⟨PA.wk dZ (by
 rintro σ H Q ⟨p,H0,own,ρ,P,E,t,q⟩;exact q [] [] H t E.at .nil)⟩
def x_d(he:Wr.WD X e te)(hr:WAX X es t)(hs:zS X e es:=by rfl):WAX X (e::es) (xD te t):=⟨PA.wk (cD he.h hr.h hs) (by
 rintro σ H Q ⟨p,H0,own,ρ,P,E,t,q⟩;refine⟨p,H0,own,ρ,_,E,t,λk d v H1 h A r=>⟨p,H0,own,ρ,_,E.go A.kp A.pen,h,λas vs H2 h2 A2 r2=>?_⟩⟩;exact q _ _ H2 h2 (A.fw A2) (.d (nq A A2.kp r) (r2.fw A)))⟩
def x_n(hv:Wr.WV X e i)(hr:WAX X es t)(hs:zS X e es:=by rfl):WAX X (e::es) (xN i t):=⟨PA.wk (cD hv.h hr.h hs) (by
 rintro σ H Q ⟨p,H0,own,ρ,P,E,⟨hi,t⟩,q⟩;have:∃v,σ[i]?=some (some v):=by
  rcases hi with⟨r,g,h⟩|⟨C,h⟩
  ·let⟨v,hv,_⟩:=E.slot i _ h;exact⟨v,hv⟩
  ·exact⟨_,(E.slot i _ h).1⟩
 let⟨v,hv⟩:=this;exact⟨v,hv,p,H0,own,ρ,_,E,t,λas vs H2 h2 A2 r2=>q _ _ H2 h2 A2 (.n hv r2)⟩)⟩
end
inductive ToA(C:Pn->Prop)(ρ:List Sl):List AX->List AO->Prop
 |nil:ToA C ρ [] []
 |d {k:Kd}{d:D}{xs:List AX}{as:List AO} (h:(norm k d).le .shr=true) (t:ToA C ρ xs as):ToA C ρ (.d (k,d)::xs) (.d d::as)
 |b {i r:Nat}{c:eD}{x:Addr}{fs:FS}{xs:List AX}{as:List AO} (h:ρ[i]?=some (.gn r (bJ c x fs))) (t:ToA C ρ xs as):ToA C ρ (.n i::xs) (.b r c x fs::as)
 |p {i:Nat}{xs:List AX}{as:List AO} (h:ρ[i]?=some (.pen C)) (t:ToA C ρ xs as):ToA C ρ (.n i::xs) (.p::as)
def wipe(ρ:List Sl):List Sl:=ρ.map λs=>if s.region=none then s else .any
def Mu(ρ:List Sl):List AX->List AO->List FS->List Sl
 |.n i::xs,.b r c x _::as,fs::t=>Mu (ρ.set i (.gn r (bJ c x fs))) xs as t
 |_::xs,_::as,t=>Mu ρ xs as t
 |_,_,_=>ρ
def adO:List AO->List FS->List Addr
 |.b _ _ x _::as,fs::t=>adr x fs++adO as t
 |.b _ _ _ _::_,[]=>[]
 |.d _::as,t=>adO as t
 |.p::as,t=>adO as t
 |[],_=>[]
section
variable [Gr] {p:Pn}{H0 Hb H:Hp}{own:Addr->Option Nat}{σ:L2.St}{C:Pn->Prop}
def Pa{ρ:List Sl}{vs:List V}{xs:List AX}{a:List AO}(E:EnvD p H0 own σ H ρ)(A:At p H0 own Hb H)(h:ToA C ρ xs a):ArX p H0 own Hb H σ vs xs->ArgsOk p own H vs a:=by
 intro r;induction h generalizing vs with
 |nil=>cases r;exact .nil
 |d h _ ih =>
  cases r with
  |d r t=>exact .cons (eN A h (aR r)) (ih t)
 |b h _ ih =>
  cases r with
  |n hv t =>
   let⟨v,e,b⟩:=E.slot _ _ h;rw[hv]at e;cases e;exact .cons b (ih t)
 |p h _ ih =>
  cases r with
  |n hv t =>
   let⟨e,_⟩:=E.slot _ _ h;rw[hv]at e;cases e;exact .cons rfl (ih t)
def Rh{ρ:List Sl}{xs:List AX}{c:List AO}(E:EnvD p H0 own σ H ρ)(h:ToA C ρ xs c):AO.p∈c->C p:=by
 induction h with
 |nil=>exact λh=>nomatch h
 |d _ _ a=>exact λh=>(List.mem_cons.mp h).elim (λz=>nomatch z) a
 |b _ _ a=>exact λh=>(List.mem_cons.mp h).elim (λz=>nomatch z) a
 |p h _ _=>exact λ_=>(E.slot _ _ h).2
def Fj{xs:List AX}{j:List AO}:∀{ρ a:List Sl}{fss:List FS},EnvD p H0 own σ H ρ->ToA C a xs j->(∀(i r:Nat)(g:GS),a[i]?=some (Sl.gn r g)->∃v,σ[i]?=some (some v)/\∀c x fs,g=bJ c x fs->v=V.ref x)->kh p own H j fss->EnvD p H0 own σ H (Mu ρ xs j fss):=by
 intro ρ a fss E h hv b;induction h generalizing ρ fss with
 |nil=>cases fss <;> exact E
 |d _ _ f=>cases fss <;> exact f E b
 |p _ _ f=>cases fss <;> exact f E b
 |b h _ f =>
  cases fss with
  |nil=>exact b.elim
  |cons fs' t =>
   let⟨v,e,k⟩:=hv _ _ _ h;have:=k _ _ _ rfl;subst this;exact f (E.put (v:=V.non) ⟨_,e,b.1⟩) b.2
def Ly{own':Addr->Option Nat}{f:List AO}:∀{fss:List FS}{S:List Addr},kh p own H f fss->(∀a∈adO f fss,a∈S)->(∀a∈S,own' a=own a)->(∀a,own a=none->own' a=none)->kh p own' H f fss:=by
 induction f with
 |nil=>intro fss S b _ _ _;cases fss <;> exact b
 |cons y f ih =>
  intro fss S b s e n;cases y with
  |d _=>cases fss <;> exact ih b s e n
  |p=>cases fss <;> exact ih b s e n
  |b r c x fs =>
   cases fss with
   |nil=>exact b
   |cons g t=>exact⟨(bJ c x g).mono (λa o m q=>⟨by rw[e a (s a (List.mem_append_left _ m.2))];exact m.1,q⟩) (λa o m q _ _=>⟨⟨m.1,n a m.2⟩,q⟩) (λ_ _ q=>q) (tO b.1),ih b.2 (λa h=>s a (List.mem_append_right _ h)) e n⟩
end
section
variable [Tt] {X:Cx}{pos p1:Pos}{e:Zt}{es:List Zt}{C:Pn->Prop}{t:DX}{j k:Nat}{x:Str}{ps:List Str}
def yO(C:Pn->Prop)(f:List AO->(List FS->D->Prop)->Prop)(t:DX):DY:=λρ P=>t ρ λxs=>∃as,ToA C ρ xs as/\f as λfss d=>P (Mu (wipe ρ) xs as fss) .snw d
def y_o{f:List AO->(List FS->D->Prop)->Prop}(CC:Cal X.prog X.w X.K X.mg X.fw k x ps (spO C f))(hr:Room j X.A)(ha:WAX X (e::es) t)(hk:k<=j:=by decide)(hg:Gl X x:=by rfl)(hdb:zB x:=by decide)(he:zS X e es:=by rfl)(hpl:zP X pos es:=by rfl) :
  WY X (.Call (.Name x p1) (e::es) [] pos) (yO C f t):=⟨PE.wk (pcS CC hr ha.h hk hg hdb he hpl) (by
 rintro σ H Q ⟨p,H0,own,ρ,P,E,t,q⟩;refine⟨p,H0,own,ρ,_,E,t,λxs vs H2 h2 A2 r2=>?_⟩;show spO C f (vs++[]) H2 Q E0;rw[List.append_nil];let⟨G,B,R⟩:=h2;have m:=E.go A2.kp A2.pen;refine⟨p,own,G,_,m.gr,?_,A2.pen,λa r e=>⟨(m.ow a r e).2.1,(m.ow a r e).2.2⟩,Pa m A2 B r2,R,λfss own' d v H' hP F ow' pi' hb rv=>?_⟩
 ·exact Rh m B
 ·let l:Addr->Option Nat:=λa=>if a∈adO G fss then own' a else none
  have M:∀a∈adO G fss,l a=own' a:=λa h=>ed h;have J:∀a,own' a=none->l a=none:=λa h=>by
   show(if a∈adO G fss then own' a else none)=none;rw[h];exact ite_self _
  have S:∀a r,l a=some r->own' a=some r:=λa r h=>by
   by_cases z:a∈adO G fss
   ·rw[←M a z];exact h
   ·have:l a=none:=ee z;rw[this]at h;cases h
  have L:=Ly hb (λa h=>h) M J;have y:∀a,H2 a=none\/own a≠none->H0 a=none:=λa h=>h.elim (λz=>m.at.h0 z) λz=>by
   cases e:own a with
   |none=>exact ef e z
   |some r=>exact(m.ow a r e).1
  have N:EnvD p H0 l σ H' (wipe ρ):=by
   refine⟨λb o e n=>?_,pi',λa r e=>?_,λj s e=>?_,by unfold wipe;rw[List.length_map];exact m.len,m.gr⟩
   ·refine(F.keep b o (m.k0 b o e n) n ?_).1;cases z:own b with
    |none=>rfl
    |some r=>rw[(m.ow b r z).1]at e;cases e
   ·have w:=ow' a r (S a r e);exact⟨y a w.2.2,w.1,w.2.1⟩
   ·unfold wipe at e;rw[List.getElem?_map]at e;cases hr:ρ[j]? with
    |none=>rw[hr]at e;cases e
    |some s0 =>
     rw[hr]at e;have e:=Option.some.inj e;have q:=m.slot j s0 hr;have I:∀c u,¬p.fp c->own c=none->H2 c=some u->l c=none/\H' c=some u:=λc u n z e=>⟨J c (F.keep c u e n z).2,(F.keep c u e n z).1⟩
     cases s0 with
     |any=>simp only[Sl.region]at e;subst e;trivial
     |im d =>
      have e:Sl.im d=s:=e;subst e;exact let⟨v,a,b⟩:=q;⟨v,a,b.mono (λ_ o=>o) (λ_ _ o=>o.elim) F.tup⟩
     |sh d =>
      have e:Sl.sh d=s:=e;subst e;exact let⟨v,a,b⟩:=q;⟨v,a,b.bO (λc o n h=>⟨⟨n.1,(I c o n.1 n.2 h).1⟩,(I c o n.1 n.2 h).2⟩) F.tup⟩
     |sn d =>
      have e:Sl.sn d=s:=e;subst e;exact let⟨v,a,b⟩:=q;⟨v,a,b.bO (λc o n h=>⟨⟨n.1,n.2.1,(I c o n.2.1 n.2.2 h).1⟩,(I c o n.2.1 n.2.2 h).2⟩) F.tup⟩
     |pen C =>
      have e:Sl.pen C=s:=e;subst e;exact q
     |scr v b =>
      have e:Sl.scr v b=s:=e;subst e;exact q
     |dw r d=>simp only[Sl.region]at e;subst e;trivial
     |rw r d=>simp only[Sl.region]at e;subst e;trivial
     |tw r d=>simp only[Sl.region]at e;subst e;trivial
     |sp r b d=>simp only[Sl.region]at e;subst e;trivial
     |gn r g=>simp only[Sl.region]at e;subst e;trivial
  have O:=Fj N B (λi r g h=>by
   let⟨v,hv,b⟩:=m.slot i _ h;exact⟨v,hv,λc x fs z=>by subst z;exact b.1⟩) L
  exact q l _ .snw d v H' hP O (A2.frs.trans ⟨λb o e n z=>⟨(F.keep b o e n z).1,J b (F.keep b o e n z).2⟩,F.tup⟩) (rv.mono (λa n=>⟨y a n.1,n.2.1,J a n.2.2⟩) (λ_ _ _ e=>e) λ_ _ e=>e))⟩
end
structure CalC[Tt](P:Za)(w:Zb)(K:W.Frag)(mg:Str->eH)(fw:Heap)(C:Addr)(k:Nat)(x:Str)(ps:List Str)(f:Addr->FS->eI->(FS->D->Prop)->Prop):Prop where
 ex:∃g fd,Mk K C g/\FnOk P w K mg fw CX0 k g fd ps (spM C f)/\Binds K fd ps []/\mg x=some (.ref C)
section
variable [Tt] {X:Cx}{pos p1 pos' spos:Pos}{e e2:Zt}{es:List Zt}{C:Addr}{t:DA}{i j k:Nat}{x y:Str}{ps:List Str}{f:Addr->FS->eI->(FS->D->Prop)->Prop}
def V8(C:Addr)(i r:Nat)(f:Addr->FS->eI->(FS->D->Prop)->Prop)(t:DA):DS:=λP ρ=>t ρ λks=>(∀kd∈ks,(norm kd.1 kd.2).le .shr=true)/\qb r ρ i=true/\∀x,f x [] (ks.map (·.2)) λfs' d=>d=.none/\P.nx (ρ.set i (.gn r (bJ (some C) x fs')))
def Ox{r:Nat}(F:CalC X.prog X.w X.K X.mg X.fw C k x ps f)(hr:Room (j+1) X.A)(hN:X.N.Nodup)(hi:X.N[i]?=some y)(hx:Loc X.env.scope y)(ha:Wr.WDA X (e::es) t)(hk:k<=j:=by decide)(hg:Gl X x:=by rfl)(hdb:zB x:=by decide)(he:zS X e es:=by rfl)(hpl:zP X pos es:=by rfl)(hs:ZQ (.Call (.Name x p1) (e::es) [] pos) (some (.Name y pos')) spos.line X.env=pure false:=by rfl)(I:zL X y:=by first|exact .inl rfl|exact .inr rfl) :
  Wr.WDS X (.Assign [.Name y pos'] (.Call (.Name x p1) (e::es) [] pos) spos) (V8 C i r f t):=by
 let⟨g,fd,M,F1,b,mx⟩:=F.ex;refine⟨PS.wk' (eY hN hi hx (Nm M F1 (hr.mono (Nat.succ_le_succ hk)) hg mx b .nil xM ha.h hdb he hpl) hs I) ?_⟩;rintro Q σ H ⟨p,H0,own,ρ,P,E,t,w⟩;refine⟨p,H0,own,ρ,_,E,t,λks vs H1 h A r2 x dx hx0 hd0 hne=>?_⟩;let⟨hk,U,I⟩:=h;have u:=E.go A.kp A.pen;have J:EnvD p H0 (aZ r own) σ H1 (ρ.set i .any):=(u.drop (i:=i)).clear U;have rs:Rps (λa=>¬p.fp a/\own a=none) H1 vs (ks.map (·.2)):=by
  clear I;induction r2 with
  |nil=>exact .nil
  |cons h tl ih=>exact .cons (eN A (hk _ List.mem_cons_self) (aR h)) (ih λkd hm=>hk kd (List.mem_cons_of_mem _ hm))
 have c0:∀a,own a=none->aZ r own a=none:=λa n=>by unfold aZ;rw[n];simp
 have c:∀a o,H1 a=some o->a≠x/\a≠dx:=λa o e=>⟨aA e hx0,aA e hd0⟩
 have B:∀a o,H1 a=some o->upd (upd H1 dx (.own x)) x (.ins C dx []) a=some o:=λa o e=>by rw[ao (c a o e).1,ao (c a o e).2];exact e
 have L:∀a,upd (upd H1 dx (.own x)) x (.ins C dx []) a=none->H1 a=none:=λa e=>by
  cases h:H1 a with
  |none=>rfl
  |some o=>rw[B a o h]at e;cases e
 show spM C f (.ref x::(vs++[])) _ _ E0;rw[List.append_nil];have l:Sub Tt.T p:=u.gr;have kT2:Kp Tt.T H1 (upd (upd H1 dx (.own x)) x (.ins C dx [])):=λa o e _=>B a o e;have Y:Tt.T.PI (upd (upd H1 dx (.own x)) x (.ins C dx [])):=Tt.T.mono H1 _ (l.pi _ u.pen) λa o _ e=>B a o e;have xT:¬Tt.T.fp x:=λz=>u.at.nfb hx0 (l.fp x z);refine⟨x,vs,λa=>¬p.fp a/\own a=none/\a≠x,[],_,_,rfl,Y,⟨rfl,List.mem_cons_self,[],⟨dx,aB⟩,.nil⟩,λa hm=>?_,λa n z=>n.1 (l.fp a z),rs.bO (λa o n e=>⟨⟨n.1,n.2,(c a o e).1⟩,B a o e⟩) (λa xs e=>B a _ e),I x,λfs' d v H' T O S piT _ hadr hT bx rv=>?_⟩
 ·rcases List.mem_cons.mp hm with z|z
  ·subst z;exact⟨λn=>n.2.2 rfl,xT⟩
  ·exact nomatch z
 ·let⟨rfl,O⟩:=O;have ev:=Rp.WM rv;subst ev;refine⟨rfl,?_⟩;have R:=oW bx;have k1:Kp p H1 H':=λa o e n=>S.keep a o (B a o e) λz=>by
   rcases z with z|z
   ·rcases List.mem_cons.mp z with y|y
    ·exact(c a o e).1 y
    ·exact nomatch y
   ·exact n (l.fp a z)
  have V:Kp Tt.T H1 H':=λa o e n=>S.keep a o (B a o e) λz=>by
   rcases z with z|z
   ·rcases List.mem_cons.mp z with y|y
    ·exact(c a o e).1 y
    ·exact nomatch y
   ·exact n z
  have D:∀a,a∈adr x fs'->H1 a=none:=λa h=>by
   rcases hadr a h with z|z
   ·rcases List.mem_cons.mp z with y|y
    ·rw[y];exact hx0
    ·exact nomatch y
   ·exact L a z
  have Z:At p H0 (aZ r own) H1 H':=J.at.go k1 (l.go H1 H' u.pen V piT)
  let own':Addr->Option Nat:=by classical exact λa=>if a∈adr x fs' then some r else aZ r own a
  have o1:∀a,a∈adr x fs'->own' a=some r:=λa h=>ed h;have W:∀a,a∉adr x fs'->own' a=aZ r own a:=λa h=>ee h;have G:∀a o,H1 a=some o->own' a=aZ r own a:=λa o e=>W a λz=>by rw[D a z]at e;cases e
  have E3:=J.Ca (own':=own') Z G λa q e e2=>by
   by_cases z:a∈adr x fs'
   ·let⟨_,o,ho,_⟩:=R a z;rw[ho];exact λz=>nomatch z
   ·rw[W a z]at e2;exact ef e (J.ow a q e2).2.2
  have E4:=E3.set (i:=i) (v:=.ref x) (s:=.gn r (bJ (some C) x fs')) λhl=>⟨.ref x,List.getElem?_set_self hl,(bJ (some C) x fs').mono (λa o m e=>⟨o1 a m,e⟩) (λa o n e _ _=>⟨?_,e⟩) (λ_ _ e=>e) bx⟩
  ·rw[List.set_set]at E4;exact w.nx own' _ H' _ E4 (A.frs.trans (gH.trans ⟨λb o e n z=>⟨k1 b o e n,by rw[G b o e];exact z⟩,Z.tups⟩)) O
  ·rw[W a n.1];rcases n.2.2 with z|z
   ·exact⟨z.1,c0 a z.2.1⟩
   ·exact⟨u.at.nfb (L a z),c0 a (u.at.Ah (L a z))⟩
end
section
variable{i:Nat}{o e:Zt}{f:Str}{k n m:Nat}{pos pos' kp lp:Pos}
end
section
variable [Gr] {X:Cx}{e1 e2:Zt}{t1 t2:DE}{k1 k2 k3 x:Str}{i n1 n2 n3:Nat}{p1 p2 p3 lp pos pos' spos:Pos}
end
section
variable [Gr] {X:Cx}{i:Nat}{o o1 o2:Zt}{f f1 f2:Str}
end
variable [Gr] {X:Cx}{k j i:Nat}{x y:Str}{ps:List Str}{e:Zt}{es:List Zt}{ta:DA}{te:DE}{p pos pos' spos:Pos}{f:eo}
def Uv(f:eo)(t:DA):DE:=λρ P=>t ρ λks=>f (ks.map (·.2)) λd=>P (norm ((joins ks).join .new) d) d
def W9(C:Cal X.prog X.w X.K X.mg X.fw k x ps (spR f))(hr:Room j X.A)(ha:Wr.WDA X (e::es) ta)(hk:k<=j:=by decide)(hg:Gl X x:=by rfl)(hdb:zB x:=by decide)(he:zS X e es:=by rfl)(hpl:zP X pos es:=by rfl) :
  Wr.WD X (.Call (.Name x p) (e::es) [] pos) (Uv f ta):=⟨PE.wk (pcS C hr ha.h hk hg hdb he hpl) (by
 rintro σ H Q ⟨p,H0,own,ρ,P,E,t,q⟩;refine⟨p,H0,own,ρ,_,E,t,λks vs H1 h A r=>?_⟩;show spR f (vs++[]) H1 Q E0;rw[List.append_nil];have c:=dH (joins ks) .new;refine⟨okK p H0 own H (joins ks),ks.map (·.2),_,RpK.all A (Kd.le_refl _) r,h,λd v H' hP s rv=>?_⟩;have g:Kp p H1 H':=Kp.of s;refine q _ d v H' hP (A.go g (p.mono H1 H' A.pen λb o _ e=>s b o e)) (aR (rv.mono (λa o=>?_) (λ_ _ _ e=>e) λ_ _ e=>e));rcases o with o|o
 ·exact dD A c.1 o
 ·exact dD A c.2 (A.free o))⟩
def V6(i q:Nat)(te:DE):DS:=λP ρ=>te ρ λk d=>(norm k d).le .new=true/\P.nx (ρ.set i (.dw q d))
def Eh(q:Nat)(hN:X.N.Nodup)(hi:X.N[i]?=some x)(c:Loc X.env.scope x)(he:Wr.WD X e te)(hs:ZQ e (some (.Name x pos')) spos.line X.env=pure false:=by rfl)(b:zL X x:=by first|exact .inl rfl|exact .inr rfl) :
  Wr.WDS X (.Assign [.Name x pos'] e spos) (V6 i q te):=⟨PS.wk' (eY hN hi c he.h hs b) (by
 rintro Q σ H ⟨p,H0,own,ρ,P,E,t,w⟩;refine⟨p,H0,own,ρ,_,E,t,λk d v H1 h A r=>?_⟩;show Q.nx (σ.set i (some v)) H1;have a:=E.adopt q A;exact w.nx _ _ H1 _ (a.set (s:=.dw q d) λhl=>⟨v,List.getElem?_set_self hl,oY h.1 A (aR r)⟩) (fC A) h.2)⟩
def Tp(i q:Nat)(f:eo)(t:DA):DS:=λP ρ=>t ρ λks=>(∀kd∈ks,(norm kd.1 kd.2).le .new=true\/norm kd.1 kd.2=.reg q)/\f (ks.map (·.2)) λd=>P.nx (ρ.set i (.dw q d))
def K9(q:Nat)(hN:X.N.Nodup)(hi:X.N[i]?=some y)(D:Loc X.env.scope y)(C:Cal X.prog X.w X.K X.mg X.fw k x ps (spR f))(hr:Room j X.A)(ha:Wr.WDA X (e::es) ta)(hk:k<=j:=by decide)(hg:Gl X x:=by rfl)(hdb:zB x:=by decide)(he:zS X e es:=by rfl)(hpl:zP X pos es:=by rfl)(hs:ZQ (.Call (.Name x p) (e::es) [] pos) (some (.Name y pos')) spos.line X.env=pure false:=by rfl)(B:zL X y:=by first|exact .inl rfl|exact .inr rfl) :
  Wr.WDS X (.Assign [.Name y pos'] (.Call (.Name x p) (e::es) [] pos) spos) (Tp i q f ta):=⟨PS.wk' (eY hN hi D (pcS C hr ha.h hk hg hdb he hpl) hs B) (by
 rintro Q σ H ⟨p,H0,own,ρ,P,E,t,w⟩;refine⟨p,H0,own,ρ,_,E,t,λks vs H1 h A r=>?_⟩;show spR f (vs++[]) H1 _ E0;rw[List.append_nil];have c:=E.adopt q A;have G:Rps (λa=>cW q H H1 own a=some q) H1 vs (ks.map (·.2)):=by
  have hk:=h.1;clear h;induction r with
  |nil=>exact .nil
  |cons h tl ih =>
   refine .cons ?_ (ih λkd hm=>hk kd (List.mem_cons_of_mem _ hm));rcases hk _ List.mem_cons_self with z|z
   ·exact oY z A (aR h)
   ·have h2:=aR h;rw[z]at h2;exact h2.bO (λa o n e=>⟨by
     have g:=(E.ow a q n).2.2;cases hh:H a with
     |none=>exact ef hh g
     |some u=>rw[bL hh];exact n,e⟩) λ_ _ e=>e
 refine⟨λa=>cW q H H1 own a=some q,ks.map (·.2),_,G,h.2,λd v H' hP s rv=>?_⟩;show Q.nx (σ.set i (some v)) H';have F:Kp p H1 H':=Kp.of s;have l:At p H0 (cW q H H1 own) H1 H':=c.at.go F (p.mono H1 H' c.pen λb o _ e=>s b o e);have m:=c.adopt q l;refine w.nx _ _ H' _ (m.set (s:=.dw q d) λhl=>⟨v,List.getElem?_set_self hl,rv.bO (λa o n e=>⟨?_,e⟩) λ_ _ e=>e⟩) ((fC A).trans (fC l)) hP;rcases n with n|n
 ·have g:=(c.ow a q n).2.2;cases hh:H1 a with
  |none=>exact ef hh g
  |some u=>rw[bL hh];exact n
 ·exact jd n e)⟩
variable [Gr]
section
variable{st st2:ZF}{rest:List ZF}{te:DE}{t:DS}
end
end Dl
namespace Wr
open L2 Dl
section
variable [Gr] {X:Cx}{te:DE}
end
end Wr
namespace Dl
open L2
variable [Gr]
section
variable{X:Cx}{st st2:ZF}{rest:List ZF}
end
end Dl
namespace Wr
open L2 Dl
section
variable [Gr] {X:Cx}{tj te te1 te2 ta:DE}{t:DS}
end
end Wr
namespace Dl
open L2
section
variable [Gr] {X:Cx}{st:ZF}{te:DE}
def Lj(i c j:Nat):DS:=λP ρ=>match ρ[i]? with
 |some (.dw r (.tuple ds))=>(j<⇑ρ/\i≠j)/\(∃es,ds[c]?=some (.list es)/\∀d∈es,∃ls,d=.list ls)/\P.nx ((forget r ρ).set j .any)
 |_=>False
def OJ{i c j:Nat}(h1:PS X st (Uu (Vr X.K (tOp (U4 X.K) (jw i) (tC (.int c)))) (iW j) (pX (Uz X.K "list" Iz (jw j))))):PDS X st (Lj i c j):=PS.wk' h1 (by
 rintro Q σ H ⟨p,H0,own,ρ,P,E,q,w⟩;unfold Lj at q;split at q
 ·rename_i r ds hr;let⟨⟨hjl,Y⟩,⟨es,A,I⟩,nx⟩:=q;let⟨v,hv,x⟩:=E.slot i _ hr;let⟨a,vs,rfl,ha,U⟩:=Rp.dX x;have lv:=⇑U;have hc:=(List.getElem?_eq_some_iff.mp A).1;let⟨d,hd,J⟩:=U.get (List.getElem?_eq_getElem (():c<⇑vs));rw[A]at hd;cases hd;have C:=List.getElem?_eq_getElem (():c<⇑vs);generalize vs[c]=u at C J;let⟨l,f,rfl,ol,hl,M⟩:=Rp.cV J;refine⟨.ref a,hv,a,vs,_,.ref l,rfl,rfl,SqT.of ha,dh C,l,rfl,.inl ⟨⟨f,SqL.of hl⟩,?_⟩⟩;refine⟨λn m o H'=>m=⇑f - n/\n<=⇑f/\EnvD p H0 own o H' ((forget r ρ).set j .any)/\FrS p own H own H'/\H' l=some (.lst f)/\∀v∈f,∃a us,v=.ref a/\a≠l/\own a=some r/\H' a=some (.lst us),⟨_,rfl,Nat.zero_le _,(E.forgets r).drop,FrS.refl,hl,λv hv=>?_⟩,?_⟩
  ·let⟨k,hk⟩:=List.getElem?_of_mem hv;let⟨d,hd,L⟩:=M.get hk;have S:=List.mem_of_getElem? hd;let⟨W,rfl⟩:=I d S;let⟨a,us,rfl,⟨D,G⟩,ha,_⟩:=Rp.cV (Rp.avoid J L (o7 S));exact⟨a,us,rfl,G,D,ha⟩
  rintro n m o H' ⟨rfl,hn,F,R,g,t⟩;by_cases B:n<⇑f
  ·refine .inr ⟨⟨f,f[n],SqL.of g,List.getElem?_eq_getElem B⟩,λσ2 H2=>n+1<=⇑f/\EnvD p H0 own σ2 H2 ((forget r ρ).set j .any)/\FrS p own H own H2/\H2 l=some (.lst f)/\∀v∈f,∃a us,v=.ref a/\a≠l/\own a=some r/\H2 a=some (.lst us),λσ2 H2 h=>⟨_,(),rfl,h⟩,λx H2 y=>?_⟩;let⟨rfl,y⟩:=y;have y:=y f (SqL.of g);let⟨a,us,rfl,G,D,ha⟩:=t x (List.mem_of_getElem? y);have V:EnvD p H0 own (o.set j (some (.ref a))) H2 ((forget r ρ).set j .any):=by
    have:=F.set (i:=j) (v:=.ref a) (s:=.any) λ_=>trivial
    rwa [List.set_set]at this
   have Z:j<⇑o:=by
    have:=F.len;rw[List.length_set]at this;unfold forget at this;rw[List.length_map]at this;lia
   refine⟨.ref a,List.getElem?_set_self Z,.inl ⟨rfl,us,SqL.of ha⟩,a,us,rfl,rfl,ha,?_⟩;have O:=V.write (o':=.lst []) D ha (λxs z=>nomatch z);rw[Bu]at O;refine⟨B,O,R.trans (d8 D ha λxs z=>nomatch z),?_,λv hv=>?_⟩
   ·rw[ao (Ne.symm G)];exact g
   ·let⟨b,N,e,bl,T,hb⟩:=t v hv;by_cases z:b=a
    ·subst z;exact⟨b,_,e,bl,T,aB⟩
    ·exact⟨b,N,e,bl,T,by rw[ao z];exact hb⟩
  ·have e:n=⇑f:=()
   subst e;exact .inl ⟨⟨f,SqL.of g,Nat.le_refl _⟩,w.nx own _ _ _ F R nx⟩
 ·exact q.elim)
def Tr(i c:Nat)(te:DE):DS:=λP ρ=>match ρ[i]? with
 |some (.dw r (.list ds))=>(∃es,ds[c]?=some (.list es)/\⇑es<900)/\te ρ λ_ _=>P.nx (forget r ρ)
 |_=>False
def Tn{i c:Nat}(h1:PS X st (pX (tBM X.K "list" kW (tOp (Q0 X.K) (jw i) (tC (.int c))) (ju (fU te lR))))):PDS X st (Tr i c te):=PS.wk' h1 (by
 rintro Q σ H ⟨p,H0,own,ρ,P,E,q,w⟩;unfold Tr at q;split at q
 ·rename_i r ds hr;let⟨⟨es,f,le⟩,q⟩:=q;let⟨v,hv,x⟩:=E.slot i _ hr;let⟨a,vs,rfl,J,ha,n⟩:=Rp.cV x;have G:=⇑n;have hc:=(List.getElem?_eq_some_iff.mp f).1;let⟨d,hd,m⟩:=n.get (List.getElem?_eq_getElem (():c<⇑vs));rw[f]at hd;cases hd;have g:=List.getElem?_eq_getElem (():c<⇑vs);generalize vs[c]=u at g m;let⟨b,j,rfl,k,hb,l⟩:=Rp.cV m;have I:=⇑l;have A:=Z9;refine⟨.ref a,hv,a,vs,_,.ref b,rfl,rfl,SqL.of ha,dh g,.inl ⟨rfl,j,SqL.of hb⟩,p,H0,own,ρ,_,E,qL q,?_⟩;rintro ks us t ⟨F,D,rfl,B⟩ h C;let⟨y,rfl,L⟩:=iB C;have o:=E.go h.kp h.pen;have e:t b=some (.lst j):=h.kp b _ hb (E.ow b r k).2.1;refine⟨b,j,y,rfl,rfl,e,(),?_⟩;have s:=o.write (o':=.lst (j++[y])) k e (λxs z=>nomatch z);exact w.nx own _ _ _ s (h.frs.trans (d8 k e λxs z=>nomatch z)) B
 ·exact q.elim)
end
section
variable [Gr] {X:Cx}{te:DE}
def GD{i j c:Nat}{x z:Str}{k:Nat}{a b l g pv d pos o sp:Pos}(hp:ZW (model X.prog X.w) X.A X.env X.xe)(m:X.calm=true)(s:Wr.WV X (.Name z g) i)(hN:X.N.Nodup)(q:X.N[j]?=some x)(r:Loc X.env.scope x)(hv:Wr.WV X (.Name x l) j)(e:Yd (.Name x l) "clear" X.env (Zv (.Name x l) X.env)=Zv (.Name x l) X.env:=by rfl)(f:(a.endLine==b.line)=true:=by rfl)(hs:ZQ (.Call (.Attribute (.Name x l) "clear" a) [] [] b) none d.line X.env=pure false:=by rfl)(p:zL X x:=by first|exact .inl rfl|exact .inr rfl|assumption)(n:∀y,Zx (.Subscript (.Name z g) (.Constant (.int (~~~c)) k o) sp) X.env y=pure y:=by intro _;rfl) :
  Wr.WDS X (.For (.Name x pv) (.Subscript (.Name z g) (.Constant (.int (~~~c)) k o) sp) [.Expr (.Call (.Attribute (.Name x l) "clear" a) [] [] b) d] [] pos) (Lj i c j):=⟨OJ (Jf hp m (Jk (xK Kl s.h cL (λ_ _=>rfl))) (vB hN q r p) (fZ (gb (Rq PySem.F.plainAttrs_list PySem.F.slot_list_clear PySem.F.type_list_clear JR hv.h e f) hs)) n)⟩
def La{i c:Nat}{x:Str}{e:Zt}{es:List Zt}{k:Nat}{j m sp b a pos:Pos}(hv:Wr.WV X (.Name x j) i)(ha:Wr.WDA X (e::es) (fU te lR))(f:Yd (.Subscript (.Name x j) (.Constant (.int (~~~c)) k m) sp) "append" X.env (Zv (.Subscript (.Name x j) (.Constant (.int (~~~c)) k m) sp) X.env)=Zv (.Subscript (.Name x j) (.Constant (.int (~~~c)) k m) sp) X.env:=by rfl)(l:zW X a (e::es):=by rfl)(g:(b.endLine==a.line)=true:=by rfl)(hst:zS X e es:=by rfl)(d:zP X a es:=by rfl)(hs:ZQ (.Call (.Attribute (.Subscript (.Name x j) (.Constant (.int (~~~c)) k m) sp) "append" b) (e::es) [] a) none pos.line X.env=pure false:=by rfl) :
  Wr.WDS X (.Expr (.Call (.Attribute (.Subscript (.Name x j) (.Constant (.int (~~~c)) k m) sp) "append" b) (e::es) [] a) pos) (Tr i c te):=⟨Tn (gb (uJ PySem.F.plainAttrs_list PySem.F.slot_list_append PySem.F.type_list_append iV (xK qO hv.h cL (λ_ _=>rfl)) ha.h f l g hst d) hs)⟩
end
def grU(T:Pn):Gr:=⟨λp _=>p=T⟩
section
variable{X:Cx}{k j:Nat}{x:Str}{ps:List Str}{e:Zt}{es:List Zt}{t:DA}{p pos:Pos}{T:Pn}{f:eo}
def Te{Tm:DS}{N:List Str}{vs:List V}{H:Hp}{Q:VK}{E:XK}(h:spT T f vs H Q E)(a:∀ds P,f ds P->∃ρ,ds.map d7++List.replicate (⇑N - ⇑ds) .any=ρ/\Tm { nx:=λ_=>P .none,rt:=P } ρ):@jT (grU T) Tm { nx:=λ_ H'=>Q .non H',rt:=Q } (L2.start N vs) H:=by
 letI:=grU T;let⟨ds,P,c,r,t,q⟩:=h;let⟨ρ,e,b⟩:=a ds P t;have E:=lF (p:=T) (N:=N) rfl c r;rw[⇑r,e]at E;exact⟨T,H,λ_=>none,_,_,E,b,⟨λo s h' r' e' _ n=>q _ _ h' n e'.k0 e'.pen .non,λd v h' n w=>q d v h' n w.k0 w.pen (w.rp.mono (λ_ o=>o.1) (λ_ _ _ e=>e) λ_ _ e=>e),λ_ _ _ _ _ _ n=>n.elim,λ_ _ _ _ _ _ n=>n.elim⟩⟩
end
end Dl
namespace Wr
open L2 Dl
variable{X:Cx}{k j:Nat}{x:Str}{ps:List Str}{e:Zt}{es:List Zt}{t:DA}{p pos:Pos}{T:Pn}{f:eo}
end Wr
set_option maxHeartbeats 4000000
namespace L2
open PySem.Spec
section
variable{M:ZD}{A:Zr}{E:em}{s:Shared}
def Lts(M:ZD)(A:Zr)(E:em)(s:Shared)(κ:Y3)(a:Keyed->Prop)(key:Keyed->Int):Prop:=∀(x y:Keyed)(st:Y4)(Q:Option Bool->Y4->Prop),a x->a y->kindOf st=κ->Q (some (decide (key x<key y))) st->wpS M A E s (lt' x y) Q st
variable{κ:Y3}{mem:Keyed->Prop}{key:Keyed->Int}
def wN{a:Array Keyed}{i:Nat}{p:Keyed}{Q:Keyed->Y4->Prop}{st:Y4}(e:a[i]?=some p)(h:Q p st):wpS M A E s (elem' a i) Q st:=by
 rw[elem'_eq,e];exact WB h
end
section
variable{key:Keyed->Int}
def T4(key:Keyed->Int)(l:List Keyed):Prop:=l.Pairwise λx y=>key x<=key y
def Lel(key:Keyed->Int)(l r:List Keyed):Prop:=∀x∈l,∀y∈r,key x<=key y
structure MI(key:Keyed->Int)(T out R S:List Keyed):Prop where
 pm:(out++(R++S)).Perm T
 so:T4 key out
 sr:T4 key R
 ss:T4 key S
 le:Lel key out (R++S)
structure Alk(st st':Y4):Prop where
 a:Y5 st'=Y5 st
 k:kindOf st'=kindOf st
 p:Xn st'=Xn st
 f:Y6 st'=Y6 st
section
variable{key:Keyed->Int}{a b out:Array Keyed}{ia ib k:Nat}
end
section
variable{M:ZD}{A:Zr}{E:em}{s:Shared}{κ:Y3}{mem:Keyed->Prop}{key:Keyed->Int}
def fG{α:Type}{c:Prop}[Decidable c]{t u:StateT Y4 Sem α}{Q:α->Y4->Prop}{st:Y4}(h1:c->wpS M A E s t Q st)(h2:¬c->wpS M A E s u Q st):wpS M A E s (if c then t else u) Q st:=by
 by_cases h:c
 ·rw[ed h];exact h1 h
 ·rw[ee h];exact h2 h
def ga(xs:Array Keyed)(i:Nat):Keyed:=(xs[i]?).getD (.none,.none)
def DN{xs:Array Keyed}{i:Nat}(h:i<xs.size):ga xs i=xs[i]:=by
 unfold ga;rw[getElem?_pos xs i h];rfl
def Ks{xs:Array Keyed}{i:Nat}(h:i<xs.size):xs[i]?=some (ga xs i):=by
 rw[DN h,getElem?_pos xs i h]
section
variable{key:Keyed->Int}{a b out:Array Keyed}{na nb k:Nat}
def tk(a:Array Keyed)(n:Nat):List Keyed:=(a.toList.take n).reverse
end
end
section
variable{key:Keyed->Int}{xs ys l:Array Keyed}{off i j:Nat}
def Seg(key:Keyed->Int)(xs:Array Keyed)(i j:Nat):Prop:=∀u v,i<=u->u<=v->v<j->key (ga xs u)<=key (ga xs v)
end
end
structure Kep(a₀:Array Keyed)(κ:Y3)(st:Y4):Prop where
 perm:(Y5 st).toList.Perm a₀.toList
 kind:kindOf st=κ
 fail:Y6 st=none
def Kep.size{a₀:Array Keyed}{κ:Y3}{st:Y4}(h:Kep a₀ κ st):(Y5 st).size=a₀.size:=by
 have:=h.perm.length_eq;simpa using this
section
variable{M:ZD}{A:Zr}{E:em}{s:Shared}{κ:Y3}{key:Keyed->Int}{a₀:Array Keyed}
def yE{xs ys:Array Keyed}{i j:Nat}(h:xs[i]?=ys[j]?):ga xs i=ga ys j:=by
 unfold ga;rw[h]
def v9{xs:Array Keyed}{i j:Nat}(a:j<=xs.size)(k:Nat):ga (WE xs i j ((j - i) / 2)) k=if i<=k/\k<j then ga xs (i+j - 1 - k)else ga xs k:=by
 have e:=YZ (i:=i) a k;by_cases c:i<=k/\k<j
 ·rw[ed c]at e ⊢;exact yE e
 ·rw[ee c]at e ⊢;exact yE e
def Bo{xs:Array Keyed}{src d:Nat}(hs:src<xs.size)(hd:d<=src)(k:Nat):ga (YY xs src d) k=if k=src - d then ga xs src else if src - d<k/\k<=src then ga xs (k - 1)else ga xs k:=by
 have e:=Y0 hs d hd k;by_cases c:k=src - d
 ·rw[ed c]at e ⊢;exact yE e
 ·rw[ee c]at e ⊢;by_cases a:src - d<k/\k<=src
  ·rw[ed a]at e ⊢;exact yE e
  ·rw[ee a]at e ⊢;exact yE e
structure Rn(a₀:Array Keyed)(κ:Y3)(P:Array (Nat×Nat×Nat))(X:Array Keyed)(lo hi:Nat)(st:Y4):Prop where
 k:Kep a₀ κ st
 p:Xn st=P
 o:∀j,j<lo\/hi<=j->ga (Y5 st) j=ga X j
section
variable{M:ZD}{A:Zr}{E:em}{s:Shared}{κ:Y3}{key:Keyed->Int}{a₀ X:Array Keyed}{P:Array (Nat×Nat×Nat)}{lo hi:Nat}
def Rn.mir{st:Y4}(h:Rn a₀ κ P X lo hi st){i j:Nat}(h1:lo<=i)(h2:j<=hi)(a:hi<=a₀.size):Rn a₀ κ P X lo hi (setArr st (WE (Y5 st) i j ((j - i) / 2))) :=
 ⟨⟨(Array.perm_iff_toList_perm.mp (mirror_perm _ _ _ _)).trans h.k.perm,h.k.kind,h.k.fail⟩,h.p,λt ht=>by
  show ga (WE (Y5 st) i j ((j - i) / 2)) t=_;rw[v9 (by rw[h.k.size];lia),ee ()];exact h.o t ht⟩
def Rn.bub{st:Y4}(h:Rn a₀ κ P X lo hi st){src d:Nat}(h1:lo<=src - d)(h2:src<hi)(b:hi<=a₀.size)(a:d<=src):Rn a₀ κ P X lo hi (setArr st (YY (Y5 st) src d)) :=
 ⟨⟨(Array.perm_iff_toList_perm.mp (bubble_perm _ _ _)).trans h.k.perm,h.k.kind,h.k.fail⟩,h.p,λt ht=>by
  show ga (YY (Y5 st) src d) t=_;rw[Bo (by rw[h.k.size];lia) a,ee (),ee ()];exact h.o t ht⟩
def kE(L:Lts M A E s κ (·∈a₀.toList) key){st:Y4}(K:Kep a₀ κ st){i j:Nat}(hi:i<a₀.size)(a:j<a₀.size){Q:Option Bool->Y4->Prop}(h:Q (some (decide (key (ga (Y5 st) i)<key (ga (Y5 st) j)))) st):wpS M A E s (ltAt' i j) Q st:=by
 have c:=K.size;have b:∀j,j<a₀.size->ga (Y5 st) j∈a₀.toList:=λj a=>K.perm.mem_iff.mp (by rw[DN ()];simp);refine wpS_bind (WF ?_);refine wpS_bind (wN (Ks (xs:=Y5 st) ()) (wpS_bind (wN (Ks (xs:=Y5 st) ()) ?_)));exact L _ _ _ _ (b i hi) (b j a) K.kind h
def Ew(L:Lts M A E s κ (·∈a₀.toList) key){n ok:Nat}{Q:Bool->Y4->Prop}{st:Y4}(R:Rn a₀ κ P X lo hi st)(hh:lo+n<=hi)(hn:hi<=a₀.size)(D:ok<=n)(hs:Seg key (Y5 st) lo (lo+ok))(h:∀st',Rn a₀ κ P X lo hi st'->Seg key (Y5 st') lo (lo+n)->Q true st'):wpS M A E s (binarySort' lo n ok) Q st:=by
 refine wpS_bind (WG (WH (I:=λk c st'=>c=(none,PUnit.unit)/\Rn a₀ κ P X lo hi st'/\Seg key (Y5 st') lo (lo+min k n)) (Q:=λc st'=>c=(none,PUnit.unit)/\Rn a₀ κ P X lo hi st'/\Seg key (Y5 st') lo (lo+n)) ?step ?fin ⟨rfl,R,?init⟩) ?post)
 case init =>
  intro u v h1 h2 q;by_cases c:ok=0
  ·have:u=v:=()
   subst this;exact Int.le_refl _
  ·exact hs u v h1 h2 ()
 case fin =>
  rintro c st' ⟨rfl,R',g⟩;exact⟨rfl,R',λu v h1 h2 q=>g u v h1 h2 ()⟩
 case post =>
  rintro c st' ⟨rfl,R',g⟩;exact WB (h st' R' g)
 case step =>
  rintro k c st' B C ⟨rfl,R',g⟩;dsimp only;have g:Seg key (Y5 st') lo (lo+k):=λu v h1 h2 q=>g u v h1 h2 ();have J:=R'.k.size;refine wpS_bind (WG (WH (I:=λy c a=>a=st'/\∃l r,c=(none,l,r)/\l<=r/\r<=k/\r - l<=k - y/\(∀i,i<l->key (ga (Y5 st') (lo+i))<=key (ga (Y5 st') (lo+k)))/\∀i,r<=i->i<k->key (ga (Y5 st') (lo+k))<key (ga (Y5 st') (lo+i))) (Q:=λc a=>a=st'/\∃l r,c=(none,l,r)/\l<=k/\(∀i,i<l->key (ga (Y5 st') (lo+i))<=key (ga (Y5 st') (lo+k)))/\∀i,l<=i->i<k->key (ga (Y5 st') (lo+k))<key (ga (Y5 st') (lo+i))) ?istep ?ifin ⟨rfl,0,k,rfl,(),(),(),(λi hi=>()),(λi h1 h2=>())⟩) ?ipost)
  case ifin =>
   rintro c a ⟨rfl,l,r,rfl,F,p,G,b,f⟩;have e:l=r:=()
   subst e;exact⟨rfl,l,l,rfl,p,b,f⟩
  case istep =>
   rintro y c a _ H ⟨rfl,l,r,rfl,F,p,G,b,f⟩;dsimp only;refine fG (λc=>?_) (λc=>?_)
   ·have e:l=r:=()
    subst e;exact WB ⟨rfl,l,l,rfl,p,b,f⟩
   ·refine wpS_bind (kE L R'.k () () ?_);dsimp only;by_cases z:key (ga (Y5 a) (lo+k))<key (ga (Y5 a) (lo+(l+r) / 2))
    ·rw[ed (fy z)];exact WB ⟨rfl,l,(l+r) / 2,rfl,(),(),(),b,λi h1 h2=>Int.lt_of_lt_of_le z (g _ _ () () ())⟩
    ·rw[ee ↑z];exact WB ⟨rfl,(l+r) / 2+1,r,rfl,(),(),(),λi h1=>Int.le_trans (g _ (lo+(l+r) / 2) () () ()) (Int.not_lt.mp z),f⟩
  case ipost =>
   rintro c a ⟨rfl,l,r,rfl,p,b,f⟩;dsimp only;refine wpS_bind (WI (WB ⟨rfl,R'.bub (src:=lo+k) (d:=lo+k - (lo+l)) () () hn (),λu v h1 h2 q=>?_⟩));show key (ga (YY (Y5 a) (lo+k) (lo+k - (lo+l))) u)<=key (ga (YY (Y5 a) (lo+k) (lo+k - (lo+l))) v);have t:∀j,lo<=j->j<lo+l->key (ga (Y5 a) j)<=key (ga (Y5 a) (lo+k)):=λj h1 h2=>by
    have:=b (j - lo) ()
    rwa [show lo+(j - lo)=j by lia]at this
   have w:∀j,lo+l<=j->j<lo+k->key (ga (Y5 a) (lo+k))<key (ga (Y5 a) j):=λj h1 h2=>by
    have:=f (j - lo) () ()
    rwa [show lo+(j - lo)=j by lia]at this
   rw[Bo () (),Bo () (),show lo+k - (lo+k - (lo+l))=lo+l by lia];by_cases x:u=lo+l
   ·rw[ed x];by_cases cv:v=lo+l
    ·rw[ed cv];exact Int.le_refl _
    ·rw[ee cv,ed ()];exact Int.le_of_lt (w _ () ())
   ·rw[ee x];by_cases m:lo+l<u/\u<=lo+k
    ·rw[ed m,ee (),ed ()];exact g _ _ () () ()
    ·rw[ee m];by_cases cv:v=lo+l
     ·rw[ed cv];exact t u h1 ()
     ·rw[ee cv];by_cases o:lo+l<v/\v<=lo+k
      ·rw[ed o];exact g _ _ h1 () ()
      ·rw[ee o];exact g _ _ h1 h2 ()
def Fal(key:Keyed->Int)(xs:Array Keyed)(i j:Nat):Prop:=∀u v,i<=u->u<=v->v<j->key (ga xs v)<=key (ga xs u)
def wX{xs:Array Keyed}{i j:Nat}(h:Seg key xs i j)(b:i<j)(c:key (ga xs (j - 1))<=key (ga xs j)):Seg key xs i (j+1):=λu v h1 h2 h3=>by
 by_cases e:v=j
 ·subst e;by_cases a:u=v
  ·subst a;exact Int.le_refl _
  ·exact Int.le_trans (h u (v - 1) h1 () ()) c
 ·exact h u v h1 h2 ()
def yJ{xs:Array Keyed}{i j:Nat}(h:Fal key xs i j)(b:i<j)(c:key (ga xs j)<=key (ga xs (j - 1))):Fal key xs i (j+1):=λu v h1 h2 h3=>by
 by_cases e:v=j
 ·subst e;by_cases a:u=v
  ·subst a;exact Int.le_refl _
  ·exact Int.le_trans c (h u (v - 1) h1 () ())
 ·exact h u v h1 h2 ()
def Oq{xs:Array Keyed}{i j:Nat}(h:Fal key xs i j)(a:j<=xs.size):Seg key (WE xs i j ((j - i) / 2)) i j:=λu v h1 h2 h3=>by
 rw[v9 a,v9 a,ed (),ed ()];exact h _ _ () () ()
def Bw{xs:Array Keyed}{i j:Nat}(a:j<=xs.size)(h:∀k,i<=k->k<j->key (ga xs k)=key (ga xs (j - 1)))(k:Nat):key (ga (WE xs i j ((j - i) / 2)) k)=key (ga xs k):=by
 rw[v9 a];by_cases c:i<=k/\k<j
 ·rw[ed c,h _ () (),h k c.1 c.2]
 ·rw[ee c]
def Ck{α:Type}{b c:StateT Y4 Sem α}{Pr:Y4->Prop}{Q:α->Y4->Prop}{st:Y4}(d:∀st1,Pr st1->wpS M A E s c Q st1)(a:(∀st1,Pr st1->wpS M A E s c Q st1)->wpS M A E s b Q st):wpS M A E s b Q st:=a d
def Mg(hr:∀(t:String)(Q:Unit->Shared->Prop),Q .unit s->wpAny M A (rule t) Q E s)(L:Lts M A E s κ (·∈a₀.toList) key){nrem:Nat}{Q:Option Nat->Y4->Prop}{st:Y4}(R:Rn a₀ κ P X lo (lo+nrem) st)(hn:lo+nrem<=a₀.size)(h1:1<=nrem)(h:∀n st',1<=n->n<=nrem->Rn a₀ κ P X lo (lo+nrem) st'->Seg key (Y5 st') lo (lo+n)->Q (some n) st'):wpS M A E s (countRun' lo nrem) Q st:=by
 have hz:=R.k.size;have H:∀xs:Array Keyed,Seg key xs lo (lo+1):=λxs u v h1 h2 h3=>by
  have:u=v:=()
  subst this;exact Int.le_refl _
 refine wpS_bind (WG (WH (I:=λy c st'=>st'=st/\c=(none,y)/\Seg key (Y5 st) lo (lo+y)) (Q:=λc st'=>st'=st/\∃n,c=(none,n)/\1<=n/\n<=nrem/\Seg key (Y5 st) lo (lo+n)/\(n<nrem->key (ga (Y5 st) (lo+n))<key (ga (Y5 st) (lo+n - 1)))) ?step ?fin ⟨rfl,rfl,H _⟩) ?post)
 case fin =>
  rintro c st' ⟨rfl,rfl,g⟩;exact⟨rfl,_,rfl,(),(),g,λz=>()⟩
 case step =>
  rintro y c st' N F ⟨rfl,rfl,g⟩;dsimp only;refine wpS_bind (kE L R.k () () ?_);dsimp only;by_cases z:key (ga (Y5 st') (lo+y))<key (ga (Y5 st') (lo+y - 1))
  ·rw[ed (fy z)];exact WB ⟨rfl,y,rfl,N,(),g,λ_=>z⟩
  ·rw[ee ↑z];exact WB ⟨rfl,rfl,show Seg key _ lo (lo+y+1)from wX g () (Int.not_lt.mp z)⟩
 case post =>
  rintro c st' ⟨rfl,n,rfl,O,S,g,C⟩;dsimp only;refine fG (λc=>WB (h n _ O S R g)) (λc=>?_);have c:¬n=nrem:=↑c
  have C:=C ();apply Ck (Pr:=λd=>Rn a₀ κ P X lo (lo+nrem) d/\Fal key (Y5 d) lo (lo+n+1))
  rotate_left
  focus
   intro tail;refine fG (λc2=>?_) (λc2=>?_)
   ·refine wpS_bind (kE L R.k () () ?_);dsimp only;by_cases z:key (ga (Y5 st') lo)<key (ga (Y5 st') (lo+n - 1))
    ·rw[ed (fy z)];exact WB (h n _ O S R g)
    ·rw[ee ↑z];have z:=Int.not_lt.mp z;have B:∀k,lo<=k->k<lo+n->key (ga (Y5 st') k)=key (ga (Y5 st') (lo+n - 1)):=λk h1 h2=>by
      have Z:=g k (lo+n - 1) h1 () ();have a2:=g lo k (Nat.le_refl _) h1 h2;lia
     have o:=Bw (xs:=Y5 st') (i:=lo) (j:=lo+n) () B;refine wpS_bind (WI (tail _ ⟨R.mir (i:=lo) (j:=lo+n) (Nat.le_refl _) () hn,λu v h1 h2 h3=>?_⟩));show key (ga (WE (Y5 st') lo (lo+n) ((lo+n - lo) / 2)) v)<=key (ga (WE (Y5 st') lo (lo+n) ((lo+n - lo) / 2)) u);rw[o,o];by_cases e:v=lo+n
     ·subst e;by_cases f:u=lo+n
      ·subst f;exact Int.le_refl _
      ·have:=B u h1 ();lia
     ·have Z:=B u h1 ();have a2:=B v () ();lia
   ·refine tail _ ⟨R,λu v h1 h2 h3=>?_⟩;have e:n=1:=()
    subst e;rw[show lo+1 - 1=lo by lia]at C;by_cases e:u=v
    ·subst e;exact Int.le_refl _
    ·have e1:u=lo:=()
     have f:v=lo+1:=()
     rw[e1,f];exact Int.le_of_lt C
  focus
   rintro d ⟨V,U⟩;refine wpS_bind (WN (hr _ _ ⟨rfl,?_⟩));refine wpS_bind (WG (WH (I:=λy c a=>Rn a₀ κ P X lo (lo+nrem) a/\∃q,c=(none,y,q)/\q+1<=y/\Fal key (Y5 a) lo (lo+y)/\∀k,lo+y - (q+1)<=k->k<lo+y->key (ga (Y5 a) k)=key (ga (Y5 a) (lo+y - 1))) (Q:=λc a=>Rn a₀ κ P X lo (lo+nrem) a/\∃y q,c=(none,y,q)/\1<=y/\y<=nrem/\q+1<=y/\Fal key (Y5 a) lo (lo+y)/\∀k,lo+y - (q+1)<=k->k<lo+y->key (ga (Y5 a) k)=key (ga (Y5 a) (lo+y - 1))) ?dstep ?dfin ⟨V,0,rfl,(),U,λk h1 h2=>?dinit⟩) ?dpost)
   case dinit =>
    have e:k=lo+(n+1) - 1:=()
    rw[e]
   case dfin =>
    rintro c a ⟨R2,q,rfl,D,l,f⟩;exact⟨R2,_,q,rfl,(),(),D,l,f⟩
   case dstep =>
    rintro y c a N F ⟨R2,q,rfl,D,l,f⟩;dsimp only;have G:=R2.k.size;refine wpS_bind (kE L R2.k () () ?_);dsimp only;by_cases z:key (ga (Y5 a) (lo+y))<key (ga (Y5 a) (lo+y - 1))
    ·rw[ed (fy z)];have p:Fal key (Y5 a) lo (lo+y+1):=yJ l () (Int.le_of_lt z);refine fG (λc3=>?_) (λc3=>?_)
     ·have o:=Bw (xs:=Y5 a) (i:=lo+y - (q+1)) (j:=lo+y) () f;refine wpS_bind (WI (WB ⟨R2.mir (i:=lo+y - (q+1)) (j:=lo+y) () () hn,0,rfl,(),λu v h1 h2 h3=>?_,λk h1 h2=>?_⟩))
      ·show key (ga (WE (Y5 a) _ _ _) v)<=key (ga (WE (Y5 a) _ _ _) u);rw[o,o];exact p u v h1 h2 h3
      ·have e:k=lo+(y+1) - 1:=()
       rw[e]
     ·refine WB ⟨R2,0,rfl,(),p,λk h1 h2=>?_⟩;have e:k=lo+(y+1) - 1:=()
      rw[e]
    ·rw[ee ↑z];refine wpS_bind (kE L R2.k () () ?_);dsimp only;by_cases T:key (ga (Y5 a) (lo+y - 1))<key (ga (Y5 a) (lo+y))
     ·rw[ed (fy T)];exact WB ⟨R2,y,q,rfl,(),(),D,l,f⟩
     ·rw[ee ↑T];have J:key (ga (Y5 a) (lo+y))=key (ga (Y5 a) (lo+y - 1)):=()
      have p:Fal key (Y5 a) lo (lo+y+1):=yJ l () (Int.le_of_eq J);refine WB ⟨R2,q+1,rfl,(),p,λk h1 h2=>?_⟩;rw[show lo+(y+1) - 1=lo+y by lia,J];by_cases e:k=lo+y
      ·rw[e,J]
      ·exact f k () ()
   case dpost =>
    rintro c a ⟨R2,y,q,rfl,y1,y2,D,l,f⟩;dsimp only;have G:=R2.k.size;apply Ck (Pr:=λd=>Rn a₀ κ P X lo (lo+nrem) d/\Fal key (Y5 d) lo (lo+y))
    rotate_left
    focus
     intro tail;refine fG (λc3=>?_) (λc3=>tail _ ⟨R2,l⟩);have o:=Bw (xs:=Y5 a) (i:=lo+y - (q+1)) (j:=lo+y) () f;refine wpS_bind (WI (tail _ ⟨R2.mir (i:=lo+y - (q+1)) (j:=lo+y) () () hn,λu v h1 h2 h3=>?_⟩));show key (ga (WE (Y5 a) _ _ _) v)<=key (ga (WE (Y5 a) _ _ _) u);rw[o,o];exact l u v h1 h2 h3
    focus
     rintro w ⟨K,p⟩;have hz3:=K.k.size;refine wpS_bind (WI ?_);have W:=K.mir (i:=lo) (j:=lo+y) (Nat.le_refl _) () hn;have Y:Seg key (Y5 (setArr w (WE (Y5 w) lo (lo+y) ((lo+y - lo) / 2)))) lo (lo+y):=Oq p ();refine wpS_bind (WG (WH (I:=λx c b=>Rn a₀ κ P X lo (lo+nrem) b/\c=(none,x)/\Seg key (Y5 b) lo (lo+x)) (Q:=λc b=>Rn a₀ κ P X lo (lo+nrem) b/\∃x,c=(none,x)/\1<=x/\x<=nrem/\Seg key (Y5 b) lo (lo+x)) ?estep ?efin ⟨W,rfl,Y⟩) ?epost)
     case efin =>
      rintro c b ⟨m,rfl,r⟩;exact⟨m,_,rfl,(),(),r⟩
     case estep =>
      rintro x c b hx hx2 ⟨m,rfl,r⟩;dsimp only;have hz4:=m.k.size;refine wpS_bind (kE L m.k () () ?_);dsimp only;by_cases z:key (ga (Y5 b) (lo+x))<key (ga (Y5 b) (lo+x - 1))
      ·rw[ed (fy z)];exact WB ⟨m,x,rfl,(),(),r⟩
      ·rw[ee ↑z];exact WB ⟨m,rfl,show Seg key _ lo (lo+x+1)from wX r () (Int.not_lt.mp z)⟩
     case epost =>
      rintro c b ⟨m,x,rfl,x1,x2,r⟩;exact WB (h x b x1 x2 m r)
end
section
variable{key:Keyed->Int}{xs ys:Array Keyed}
def rl(p:Array (Nat×Nat×Nat)):List (Nat×Nat):=p.toList.map λt=>(t.1,t.2.1)
end
end
open Classical in
section
variable{prog:Za}{w:Zb}{A:Zr}{s:Shared}{E:em}
end
section
variable{X:Cx}
end
end L2
namespace Dl
open L2
variable [Gr]
section
variable{X:Cx}{pos:Pos}{a b c e:Zt}{es:List Zt}{ta tb tc te:DE}{t:DA}
end
end Dl
namespace Wr
open L2 Dl
section
variable [Gr]
variable{X:Cx}{pos:Pos}{a b c e:Zt}{es:List Zt}{ta tb tc te:DE}{t:DA}
end
end Wr
namespace L2
open PySem.Spec
variable{X:Cx}
section
variable{pins:er}{σ:St}{H:Hp}{s:Shared}{it:Addr}
structure Mine(X:Cx)(pins:er)(H:Hp)(it:Addr):Prop where
 h0:H it=none
 h1:it≠X.env.locals
 h2:X.s₀.heap.objs.size<=it
 h3:∀x c,X.env.cells.lookup x=some c->c≠it
 h4:∀p∈X.pn++pins,p.1≠it
 h5:it∉frs X.stack
def Inv.mine(I:Inv X pins σ H s)(h:↥s<=it):Mine X pins H it :=
 have b:∀o,s.heap.get? it≠some o:=λo e=>ef (Heap.lt_size e) (Nat.not_lt.mpr h)
 ⟨I.hok.fresh h,Nat.ne_of_gt (Nat.lt_of_lt_of_le I.lt h),Nat.le_trans I.sz h,λx c e z=>by
  let⟨v,o,a,_⟩:=I.cell x c e;exact b o (z ▸ a),λp hp z=>b p.2 (z ▸ (I.pin p hp).1),λz=>by
  let⟨_,o,a,_⟩:=I.stack.mem z;exact b o a⟩
def Inv.Di{h':Heap}{t':Nat}(I:Inv X pins σ H s)(m:Mine X pins H it)(k:∀b o,b≠it->s.heap.get? b=some o->h'.get? b=some o):Inv X pins σ H { s with heap:=h',toks:=t' }:=I.turned k m.h0 m.h1 (.inr m.h2) m.h3 m.h4
structure Gro(X:Cx)(ex:List Addr)(H:Hp)(h:Heap)(H1:Hp)(h1:Heap):Prop where
 sm:∀b o,H b=some o->H1 b=some o
 kp:∀b o,h.get? b=some o->H b=none->b≠X.env.locals->b∉frs X.stack->b∉ex->h1.get? b=some o/\H1 b=none
def Gro.refl{a:List Addr}{h:Heap}:Gro X a H h H h:=⟨λ_ _ e=>e,λ_ _ e n _ _ _=>⟨e,n⟩⟩
def Gro.trans{d:List Addr}{g i:Hp}{h h1 h2:Heap}(a:Gro X d H h g h1)(b:Gro X d g h1 i h2):Gro X d H h i h2 :=
 ⟨λc o e=>b.sm c o (a.sm c o e),λc o e n l f x=>by
  let⟨j,k⟩:=a.kp c o e n l f x;exact b.kp c o j k l f x⟩
def Gro.more{i d:List Addr}{g:Hp}{h h1:Heap}(a:Gro X i H h g h1)(k:∀b∈i,b∈d):Gro X d H h g h1:=⟨a.sm,λc o e n l f x=>a.kp c o e n l f λz=>x (k c z)⟩
def Gro.mine{b:Hp}{h h1:Heap}{o:Obj}(a:Gro X [] H h b h1)(m:Mine X pins H it)(e:h.get? it=some o):Mine X pins b it/\h1.get? it=some o:=by
 let⟨c,d⟩:=a.kp it o e m.h0 m.h1 m.h5 (λz=>nomatch z);exact⟨⟨d,m.h1,m.h2,m.h3,m.h4,m.h5⟩,c⟩
end
section
variable{pins:er}{σ:St}{H:Hp}{s:Shared}{A:Zr}{a kS:Addr}{its:eC}{vs:List V}{kz:ew}{e e1:Nat}{P:PySem.Fin->Shared->Prop}{E:em}{keys:eB}
def Gro.own{d:Hp}{h h1 h2:Heap}{b:Addr}(g:Gro X [a,kS] H h d h1)(hb:b=a\/b=kS)(k:∀c o,c≠b->h1.get? c=some o->h2.get? c=some o):Gro X [a,kS] H h d h2:=⟨g.sm,λc o e n l f x=>by
 let⟨e1,i⟩:=g.kp c o e n l f x;refine⟨k c o (λz=>x ?_) e1,i⟩;rcases hb with rfl|rfl
 ·rw[z];exact List.mem_cons_self
 ·rw[z];exact List.mem_cons_of_mem _ (List.mem_singleton.mpr rfl)⟩
def iQ{h:Heap}{o u:Obj}{b:Addr}(e:h.get? b=some u):(h.push o).get? b=some u:=Heap.get?_push_of_some _ e
def Inv.Qz{xs:List V}{out:eC}{c:Nat}(I:Inv X pins σ H s)(m:Mine X pins H a)(r:Vals xs out)(d:⇑xs<=sizeLine)(e:s.heap.get? a=some (Xq "list" out.toArray c)):Inv X pins σ (upd H a (.lst xs)) s:=by
 have nb:∀b u,H b=some u->b≠a:=λb u e z=>by rw[z,m.h0]at e;cases e
 have:=I.step (h':=s.heap) (H':=upd H a (.lst xs)) (g':=s.gens) (d':=s.drawn) (t':=s.toks) (ch:=[a]) (λb hb=>by
  rw[List.mem_singleton.mp hb];exact⟨.inr m.h2,m.h1,m.h3,m.h4⟩) (λb o _ _ _ e _=>e) (λb o _ _ _ e _=>⟨o.slots,e⟩) (λb o hc _ n=>by
  rw[ao (λz=>hc (List.mem_singleton.mpr z))];exact n) (λb o _ e=>⟨o,e⟩) (λb xs e=>by rw[ao (nb b _ e)];exact e) (λb o u e=>by rw[ao (nb b _ e)];exact e) (λb ps e=>⟨#[],by rw[ao (nb b _ e),e];simp⟩) (λ_ z=>z) (λb u eb=>by
  by_cases z:b=a
  ·subst z;rw[aB]at eb;cases eb;exact⟨d,out,c,r,e⟩
  ·rw[ao z]at eb;exact(I.hok b u eb).stay (λc v _ q=>q) (λc q=>by rw[ao (nb c _ q)];exact q) λc xs q=>by rw[ao (nb c _ q)];exact q) I.bare
 exact this
def Paired.perm{α β:Type}{F:α->β->Prop}{xs:List α}{ys b:List β}(hp:ys.Perm b)(h:Paired F xs ys):∃xs',xs'.Perm xs/\Paired F xs' b:=by
 induction hp generalizing xs with
 |nil=>exact⟨xs,.refl _,h⟩
 |cons y _ ih =>
  cases h with
  |cons h1 t =>
   let⟨xs',p,q⟩:=ih t;exact⟨_::xs',p.cons _,.cons h1 q⟩
 |swap y z l =>
  cases h with
  |cons h1 t =>
   cases t with
   |cons h2 t=>exact⟨_,.swap _ _ _,.cons h2 (.cons h1 t)⟩
 |trans _ _ i1 i2 =>
  let⟨j,c,f⟩:=i1 h;let⟨i,d,g⟩:=i2 f;exact⟨i,d.trans c,g⟩
theorem qT:∀{kz:ew}{vs:List V}{its:eC},Vals vs its->Paired (λ(p:Int×V) (q:Int×Value)=>p.1=q.1/\RelV p.2 q.2) (kz.zip vs) (kz.zip its)
 |[],_,_,_=>by rw[List.zip_nil_left,List.zip_nil_left];exact .nil
 |_::_,_,_,.nil=>.nil
 |_::_,_,_,.cons h t=>.cons ⟨rfl,h⟩ (qT t)
theorem rH:∀{ps:List (Int×V)}{c:List (Int×Value)},Paired (λ(p:Int×V) (q:Int×Value)=>p.1=q.1/\RelV p.2 q.2) ps c->ps.map (·.1)=c.map (·.1)/\Vals (ps.map (·.2)) (c.map (·.2))
 |_,_,.nil=>⟨rfl,.nil⟩
 |_,_,.cons h t=>by
  let⟨a,b⟩:=rH t;exact⟨by rw[List.map_cons,List.map_cons,a,h.1],.cons h.2 b⟩
def QS{out:eC}(g:Vals vs its)(k:WO false kz its out):∃ps:List (Int×V),ps.Perm (kz.zip vs)/\ps.Pairwise (λp q=>p.1<=q.1)/\Vals (ps.map (·.2)) out:=by
 let⟨f,hp,rfl,b⟩:=k;let⟨ps,c,d⟩:=Paired.perm hp.symm (qT (kz:=kz) g);let⟨e,r⟩:=rH d;refine⟨ps,c,?_,r⟩;have h1:(f.map (·.1)).Pairwise (·<=·):=by
  rw[List.pairwise_map];exact b.imp λh=>↑h
 rw[←e,List.pairwise_map]at h1;exact h1
end
def Gj(f:Addr)(cl:List (Str×Addr)):List Addr:=f::cl.filterMap λq=>cl.lookup q.1
section
variable{pins:er}{σ:St}{H:Hp}{s:Shared}{f c':Addr}{qual:Str}{params:Yp}{body:Zt}{scope:Zs}{cl:List (Str×Addr)}{ys:List Str}{cvs:List V}{pm ctv:Value}
def Od(J:Inv X pins σ H s)(r:s.heap.get? f=some (W.kla_obj "<lambda>" qual params body scope cl pm c' ctv))(G:H f=none)(C:f∉frs X.stack)(q:∀x,X.fn x=true)(d:∀x c,cl.lookup x=some c->X.env.cells.lookup x=some c)(u:∀y∈ys,X.env.scope.names.lookup y=some .cell/\∃c,cl.lookup y=some c)(n:⇑cvs=⇑ys)(p:∀(j:Nat)(y:Str)(v:V),ys[j]?=some y->cvs[j]?=some v->∃i:Nat,X.N[i]?=some y/\σ[i]?=some (some v)) :
  Env0 X.prog X.w X.K X.mg (reb X.fw s.heap (Gj f cl)) X.A X.stack s H/\(reb X.fw s.heap (Gj f cl)).get? f=some (W.kla_obj "<lambda>" qual params body scope cl pm c' ctv)/\Caps (reb X.fw s.heap (Gj f cl)) cl ys cvs:=by
 have g:∀y c,X.env.cells.lookup y=some c->c∉frs X.stack:=λy c e z=>by
  rcases List.mem_cons.mp (J.vh c z)with z|z
  ·exact J.cne y c e z
  ·let⟨_,o,t,_⟩:=J.ok.lO.mem z;exact ef (Heap.lt_size t) (Nat.not_lt.mpr (J.ok.cab y c (q y) e))
 have B:∀y c,cl.lookup y=some c->c∈Gj f cl:=λy c e=>List.mem_cons_of_mem _ (List.mem_filterMap.mpr ⟨(y,c),PySem.mem_of_lookup e,e⟩);have D:∀b∈Gj f cl,(H b=none/\b∉frs X.stack):=λb hb=>by
  rcases List.mem_cons.mp hb with rfl|hb
  ·exact⟨G,C⟩
  ·let⟨⟨y,Q⟩,_,F⟩:=List.mem_filterMap.mp hb;have h:=d y b F;exact⟨J.freeC y b h,g y b h⟩
 have a:∀y c w,cl.lookup y=some c->s.heap.IsCell c w->(reb X.fw s.heap (Gj f cl)).IsCell c w:=λy c w e ⟨o,t,hd⟩=>⟨o,Ik t (B y c e),hd⟩
 refine⟨J.env0.reb (λb hb=>(D b hb).1) λb hb=>(D b hb).2,Ik r List.mem_cons_self,⟨n,λy c e=>?_,λj y w h1 h2=>?_⟩⟩
 ·let⟨w,I⟩:=J.cell y c (d y c e);exact⟨w,a y c w e I⟩
 ·let⟨i,L,M⟩:=p j y w h1 h2;let⟨E,c,e⟩:=u y (List.mem_of_getElem? h1);let⟨m,_,hl⟩:=J.loc;let⟨P,O,l⟩:=hl i y w L M (.inr (.inl E));rcases l with⟨k,_⟩|⟨_,R,h,hc⟩
  ·have k:X.env.scope.names.lookup y=some .local:=k;rw[E]at k;cases k
  ·rw[d y c e]at h;cases h;exact⟨c,P,e,a y c _ e hc,O⟩
end
section
variable{k:Nat}{c P:Addr}{ps ys:List Str}{spL:List V->Addr->Sp}{p pos lpos kp:Pos}{e:Zt}{te:TE}{qual:Str}{params:Yp}{body:Zt}{scope:Zs}{cl:List (Str×Addr)}
end
end L2
namespace Dl
open L2
theorem Ci{ok:Addr->Prop}{H:Hp}:∀{kz:ew}{vs:List V}{ds:eI},Rps ok H vs ds->Paired (λ(p:Int×D) (q:Int×V)=>p.1=q.1/\Rp ok H q.2 p.2) (kz.zip ds) (kz.zip vs)
 |[],_,_,_=>by rw[List.zip_nil_left,List.zip_nil_left];exact .nil
 |_::_,_,_,.nil=>.nil
 |_::_,_,_,.cons h t=>.cons ⟨rfl,h⟩ (Ci t)
theorem rG{ok:Addr->Prop}{H:Hp}:∀{ps:List (Int×D)}{c:List (Int×V)},Paired (λ(p:Int×D) (q:Int×V)=>p.1=q.1/\Rp ok H q.2 p.2) ps c->ps.map (·.1)=c.map (·.1)/\Rps ok H (c.map (·.2)) (ps.map (·.2))
 |_,_,.nil=>⟨rfl,.nil⟩
 |_,_,.cons h t=>by
  let⟨a,b⟩:=rG t;exact⟨by rw[List.map_cons,List.map_cons,a,h.1],.cons h.2 b⟩
section
variable{K:W.Frag}{N:List Str}{P:Addr}{lpos:Pos}{qual y:Str}{i:Nat}{gk:D->D->Int->Prop}{te:DE}
end
end Dl
namespace L2
open PySem.Spec
variable{X:Cx}
section
variable{M:ZD}{A:Zr}{E:em}{s:Shared}{κ:Y3}{key:Keyed->Int}{a₀:Array Keyed}
def zy(hr:∀(t:String)(Q:Unit->Shared->Prop),Q .unit s->wpAny M A (rule t) Q E s)(L:Lts M A E s κ (·∈a₀.toList) key){Q:Unit->Y4->Prop}{st:Y4}(K:Kep a₀ κ st)(hp:Xn st=#[])(h2:1<=a₀.size)(u:a₀.size<64)(h:∀st',Kep a₀ κ st'->Seg key (Y5 st') 0 a₀.size->Q .unit st'):wpS M A E s Y7 Q st:=by
 refine wpS_bind (WF ?_);have l:=K.size;have hm:minRun' a₀.size a₀.size 0=a₀.size:=by
  obtain⟨n,hn⟩:∃n,a₀.size=n+1:=⟨a₀.size - 1,()⟩
  rw[hn,minRun'_succ,ed ()]
 refine wpS_bind (WG (WH (I:=λx c st'=>Kep a₀ κ st'/\((x=0/\c=(none,0)/\Xn st'=#[])\/(c=(none,a₀.size)/\(Xn st').size<=1/\Seg key (Y5 st') 0 a₀.size))) (Q:=λc st'=>Kep a₀ κ st'/\c=(none,a₀.size)/\(Xn st').size<=1/\Seg key (Y5 st') 0 a₀.size) ?step ?fin ⟨K,.inl ⟨rfl,rfl,hp⟩⟩) ?post)
 case fin =>
  rintro c st' ⟨g,⟨q,_⟩|z⟩
  ·have q:max 0 (Y5 st).size=0:=q;lia
  ·exact⟨g,z⟩
 case step =>
  rintro x c st' v w ⟨g,⟨_,rfl,m⟩|⟨rfl,o,S⟩⟩
  ·dsimp only;simp only[l];refine fG (λc=>ef (show a₀.size<=0 from c) ()) (λc=>?_);refine wpS_bind (Mg hr L (lo:=0) (nrem:=a₀.size - 0) (P:=Xn st') (X:=Y5 st') ⟨g,rfl,λ_ _=>rfl⟩ () () λn b n1 n2 R2 S2=>?_);dsimp only;have d:∀{N:Nat}{a:Y4},N=a₀.size->Rn a₀ κ (Xn st') (Y5 st') 0 (0+(a₀.size - 0)) a->Seg key (Y5 a) 0 (0+N)->Kep a₀ κ (Xp a ((Xn a).push (0,N,0)))/\(Xn (Xp a ((Xn a).push (0,N,0)))).size<=1/\Seg key (Y5 (Xp a ((Xn a).push (0,N,0)))) 0 a₀.size:=by
    rintro N a rfl f i;refine⟨⟨f.k.perm,f.k.kind,f.k.fail⟩,?_,by rw[Nat.zero_add]at i;exact i⟩;show((Xn a).push _).size<=1;rw[f.p,m];exact Nat.le_refl _
   refine fG (λj=>?_) (λj=>?_)
   ·refine wpS_bind (WN (hr _ _ ⟨rfl,?_⟩));refine wpS_bind (Ew L (n:=min (a₀.size - 0) (minRun' a₀.size a₀.size 0)) (ok:=n) R2 () () () S2 λa f i=>?_);refine fG (λc4=>ef c4 ∅) (λ_=>?_);refine wpS_bind (WF ?_);have F:=d () f i;have e:(0+min (a₀.size - 0) (minRun' a₀.size a₀.size 0))=a₀.size:=()
    split
    ·rename_i z;exact ef (show(Xn a).back?=some _ from z) (by rw[f.p,m];simp)
    ·exact wpS_bind (WI (WB ⟨F.1,.inr ⟨eh (Prod.mk none) e,F.2⟩⟩))
   ·refine wpS_bind (WF ?_);have r:n=a₀.size:=by
     have j:¬n<minRun' a₀.size a₀.size 0:=j;lia
    have F:=d r R2 S2;split
    ·rename_i z;exact ef (show(Xn b).back?=some _ from z) (by rw[R2.p,m];simp)
    ·exact wpS_bind (WI (WB ⟨F.1,.inr ⟨eh (Prod.mk none) (show 0+n=a₀.size by lia),F.2⟩⟩))
  ·dsimp only;simp only[l];exact fG (λ_=>WB ⟨g,rfl,o,S⟩) (λc=>ef (Nat.le_refl _) c)
 case post =>
  rintro c st' ⟨g,rfl,o,S⟩;dsimp only;simp only[l];refine wpS_bind (WG (WH (I:=λx c b=>c=(none,PUnit.unit)/\b=st') (Q:=λc b=>c=(none,PUnit.unit)/\b=st') ?pstep (λc b z=>z) ⟨rfl,rfl⟩) ?ppost)
  case pstep =>
   rintro x c b _ v ⟨rfl,rfl⟩;refine wpS_bind (WF ?_);exact fG (λc=>WB ⟨rfl,rfl⟩) (λc=>ef o c)
  case ppost =>
   rintro c b ⟨rfl,rfl⟩;exact WB (h _ g S)
end
abbrev T3:=Int×Int×Int
def cH(t:T3):Int:=(64 * t.1+t.2.1) * 4096+t.2.2
def iz(t:T3):Prop:=(0<=t.2.1/\t.2.1<64)/\0<=t.2.2/\t.2.2<4096
def gZ(h:Heap)(u:Value)(t:T3):Prop:=∃a o t1 t2 t3 n,u=.ref a/\h.get? a=some o/\o.cls=.type "tuple"/\o.data=.seq #[.int t.1 t1,.int t.2.1 t2,.int t.2.2 t3] n
def u9(H:Hp)(u:Value)(t:T3):Prop:=∃a,u=.ref a/\H a=some (.tup [.int t.1,.int t.2.1,.int t.2.2])
section
variable{pins:er}{σ:St}{H:Hp}{s:Shared}
theorem Inv.trips(I:Inv X pins σ H s){us:eC}{c:List T3}(h:Paired (u9 H) us c):Paired (gZ s.heap) us c:=Paired.Ax h λu t ⟨a,e,h⟩=>by
 let⟨_,its,b,⟨o,d,hc,n,hd⟩⟩:=I.hok a _ h;cases b with
 |cons r1 b =>
  cases b with
  |cons r2 b =>
   cases b with
   |cons r3 b =>
    cases b;let⟨f,rfl⟩:=r1;let⟨t2,rfl⟩:=r2;let⟨g,rfl⟩:=r3;exact⟨a,o,f,t2,g,n,e,d,hc,hd⟩
end
section
variable{prog:Za}{w:Zb}{A:Zr}{E:em}{s:Shared}
def JX{x y:Value}{a b:T3}{Q:Bool->Shared->Prop}(t:gZ s.heap x a)(u:gZ s.heap y b)(m:iz a)(nb:iz b)(h:Q (decide (cH a<cH b)) s):wpAny (model prog w) A (keyLt' (Y2 true) x y) Q E s:=by
 let⟨p,o,F,t2,G,n,rfl,r,hc,hd⟩:=t;let⟨D,o',v,z,B,C,rfl,i,q,g⟩:=u;let⟨c,d,f⟩:=a;let⟨b1,b2,b3⟩:=b;unfold iz at m nb;simp only at m nb;refine W.kat_lt r hd i g ?_;refine W.kat_cons (Zm ?_);by_cases j:c=b1
 ·subst j;rw[ei];refine W.kat_yes (W.kat_cons (Zm ?_));by_cases k:d=b2
  ·subst k;rw[ei];refine W.kat_yes (W.kat_cons (Zm ?_));by_cases l:f=b3
   ·subst l;rw[ei];refine W.kat_yes (W.kat_nil ?_);have e:decide (cH (c,d,f)<cH (c,d,f))=false:=d4 (Int.lt_irrefl _);rw[e]at h;exact h
   ·rw[beq_eq_false_iff_ne.mpr l];refine W.kat_no (W.kat_one _ _ (Z7 ?_));have e:decide (cH (c,d,f)<cH (c,d,b3))=decide (f<b3):=by
     apply decide_eq_decide.mpr;unfold cH;simp only;lia
    rw[e]at h;exact h
  ·rw[beq_eq_false_iff_ne.mpr k];refine W.kat_no (W.kat_one _ _ (Z7 ?_));have e:decide (cH (c,d,f)<cH (c,b2,b3))=decide (d<b2):=by
    apply decide_eq_decide.mpr;unfold cH;simp only;constructor <;> (intro h;lia)
   rw[e]at h;exact h
 ·rw[beq_eq_false_iff_ne.mpr j];refine W.kat_no (oneLt_int ?_);have e:decide (cH (c,d,f)<cH (b1,b2,b3))=decide (c<b1):=by
   apply decide_eq_decide.mpr;unfold cH;simp only;constructor <;> (intro h;lia)
  rw[e]at h;exact h
theorem Dw:∀{us:eC}{d:List T3},Paired (gZ s.heap) us d->∃fs,W.KatTups s.heap us fs/\⇑fs=⇑us/\∀v∈fs,∃i t,v=Value.int i t
 |_,_,.nil=>⟨[],.nil,rfl,λ_ h=>nomatch h⟩
 |_,_,.cons p q=>by
  let⟨a,o,c,t2,e,n,rfl,b,hc,hd⟩:=p;let⟨fs,k,hl,hv⟩:=Dw q;refine⟨_::fs,.cons b hc hd (f:=Value.int _ c) rfl k,by simp[hl],λv hv'=>?_⟩;rcases List.mem_cons.mp hv' with rfl|h
  ·exact⟨_,_,rfl⟩
  ·exact hv v h
def Qx{h:Heap}{u:Value}{t t':T3}(x:gZ h u t)(y:gZ h u t'):t=t':=by
 let⟨a,o,q,t2,r,n,e,i,hc,hd⟩:=x;let⟨m,o',j,k,l,p,f,c,g,b⟩:=y;rw[e]at f;cases f;rw[i]at c;cases c;rw[hd]at b;injection b with d _;have d:=eh Array.toList d;injection d with h1 h2;injection h2 with h2 h3;injection h3 with h3 _;injection h1 with h1 _;injection h2 with h2 _;injection h3 with h3 _;exact Prod.ext h1 (Prod.ext h2 h3)
open Classical in
def tkey(h:Heap)(p:Keyed):Int:=if hh:∃t,gZ h p.1 t then cH (Classical.choose hh)else 0
def vf{h:Heap}{p:Keyed}{t:T3}(x:gZ h p.1 t):tkey h p=cH t:=by
 unfold tkey;have hh:∃t,gZ h p.1 t:=⟨t,x⟩
 rw[dif_pos hh,Qx (Classical.choose_spec hh) x]
def Gf{a₀:Array Keyed}(c:∀p∈a₀.toList,∃t,gZ s.heap p.1 t/\iz t):Lts (model prog w) A E s (Y2 true) (·∈a₀.toList) (tkey s.heap):=λx y st Q mx my hk h=>by
 let⟨a,d,f⟩:=c x mx;let⟨b,e,nb⟩:=c y my;rw[vf d,vf e]at h;rw[lt'_eq];refine wpS_bind (WF ?_);rw[hk];exact wpS_bind (WN (XY (JX d e f nb ⟨rfl,WB h⟩)))
theorem uz{h:Heap}:∀{us:eC}{a:List T3}{its:eC},Paired (gZ h) us a->⇑us=⇑its->(us.zip its).map (λp=>(tkey h p,p.2))=(a.map cH).zip its
 |_,_,[],_,_=>by simp
 |_,_,_::_,.nil,e=>by cases e
 |_,_,_::its,.cons x t,e=>by
  rw[List.zip_cons_cons,List.map_cons,List.map_cons,List.zip_cons_cons,uz t ↑e];rw[vf (p:=(_,_)) x]
theorem yg{h:Heap}:∀{us:eC}{a:List T3}{its:eC},Paired (gZ h) us a->(∀t∈a,iz t)->∀p∈us.zip its,∃t,gZ h p.1 t/\iz t
 |_,_,_,.nil,_,_,hp=>by simp at hp
 |_,_,[],.cons _ _,_,_,hp=>by simp at hp
 |_,_,_::_,.cons x t,n,p,hp=>by
  rw[List.zip_cons_cons]at hp;rcases List.mem_cons.mp hp with z|z
  ·rw[z];exact⟨_,x,n _ List.mem_cons_self⟩
  ·exact yg t (λt h=>n t (List.mem_cons_of_mem _ h)) p z
def Ry{h:Heap}{us its:eC}{c:List T3}{st:Array Keyed}(x:Paired (gZ h) us c)(hl:⇑us=⇑its)(hp:st.toList.Perm (us.zip its))(hs:Seg (tkey h) st 0 st.size):WO false (c.map cH) its (st.map (·.2)).toList:=by
 refine⟨st.toList.map λp=>(tkey h p,p.2),?_,?_,?_⟩
 ·rw[←uz x hl];exact hp.map _
 ·rw[Array.toList_map,List.map_map];rfl
 ·rw[List.pairwise_map,List.pairwise_iff_getElem];intro i j hi e d;have a:j<st.size:=↑e
  have b:i<st.size:=()
  have q:=hs i j (Nat.zero_le _) () a;rw[DN b,DN a]at q;rw[ee Bool.false_ne_true];simpa using q
end
section
variable{pins:er}{σ:St}{H:Hp}{s:Shared}{A:Zr}{a kS:Addr}{its:eC}{vs:List V}{ts:List T3}{e e1:Nat}{P:PySem.Fin->Shared->Prop}{E:em}{keys:eB}
def Ms(I:Inv X pins σ H s)(Z:Mine X pins H a)(mk:Mine X pins H kS)(y:kS≠a)(hk:s.heap.get? kS=some (Xq "list" keys e))(ha:s.heap.get? a=some (Xq "list" #[] e1))(hi:Paired (gZ s.heap) keys.toList ts)(p:∀t∈ts,iz t)(m:⇑ts=⇑its)(V:⇑its<=63)(h:∀h' tk out c,Inv X pins σ H { s with heap:=h',toks:=tk }->Gro X [a,kS] H s.heap H h'->h'.get? a=some (Xq "list" out c)->WO false (ts.map cH) its out.toList->P (.done (.ret .none)) { s with heap:=h',toks:=tk }) :
  wpAny (model X.prog X.w) A (ksk_end a false its.toArray e1 (.ref kS) keys) P E s:=by
 have U:=Z9;have hsz:keys.size=⇑its:=by
  have:=⇑hi;rw[Array.length_toList]at this;lia
 have C:(keys.zip its.toArray).size=⇑its:=by
  rw[Array.size_zip,hsz,List.size_toArray];lia
 have k:∀st:Y4,(Y5 st).Perm (keys.zip its.toArray)->Seg (tkey s.heap) (Y5 st) 0 (Y5 st).size->Y6 st=none->wpAny (model X.prog X.w) A (ksk_tail a false e1 (.ref kS) st) P E s:=λst hp hs q=>by
  have z:(Y5 st).size=⇑its:=hp.size_eq.trans C;have D:=Heap.SameBut.update s.heap kS (Obj.mapSeq λ_=>(#[]:eB));have g:=(D.2 a y.symm).trans ha;have L:=Heap.SameBut.update (s.heap.update kS (Obj.mapSeq λ_=>(#[]:eB))) a (Obj.mapSeq λ_=>(Y5 st).map (·.2));unfold ksk_tail;dsimp only;refine wpAny_bind (Xs hk rfl (wpAny_bind (WP ?_)) () (Nat.zero_le _));refine wpAny_bind (Xv g rfl (wpAny_bind (Xs g rfl ?_ (Nat.zero_le _) (by show((Y5 st).map (·.2)).size<=_;rw[Array.size_map];lia))));rw[q];simp only[bne_self_eq_false,Bool.false_eq_true,if_false];have Y:∀b o,b≠kS->b≠a->s.heap.get? b=some o->((s.heap.update kS (Obj.mapSeq λ_=>(#[]:eB))).update a (Obj.mapSeq λ_=>(Y5 st).map (·.2))).get? b=some o:=λb o n1 n2 e=>(L.2 b n2).trans ((D.2 b n1).trans e);have M:=I.Di (t':=s.toks) mk λb o n e=>(D.2 b n).trans e;have N:=M.Di (t':=s.toks) Z λb o n e=>(L.2 b n).trans e;obtain⟨c,hc⟩:∃c,((s.heap.update kS (Obj.mapSeq λ_=>(#[]:eB))).update a (Obj.mapSeq λ_=>(Y5 st).map (·.2))).get? a=some (Xq "list" ((Y5 st).map (·.2)) c):=⟨_,Xu g λ_=>(Y5 st).map (·.2)⟩
  refine Z0 (h _ s.toks _ c N ⟨λ_ _ e=>e,λb o e n l f x=>⟨Y b o (λz=>x ?_) (λz=>x ?_) e,n⟩⟩ hc (Ry hi (by have:=⇑hi;lia) (by have:=Array.perm_iff_toList_perm.mp hp;rwa [Array.toList_zip]at this) hs))
  ·rw[z];exact List.mem_cons_of_mem _ (List.mem_singleton.mpr rfl)
  ·rw[z];exact List.mem_cons_self
 unfold ksk_end;dsimp only;rw[ee Bool.false_ne_true,ee Bool.false_ne_true];by_cases h2:its.toArray.size<2
 ·rw[ed h2,ed h2];refine wpAny_bind (Z0 ?_);rw[StateT.run_pure];refine wpAny_bind (Z0 (k _ (Array.Perm.refl _) (λi j _ hij J=>?_) rfl));have J:j<(keys.zip its.toArray).size:=J;rw[List.size_toArray]at h2;have e:i=j:=()
  subst e;exact Int.le_refl _
 ·rw[ee h2,ee h2];rw[List.size_toArray]at h2;let⟨R,B,u,r⟩:=Dw hi;have G:⇑R=⇑its:=by rw[u,⇑hi,m]
  have F:keys=keys.toList.toArray:=rfl;rw[F];refine wpAny_bind (W.kat_kind (T:=.type "int") B () (λv hv=>by let⟨i,t,rfl⟩:=r v hv;exact W.Looks.of_pure rfl) rfl ?_);have O:Y2 (Value.type "int" != Value.type "tuple")=Y2 true:=rfl;rw[O,←F];refine wpAny_bind (ZG (zy (a₀:=keys.zip its.toArray) (κ:=Y2 true) (st:=SortSt.mk' (Y2 true) (keys.zip its.toArray) #[] 7 none) (key:=tkey s.heap) (Q:=λ_ d=>(Y5 d).Perm (keys.zip its.toArray)/\Y6 d=none/\Seg (tkey s.heap) (Y5 d) 0 (Y5 d).size) (λt Q h=>XU h) (Gf (by rw[Array.toList_zip];exact yg hi p)) ⟨List.Perm.refl _,rfl,rfl⟩ rfl () () λd K S=>⟨Array.perm_iff_toList_perm.mpr K.perm,K.fail,by rw[K.size];exact S⟩) ?_ λ_ _ e=>e);rintro⟨⟨⟩,d⟩ s' ⟨rfl,hp,q,hs⟩;exact k d hp hs q
theorem pZ{α β:Type}{F:α->β->Prop}{x:α}{y:β}:∀{xs:List α}{ys:List β},Paired F xs ys->F x y->Paired F (xs++[x]) (ys++[y])
 |_,_,.nil,h=>.cons h .nil
 |_,_,.cons a t,h=>.cons a (pZ t h)
def HX{f:Value}(Z:Vals vs its)(I:Inv X pins σ H s)(ma:Mine X pins H a)(mk:Mine X pins H kS)(B:kS≠a)(hk:s.heap.get? kS=some (Xq "list" #[] 0))(ha:s.heap.get? a=some (Xq "list" #[] e1))(W:⇑ts=⇑vs)(G:∀t∈ts,iz t)(h64:⇑vs<=63)(J:∀(i:Nat)(v:V)(u:Value)(k:T3)(N:Hp)(M:Shared),vs[i]?=some v->ts[i]?=some k->RelV v u->Inv X pins σ N M->Gro X [a,kS] H s.heap N M.heap->wpAny (model X.prog X.w) A (Z4 f [u]) (λr s2=>∃H2,u9 H2 r k/\Inv X pins σ H2 s2/\Gro X [] N M.heap H2 s2.heap) (λ_ _=>False) M)(h:∀H2 s2 out c,Inv X pins σ H2 s2->Gro X [a,kS] H s.heap H2 s2.heap->Mine X pins H2 a->s2.heap.get? a=some (Xq "list" out c)->WO false (ts.map cH) its out.toList->P (.done (.ret .none)) s2) :
  wpAny (model X.prog X.w) A (WS a f false its.toArray e1 (.ref kS)) P E s:=by
 have hl2:⇑its=⇑vs:=Z.length.symm;unfold WS;refine wpAny_bind (XU ?_);rw[List.forIn_toArray];refine wpAny_bind (ksk_fold (λi q=>∃H' g e,Inv X pins σ H' q/\Gro X [a,kS] H s.heap H' q.heap/\Mine X pins H' a/\Mine X pins H' kS/\q.heap.get? kS=some (Xq "list" g e)/\q.heap.get? a=some (Xq "list" #[] e1)/\Paired (u9 H') g.toList (ts.take i)) its 0 s ⟨H,#[],0,I,Gro.refl,ma,mk,hk,ha,↑Paired.nil⟩ ?step ?done)
 case step =>
  rintro j x q Y ⟨H',g,e,K,g',l,p,d,m,hi⟩;simp only[Nat.zero_add]at hi ⊢;have hj:j<⇑its:=(List.getElem?_eq_some_iff.mp Y).1;have C:ts[j]?=some ts[j]:=List.getElem?_eq_getElem ();have D:vs[j]?=some vs[j]:=List.getElem?_eq_getElem ();let⟨x',U,rx⟩:=Z.get D;rw[Y]at U;cases U;have hz:g.size<=63:=by
   have h1:=⇑hi;rw[Array.length_toList,List.length_take]at h1;lia
  have h24:=Z9;refine wpAny_bind (XY (ZG (J j _ x _ H' q D C rx K g') (λr s2 he=>?_) λ_ _ hF=>hF.elim));let⟨H2,tr,I2,L⟩:=he;dsimp only;let⟨S,O⟩:=L.mine l m;let⟨F,y⟩:=L.mine p d;have T:=Heap.SameBut.update s2.heap kS (Obj.mapSeq (·.push r));have R:=Xu y (·.push r);refine wpAny_bind (Xs y rfl ?_ () (Nat.le_trans (Nat.le_of_eq (Array.size_push ..)) ()));refine Z0 ⟨rfl,H2,g.push r,_,I2.Di (t':=s2.toks) F (λb o n e=>(T.2 b n).trans e),((g'.trans (L.more λb z=>nomatch z)).own (.inr rfl) λb o n e=>(T.2 b n).trans e),S,F,R,(T.2 a B.symm).trans O,?_⟩;have ek:ts.take (j+1)=ts.take j++[ts[j]]:=by rw[List.take_add_one,C];rfl
  have ea:(g.push r).toList=g.toList++[r]:=by simp
  rw[ea,ek];exact pZ (Paired.Ax hi λu t ⟨b,e1,e2⟩=>⟨b,e1,L.sm b _ e2⟩) tr
 case done =>
  rintro q ⟨H',g,e,K,g',l,p,d,m,hi⟩;have Q:Paired (u9 H') g.toList ts:=by
   have e3:ts.take (0+⇑its)=ts:=List.take_of_length_le ();rw[e3]at hi;exact hi
  refine wpAny_bind (Xr d rfl ?_);exact Ms K l p B d m (K.trips Q) G () () λh' tk out c I3 g3 h3 k3=>h H' _ out c I3 (g'.trans g3) l h3 k3
def HW{f:Value}{n:Nat}(J:Vals vs its)(I:Inv X pins σ H s)(G:Mine X pins H a)(ha:s.heap.get? a=some (Xq "list" its.toArray n))(m:⇑ts=⇑vs)(p:∀t∈ts,iz t)(y:⇑vs<=63)(q:∀(kS:Addr)(i:Nat)(v:V)(u:Value)(k:T3)(g:Hp)(d:Shared),↥s<=kS->vs[i]?=some v->ts[i]?=some k->RelV v u->Inv X pins σ g d->Gro X [a,kS] H s.heap g d.heap->wpAny (model X.prog X.w) A (Z4 f [u]) (λr s2=>∃H2,u9 H2 r k/\Inv X pins σ H2 s2/\Gro X [] g d.heap H2 s2.heap) (λ_ _=>False) d)(h:∀kS H2 s2 out c,↥s<=kS->Inv X pins σ H2 s2->Gro X [a,kS] H s.heap H2 s2.heap->Mine X pins H2 a->s2.heap.get? a=some (Xq "list" out c)->WO false (ts.map cH) its out.toList->P (.done (.ret .none)) s2) :
  wpAny (model X.prog X.w) A (ksk_tree a f false) P E s:=by
 have M:⇑its=⇑vs:=J.length.symm;have L:=Z9;have N:=Heap.SameBut.update s.heap a (Obj.mapSeq λ_=>(#[]:eB));have j:=Xu ha λ_=>(#[]:eB)
 have hsz:(s.heap.update a (Obj.mapSeq λ_=>(#[]:eB))).objs.size=↥s:=Heap.size_update ..;have C:a<↥s:=Heap.lt_size ha;unfold ksk_tree;refine wpAny_bind (Xr ha rfl ?_);refine wpAny_bind (Xs ha rfl ?_ (by rw[List.size_toArray];lia) (Nat.zero_le _));refine wpAny_bind (Xv j rfl ?_);refine wpAny_bind (Xw ?_ (by show ⇑its<=_;lia));refine wpAny_bind (Xx ?_ (Nat.zero_le _));refine Yw ?_;have l:((s.heap.update a (Obj.mapSeq λ_=>(#[]:eB))).push (Xq "tuple" its.toArray 0)).objs.size=↥s+1:=by rw[Xy,hsz]
 have F:∀b o,b≠a->s.heap.get? b=some o->(((s.heap.update a (Obj.mapSeq λ_=>(#[]:eB))).push (Xq "tuple" its.toArray 0)).push (Xq "list" #[] 0)).get? b=some o:=λb o n e=>iQ (iQ ((N.2 b n).trans e));have K:Inv X pins σ H { s with heap:=((s.heap.update a (Obj.mapSeq λ_=>(#[]:eB))).push (Xq "tuple" its.toArray 0)).push (Xq "list" #[] 0)}:=I.Di (t':=s.toks) G F;have mk:Mine X pins H (↥s+1):=I.mine (Nat.le_succ _);have B:(((s.heap.update a (Obj.mapSeq λ_=>(#[]:eB))).push (Xq "tuple" its.toArray 0)).push (Xq "list" #[] 0)).get? (↥s+1)=some (Xq "list" #[] 0):=by
  rw[←l];exact Heap.get?_push_size _ rfl
 have D:∀kS,Gro X [a,kS] H s.heap H (((s.heap.update a (Obj.mapSeq λ_=>(#[]:eB))).push (Xq "tuple" its.toArray 0)).push (Xq "list" #[] 0)):=λkS=>⟨λ_ _ e=>e,λb o e n _ _ x=>⟨F b o (λz=>x (by rw[z];exact List.mem_cons_self)) e,n⟩⟩
 show wpAny (model X.prog X.w) A (WS a f false its.toArray _ (.ref ((s.heap.update a (Obj.mapSeq λ_=>(#[]:eB))).push (Xq "tuple" its.toArray 0)).objs.size)) P E { s with heap:=((s.heap.update a (Obj.mapSeq λ_=>(#[]:eB))).push (Xq "tuple" its.toArray 0)).push (Xq "list" #[] 0)};rw[l];exact HX J K G mk (Nat.ne_of_gt (Nat.lt_succ_of_lt C)) B (iQ (iQ j)) m p y (λi v u k g d a1 a2 a3 a4 a5=>q _ i v u k g d (Nat.le_succ _) a1 a2 a3 a4 ((D _).trans a5)) λH2 s2 out c a1 a2 a3 a4 a5=>h _ H2 s2 out c (Nat.le_succ _) a1 ((D _).trans a2) a3 a4 a5
def zV{l:Addr}{f:Addr}{Q:em}(G:Vals vs its)(I:Inv X pins σ H s)(hl:s.heap.IsList l its.toArray)(q:⇑ts=⇑vs)(y:∀t∈ts,iz t)(B:⇑vs<=63)(z:∀(d:List Addr)(i:Nat)(v:V)(u:Value)(k:T3)(j:Hp)(g:Shared),(∀b∈d,↥s<=b)->vs[i]?=some v->ts[i]?=some k->RelV v u->Inv X pins σ j g->Gro X d H s.heap j g.heap->wpAny (model X.prog X.w) A.in1.in1 (Z4 (.ref f) [u]) (λr s2=>∃H2,u9 H2 r k/\Inv X pins σ H2 s2/\Gro X [] j g.heap H2 s2.heap) (λ_ _=>False) g)(h:∀d a H2 s2 out c,(∀b∈d,↥s<=b)->↥s<=a->Inv X pins σ H2 s2->Gro X d H s.heap H2 s2.heap->Mine X pins H2 a->s2.heap.get? a=some (Xq "list" out c)->WO false (ts.map cH) its out.toList->Q (.ref a) s2) :
  wpAny (model X.prog X.w) A (Z4 (.builtin "sorted") [.ref l] [(Str.ofString "key",.ref f)]) Q E s:=by
 have L:⇑its=⇑vs:=G.length.symm;have K:=Z9;refine call_function_entry_kw XE XF XG (ksk_s1 _ _) ?_;unfold Builtin.«sorted»;refine wpAny_bind (m:=XH "sorted" 1 1 _) (Z0 ?_);refine wpAny_bind (collect_list hl ?_ ());refine wpAny_bind (Xx ?_ ());have hsz:((s.heap.push (Xq "list" #[] 0)).update ↥s (Obj.mapSeq (·++its.toArray))).objs.size=↥s+1:=by rw[Heap.size_update,Xy]
 have ha:(((s.heap.push (Xq "list" #[] 0)).update ↥s (Obj.mapSeq (·++its.toArray))).push (Xq "list" its.toArray 0)).get? (↥s+1)=some (Xq "list" its.toArray 0):=by
  rw[←hsz];exact Heap.get?_push_size _ rfl
 have F:∀b o,s.heap.get? b=some o->(((s.heap.push (Xq "list" #[] 0)).update ↥s (Obj.mapSeq (·++its.toArray))).push (Xq "list" its.toArray 0)).get? b=some o:=λb o e=>by
  have C:b<↥s:=Heap.lt_size e;refine iQ ?_;rw[Heap.get?_update_ne _ _ _ _ (Nat.ne_of_lt C)];exact iQ e
 have J:Inv X pins σ H { s with heap:=((s.heap.push (Xq "list" #[] 0)).update ↥s (Obj.mapSeq (·++its.toArray))).push (Xq "list" its.toArray 0)}:=I.kept (t':=s.toks) F;have M:Mine X pins H (↥s+1):=I.mine (Nat.le_succ _);have D:∀d,Gro X d H s.heap H (((s.heap.push (Xq "list" #[] 0)).update ↥s (Obj.mapSeq (·++its.toArray))).push (Xq "list" its.toArray 0)):=λd=>⟨λ_ _ e=>e,λb o e n _ _ _=>⟨F b o e,n⟩⟩
 have x:↥s<=(((s.heap.push (Xq "list" #[] 0)).update ↥s (Obj.mapSeq (·++its.toArray))).push (Xq "list" its.toArray 0)).objs.size:=by rw[Xy,hsz];lia
 show wpAny _ _ _ _ _ { s with heap:=((s.heap.push (Xq "list" #[] 0)).update ↥s (Obj.mapSeq (·++its.toArray))).push (Xq "list" its.toArray 0)};rw[hsz];have p:∀kS,↥s<=kS->∀b∈[↥s+1,kS],↥s<=b:=λkS hk b hb=>by
  rcases List.mem_cons.mp hb with rfl|hb
  ·exact Nat.le_succ _
  ·rw[List.mem_singleton.mp hb];exact hk
 refine wpAny_bind (Yw (wpAny_call_entry_kw XI ⟨_,ha,rfl⟩ XJ ?body (ksk_l1 _ _)))
 case body =>
  show wpAny (model X.prog X.w) A.in1.in1 (Builtin.«list.sort» ⟨[.ref (↥s+1)],[(Str.ofString "key",.ref f)]⟩) _ _ _;rw[ksk_t1];exact HW G J M ha q y B (λkS i v u k j g a0 a1 a2 a3 a4 a5=>z _ i v u k j g (p kS (Nat.le_trans x a0)) a1 a2 a3 a4 ((D _).trans a5)) λkS H2 s2 out c a0 a1 a2 a3 a4 a5=>⟨_,rfl,Z0 ⟨_,rfl,h _ _ H2 s2 out c (p kS (Nat.le_trans x a0)) (Nat.le_succ _) a1 ((D _).trans a2) a3 a4 a5⟩⟩
end
def uE(K:W.Frag)(N:List Str)(P:Addr)(c:Pos)(qual:Str)(ys:List Str)(spL:List V->Addr->Sp)(d:TE):TE:=λσ H Q=>d σ H λv H1=>tQ P c qual H1 /\
 ∃(l:Addr)(vs:List V)(ts:List T3)(cvs:List V),v=.ref l/\SqL K H1 l vs/\(∀t∈ts,iz t)/\⇑ts=⇑vs/\⇑vs<=63/\⇑cvs=⇑ys/\(∀(j:Nat)(y:Str)(v:V),ys[j]?=some y->cvs[j]?=some v->∃i:Nat,N[i]?=some y/\σ[i]?=some (some v)) /\
  ∀c' H2,tQ P c qual H2->tU H2 c' qual->(∀b o,H1 b=some o->b≠P->H2 b=some o) ->
   (∀(i:Nat)(v:V)(k:T3)(H3:Hp),vs[i]?=some v->ts[i]?=some k->(∀b o,H2 b=some o->H3 b=some o)->spL cvs c' [v] H3 (λr H4=>(∃a,r=.ref a/\H4 a=some (.tup [.int k.1,.int k.2.1,.int k.2.2]))/\∀b o,H3 b=some o->H4 b=some o) E0) /\
   ∀(a:Addr)(ps:List (Int×V))(H3:Hp),ps.Perm ((ts.map cH).zip vs)->ps.Pairwise (λp q=>p.1<=q.1)->H3 a=none->(∀b o,H2 b=some o->H3 b=some o)->Q (.ref a) (upd H3 a (.lst (ps.map (·.2))))
section
variable{k:Nat}{c P:Addr}{ps ys:List Str}{spL:List V->Addr->Sp}{p pos lpos kp:Pos}{e:Zt}{te:TE}{qual:Str}{params:Yp}{body:Zt}{scope:Zs}{cl:List (Str×Addr)}
def xJ(FL:∀(cvs:List V)(j:Heap)(f E:Addr)(pm q:Value),⇑cvs=⇑ys->j.get? f=some (W.kla_obj "<lambda>" qual params body scope cl pm E q)->Caps j cl ys cvs->∃fd,FnOk X.prog X.w X.K X.mg j CX0 k f fd ps (spL cvs E)/\Binds X.K fd ps [])(hr:Room k X.A.in1.in1)(hg:Gl X "sorted")(hm:X.mg "sorted"=none)(ha:PE X e te)(B:X.env.qual++"<lambda>"=qual)(F:defaultsOf params X.env=([],[]))(S:YN scope X.env=pure cl)(t:X.env.code=.ref c)(hC:X.K.In X.fw->W.CodeHd X.fw c P)(hB:X.K.In X.fw->X.fw.BuiltinsAt X.mg P)(T:∀x,X.fn x=true)(L:∀x c,cl.lookup x=some c->X.env.cells.lookup x=some c)(hys:∀y∈ys,X.env.scope.names.lookup y=some .cell/\∃c,cl.lookup y=some c)(he:zS X e []:=by rfl) :
  PE X (.Call (.Name "sorted" p) [e] [⟨some "key",.Lambda params body scope lpos,kp⟩] pos) (uE X.K X.N P lpos qual ys spL te):=by
 intro M s σ H Q I h;have hv:Zq "sorted"=some (.builtin "sorted"):=Wl;refine wpAny_Call_Name_kw (jV I hg hm hv ?_ ∅ ∅);refine callWith_kw ?_ (by rw[he];rfl) (by rw[he];rfl);rw[he];show wpAny _ _ (spliced [(false,Zv e X.env)]) _ _ s;refine Calls.spliced_cons (thn (ha M s σ H _ I h) λu s1 ⟨v,H1,I1,r1,T1,l,vs,ts,cvs,ev,hl,nice,hlen,h64,cl1,hcv,q1⟩=>Calls.spliced_nil ?_);subst ev;cases r1;refine kws_cons (Gd I1 B F S t hC hB T1 λf E q pm s2 H2 J T2 kn fn hfo nfs kp kb=>kws_nil ?_);have Q2:=q1 E H2 T2 kn kp;have fL:f≠X.env.locals:=λz=>by
  let⟨m,⟨o,es,ep,O,hd,_⟩,_⟩:=J.loc;rw[←z,hfo]at O;cases O;cases hd
 have U:f<↥s2:=Heap.lt_size hfo;have Z:SqL X.K H2 l vs:=by
  let⟨ps,hP,_⟩:=T1;rcases hl with(hl|⟨o,hl⟩)|hl
  ·exact .inl (.inl (kp l _ hl λz=>by rw[z,hP]at hl;cases hl))
  ·exact .inl (.inr ⟨o,kp l _ hl λz=>by rw[z,hP]at hl;cases hl⟩)
  ·exact .inr hl
 let⟨its,rv,pl,hz⟩:=J.list Z;refine zV rv J pl.isList hlen nice h64 (λex i v u k H3 s3 hex hv hk ru J3 g=>?_) λex a H3 s3 out c hex ha J3 g ma O ko=>?_
 ·let⟨ho3,n3⟩:=g.kp f _ hfo fn fL nfs λz=>ef (hex f z) (Nat.not_le.mpr U);let⟨e0,lkf,C⟩:=Od J3 ho3 n3 nfs T L hys cl1 hcv;let⟨fd,FF,hb⟩:=FL cvs _ f E pm q cl1 lkf C;have G:=Q2.1 i v k H3 hv hk g.sm;have Y:[u].length=⇑ps:=FF.len _ _ _ _ G;refine Yk (Yl (FF.run X.A.in1.in1 X.stack s3 H3 ⟨[u],[]⟩ [u] [v] _ E0 hr e0.in1.in1 ?_ (.cons ru .nil) G) λr s' B=>?_)
  ·have:=hb s3 [u] J3.kIn (by rw[List.append_nil];exact Y);rw[List.append_nil]at this;exact this
  ·cases r with
   |error e=>exact B.elim
   |ok fl =>
    cases fl with
    |ret u =>
     let⟨v',H4,os,D,un,hok,rv',R,sm⟩:=B;let⟨a,rfl,R⟩:=R;obtain rfl:u=Value.ref a:=rv';let⟨hh,g',d,t',os'⟩:=s';obtain rfl:os'=s3.os:=os;exact⟨H4,⟨a,rfl,R⟩,J3.call (h':=hh) (g':=g') (d':=d) (t':=t') (ch:=[]) un hok D (λb z=>ef z (by simp)),⟨sm,λb o e n _ nf _=>⟨un.keep b o e n nf (by simp),un.free b o e n (by simp)⟩⟩⟩
    |next=>exact False.elim B
    |brk=>exact False.elim B
    |cont=>exact False.elim B
 ·let⟨qs,p1,p2,p3⟩:=QS rv ko;have hz2:⇑(qs.map (·.2))<=sizeLine:=by
   have:=p1.length_eq;rw[List.length_zip]at this;rw[List.length_map];lia
  exact⟨.ref a,_,J3.Qz ma p3 hz2 O,rfl,Q2.2 a qs H3 p1 p2 ma.h0 g.sm⟩
end
end L2
namespace Dl
open L2
def QK(qual:Str)(c:D->T3->Prop):List V->Addr->Sp:=λcvs c' vs H Q _=>tU H c' qual/\∃(v1:V)(dx:D)(k:T3),cvs=[]/\vs=[v1]/\Rp (λ_=>True) H v1 dx/\c dx k/\∀a H',(∀b o,H b=some o->H' b=some o)->H' a=some (.tup [.int k.1,.int k.2.1,.int k.2.2])->Q (.ref a) H'
def Uj(a:D->T3->Prop)(b:DE):DE:=λρ P=>b ρ λk d=>∃(ds:eI)(ts:List T3),d=.list ds/\(∀t∈ts,iz t)/\⇑ts=⇑ds/\⇑ds<=63 /\
 (∀(j:Nat)(x:D)(c:T3),ds[j]?=some x->ts[j]?=some c->a x c)/\∀ps:List (Int×D),ps.Perm ((ts.map cH).zip ds)->ps.Pairwise (λp q=>p.1<=q.1)->P (if cG ds=true then .new else k.join .new) (.list (ps.map (·.2)))
section
variable{K:W.Frag}{N:List Str}{P:Addr}{lpos:Pos}{qual:Str}{gk:D->T3->Prop}{te:DE}
theorem lE:∀{ds:eI},(∀d∈ds,fj d=true)->cG ds=true
 |[],_=>rfl
 |d::ds,h=>by simp only[cG,h d List.mem_cons_self,lE λe he=>h e (List.mem_cons_of_mem _ he),Bool.and_self]
theorem u6:∀{ds:eI},cG ds=true->∀d∈ds,fj d=true
 |d::ds,h,e,he=>by
  simp only[cG,Bool.and_eq_true]at h;rcases List.mem_cons.mp he with rfl|he
  ·exact h.1
  ·exact u6 h.2 e he
def J1:∀σ H Q,@bI (grU (xG P lpos qual)) (Uj gk te) σ H Q->uE K N P lpos qual [] (QK qual gk) (@bI (grU (xG P lpos qual)) te) σ H Q:=by
 letI:=grU (xG P lpos qual);rintro σ H Q ⟨q,H0,own,ρ,P',E,t,V⟩;have M:q=xG P lpos qual:=E.gr;subst M;refine⟨_,H0,own,ρ,_,E,t,λk d v H1 hd A r=>?_⟩;let⟨ds,J,rfl,h,D,O,hk,R⟩:=hd;let⟨c,vs,rfl,o,hc,w⟩:=r.cV;have y:tQ P lpos qual H1:=A.pen;have i:∀{H:Hp},tQ P lpos qual H->∀a xs,H a=some (.tup xs)->a≠P:=λ{H} T a xs e z=>by
  let⟨ps,hp,_⟩:=T;rw[z,hp]at e;cases e
 have X:=⇑w;refine⟨y,c,vs,J,[],rfl,SqL.of hc,h,(),(),rfl,(λj y' v h1 h2=>by simp at h1),λc' H2 T2 kn kp=>⟨λj v k' H3 hv hkz sm=>?_,λa ps H3 hp hw fr sm=>?_⟩⟩
 ·let⟨x,φ,W,L⟩:=kn;have C:j<⇑ds:=by rw[←X];exact(List.getElem?_eq_some_iff.mp hv).1
  let⟨v1,B,Z⟩:=w.getD (List.getElem?_eq_getElem C);rw[hv]at B;cases B;refine⟨⟨x,φ,sm _ _ W,L⟩,v,ds[j],k',rfl,rfl,?_,hk j _ _ (List.getElem?_eq_getElem C) hkz,λa H' sm' h'=>⟨⟨a,rfl,h'⟩,sm'⟩⟩;exact Z.mono (λ_ _=>trivial) (λa o n e=>sm _ _ (kp _ _ e (jh A n))) λa xs e=>sm _ _ (kp _ _ e (i y a xs e))
 ·have g:Kp (xG P lpos qual) H1 H3:=λb o e n=>sm _ _ (kp _ _ e n);have U:(xG P lpos qual).PI H3:=(xG P lpos qual).mono H2 H3 T2 λb o _ e=>sm b o e;have f:=A.go g U;let⟨s,S,F⟩:=f.new fr (.lst (ps.map (·.2)));let⟨u,G,Y⟩:=Paired.perm hp.symm (Ci (kz:=J.map cH) (cU A g w));let⟨e,I⟩:=rG Y;have l:u.Pairwise (λp q=>p.1<=q.1):=by
   have h1:(ps.map (·.1)).Pairwise (·<=·):=by rw[List.pairwise_map];exact hw
   rw[←e,List.pairwise_map]at h1;exact h1
  have j:=dH k .new;refine V _ _ _ _ (R u G l) (f.go s S) ?_;by_cases im:cG ds=true
  ·rw[ed im];have m:cG (u.map (·.2))=true:=lE λd hd=>by
    let⟨p,hp,rfl⟩:=List.mem_map.mp hd;exact u6 im p.2 (List.of_mem_zip (G.mem_iff.mp hp)).2
   exact .lst F aB (((cU f s I).imm m).mono (λ_ o=>o.elim) (λ_ _ o=>o.elim) λ_ _ e=>e)
  ·rw[ee im];exact .lst (dD f j.2 F) aB ((cU f s I).mono (λa o=>dD f j.1 o) (λ_ _ _ e=>e) λ_ _ e=>e)
end
variable [Gr]
variable{X:Cx}{st:ZF}{te tj:DE}
end Dl
namespace Wr
open L2 Dl
variable [Gr] {X:Cx}
end Wr
namespace Dl
open L2
variable{X:Cx}
variable [Gr]
section
variable{st:ZF}{te tj:DE}
end
section
variable{pos:Pos}{a:Zt}{t:DA}
end
end Dl
namespace Wr
open L2 Dl
variable [Gr] {X:Cx}
end Wr
namespace L2
open PySem.Spec HT
def stepI(n:Nat):eA:=sliceRange (YG (some 1) none (some 2) n).1 (YG (some 1) none (some 2) n).2.1 (YG (some 1) none (some 2) n).2.2
def dN{α:Type}(xs:List α):List α:=(stepI ⇑xs).filterMap λi=>xs[i]?
theorem jC{α β:Type}{F:α->β->Prop}{xs:List α}{ys:List β}(h:∀(i:Nat),(∃x y,xs[i]?=some x/\ys[i]?=some y/\F x y)\/(xs[i]?=none/\ys[i]?=none)):∀l:eA,Paired F (l.filterMap λi=>xs[i]?) (l.filterMap λi=>ys[i]?)
 |[]=>.nil
 |i::l=>by
  rcases h i with⟨x,y,a,b,f⟩|⟨a,b⟩
  ·rw[List.filterMap_cons,a,List.filterMap_cons,b];exact .cons f (jC h l)
  ·rw[List.filterMap_cons,a,List.filterMap_cons,b];exact jC h l
def Vals.pick{xs:List V}{us:eC}(r:Vals xs us):Vals (dN xs) (dN us):=by
 unfold dN;rw[⇑r];refine jC (λi=>?_) _;cases e:xs[i]? with
 |none=>exact .inr ⟨rfl,Vals.none_of r e⟩
 |some x =>
  let⟨u,hu,f⟩:=r.get e;exact .inl ⟨x,u,rfl,hu,f⟩
section
variable{X:Cx}{e:Zt}{te:TE}{p1 p2 p3 pos:Pos}{n1 n2:Nat}
def Uh(K:W.Frag)(te:TE):TE:=λσ H Q=>te σ H λx H1=>∃a xs,x=.ref a/\SqL K H1 a xs/\⇑(dN xs)<=sizeLine/\∀p,H1 p=none->Q (.ref p) (upd H1 p (.lst (dN xs)))
def Nk(he:PE X e te):PE X (.Subscript e (.Slice (some (.Constant (.int 1) n1 p1)) none (some (.Constant (.int 2) n2 p2)) p3) pos) (Uh X.K te):=by
 intro c s σ H Q I h;refine YC (thn (he c s σ H _ I h) λv s1 ⟨x,H1,I1,r1,a,xs,ex,hx,hz2,q⟩=>?_);subst ex;cases r1;refine wpAny_Slice ?_;rw[YB,YA,YB];refine ZI ?_;refine Z0 ?_;refine ZI ?_;have g:Inv X c σ H1 { s1 with toks:=s1.toks+1+1 }:=I1.tok _;have f:Inv X c σ H1 { s1 with heap:=s1.heap.push { cls:=.type "slice",data:=.fields #[.int 1 s1.toks,.none,.int 2 (s1.toks+1)]},toks:=s1.toks+1+1 }:=g.kept λb ob q=>Heap.get?_push_of_some _ q;let⟨its,r,ht,j⟩:=f.list hx;have d:its.toArray.size=⇑xs:=by rw[List.size_toArray];exact r.length.symm
 show wpAny (model X.prog X.w) X.A (YD e _ (.ref a) (.ref ↥s1)) (EP X c σ Q) X.xe { s1 with heap:=s1.heap.push { cls:=.type "slice",data:=.fields #[.int 1 s1.toks,.none,.int 2 (s1.toks+1)]},toks:=s1.toks+1+1 };refine tail_any (ops:=[.ref a,.ref ↥s1]) ht.isList.typeIs slot_list_getitem.lookup ?_ (by with_unfolding_all rfl);refine YI ht.isList (Heap.IsSliceOf.new ..) (.int 1 _) .none (.int 2 _) (by simp) ?_ (by rw[d];exact j);have ep:YH its.toArray (some 1) none (some 2)=(dN its).toArray:=by
  unfold YH dN stepI;rw[List.size_toArray];congr 1;refine congrFun (eh _ (funext λi=>?_)) _;simp
 rw[ep];refine⟨.ref _,_,f.laid (t':=s1.toks+1+1) (o:=.lst (dN xs)) (λb ob q=>Heap.get?_push_of_some _ q) (Nat.le_refl _) ?_,rfl,q _ (f.hok.fresh (Nat.le_refl _))⟩;exact⟨hz2,dN its,0,r.pick,Heap.get?_push_size _ rfl⟩
end
end L2
namespace Dl
open L2
def Rps.pick{ok:Addr->Prop}{H:Hp}{vs:List V}{ds:eI}(r:Rps ok H vs ds):Rps ok H (dN vs) (dN ds):=by
 unfold dN;rw[⇑r];have:∀l:eA,Rps ok H (l.filterMap λi=>vs[i]?) (l.filterMap λi=>ds[i]?):=λl=>by
  induction l with
  |nil=>exact .nil
  |cons i l ih =>
   cases e:vs[i]? with
   |none =>
    have a:ds[i]?=none:=by
     rw[List.getElem?_eq_none_iff]at e ⊢;rw[←⇑r];exact e
    rw[List.filterMap_cons,e,List.filterMap_cons,a];exact ih
   |some v =>
    let⟨d,hd,b⟩:=r.get e;rw[List.filterMap_cons,e,List.filterMap_cons,hd];exact .cons b ih
 exact this _
variable [Gr] {X:Cx}{e:Zt}{te:DE}{p1 p2 p3 pos:Pos}{n1 n2:Nat}
def Ug(te:DE):DE:=λρ P=>te ρ λk d=>match d with
 |.list ds=>⇑(dN ds)<=1000/\newP k (dN ds) λk'=>P k' (.list (dN ds))
 |_=>False
theorem vG(he:PD X e te):PD X (.Subscript e (.Slice (some (.Constant (.int 1) n1 p1)) none (some (.Constant (.int 2) n2 p2)) p3) pos) (Ug te):=PE.wk (Nk he) (by
 rintro σ H Q ⟨p,H0,own,ρ,P,E,t,q⟩;refine⟨p,H0,own,ρ,_,E,t,λk d v H1 h A r=>?_⟩;cases d with
 |list ds =>
  let⟨x,xs,g,o,h1,f⟩:=Rp.cV r;subst g;have i:=Z9;refine⟨x,xs,rfl,SqL.of h1,by have:=⇑f.pick;lia,λl hl=>?_⟩;let⟨c,j,m⟩:=A.new hl (.lst (dN xs));let⟨n,a,b⟩:=nR A (cU A c f.pick) m aB h.2;exact q _ _ _ _ a (A.go c j) b
 |_=>exact h.elim)
end Dl
namespace Wr
open L2 Dl
def vG[Gr]{X:Cx}{e:Zt}{a:DE}{d f g pos:Pos}{b c:Nat}(he:WD X e a):WD X (.Subscript e (.Slice (some (.Constant (.int 1) b d)) none (some (.Constant (.int 2) c f)) g) pos) (Ug a):=⟨Dl.vG he.h⟩
end Wr
namespace L2
open PySem.Spec
def T5(K:W.Frag)(a b:Addr):It :=
 ⟨λi H=>∃xs ys x y,SqL K H a xs/\SqL K H b ys/\xs[i]?=some x/\ys[i]?=some y,λi H v H'=>∃t x y,v=.ref t/\H t=none/\H'=upd H t (.tup [x,y])/\(∀xs,SqL K H a xs->xs[i]?=some x)/\∀ys,SqL K H b ys->ys[i]?=some y,λi H=>∃xs ys,SqL K H a xs/\SqL K H b ys/\(⇑xs<=i\/⇑ys<=i)⟩
def Hx{P:Za}{w:Zb}{K:W.Frag}{elts:List Zt}{kk:Nat}{pos:Pos}{a b z TI TO i1 i2:Addr}(D:WU z TI TO i1 i2 a b) :
  Turn P w K (.Tuple elts kk pos) (T5 K a b) [z,TI,TO,i1,i2] z (λi h=>IsZip h z TI TO .none/\IsPair h TI (.ref i1) (.ref i2)/\(∃u v,IsPair h TO u v)/\h.IsListIter i1 a i/\h.IsListIter i2 b i) where
 mem:=by simp
 obj:=λi h st c hc=>by
  let⟨hz,hTI,⟨u,v,hTO⟩,⟨o1,j1,c1,d1⟩,⟨o2,j2,c2,d2⟩⟩:=st;simp only[List.mem_cons,List.not_mem_nil,or_false]at hc;rcases hc with rfl|rfl|rfl|rfl|rfl
  ·exact⟨_,hz,λv z=>nomatch z⟩
  ·exact⟨_,hTI,λv z=>nomatch z⟩
  ·exact⟨_,hTO,λv z=>nomatch z⟩
  ·exact⟨o1,j1,λv z=>by rw[d1]at z;cases z⟩
  ·exact⟨o2,j2,λv z=>by rw[d2]at z;cases z⟩
 keep:=λi h h' st k=>by
  let⟨hz,hTI,⟨u,v,hTO⟩,⟨o1,j1,r1⟩,⟨o2,j2,r2⟩⟩:=st;exact⟨k z (by simp) _ hz,k TI (by simp) _ hTI,⟨u,v,k TO (by simp) _ hTO⟩,⟨o1,k i1 (by simp) _ j1,r1⟩,⟨o2,k i2 (by simp) _ j2,r2⟩⟩
 item:=by
  intro X hP hw hK hc i pins s σ H E I hf st hg;subst hP hw hK;let⟨xs,ys,x,y,hq,hq2,hx,hy⟩:=hg;let⟨its,rv,pl,hz1⟩:=I.list hq;let⟨its2,rv2,pl2,hz2⟩:=I.list hq2;let⟨u,hu,ru⟩:=rv.get hx;let⟨u2,hu2,ru2⟩:=rv2.get hy;let⟨hz,hTI,hTO,h1,h2⟩:=st;have W:=WalksT.zip2 (prog:=X.prog) (w:=X.w) (A:=X.A) (I.ok.hd hc) z TI TO i1 i2 a b D its.toArray its2.toArray;have l1:=(List.getElem?_eq_some_iff.mp hu).1;have l2:=(List.getElem?_eq_some_iff.mp hu2).1;refine W.item i s _ _ (by simp;lia) ⟨hz,hTI,hTO,h1,h2,pl.isList,pl2.isList⟩ λT vals h' tk hP hTs hTup hMid hk=>⟨_,rfl,?_⟩
  let⟨x',y',e1,e2,rfl⟩:=hP;have ex:x'=u:=by
   have:its[i]?=some x':=↑e1
   rw[hu]at this;exact(Option.some.inj this).symm
  have ey:y'=u2:=by
   have:its2[i]?=some y':=↑e2
   rw[hu2]at this;exact(Option.some.inj this).symm
  subst ex ey;have ap:=W.apart i T h' hMid;refine W.go elts kk pos i T _ _ _ hMid λh3 hst3 hk3=>?_;have hTn:H T=none:=I.hok.fresh hTs;have keep2:∀c o,c∉[z,TO,i1,i2]->s.heap.get? c=some o->h3.get? c=some o:=λc o hc q=>hk3 c o hc (hk c o hc q);have fz:∀c∈[z,TO,i1,i2],lX X pins H c:=λc hc=>hf c (by
   simp only[List.mem_cons,List.not_mem_nil,or_false]at hc ⊢;rcases hc with h|h|h|h <;> simp[h])
  have nT:∀{c:Addr}{y:HO},H c=some y->c∉[z,TO,i1,i2]:=λ{c y} q hc=>by
   have:=(fz c hc).1;rw[this]at q;cases q
  let⟨oT,hT1,hT2,nn,hT3⟩:=hTup;have hTup3:IsTup h3 T #[x',y']:=⟨oT,hk3 T oT ap hT1,hT2,nn,hT3⟩
  have J:Inv X pins σ (upd H T (.tup [x,y])) { s with heap:=h3,toks:=tk }:=by
   refine I.step (g':=s.gens) (d':=s.drawn) (t':=tk) (ch:=[z,TO,i1,i2]) (λc hc=>?_) (λc o _ _ hcb q _=>keep2 c o hcb q)
    (λc o _ _ hcb q _=>⟨o.slots,keep2 c o hcb q⟩) (λc o _ q n=>by rw[ao (Nat.ne_of_lt (Nat.lt_of_lt_of_le (Heap.lt_size q) hTs))];exact n)
    (λc o hcb q=>⟨o,keep2 c o hcb q⟩) (λc ys q=>by rw[ao (aA q hTn)];exact q) (λc o y q=>by rw[ao (aA q hTn)];exact q)
    (λc ps q=>⟨#[],by rw[ao (aA q hTn),q];simp⟩) (λm hm=>?_) ?_ I.bare
   ·let⟨e0,e1,e2,e3,e4,e5⟩:=fz c hc;exact⟨e3,e1,e4,e5⟩
   ·let⟨o,es,ep,ho',r⟩:=hm;refine⟨o,es,ep,keep2 _ o (λhc=>?_) ho',r⟩;exact(fz _ hc).2.1 rfl
   ·intro c u' q;by_cases hb:c=T
    ·subst hb;rw[aB]at q;cases q;exact⟨(by show 2<=sizeLine;decide),[x',y'],.cons ru (.cons ru2 .nil),hTup3⟩
    ·rw[ao hb]at q;refine(I.hok c u' q).stay (λd v hcv y=>keep2 d v ?_ y) (λd y=>by rw[ao (aA y hTn)];exact y) λd ys y=>by rw[ao (aA y hTn)];exact y
     rcases hcv with rfl|z
     ·exact nT q
     ·exact nT z
  let⟨a1,a2,a3,a4,a5,_,_⟩:=hst3;refine⟨.ref T,_,J,rfl,⟨T,x,y,rfl,hTn,rfl,λxs' hy'=>by rw[I.n8 hy' hq];exact hx,λys' hy'=>by rw[I.n8 hy' hq2];exact hy⟩,⟨a1,a2,a3,a4,a5⟩,λc hc=>?_⟩;rw[ao]
  ·exact(hf c hc).1
  ·rintro rfl;simp only[List.mem_cons,List.not_mem_nil,or_false]at hc;have lt:∀{d:Addr}{o:Obj},s.heap.get? d=some o->c≠d:=λe=>Nat.ne_of_gt (Nat.lt_of_lt_of_le (Heap.lt_size e) hTs);let⟨w1,w2,hTO'⟩:=hTO;let⟨o1,j1,_⟩:=h1;let⟨o2,j2,_⟩:=h2;rcases hc with h|h|h|h|h
   ·exact lt hz h
   ·exact lt hTI h
   ·exact lt hTO' h
   ·exact lt j1 h
   ·exact lt j2 h
 done:=by
  intro X hP hw hK hc i pins s σ H E I hf st hg;subst hP hw hK;let⟨xs,ys,hq,hq2,he⟩:=hg;let⟨its,rv,pl,hz1⟩:=I.list hq;let⟨its2,rv2,pl2,hz2⟩:=I.list hq2;let⟨hz,hTI,⟨u,v,hTO⟩,h1,h2⟩:=st;have r1:=⇑rv;have r2:=⇑rv2;refine wpAny_pyNext_zip_end (I.ok.hd hc) D hz hTI hTO h1 h2 pl.isList pl2.isList (xs:=its.toArray) (ys:=its2.toArray) ?_ λh' hk=>⟨rfl,?_⟩
  ·rcases he with he|he
   ·left;simp;lia
   ·right;simp;lia
  have fz:∀c∈[z,TO,i1,i2],lX X pins H c:=λc hc=>hf c (by
   simp only[List.mem_cons,List.not_mem_nil,or_false]at hc ⊢;rcases hc with h|h|h|h <;> simp[h])
  have keep2:∀c o,c∉[z,TO,i1,i2]->s.heap.get? c=some o->h'.get? c=some o:=λc o hc q=>hk c o (λe=>hc (by simp[e])) (λe=>hc (by simp[e])) (λe=>hc (by simp[e])) (λe=>hc (by simp[e])) q;have nT:∀{c:Addr}{y:HO},H c=some y->c∉[z,TO,i1,i2]:=λ{c y} q hc=>by
   have:=(fz c hc).1;rw[this]at q;cases q
  refine I.step (g':=s.gens) (d':=s.drawn) (t':=s.toks) (ch:=[z,TO,i1,i2]) (λc hc=>?_) (λc o _ _ hcb q _=>keep2 c o hcb q)
    (λc o _ _ hcb q _=>⟨o.slots,keep2 c o hcb q⟩) (λc o _ q n=>n)
    (λc o hcb q=>⟨o,keep2 c o hcb q⟩) (λc ys q=>q) (λc o y q=>q)
    (λc ps q=>⟨#[],by rw[q];simp⟩) (λm hm=>?_) ?_ I.bare
  ·let⟨e0,e1,e2,e3,e4,e5⟩:=fz c hc;exact⟨e3,e1,e4,e5⟩
  ·let⟨o,es,ep,ho',r⟩:=hm;refine⟨o,es,ep,keep2 _ o (λhc=>?_) ho',r⟩;exact(fz _ hc).2.1 rfl
  ·intro c u' q;refine(I.hok c u' q).stay (λd v hcv y=>keep2 d v ?_ y) (λd y=>y) λd ys y=>y;rcases hcv with rfl|z
   ·exact nT q
   ·exact nT z
 self:=λA i s Q E st h=>by
  let⟨hz,_⟩:=st;exact WZ hz h
end L2
namespace Dl
open L2
variable [Gr]
section
variable{X:Cx}{tg:Zt}{pos:Pos}{ta:DA}
def Hl{K:W.Frag}{ok:Addr->Prop}{a b:Addr}{ds es:eI}:Wlk (λH=>Rp ok H (.ref a) (.list ds)/\Rp ok H (.ref b) (.list es)) (T5 K a b) ((ds.zip es).map prD) ok where
 go:=λi H r hi=>by
  let⟨b,vs,e,_,h,rs⟩:=r.1.cV;cases e;let⟨b2,vs2,e,_,h2,rs2⟩:=r.2.cV;cases e;rw[List.length_map,List.length_zip]at hi;have l1:i<⇑vs:=by rw[⇑rs];lia
  have l2:i<⇑vs2:=by rw[⇑rs2];lia
  exact⟨vs,vs2,vs[i],vs2[i],SqL.of h,SqL.of h2,by simp[l1],by simp[l2]⟩
 stop:=λH r=>by
  let⟨b,vs,e,_,h,rs⟩:=r.1.cV;cases e;let⟨b2,vs2,e,_,h2,rs2⟩:=r.2.cV;cases e;refine⟨vs,vs2,SqL.of h,SqL.of h2,?_⟩;rw[List.length_map,List.length_zip,⇑rs,⇑rs2];lia
 yld:=λi H x H' r y=>by
  let⟨t,v,v2,rfl,ht,rfl,y1,y2⟩:=y;have sm:Same H (upd H t (.tup [v,v2])):=λb u q=>by rw[ao (aA q ht)];exact q
  refine⟨sm,λd hd=>?_⟩;let⟨b,vs,e,_,h,rs⟩:=r.1.cV;cases e;let⟨b2,vs2,e,_,h2,rs2⟩:=r.2.cV;cases e;rw[List.getElem?_map]at hd;cases he:(ds.zip es)[i]? with
  |none=>rw[he]at hd;cases hd
  |some pq =>
   rw[he]at hd;have e:=Option.some.inj hd;subst e;let⟨g1,g2⟩:=List.getElem?_zip_eq_some.mp he;let⟨w1,hw1,rw1⟩:=rs.getD g1;let⟨w2,hw2,rw2⟩:=rs2.getD g2;have z1:=y1 vs (SqL.of h);rw[hw1]at z1;cases z1;have z2:=y2 vs2 (SqL.of h2);rw[hw2]at z2;cases z2;exact .tup aB (.cons (rw1.mono (λ_ o=>o) (λa o _ e=>sm a o e) λa xs e=>sm a _ e) (.cons (rw2.mono (λ_ o=>o) (λa o _ e=>sm a o e) λa xs e=>sm a _ e) .nil))
 stab:=λH H' r f t=>⟨r.1.bO (λa o n e=>⟨n,f a o n e⟩) t,r.2.bO (λa o n e=>⟨n,f a o n e⟩) t⟩
end
end Dl
namespace Wr
open L2 Dl
variable [Gr] {X:Cx}{pos:Pos}{ta:DA}
end Wr
namespace L2
open PySem.Spec
section
variable{prog:Za}{w:Zb}{A:Zr}{E:em}{s:Shared}{z TI TO i1 i2 l1 l2:Addr}{k:Nat}{xs ys:eB}{x y:Value}
def gU{h h':Heap}{i l:Addr}{k:Nat}(st:h.IsTupleIter i l k)(f:∀o,h.get? i=some o->h'.get? i=some o):h'.IsTupleIter i l k:=let⟨o,e,r⟩:=st;⟨o,f o e,r⟩
def pO{h h':Heap}{l:Addr}{xs:eB}(st:h.IsTuple l xs)(f:∀o,h.get? l=some o->h'.get? l=some o):h'.IsTuple l xs:=let⟨o,e,r⟩:=st;⟨o,f o e,r⟩
def LQ(z TO i1 i2:Addr)(h h':Heap):Prop:=∀c o,c≠z->c≠TO->c≠i1->c≠i2->h.get? c=some o->h'.get? c=some o
structure ZT(z TI TO i1 i2 l1 l2:Addr)(k:Nat)(h:Heap):Prop where
 hz:IsZip h z TI TO .none
 hI:IsPair h TI (.ref i1) (.ref i2)
 hO:∃u v,IsPair h TO u v
 t1:h.IsTupleIter i1 l1 k
 t2:h.IsTupleIter i2 l2 k
def Eu(D:WU z TI TO i1 i2 l1 l2)(Z:ZT z TI TO i1 i2 l1 l2 k s.heap)(M:s.heap.IsTuple l1 xs)(N:s.heap.IsTuple l2 ys)(K:xs[k]?=some x)(L:ys[k]?=some y){Q:eH->Shared->Prop}(J:∀h',IsZip h' z TI TO (Z2 ↥s)->IsPair h' TO x y->h'.IsTupleIter i1 l1 (k+1)->h'.IsTupleIter i2 l2 (k+1)->IsPair h' ↥s x y->LQ z TO i1 i2 s.heap h'->Q (some (.ref ↥s)) { s with heap:=h' }) :
  wpAny (model prog w) A (ZY (.ref z)) Q E s:=by
 let⟨b,H,⟨u,v,I⟩,O,t2⟩:=Z;have ty:s.TypeIs (.ref z) "zip":=⟨_,b,rfl⟩
 unfold ZY;refine wpAny_bind (XY (Yx (name:=Str.ofString "__next__") ty F.slot_zip_next (Yy F.slot_zip_next ty F.entry_zip_next ?_ (F.args_zip_next_1 _))));show wpAny _ _ (XR (.ref z) 2 >>=_) _ _ _;refine wpAny_bind (Yu b rfl (x:=.bool false) rfl ?_);show wpAny _ _ (XR (.ref z) 3 >>=_) _ _ _;refine wpAny_bind (Yu b rfl (x:=.ref TI) rfl (wpAny_bind (XS H rfl ?_)));show wpAny _ _ (Builtin.SmallTypes.ownedTupleIsFree (.ref z) >>=_) _ _ _;refine wpAny_bind ?_;unfold Builtin.SmallTypes.ownedTupleIsFree;refine wpAny_bind (Yu b rfl (x:=.none) rfl (Z0 ?_));simp only[if_true];refine wpAny_bind (XU (wpAny_bind (Yu b rfl (x:=.ref TO) rfl (wpAny_bind (W1 b (by simp) λha za sa=>wpAny_bind ?_)))));have za:IsZip ha z TI TO .ellipsis:=za;have d:=λc o n=>sa.extBut c o n;simp only[List.zipIdx_cons,List.zipIdx_nil,List.forIn_cons,List.forIn_nil];refine wpAny_bind (wpAny_bind (VA ?_));show wpAny _ _ (Builtin.SmallTypes.nextOf (.ref i1) >>=_) _ _ _;refine wpAny_bind ((cX (gU O λo=>d _ o D.i1z) (pO M λo=>d _ o D.l1z) K λhb tb sb=>Z0 ?_));have f:=λc o n=>sb.extBut c o n;have q:IsPair hb TO u v:=f _ _ D.TOi1 (d _ _ D.TOz I);refine wpAny_bind (XS q rfl (wpAny_bind (VC q λhc p sc=>wpAny_bind (WP (Z0 ?_)))));have p:IsPair hc TO x v:=p;have g:=λc o n=>sc.extBut c o n;refine wpAny_bind (wpAny_bind (VA ?_));show wpAny _ _ (Builtin.SmallTypes.nextOf (.ref i2) >>=_) _ _ _;refine wpAny_bind ((cX (gU t2 λo e=>g _ o (Ne.symm D.TOi2) (f _ o (Ne.symm D.i12) (d _ o D.i2z e))) (pO N λo e=>g _ o D.l2TO (f _ o D.l2i1 (d _ o D.l2z e))) L λhd td sd=>Z0 ?_));have h:=λc o n=>sd.extBut c o n;have r:IsPair hd TO x v:=h _ _ D.TOi2 p;refine wpAny_bind (XS r rfl (wpAny_bind (VC r λhe j se=>wpAny_bind (WP (Z0 (Z0 ?_))))));have j:IsPair he TO x y:=j;have i:=λc o n=>se.extBut c o n;have a:he.objs.size=↥s:=by rw[se.1,sd.1,sc.1,sb.1,sa.1]
 have t:IsZip he z TI TO .ellipsis:=i _ _ (Ne.symm D.TOz) (h _ _ (Ne.symm D.i2z) (g _ _ (Ne.symm D.TOz) (f _ _ (Ne.symm D.i1z) za)));have C:he.IsTupleIter i1 l1 (k+1):=gU tb λo e=>i _ o (Ne.symm D.TOi1) (h _ o D.i12 (g _ o (Ne.symm D.TOi1) e));have G:he.IsTupleIter i2 l2 (k+1):=gU td λo e=>i _ o (Ne.symm D.TOi2) e;have B:LQ z TO i1 i2 s.heap he:=λc o n1 n2 n3 n4 e=>i _ _ n2 (h _ _ n4 (g _ _ n2 (f _ _ n3 (d _ _ n1 e))));refine wpAny_bind (XS j rfl (wpAny_bind (Xw ?_)));show wpAny _ _ (Builtin.SmallTypes.ownedTupleHandOut (.ref z) (.ref he.objs.size) >>=_) _ _ _;refine wpAny_bind ?_;unfold Builtin.SmallTypes.ownedTupleHandOut;refine wpAny_bind (W1 (Heap.get?_push_of_some _ t) (by simp) λhf zf sf=>W1 zf (by simp) λhg m sg=>Z0 ⟨_,rfl,Z0 ?_⟩);have m:IsZip hg z TI TO (Z2 he.objs.size):=m;have l:∀c o,c≠z->he.get? c=some o->hg.get? c=some o:=λc o n e=>sg.extBut _ _ n (sf.extBut _ _ n (Heap.get?_push_of_some _ e));have new:IsPair hg he.objs.size x y:=by
  have n:=Nat.ne_of_gt (Heap.lt_size t);exact sg.extBut _ _ n (sf.extBut _ _ n (Heap.get?_push_size _ rfl))
 rw[a]at m new;show Q (some (.ref he.objs.size)) _;rw[a];exact J hg m (l _ _ D.TOz j) (gU C λo e=>l _ o D.i1z e) (gU G λo e=>l _ o D.i2z e) new λc o n1 n2 n3 n4 e=>l c o n1 (B c o n1 n2 n3 n4 e)
def Hh(hh:A.handled=none)(D:WU z TI TO i1 i2 l1 l2)(Z:ZT z TI TO i1 i2 l1 l2 k s.heap)(B:s.heap.IsTuple l1 xs)(L:s.heap.IsTuple l2 ys)(K:xs[k]?=none\/ys[k]?=none){Q:eH->Shared->Prop}(r:∀h',LQ z TO i1 i2 s.heap h'->Q none { s with heap:=h' }):wpAny (model prog w) A (ZY (.ref z)) Q E s:=by
 let⟨g,H,⟨u,v,I⟩,C,t2⟩:=Z;have ty:s.TypeIs (.ref z) "zip":=⟨_,g,rfl⟩
 unfold ZY;refine wpAny_bind (XY (Yx (name:=Str.ofString "__next__") ty F.slot_zip_next (Yy F.slot_zip_next ty F.entry_zip_next ?_ (F.args_zip_next_1 _))));show wpAny _ _ (XR (.ref z) 2 >>=_) _ _ _;refine wpAny_bind (Yu g rfl (x:=.bool false) rfl ?_);show wpAny _ _ (XR (.ref z) 3 >>=_) _ _ _;refine wpAny_bind (Yu g rfl (x:=.ref TI) rfl (wpAny_bind (XS H rfl ?_)));show wpAny _ _ (Builtin.SmallTypes.ownedTupleIsFree (.ref z) >>=_) _ _ _;refine wpAny_bind ?_;unfold Builtin.SmallTypes.ownedTupleIsFree;refine wpAny_bind (Yu g rfl (x:=.none) rfl (Z0 ?_));simp only[if_true];refine wpAny_bind (XU (wpAny_bind (Yu g rfl (x:=.ref TO) rfl (wpAny_bind (W1 g (by simp) λha za sa=>wpAny_bind ?_)))));have za:IsZip ha z TI TO .ellipsis:=za;have a:=λc o n=>sa.extBut c o n;simp only[List.zipIdx_cons,List.zipIdx_nil,List.forIn_cons,List.forIn_nil];refine wpAny_bind (wpAny_bind (VA ?_));show wpAny _ _ (Builtin.SmallTypes.nextOf (.ref i1) >>=_) _ _ _;cases j:xs[k]? with
 |none =>
  refine wpAny_bind (dG hh (gU C λo=>a _ o D.i1z) (pO B λo=>a _ o D.l1z) j λhb e d he=>?_);let⟨m,f,hc⟩:=he;have G:IsZip hb z TI TO .ellipsis:=d _ _ (Ne.symm D.i1z) za;have l:e≠z:=λy=>by subst y;rw[G]at f;cases f;simp at hc
  refine W1 G (by simp) λhd p sd=>?_;refine wpAny_bind (XZ (T:="StopIteration") (b:=true) ⟨m,sd.extBut _ _ l f,hc⟩ X0 (Z0 (r _ λc o n1 n2 n3 n4 q=>?_)));exact sd.extBut _ _ n1 (d _ _ n3 (a _ _ n1 q))
 |some x =>
  have J:ys[k]?=none:=K.resolve_left (by rw[j];exact λq=>nomatch q);refine wpAny_bind ((cX (gU C λo=>a _ o D.i1z) (pO B λo=>a _ o D.l1z) j λhb tb sb=>Z0 ?_));have d:=λc o n=>sb.extBut c o n;have t:IsPair hb TO u v:=d _ _ D.TOi1 (a _ _ D.TOz I);refine wpAny_bind (XS t rfl (wpAny_bind (VC t λhc oc sc=>wpAny_bind (WP (Z0 ?_)))));have i:=λc o n=>sc.extBut c o n;refine wpAny_bind (wpAny_bind (VA ?_));show wpAny _ _ (Builtin.SmallTypes.nextOf (.ref i2) >>=_) _ _ _;refine wpAny_bind (dG hh (gU t2 λo e=>i _ o (Ne.symm D.TOi2) (d _ o (Ne.symm D.i12) (a _ o D.i2z e))) (pO L λo e=>i _ o D.l2TO (d _ o D.l2i1 (a _ o D.l2z e))) J λhd e kd he=>?_);let⟨m,f,h⟩:=he;have p:IsZip hd z TI TO .ellipsis:=kd _ _ (Ne.symm D.i2z) (i _ _ (Ne.symm D.TOz) (d _ _ (Ne.symm D.i1z) za));have l:e≠z:=λy=>by subst y;rw[p]at f;cases f;simp at h
  refine W1 p (by simp) λhg zg sg=>?_;refine wpAny_bind (XZ (T:="StopIteration") (b:=true) ⟨m,sg.extBut _ _ l f,h⟩ X0 (Z0 (r _ λc o n1 n2 n3 n4 q=>?_)));exact sg.extBut _ _ n1 (kd _ _ n4 (i _ _ n2 (d _ _ n3 (a _ _ n1 q))))
end
def Hg(a b:Addr)(xs ys:eB) :
  Meets (Builtin.«zip.__new__» ⟨[.type "zip",.ref a,.ref b],[]⟩) (λ_ R s=>s.heap.IsTuple a xs/\s.heap.IsTuple b ys /\
   ∀(h1 h2 c f i:Heap),h1=s.heap.push { cls:=.type "tuple_iterator",data:=.fields #[.ref a,.int 0 0]}->h2=h1.push { cls:=.type "tuple_iterator",data:=.fields #[.ref b,.int 0 0]}->c=h2.push { cls:=.type "tuple",data:=.seq #[.ref ↥s,.ref h1.objs.size]} ->
    f=c.push { cls:=.type "tuple",data:=.seq #[.none,.none]}->i=f.push { cls:=.type "zip",data:=.fields #[.none,.bool false,.bool false,.ref h2.objs.size,.ref c.objs.size]}->R (.ok (.ret (.ref f.objs.size))) { s with heap:=i }) :=
 .of_wp λprog w A R s h=>by
  let⟨hp,g,d,tk,j⟩:=s;let⟨m,n,h⟩:=h;have p:=sub_zip;have k:Heap.IsTuple (Shared.heap ⟨hp,g,d,tk,j⟩) a xs:=m;have l:Heap.IsTuple (Shared.heap ⟨hp.push { cls:=.type "tuple_iterator",data:=.fields #[.ref a,.int 0 0]},g,d,tk,j⟩) b ys:=pO n λo e=>Heap.get?_push_of_some _ e
  wp_walk using YW k,YW l
  exact⟨_,rfl,h _ _ _ _ _ rfl rfl rfl rfl rfl⟩
section
variable{prog:Za}{w:Zb}{A:Zr}{E:em}{s:Shared}{l1 l2:Addr}{xs ys:eB}
def GR{Q:em}(C:s.heap.IsTuple l1 xs)(D:s.heap.IsTuple l2 ys)(h:∀h',ZT (↥s+4) (↥s+2) (↥s+3) ↥s (↥s+1) l1 l2 0 h'->(∀c o,s.heap.get? c=some o->h'.get? c=some o)->Q (.ref (↥s+4)) { s with heap:=h' }) :
  wpAny (model prog w) A (Z4 (.type "zip") [.ref l1,.ref l2]) Q E s:=by
 refine callType_new F.called_zip ∅ (F.typeCall_zip_2 _ _) (F.newCall_zip_2 _ _) (λobj=>F.args_object_init_3 obj _ _) F.entry_zip_new (Hg l1 l2 xs ys) ⟨C,D,?_⟩;intro h1 h2 y B G j i g b d;have l:h1.objs.size=↥s+1:=by rw[j];exact Heap.size_push ..
 have m:h2.objs.size=↥s+2:=by rw[i,Heap.size_push,l]
 have p:y.objs.size=↥s+3:=by rw[g,Heap.size_push,m]
 have t:B.objs.size=↥s+4:=by rw[b,Heap.size_push,p]
 have a:∀{h h':Heap}{o:Obj}{c:Addr}{q:Obj},h'=h.push o->h.get? c=some q->h'.get? c=some q:=λe q=>by rw[e];exact Heap.get?_push_of_some _ q
 have top:∀{h h':Heap}{o:Obj}{n:Nat},h'=h.push o->h.objs.size=n->o.isFreed=false->h'.get? n=some o:=λe z f=>by rw[e,←z];exact Heap.get?_push_size _ f
 have u:=top j rfl rfl;have v:=top i l rfl;have r:=top g m rfl;have x:=top b p rfl;have k:=top d t rfl;rw[l]at r;rw[m,p]at k;show _/\_;rw[t];refine⟨⟨_,k,rfl⟩,h _ ⟨k,a d (a b r),⟨_,_,a d x⟩,⟨_,a d (a b (a g (a i u))),rfl,rfl⟩,⟨_,a d (a b (a g v)),rfl,rfl⟩⟩ λc o q=>a d (a b (a g (a i (a j q))))⟩
end
def LR(K:W.Frag)(a b:Addr):It :=
 ⟨λi H=>∃xs ys x y,SqT K H a xs/\SqT K H b ys/\xs[i]?=some x/\ys[i]?=some y,λi H v H'=>∃t x y,v=.ref t/\H t=none/\H'=upd H t (.tup [x,y])/\(∀xs,SqT K H a xs->xs[i]?=some x)/\∀ys,SqT K H b ys->ys[i]?=some y,λi H=>∃xs ys,SqT K H a xs/\SqT K H b ys/\(⇑xs<=i\/⇑ys<=i)⟩
def EY{P:Za}{w:Zb}{K:W.Frag}{elts:List Zt}{kk:Nat}{pos:Pos}{a b z TI TO i1 i2:Addr}(D:WU z TI TO i1 i2 a b) :
  Turn P w K (.Tuple elts kk pos) (LR K a b) [z,TI,TO,i1,i2] z (ZT z TI TO i1 i2 a b) where
 mem:=by simp
 obj:=λi h st c hc=>by
  let⟨hz,hTI,⟨u,v,hTO⟩,⟨o1,j1,c1,d1⟩,⟨o2,j2,c2,d2⟩⟩:=st;simp only[List.mem_cons,List.not_mem_nil,or_false]at hc;rcases hc with rfl|rfl|rfl|rfl|rfl
  ·exact⟨_,hz,λv z=>nomatch z⟩
  ·exact⟨_,hTI,λv z=>nomatch z⟩
  ·exact⟨_,hTO,λv z=>nomatch z⟩
  ·exact⟨o1,j1,λv z=>by rw[d1]at z;cases z⟩
  ·exact⟨o2,j2,λv z=>by rw[d2]at z;cases z⟩
 keep:=λi h h' st k=>by
  let⟨hz,hTI,⟨u,v,hTO⟩,⟨o1,j1,r1⟩,⟨o2,j2,r2⟩⟩:=st;exact⟨k z (by simp) _ hz,k TI (by simp) _ hTI,⟨u,v,k TO (by simp) _ hTO⟩,⟨o1,k i1 (by simp) _ j1,r1⟩,⟨o2,k i2 (by simp) _ j2,r2⟩⟩
 item:=by
  intro X hP hw hK hc i pins s σ H E I hf st hg;subst hP hw hK;let⟨xs,ys,x,y,hq,hq2,hx,hy⟩:=hg;let⟨its,rv,pl,hz1⟩:=I.tuple hq;let⟨its2,rv2,pl2,hz2⟩:=I.tuple hq2;let⟨u,hu,ru⟩:=rv.get hx;let⟨u2,hu2,ru2⟩:=rv2.get hy;let⟨hz,hTI,hTO,h1,h2⟩:=st;have ex:its.toArray[i]?=some u:=↑hu
  have ey:its2.toArray[i]?=some u2:=↑hu2
  refine Eu D ⟨hz,hTI,hTO,h1,h2⟩ (show s.heap.IsTuple a its.toArray from pl) (show s.heap.IsTuple b its2.toArray from pl2) ex ey λh' zg og t1 t2 new kp=>⟨_,rfl,wpAny_letOwnedTupleGo_zip zg λh3 z3 s3=>?_⟩
  have k3:∀c o,c≠z->h'.get? c=some o->h3.get? c=some o:=λc o n e=>s3.extBut _ _ n e;generalize hT:↥s=T at new zg;have hTs:↥s<=T:=Nat.le_of_eq hT;have ap:T≠z:=λe=>by have new':h'.get? T=_:=new;rw[e,show h'.get? z=_ from zg]at new';injection new' with new';injection new' with e1;injection e1 with e2;exact ef e2 ∅
  have hTn:H T=none:=I.hok.fresh hTs;have keep2:∀c o,c∉[z,TO,i1,i2]->s.heap.get? c=some o->h3.get? c=some o:=λc o hc q=>by
   simp only[List.mem_cons,List.not_mem_nil,or_false,not_or]at hc;exact k3 c o hc.1 (kp c o hc.1 hc.2.1 hc.2.2.1 hc.2.2.2 q)
  have fz:∀c∈[z,TO,i1,i2],lX X pins H c:=λc hc=>hf c (by
   simp only[List.mem_cons,List.not_mem_nil,or_false]at hc ⊢;rcases hc with h|h|h|h <;> simp[h])
  have nT:∀{c:Addr}{y:HO},H c=some y->c∉[z,TO,i1,i2]:=λ{c y} q hc=>by
   have:=(fz c hc).1;rw[this]at q;cases q
  have hTup3:IsTup h3 T #[u,u2]:=⟨_,k3 T _ ap new,rfl,_,rfl⟩
  have J:Inv X pins σ (upd H T (.tup [x,y])) { s with heap:=h3,toks:=s.toks }:=by
   refine I.step (g':=s.gens) (d':=s.drawn) (t':=s.toks) (ch:=[z,TO,i1,i2]) (λc hc=>?_) (λc o _ _ hcb q _=>keep2 c o hcb q)
    (λc o _ _ hcb q _=>⟨o.slots,keep2 c o hcb q⟩) (λc o _ q n=>by rw[ao (Nat.ne_of_lt (Nat.lt_of_lt_of_le (Heap.lt_size q) hTs))];exact n)
    (λc o hcb q=>⟨o,keep2 c o hcb q⟩) (λc ys q=>by rw[ao (aA q hTn)];exact q) (λc o y q=>by rw[ao (aA q hTn)];exact q)
    (λc ps q=>⟨#[],by rw[ao (aA q hTn),q];simp⟩) (λm hm=>?_) ?_ I.bare
   ·let⟨e0,e1,e2,e3,e4,e5⟩:=fz c hc;exact⟨e3,e1,e4,e5⟩
   ·let⟨o,es,ep,ho',r⟩:=hm;refine⟨o,es,ep,keep2 _ o (λhc=>?_) ho',r⟩;exact(fz _ hc).2.1 rfl
   ·intro c u' q;by_cases hb:c=T
    ·subst hb;rw[aB]at q;cases q;exact⟨(by show 2<=sizeLine;decide),[u,u2],.cons ru (.cons ru2 .nil),hTup3⟩
    ·rw[ao hb]at q;refine(I.hok c u' q).stay (λd v hcv y=>keep2 d v ?_ y) (λd y=>by rw[ao (aA y hTn)];exact y) λd ys y=>by rw[ao (aA y hTn)];exact y
     rcases hcv with rfl|z
     ·exact nT q
     ·exact nT z
  refine⟨.ref T,_,J,rfl,⟨T,x,y,rfl,hTn,rfl,λxs' hy'=>by rw[I.kJ hy' hq];exact hx,λys' hy'=>by rw[I.kJ hy' hq2];exact hy⟩,⟨z3,k3 _ _ D.TIz (kp _ _ D.TIz D.TITO D.TIi1 D.TIi2 hTI),⟨_,_,k3 _ _ D.TOz og⟩,gU t1 λo=>k3 _ o D.i1z,gU t2 λo=>k3 _ o D.i2z⟩,λc hc=>?_⟩;rw[ao]
  ·exact(hf c hc).1
  ·rintro rfl;simp only[List.mem_cons,List.not_mem_nil,or_false]at hc;have lt:∀{d:Addr}{o:Obj},s.heap.get? d=some o->c≠d:=λe=>Nat.ne_of_gt (Nat.lt_of_lt_of_le (Heap.lt_size e) hTs);let⟨w1,w2,hTO'⟩:=hTO;let⟨o1,j1,_⟩:=h1;let⟨o2,j2,_⟩:=h2;rcases hc with h|h|h|h|h
   ·exact lt hz h
   ·exact lt hTI h
   ·exact lt hTO' h
   ·exact lt j1 h
   ·exact lt j2 h
 done:=by
  intro X hP hw hK hc i pins s σ H E I hf st hg;subst hP hw hK;let⟨xs,ys,hq,hq2,he⟩:=hg;let⟨its,rv,pl,hz1⟩:=I.tuple hq;let⟨its2,rv2,pl2,hz2⟩:=I.tuple hq2;let⟨hz,hTI,⟨u,v,hTO⟩,h1,h2⟩:=st;have r1:=⇑rv;have r2:=⇑rv2;refine Hh (I.ok.hd hc) D ⟨hz,hTI,⟨u,v,hTO⟩,h1,h2⟩ (show s.heap.IsTuple a its.toArray from pl) (show s.heap.IsTuple b its2.toArray from pl2) ?_ λh' hk=>⟨rfl,?_⟩
  ·rcases he with he|he
   ·left;simp;lia
   ·right;simp;lia
  have fz:∀c∈[z,TO,i1,i2],lX X pins H c:=λc hc=>hf c (by
   simp only[List.mem_cons,List.not_mem_nil,or_false]at hc ⊢;rcases hc with h|h|h|h <;> simp[h])
  have keep2:∀c o,c∉[z,TO,i1,i2]->s.heap.get? c=some o->h'.get? c=some o:=λc o hc q=>hk c o (λe=>hc (by simp[e])) (λe=>hc (by simp[e])) (λe=>hc (by simp[e])) (λe=>hc (by simp[e])) q;have nT:∀{c:Addr}{y:HO},H c=some y->c∉[z,TO,i1,i2]:=λ{c y} q hc=>by
   have:=(fz c hc).1;rw[this]at q;cases q
  refine I.step (g':=s.gens) (d':=s.drawn) (t':=s.toks) (ch:=[z,TO,i1,i2]) (λc hc=>?_) (λc o _ _ hcb q _=>keep2 c o hcb q)
    (λc o _ _ hcb q _=>⟨o.slots,keep2 c o hcb q⟩) (λc o _ q n=>n)
    (λc o hcb q=>⟨o,keep2 c o hcb q⟩) (λc ys q=>q) (λc o y q=>q)
    (λc ps q=>⟨#[],by rw[q];simp⟩) (λm hm=>?_) ?_ I.bare
  ·let⟨e0,e1,e2,e3,e4,e5⟩:=fz c hc;exact⟨e3,e1,e4,e5⟩
  ·let⟨o,es,ep,ho',r⟩:=hm;refine⟨o,es,ep,keep2 _ o (λhc=>?_) ho',r⟩;exact(fz _ hc).2.1 rfl
  ·intro c u' q;refine(I.hok c u' q).stay (λd v hcv y=>keep2 d v ?_ y) (λd y=>y) λd ys y=>y;rcases hcv with rfl|z
   ·exact nT q
   ·exact nT z
 self:=λA i s Q E st h=>by
  let⟨hz,_⟩:=st;exact WZ hz h
def Vq(K:W.Frag)(c:TA):TI:=λσ H R=>c σ H λvs H1=>∃a b,vs=[.ref a,.ref b]/\((∃xs ys,SqL K H1 a xs/\SqL K H1 b ys/\R (T5 K a b) H1)\/∃xs ys,SqT K H1 a xs/\SqT K H1 b ys/\R (LR K a b) H1)
def Ng{X:Cx}{elts:List Zt}{kk:Nat}{f:Pos}{a b:Zt}{v:TA}{p pos:Pos}(hg:Gl X "zip")(hm:X.mg "zip"=none)(ha:PA X [a,b] v)(x:Zu [a,b] X.env=(false,Zv a X.env)::Zu [b] X.env:=by rfl)(y:(Zw pos (Zu [b] X.env)).any (·.1)=false:=by rfl) :
  PI X (.Tuple elts kk f) (.Call (.Name "zip" p) [a,b] [] pos) (Vq X.K v):=by
 intro l s σ H R I h;refine Call_ (jV I hg hm PyProof.Rows.boot_zip (PyProof.Rows.callWith_type1 (thn (ha pos l s σ H _ I h) λus s1 ⟨vs,H1,I1,r1,r⟩=>?_) x y));let⟨a,b,rfl,r⟩:=r;let⟨u,C,rfl,A,B⟩:=vals2 r1;cases A;cases B;have g:∀j,lX X l H1 (↥s1+j):=λj=>I1.yH (Nat.le_add_right _ _) (I1.hok.fresh (Nat.le_add_right _ _));rcases r with⟨xs,ys,hp,m,k⟩|⟨xs,ys,hp,m,k⟩
 ·let⟨its,z,pl,_⟩:=I1.list hp;let⟨i,t,d,_⟩:=I1.list m;refine call_zip_2 pl.isList d.isList λh' hz hTI hTO hi1 hi2 hsz hk=>?_;have n:a<↥s1:=by let⟨o,e,_⟩:=pl.isList;exact Heap.lt_size e
  have q:b<↥s1:=by let⟨o,e,_⟩:=d.isList;exact Heap.lt_size e
  have T:=Hx (P:=X.prog) (w:=X.w) (K:=X.K) (elts:=elts) (kk:=kk) (pos:=f) (zipApart_new n q);refine T.self _ 0 _ _ _ ⟨hz,hTI,⟨_,_,hTO⟩,hi1,hi2⟩ ⟨_,_,_,_,H1,rfl,I1.kept (t':=s1.toks) hk,T,⟨hz,hTI,⟨_,_,hTO⟩,hi1,hi2⟩,λc hc=>?_,k⟩;simp only[List.mem_cons,List.not_mem_nil,or_false]at hc;rcases hc with h|h|h|h|h
  ·rw[h];exact g 4
  ·rw[h];exact g 2
  ·rw[h];exact g 3
  ·rw[h];exact g 0
  ·rw[h];exact g 1
 ·let⟨its,z,pl,_⟩:=I1.tuple hp;let⟨i,t,d,_⟩:=I1.tuple m;refine GR (show s1.heap.IsTuple a its.toArray from pl) (show s1.heap.IsTuple b i.toArray from d) λh' Z hk=>?_;have n:a<↥s1:=by let⟨o,e,_⟩:=pl;exact Heap.lt_size e
  have q:b<↥s1:=by let⟨o,e,_⟩:=d;exact Heap.lt_size e
  have T:=EY (P:=X.prog) (w:=X.w) (K:=X.K) (elts:=elts) (kk:=kk) (pos:=f) (zipApart_new n q);refine T.self _ 0 _ _ _ Z ⟨_,_,_,_,H1,rfl,I1.kept (t':=s1.toks) hk,T,Z,λc hc=>?_,k⟩;simp only[List.mem_cons,List.not_mem_nil,or_false]at hc;rcases hc with h|h|h|h|h
  ·rw[h];exact g 4
  ·rw[h];exact g 2
  ·rw[h];exact g 3
  ·rw[h];exact g 0
  ·rw[h];exact g 1
end L2
namespace Dl
open L2
variable [Gr]
section
variable{X:Cx}{tg:Zt}{pos:Pos}{ta:DA}
def Ey{K:W.Frag}{ok:Addr->Prop}{a b:Addr}{ds es:eI}:Wlk (λH=>Rp ok H (.ref a) (.tuple ds)/\Rp ok H (.ref b) (.tuple es)) (LR K a b) ((ds.zip es).map prD) ok where
 go:=λi H r hi=>by
  let⟨b,vs,e,h,rs⟩:=r.1.dX;cases e;let⟨b2,vs2,e,h2,rs2⟩:=r.2.dX;cases e;rw[List.length_map,List.length_zip]at hi;have l1:i<⇑vs:=by rw[⇑rs];lia
  have l2:i<⇑vs2:=by rw[⇑rs2];lia
  exact⟨vs,vs2,vs[i],vs2[i],SqT.of h,SqT.of h2,by simp[l1],by simp[l2]⟩
 stop:=λH r=>by
  let⟨b,vs,e,h,rs⟩:=r.1.dX;cases e;let⟨b2,vs2,e,h2,rs2⟩:=r.2.dX;cases e;refine⟨vs,vs2,SqT.of h,SqT.of h2,?_⟩;rw[List.length_map,List.length_zip,⇑rs,⇑rs2];lia
 yld:=λi H x H' r y=>by
  let⟨t,v,v2,rfl,ht,rfl,y1,y2⟩:=y;have sm:Same H (upd H t (.tup [v,v2])):=λb u q=>by rw[ao (aA q ht)];exact q
  refine⟨sm,λd hd=>?_⟩;let⟨b,vs,e,h,rs⟩:=r.1.dX;cases e;let⟨b2,vs2,e,h2,rs2⟩:=r.2.dX;cases e;rw[List.getElem?_map]at hd;cases he:(ds.zip es)[i]? with
  |none=>rw[he]at hd;cases hd
  |some pq =>
   rw[he]at hd;have e:=Option.some.inj hd;subst e;let⟨g1,g2⟩:=List.getElem?_zip_eq_some.mp he;let⟨w1,hw1,rw1⟩:=rs.getD g1;let⟨w2,hw2,rw2⟩:=rs2.getD g2;have z1:=y1 vs (SqT.of h);rw[hw1]at z1;cases z1;have z2:=y2 vs2 (SqT.of h2);rw[hw2]at z2;cases z2;exact .tup aB (.cons (rw1.mono (λ_ o=>o) (λa o _ e=>sm a o e) λa xs e=>sm a _ e) (.cons (rw2.mono (λ_ o=>o) (λa o _ e=>sm a o e) λa xs e=>sm a _ e) .nil))
 stab:=λH H' r f t=>⟨r.1.bO (λa o n e=>⟨n,f a o n e⟩) t,r.2.bO (λa o n e=>⟨n,f a o n e⟩) t⟩
def Vp(ta:DA):DI:=λρ P=>ta ρ λks=>match ks with
 |[(k1,.list ds),(k2,.list es)]=>P (k1.join k2) ((ds.zip es).map prD)
 |[(k1,.tuple ds),(k2,.tuple es)]=>P (k1.join k2) ((ds.zip es).map prD)
 |_=>False
def wj{elts:List Zt}{kk:Nat}{j:Pos}{a b:Zt}{ps:Pos}(hm:X.mg "zip"=none)(ha:PDA X [a,b] ta)(hg:Gl X "zip":=by rfl)(l:Zu [a,b] X.env=(false,Zv a X.env)::Zu [b] X.env:=by rfl)(m:(Zw pos (Zu [b] X.env)).any (·.1)=false:=by rfl):PDI X (.Tuple elts kk j) (.Call (.Name "zip" ps) [a,b] [] pos) (Vp ta):=PI.wk (Ng hg hm ha l m) (by
 rintro σ H R ⟨p,H0,own,ρ,P,E,t,q⟩;refine⟨p,H0,own,ρ,_,E,t,λks vs H1 h A r=>?_⟩;split at h
 ·rename_i f ds g es;let⟨o,s,rfl,c,d⟩:=Ih r;have c:=eN A (dH f g).1 c;have d:=eN A (dH f g).2 d;let⟨a,vs,e,_,ha,n⟩:=Rp.cV (id c);subst e;let⟨b,i,e,_,hb,k⟩:=Rp.cV (id d);subst e;exact⟨a,b,rfl,.inl ⟨vs,i,SqL.of ha,SqL.of hb,q (f.join g) _ _ H1 _ h A Hl ⟨rpA c,rpA d⟩⟩⟩
 ·rename_i f ds g es;let⟨o,s,rfl,c,d⟩:=Ih r;have c:=eN A (dH f g).1 c;have d:=eN A (dH f g).2 d;let⟨a,vs,e,ha,n⟩:=Rp.dX (id c);subst e;let⟨b,i,e,hb,k⟩:=Rp.dX (id d);subst e;exact⟨a,b,rfl,.inr ⟨vs,i,SqT.of ha,SqT.of hb,q (f.join g) _ _ H1 _ h A Ey ⟨rpA c,rpA d⟩⟩⟩
 ·exact h.elim)
end
end Dl
namespace Wr
open L2 Dl
variable [Gr] {X:Cx}{pos:Pos}{ta:DA}
def wj{elts:List Zt}{kk:Nat}{c:Pos}{a b:Zt}{ps:Pos}(hm:X.mg "zip"=none)(ha:WDA X [a,b] ta)(hg:Gl X "zip":=by rfl)(d:Zu [a,b] X.env=(false,Zv a X.env)::Zu [b] X.env:=by rfl)(e:(Zw pos (Zu [b] X.env)).any (·.1)=false:=by rfl):WDI X (.Tuple elts kk c) (.Call (.Name "zip" ps) [a,b] [] pos) (Vp ta):=⟨Dl.wj hm ha.h hg d e⟩
end Wr
namespace L2
open PySem.Spec PySem.Builtin PySem.Builtin.Str
section
variable{X:Cx}
end
end L2
namespace L2
open PySem.Spec
section
variable{X:Cx}
abbrev FP:=List (Str ⊕ Nat)
inductive FPs(X:Cx):List Zt->FP->Prop
 |nil:FPs X [] []
 |str {c:Str}{k:Nat}{ps:Pos}{es:List Zt}{r:FP} (t:FPs X es r):FPs X (.Constant (.str c) k ps::es) (.inl c::r)
 |val {e:Zt}{i:Nat}{ps:Pos}{es:List Zt}{r:FP} (h:PE X e (jw i)) (t:FPs X es r):FPs X (.FormattedValue e (-1) none ps::es) (.inr i::r)
end
end L2
namespace Dl
open L2
section
variable [Gr] {X:Cx}{pos:Pos}{a b e o tg l:Zt}{ta tb te tl to:DE}{t:DA}
end
end Dl
namespace Wr
open L2 Dl
section
variable [Gr] {X:Cx}{pos:Pos}{a b tg l:Zt}{ta tb te tl:DE}{t:DA}
end
end Wr
namespace L2
open PySem.Spec
section
variable{K:W.Frag}{PT b f:Addr}{h:Heap}
end
end L2
namespace Nf
open L2 Dl
def okT{P:Za}{w:Zb}{K:PySem.W.Frag}{mg:Str->eH}{fw:Heap}{x q:Str}{st:ZF}{f:Addr}{b:Yi}{N ps:List Str}{k:Nat}{g:eo}{T:DS}(F:Fun K x q st f b)(S:FnScope N ps (aG st))(B:∀{cdv A outer s H E},Room k (A.deeper (Yo q (aG st) ↥s f cdv))->N.Nodup->Wr.WDSs (yQ CX0 P w K mg fw N q (aG st) f cdv A outer s H E).nox (bW st) T)(R:∀ds P,g ds P->∃ρ,ds.map d7++List.replicate (⇑N - ⇑ds) .any=ρ/\T { nx:=λ_=>P .none,rt:=P } ρ)(a:∀vs H Q E,spD g vs H Q E->⇑vs=⇑ps:=by exact Ds):FnOk P w K mg fw CX0 (k+1) f b ps (spD g):=F.ok S a λcdv A outer s H vs Q E hr h=>⟨_,(B hr S.nd).h,Ti h R⟩
def top(i:Nat):ZF:=PySem.Challenge.pw_nofall_k56_pieces_made_one.main.body.getD i (.Pass ⟨0,0,0,0⟩)
def OkT(n:Int)(t:Tie):Prop:=(0<=t.1/\t.1<n)/\(0<=t.2/\t.2<n)/\t.1≠t.2
def OkN(n:Int)(us:ez):Prop:=∀t∈us,OkT n t
def OkN.snoc{n:Int}{us:ez}{t:Tie}(h:OkN n us)(h':OkT n t):OkN n (us++[t]):=λu hu=>(List.mem_append.mp hu).elim (h u) λz=>by rw[List.mem_singleton.mp z];exact h'
def OkW(n:Int)(us:ez):Prop:=∀t∈us,0<=t.1/\t.1<t.2/\t.2<n
def app1(c:ez)(a b:Int):c.map pD++[PyData.tuple [.int a,.int b]]=(c++[((a,b):Tie)]).map pD:=by
 rw[List.map_append];rfl
def Dh(us:ez):okD (.list (us.map pD))=true/\okD (.tuple (us.map pD))=true:=by
 have h1:∀us:ez,PyData.canLayAll0 (us.map pD)=true:=λus=>by
  induction us with
  |nil=>rfl
  |cons t us b=>exact b
 have h2:∀us:ez,PyData.depthAll (us.map pD)<=1:=λus=>by
  induction us with
  |nil=>exact Nat.zero_le _
  |cons t us b =>
   show max (max 0 (max 0 0)+1) (PyData.depthAll (us.map pD))<=1;lia
 have a:PyData.depthAll (us.map pD)+1<=60:=by have:=h2 us;lia
 constructor
 ·show(PyData.canLayAll0 (us.map pD)&&decide (PyData.depthAll (us.map pD)+1<=60))=true;rw[h1,fy a];rfl
 ·show(PyData.canLayAll0 (us.map pD)&&decide (PyData.depthAll (us.map pD)+1<=60))=true;rw[h1,fy a];rfl
def Qw{x y:Int}{out:ew}(p:out.Perm [x,y])(s:out.Pairwise (·<=·))(n:x≠y):∃u v,out=[u,v]/\u<v/\(u=x\/u=y)/\(v=x\/v=y):=by
 have hl:=p.length_eq;match out,hl with
 |[u,v],_ =>
  have hu:u∈[x,y]:=p.mem_iff.mp (by simp);have hv:v∈[x,y]:=p.mem_iff.mp (by simp);have a:x∈[u,v]:=p.mem_iff.mpr (by simp);have b:y∈[u,v]:=p.mem_iff.mpr (by simp);simp at hu hv a b s;exact⟨u,v,rfl,(),hu,hv⟩
def PSs.wk{X:Cx}{a:List ZF}{t t':TS}(h:PSs X a t)(w:∀D σ H,t' D σ H->t D σ H):PSs X a t':=λpins s σ H D I q=>h pins s σ H D I (w D σ H q)
def dz(c:Addr)(a r:Int):List (Key×V):=[(.inr "script",.ref c),(.inr "at",.int a),(.inr "left",.int r)]
def Fv(p sc:Addr)(ns:ew)(b:Bool):Pn where
 fp:=λa=>a=p\/(b=true/\a=sc)
 PI:=λH=>(∃x y:Int,H p=some (.dK (dz sc x y)))/\(b=true->Rd H sc (.lst (ns.map V.int)))
 pv:=.ref p
 mono:=λH H' ⟨⟨x,y,h⟩,r⟩ k=>⟨⟨x,y,k _ _ (.inl (.inl rfl)) h⟩,λe=>(r e).elim (λz=>.inl (k _ _ (.inl (.inr ⟨e,rfl⟩)) z)) λ⟨o,z⟩=>.inr ⟨o,k _ _ (.inl (.inr ⟨e,rfl⟩)) z⟩⟩
 is:=λH a ⟨⟨x,y,h⟩,r⟩ hb=>by
  rcases hb with rfl|⟨e,rfl⟩
  ·exact⟨_,h,(λxs z=>(nomatch z)),λ⟨_,_,z⟩=>(nomatch z)⟩
  ·rcases r e with z|⟨o,z⟩
   ·exact⟨_,z,(λxs z=>(nomatch z)),λ⟨_,_,z⟩=>(nomatch z)⟩
   ·exact⟨_,z,(λxs z=>(nomatch z)),λ⟨_,_,z⟩=>(nomatch z)⟩
def CP(K:W.Frag)(q:Pn):Prop:=∃p sc ns b,(b=true->p≠sc)/\(b=false->∀H,SqL K H sc (ns.map V.int))/\q=Fv p sc ns b
def Rg{K:W.Frag}{H:Hp}{a:Addr}{ns:ew}{b:Bool}(r:b=true->Rd H a (.lst (ns.map V.int)))(hb:b=false->∀H,SqL K H a (ns.map V.int)):SqL K H a (ns.map V.int):=by
 cases b with
 |true=>exact .inl (r rfl)
 |false=>exact hb rfl H
def Io{H:Hp}{a p:Addr}{u o:HO}(h:Rd H a u)(n:p≠a):Rd (upd H p o) a u:=by
 rcases h with z|⟨o',z⟩
 ·exact .inl (by rw[ao (Ne.symm n)];exact z)
 ·exact .inr ⟨o',by rw[ao (Ne.symm n)];exact z⟩
def Hu(c:Addr)(a r:Int):gK (dz c a r) (.inr "script")=some (.ref c):=by
 unfold dz gK;simp
def Ub(c:Addr)(a r:Int):gK (dz c a r) (.inr "at")=some (.int a):=by
 unfold dz gK;have h1:¬((Sum.inr ("script":Str):Key)=Sum.inr ("at":Str)):=by intro z;injection z with z;exact ef z ⋯
 simp[List.find?_cons,h1]
def v_left(c:Addr)(a r:Int):gK (dz c a r) (.inr "left")=some (.int r):=by
 unfold dz gK;have h1:¬((Sum.inr ("script":Str):Key)=Sum.inr ("left":Str)):=by intro z;injection z with z;exact ef z ⋯
 have h2:¬((Sum.inr ("at":Str):Key)=Sum.inr ("left":Str)):=by intro z;injection z with z;exact ef z ⋯
 simp[List.find?_cons,h1,h2]
def Wy(c:Addr)(a r b:Int):putK (dz c a r) (.inr "at") (.int b)=dz c b r:=by
 unfold putK;rw[ed (by rw[mY,Ub];rfl)];unfold dz;have h1:¬((Sum.inr ("script":Str):Key)=Sum.inr ("at":Str)):=by intro z;injection z with z;exact ef z ⋯
 have h2:¬((Sum.inr ("left":Str):Key)=Sum.inr ("at":Str)):=by intro z;injection z with z;exact ef z ⋯
 simp[h1,h2]
def Rx(c:Addr)(a r b:Int):putK (dz c a r) (.inr "left") (.int b)=dz c a b:=by
 unfold putK;rw[ed (by rw[mY,v_left];rfl)];unfold dz;have h1:¬((Sum.inr ("script":Str):Key)=Sum.inr ("left":Str)):=by intro z;injection z with z;exact ef z ⋯
 have h2:¬((Sum.inr ("at":Str):Key)=Sum.inr ("left":Str)):=by intro z;injection z with z;exact ef z ⋯
 simp[h1,h2]
def Ec:FF:=λds P=>∃m:Int,ds=[.int m]/\0<m/\m<1073741824/\∀r:Int,0<=r->r<m->P (.int r)
def qN{C:Pn->Prop}{f:eo}{n:Nat}(hn:∀ds P,f ds P->⇑ds=n:=by intro _ _ h;repeat (first|(let⟨rfl,_⟩:=h;rfl)|let⟨_,h⟩:=h)):∀vs H Q E,spP C f vs H Q E->⇑vs=n+1:=λvs H Q E h=>by
 let⟨p,vs',ds,P,_,rfl,_,r,t,_⟩:=h;rw[List.length_cons,⇑r,hn ds P t]
def R6{x m:Int}(hm:0<m)(hb:m<=2 ^ 32):-(2 ^ 64)<x % m/\x % m<2 ^ 64:=by
 have h1:=Int.emod_nonneg x (b:=m) ();have h2:=Int.emod_lt_of_pos x hm;lia
def Ov{i:Int}{ns:ew}(h:(0:Int)<(⇑(ns.map V.int):Nat)):∃v:Int,atI (ns.map V.int) (i % (⇑(ns.map V.int):Int))=some (.int v):=by
 rw[List.length_map]at h ⊢;have h1:=Int.emod_nonneg i (b:=(⇑ns:Int)) ();have h2:=Int.emod_lt_of_pos i h;have hk:(i % (⇑ns:Int)).toNat<⇑ns:=()
 have a:i % (⇑ns:Int)=(((i % (⇑ns:Int)).toNat:Nat):Int):=()
 have q:atI (ns.map V.int) (((i % (⇑ns:Int)).toNat:Nat):Int)=some (.int ns[(i % (⇑ns:Int)).toNat]):=dh (by rw[List.getElem?_map,List.getElem?_eq_getElem hk];rfl);rw[←a]at q;exact⟨_,q⟩
def oJ{H:Hp}{p c:Addr}{a r:Int}(h:H p=some (.dK (dz c a r))):mW H p (.str "script") (some (.ref c)):=by
 have q:=mW.k (k:=Sum.inr ("script":Str)) h;rw[Hu]at q;exact q
def W5{H:Hp}{p c:Addr}{a r:Int}(h:H p=some (.dK (dz c a r))):mW H p (.str "at") (some (.int a)):=by
 have q:=mW.k (k:=Sum.inr ("at":Str)) h;rw[Ub]at q;exact q
def Bp{H:Hp}{p c:Addr}{a r:Int}(h:H p=some (.dK (dz c a r))):mW H p (.str "left") (some (.int r)):=by
 have q:=mW.k (k:=Sum.inr ("left":Str)) h;rw[v_left]at q;exact q
def Wk{H:Hp}{p c:Addr}{a r:Int}(b:Int)(h:H p=some (.dK (dz c a r))):wM H p (.str "at") (.int b) (upd H p (.dK (dz c b r))):=by
 have q:=wM.k (k:=Sum.inr ("at":Str)) (v:=.int b) h (by show 3<sizeLine;rw[Z9];decide);rw[Wy]at q;exact q
def Hv{H:Hp}{p c:Addr}{a r:Int}(b:Int)(h:H p=some (.dK (dz c a r))):wM H p (.str "left") (.int b) (upd H p (.dK (dz c a b))):=by
 have q:=wM.k (k:=Sum.inr ("left":Str)) (v:=.int b) h (by show 3<sizeLine;rw[Z9];decide);rw[Rx]at q;exact q
def Vv{k:Nat}{A:Zr}(hr:Room k A):A.units+1<Yh:=by have:=hr.units;lia
def Ge(c:Addr):mL [] [(Sum.inr ("script":Str),V.ref c),(Sum.inr ("at":Str),V.int 0),(Sum.inr ("left":Str),V.int 0)]=dz c 0 0:=by
 have h1:¬((Sum.inr ("script":Str):Key)=Sum.inr ("at":Str)):=by intro z;injection z with z;exact ef z ⋯
 have h2:¬((Sum.inr ("script":Str):Key)=Sum.inr ("left":Str)):=by intro z;injection z with z;exact ef z ⋯
 have a:¬((Sum.inr ("at":Str):Key)=Sum.inr ("left":Str)):=by intro z;injection z with z;exact ef z ⋯
 simp[mL,putK,dz,h1,h2,a]
def zT:Sp:=λvs H Q _=>∃sc,vs=[.ref sc]/\∀p H',H p=none->Same H H'->H' p=some (.dK (dz sc 0 0))->Q (.ref p) H'
def tDr(K:W.Frag)(p c:Addr)(ns:ew):TS:=λD σ H=>∃(a2 a5:Option V)(m i cell a r:Int),σ=[some (.ref p),some (.int m),a2,some (.int i),some (.int cell),a5]/\0<m/\m<1073741824/\H p=some (.dK (dz c a r))/\SqL K H c (ns.map V.int)/\∀r',0<=r'->r'<m->D.rt (.int r') H/\∀b,D.rt (.int r') (upd H p (.dK (dz c a b)))
structure IsOrd(n:Int)(l:ew):Prop where
 len:(⇑l:Int)=n
 rng:∀x∈l,0<=x/\x<n
 nd:l.Nodup
def KJ:FF:=λds P=>∃n:Int,ds=[.int n]/\0<=n/\n<=64/\∀l,IsOrd n l->P (.list (l.map PyData.int))
def IsOrd.ins{k:Nat}{l:ew}(h:IsOrd k l)(j:Nat):IsOrd (~~~(k+1)) (l.take j++~~~k::l.drop j):=by
 have p:(l.take j++~~~k::l.drop j).Perm (~~~k::l):=by
  refine List.perm_middle.trans ?_;rw[List.take_append_drop]
 refine⟨?_,λx hx=>?_,?_⟩
 ·rw[p.length_eq,List.length_cons];have:=h.len;lia
 ·rcases List.mem_cons.mp (p.mem_iff.mp hx)with z|z
  ·lia
  ·have:=h.rng x z;lia
 ·refine p.symm.nodup ?_;refine List.nodup_cons.mpr ⟨λz=>?_,h.nd⟩;have:=h.rng _ z;lia
section
variable{P:Za}{w:Zb}{K:W.Frag}{mg:Str->eH}{fw:Heap}{f:Addr}{fd:Yi}
def QT:FnScope ["_law_script"] ["_law_script"] (aG (top 40)):=zC
def RN(F:Fun K cn cn (top 40) f fd):1∩[bh]∩zT:=by
 refine F.ok QT (λvs H Q E h=>?_) (λcdv A outer s H vs Q E hr h=>?_)
 ·let⟨a,rfl,_⟩:=h;rfl
 let⟨a,rfl,q⟩:=h;refine⟨_,fZ (mD (Dd (nC eU (pv 0) (nC eU cL (nC eU cL CZ))) rfl rfl (by intro z;cases z) (by show 3<=15;decide))),?_⟩;intro p hp;refine⟨_,rfl,aB,[(Sum.inr ("script":Str),.ref a),(Sum.inr ("at":Str),.int 0),(Sum.inr ("left":Str),.int 0)],rfl,(by show 3<=15;decide),?_⟩;rw[Ge];exact q p _ hp (λb o e=>by rw[ao (aA e hp),ao (aA e hp)];exact e) aB
def Cw:FnScope [af,aN,"_law_digit","_law_at","_law_cell","_law_number"] [af,aN] (aG (top 41)):=zC
def NK(F:Fun K bN bN (top 41) f fd)(B:Dl.Bn mg):1∩[af,aN]∩spP (CP K) Ec:=by
 refine F.ok Cw qN (λcdv A outer s H vs Q E hr h=>?_);let⟨_,vs',ds,P,⟨p,d,ns,b,J,O,rfl⟩,rfl,⟨⟨a,r,hp⟩,N⟩,rp,⟨m,rfl,q,C,hP⟩,q0⟩:=h;obtain rfl:vs'=[.int m]:=by
  cases rp with
  |cons h1 t=>cases h1;cases t;rfl
 have M:=Cw.nd;have hu:=Vv hr;refine⟨_,cC (xu (nu JC (gq hu (pv 0) eU (λ_ _=>rfl)) cL (dJ _))
   (cC (eY (i:=2) M rfl (Or.inl rfl) (dB jL (gq hu (pv 0) eU (λ_ _=>rfl)) (pv 1)))
   (cC (qz hu (pv 0) eU (dB qK (gq hu (pv 0) eU (λ_ _=>rfl)) (pv 1)) rfl)
   (fZ (mD (pv 2))))) nA)
  (cC (eY (i:=3) M rfl (Or.inl rfl) (gq hu (pv 0) eU (λ_ _=>rfl)))
  (cC (qz hu (pv 0) eU (dB jM (pv 3) cL) rfl)
  (cC (eY (i:=4) M rfl (Or.inl rfl) (dB jM (dB pH cL (pv 3)) cL))
  (cC (xu (nu (RK hr.units) (gq hu (pv 0) eU (λ_ _=>rfl)) (vC dZ) (dJ _))
   (fZ (eY (i:=4) M rfl (Or.inl rfl) (xK qO (gq hu (pv 0) eU (λ_ _=>rfl)) (dB jL (pv 3) (fK jr rfl B.len PySem.boot_len (cD (gq hu (pv 0) eU (λ_ _=>rfl)) dZ))) (λ_ _=>rfl)))) nA)
  (PSs.wk (t':=tDr K p d ns) (cC (xu (PW.pt (IK (nu Dg (pv 3) (fK jr rfl B.len PySem.boot_len (cD (gq hu (pv 0) eU (λ_ _=>rfl)) dZ)) (dJ _)) (CV (nu PL (fK tM rfl B.abs Dl.boot_abs (cD (pv 4) dZ)) (dB RJ cL cL) (dJ _)))))
   (cC (qz hu (pv 0) eU (dB qK (fK tM rfl B.abs Dl.boot_abs (cD (pv 4) dZ)) (pv 1)) rfl)
   (fZ (mD (dB jL (fK tM rfl B.abs Dl.boot_abs (cD (pv 4) dZ)) (pv 1))))) nA)
  (cC (eY (i:=5) M rfl (Or.inl rfl) (dB jL (dB pH (dB jM (dB jM (dB jL (pv 4) cL) (dB pH cL (pv 3))) cL) cL) cL))
  (cC (eY (i:=5) M rfl (Or.inl rfl) (dB jL (dB jM (dB jM (dB pH (pv 5) (pv 5)) (dB pH cL (pv 3))) cL) cL))
  (fZ (mD (dB jL (dB qK (pv 5) cL) (pv 1))))))) ?drw))))),?_⟩
 case drw =>
  rintro D σ H' ⟨a2,a5,m,i,c,a,r,rfl,q,C,hp,hS,W⟩;have L:∀x:Int,0<=x % m/\x % m<m:=λx=>⟨Int.emod_nonneg _ (),Int.emod_lt_of_pos _ q⟩
  refine⟨_,rfl,_,rfl,p,_,rfl,oJ hp,d,_,rfl,.inl hS,_,_,rfl,rfl,_,rfl,uq (λc1=>⟨_,rfl,c,rfl,_,_,rfl,rfl,⟨∅,∅,∅⟩,_,_,rfl,rfl,_,rfl,uq (λc2=>?_) (λc2=>?_)⟩) (λc1=>bw ?_)⟩
  ·exact⟨_,rfl,c,rfl,_,rfl,_,_,rfl,rfl,⟨q,C⟩,_,rfl,p,_,rfl,Hv _ hp,_,rfl,c,rfl,_,rfl,_,_,rfl,rfl,q,(W _ (L _).1 (L _).2).2 _⟩
  all_goals
   refine⟨_,rfl,_,_,rfl,rfl,(by show(0:Int)<2147483629;decide),_,rfl,_,_,rfl,rfl,.inl ⟨∅,∅⟩,_,_,rfl,rfl,_,_,rfl,rfl,_,_,rfl,rfl,.inr ⟨∅,∅⟩,_,_,rfl,rfl,(by show(0:Int)<2147483647;decide),?_⟩;refine⟨_,rfl,_,rfl,_,_,rfl,rfl,.inl (R6 ∅ ∅),_,rfl,_,_,rfl,rfl,.inl ⟨∅,∅⟩,_,_,rfl,rfl,_,_,rfl,rfl,_,_,rfl,rfl,(by show(0:Int)<2147483587;decide),?_⟩;exact⟨_,rfl,_,_,rfl,rfl,⟨∅,∅⟩,_,rfl,_,_,rfl,rfl,q,(W _ (L _).1 (L _).2).1⟩
 have L:∀x:Int,0<=x % m/\x % m<m:=λx=>⟨Int.emod_nonneg _ (),Int.emod_lt_of_pos _ q⟩
 have G:∀(H':Hp)(r:Int),0<=r->r<m->(∀b o,H b=some o->b≠p->H' b=some o)->(∃a l,H' p=some (.dK (dz d a l)))->Q (.int r) H':=λH' r h1 h2 k ⟨a',l',e⟩ =>
  q0 _ _ _ (hP r h1 h2) (λb o e n=>k b o e λz=>n (.inl z)) ⟨⟨a',l',e⟩,λeb=>by
   rcases N eb with z|⟨o,z⟩
   ·exact .inl (k _ _ z (Ne.symm (J eb)))
   ·exact .inr ⟨o,k _ _ z (Ne.symm (J eb))⟩⟩ (.int r)
 have R:∀(H1:Hp)(o:HO),(∀b o,H b=some o->b≠p->H1 b=some o)->∀b u,H b=some u->b≠p->upd H1 p o b=some u:=λH1 o k b u e n=>by rw[ao n];exact k b u e n
 refine⟨_,rfl,p,_,rfl,Bp hp,_,_,rfl,rfl,_,rfl,uq (λc1=>?_) (λc1=>?_)⟩
 ·exact⟨_,rfl,p,_,rfl,Bp hp,_,rfl,_,_,rfl,rfl,q,_,rfl,p,_,rfl,Bp hp,_,rfl,_,_,rfl,rfl,⟨q,C⟩,_,rfl,p,_,rfl,Hv _ hp,_,rfl,G _ _ (L _).1 (L _).2 (R _ _ λb o e _=>e) ⟨_,_,aB⟩⟩
 ·have I:upd H p (.dK (dz d (a+1) r)) p=some (.dK (dz d (a+1) r)):=aB;have k1:=R H (.dK (dz d (a+1) r)) λb o e _=>e;have Y:b=true->Rd (upd H p (.dK (dz d (a+1) r))) d (.lst (ns.map V.int)):=λe=>Io (N e) (J e);refine⟨_,rfl,p,_,rfl,W5 hp,_,rfl,_,_,rfl,rfl,_,rfl,p,_,rfl,Wk _ hp,?_⟩;refine⟨_,rfl,_,_,rfl,rfl,.inl ⟨∅,∅⟩,_,_,rfl,rfl,?_⟩;refine⟨_,rfl,p,_,rfl,oJ I,∅,λz hz=>?_⟩;have zp:p≠z:=λe=>by subst e;rw[I]at hz;cases hz
  have X:∀b o,H b=some o->b≠p->upd (upd H p (.dK (dz d (a+1) r))) z (.lst []) b=some o:=λb o e n=>by
   have U:=k1 b o e n;have Z:b≠z:=λy=>by subst y;rw[U]at hz;cases hz
   rw[ao Z];exact U
  have j:upd (upd H p (.dK (dz d (a+1) r))) z (.lst []) p=some (.dK (dz d (a+1) r)):=by rw[ao zp];exact I
  have r2:b=true->Rd (upd (upd H p (.dK (dz d (a+1) r))) z (.lst [])) d (.lst (ns.map V.int)):=λe=>Io (Y e) (λy=>by
   subst y;rcases Y e with y|⟨o,y⟩ <;> rw[hz]at y <;> cases y)
  have g:SqL K (upd (upd H p (.dK (dz d (a+1) r))) z (.lst [])) d (ns.map V.int):=Rg r2 O;have T:∀c,tDr K p d ns { nx:=λ_ H'=>Q .non H',rt:=Q } [some (.ref p),some (.int m),none,some (.int a),some (.int c),none] (upd (upd H p (.dK (dz d (a+1) r))) z (.lst [])):=λc =>
   ⟨_,_,m,a,c,_,_,rfl,q,C,j,g,λr' h1 h2=>⟨G _ _ h1 h2 X ⟨_,_,j⟩,λb=>G _ _ h1 h2 (R _ _ X) ⟨_,_,aB⟩⟩⟩
  refine⟨iD ns,iD [],_,.flt g,.flt (l:=[]) (SqL.of aB),rfl,_,rfl,?_⟩;rw[K1];by_cases hn:ns=[]
  ·subst hn;exact bw (T _)
  ·have S:(0:Int)<(⇑(ns.map V.int):Int):=by
    rw[List.length_map];have:=List.length_pos_iff.mpr hn;lia
   rw[show(if true=true then !decide (ns=[])else decide (ns=[]))=true by rw[d4 hn];rfl];let⟨v,hv⟩:=Ov (i:=a) (ns:=ns) S;exact bF ⟨_,rfl,p,_,rfl,oJ j,_,rfl,_,rfl,p,_,rfl,oJ j,d,_,rfl,.inl g,_,_,rfl,rfl,S,d,_,_,_,rfl,rfl,g,hv,T v⟩
def wY:FnScope [af,ai,ag,aT] [af,ai] (aG (top 42)):=zC
def JG(F:Fun K bP bP (top 42) f fd)(B:Dl.Bn mg)(T:1∪bN∪[af,aN]∪spP (CP K) Ec):2∩[af,ai]∩spP (CP K) KJ:=by
 refine F.ok wY qN (λcdv A outer s H vs Q E hr h=>?_);have b:=wY.nd;refine⟨_,aq (aO (some 0) (eY (i:=2) b rfl (Or.inl rfl) (bM ak)))
  (aq (dF PassesOwn.never rfl (cj B.range (aj (dv 1) ak)) (aF (vB (i:=3) b rfl (Or.inl rfl)))
   (aC (Gz (i:=2) (gb (uJ PySem.F.plainAttrs_list PySem.F.slot_list_insert PySem.F.type_list_insert Gb (pv 2) (aj (dcP T hr (pv 0) (aj (Rv (dv 3) au) ak)) (aj (dv 3) ak)))))))
  (aC (aL (dv 2)))),enterQ h ?_⟩
 rintro ds P ⟨n,rfl,n0,c,q⟩;refine⟨[.im (.int n),.any,.any],rfl,?_⟩;refine⟨∅,⟨(),()⟩,rfl,λ(i:Nat) ρ=>∃(l:ew)(s:Sl),IsOrd i l/\s.region=none/\ρ=[.pen (CP K),.im (.int n),.dw 0 (.list (l.map PyData.int)),s],⟨[],.any,⟨rfl,λx hx=>(nomatch hx),.nil⟩,rfl,rfl⟩,?_,?_⟩
 ·rintro i d ρ hd ⟨l,s,hl,hs,rfl⟩;let⟨hi,rfl⟩:=cQ hd;have a:=hl.len;refine⟨rfl,_,rfl,(),(),λr r0 r1=>⟨rfl,r0,?_,?_,?_⟩⟩
  ·rw[List.length_map];lia
  ·rw[List.length_map];lia
  ·refine⟨l.take r.toNat++~~~i::l.drop r.toNat,.im (.int (0+~~~i)),hl.ins r.toNat,rfl,?_⟩;show [Sl.pen (CP K),Sl.im (.int n),Sl.dw 0 (.list ((l.map PyData.int).take r.toNat++PyData.int (0+~~~i)::(l.map PyData.int).drop r.toNat)),Sl.im _]=_;rw[List.map_append,List.map_cons,List.map_take,List.map_drop,Int.zero_add]
 ·rintro ρ ⟨l,s,hl,hs,rfl⟩;rw[aW]at hl;have e:(~~~n.toNat)=n:=()
  rw[e]at hl;exact⟨rfl,q l hl⟩
end
inductive Rt(us:ez):Int->Int->Prop
 |refl (a:Int):Rt us a a
 |step {a b c:Int} (h:Rt us a b) (t:(b,c)∈us):Rt us a c
def Rt.trans{us:ez}{a b c:Int}(h:Rt us a b)(k:Rt us b c):Rt us a c:=by
 induction k with
 |refl=>exact h
 |step _ t d=>exact .step d t
def Mx{us vs:ez}(h:∀a b,(a,b)∈us->(b,a)∈vs){a b:Int}(r:Rt us a b):Rt vs b a:=by
 induction r with
 |refl=>exact .refl _
 |step _ t c=>exact(Rt.step (.refl _) (h _ _ t)).trans c
def Rt.mono{us vs:ez}(h:∀t∈us,t∈vs){a b:Int}(r:Rt us a b):Rt vs a b:=by
 induction r with
 |refl=>exact .refl _
 |step _ t c=>exact .step c (h _ t)
def Rt.sym{us:ez}(h:∀a b,(a,b)∈us->(b,a)∈us){a b:Int}(r:Rt us a b):Rt us b a:=Mx h r
def Rt.rng{us:ez}{n:Nat}(ok:∀t∈us,0<=t.2/\t.2<n){a b:Int}(h:0<=a/\a<n)(r:Rt us a b):0<=b/\b<n:=by
 cases r with
 |refl=>exact h
 |step _ t=>exact ok _ t
open Classical in
def RZ(us:ez)(a b:Int):Bool:=decide (Rt us a b)
def mU{us:ez}{a b:Int}:RZ us a b=true↔Rt us a b:=by
 classical
 unfold RZ;exact decide_eq_true_iff
def RB(us:ez)(a b:Nat):Bool:=RZ us (~~~a) (~~~b)
def cR{us:ez}{a b:Nat}:RB us a b=true↔Rt us (~~~a) (~~~b):=mU
def oZ(us:ez)(a:Nat):RB us a a=true:=cR.mpr (.refl _)
def cY(R:Nat->Nat->Bool)(n a:Nat):eA:=(List.range n).filter λb=>R a b&&R b a
def eE(R:Nat->Nat->Bool)(n a:Nat):Bool:=decide ((cY R n a).head?=some a)
def zI(l:eA):ew:=l.map λi:Nat=>0+(~~~i)
def fB(R:Nat->Nat->Bool)(n k:Nat):et:=(((List.range n).take k).filter (eE R n)).map λa=>zI (cY R n a)
def yX{R R':Nat->Nat->Bool}{n:Nat}(h:∀a b,a<n->b<n->(R a b&&R b a)=(R' a b&&R' b a))(k:Nat):fB R n k=fB R' n k:=by
 have m:∀a,a<n->cY R n a=cY R' n a:=λa ha=>List.filter_congr λb hb=>h a b ha (List.mem_range.mp hb);unfold fB;have c:∀a∈(List.range n).take k,a<n:=λa ha=>List.mem_range.mp (List.mem_of_mem_take ha);have e:((List.range n).take k).filter (eE R n)=((List.range n).take k).filter (eE R' n):=List.filter_congr λa ha=>by unfold eE;rw[m a (c a ha)]
 rw[e];exact List.map_congr_left λa ha=>by rw[m a (c a (List.mem_filter.mp ha).1)]
def NZ{R:Nat->Nat->Bool}{n a:Nat}(hs:R a a=true)(ha:a<n):cY R n a≠[]:=by
 have:a∈cY R n a:=List.mem_filter.mpr ⟨List.mem_range.mpr ha,by rw[hs];rfl⟩;exact List.ne_nil_of_mem this
def JT(R:Nat->Nat->Bool)(n a:Nat):⇑(cY R n a)<=n:=by
 have:=List.length_filter_le (λb=>R a b&&R b a) (List.range n);rw[List.length_range]at this;exact this
def wB(R:Nat->Nat->Bool)(n k:Nat):⇑(fB R n k)<=n:=by
 unfold fB;rw[List.length_map];have h1:=List.length_filter_le (eE R n) ((List.range n).take k);rw[List.length_take,List.length_range]at h1;lia
def yV(R:Nat->Nat->Bool){n k:Nat}(h:k<n):fB R n (k+1)=fB R n k++if eE R n k=true then [zI (cY R n k)]else []:=by
 unfold fB;have e:(List.range n).take (k+1)=(List.range n).take k++[k]:=by
  rw[List.take_add_one,List.getElem?_range h];rfl
 rw[e,List.filter_append,List.map_append];cases a:eE R n k <;> simp[a]
def yW(R:Nat->Nat->Bool)(N k:Nat):∀l∈fB R N k,⇑l<=N:=by
 intro l hl;unfold fB at hl;let⟨a,_,rfl⟩:=List.mem_map.mp hl;unfold zI;rw[List.length_map];exact JT R N a
def mO{l:eA}{x:Int}:x∈zI l↔0<=x/\x.toNat∈l:=by
 unfold zI;rw[List.mem_map];constructor
 ·rintro⟨i,hi,rfl⟩;rw[show((0+~~~i).toNat)=i by lia];exact⟨(),hi⟩
 ·intro h;exact⟨x.toNat,h.2,()⟩
def R7{n:Nat}{x:Int}:x∈zI (List.range n)↔0<=x/\x<n:=by
 rw[mO,List.mem_range];lia
def Cj{l:eA}(h:l.Pairwise (·<·)):(zI l).Pairwise (·<·):=by
 unfold zI;rw[List.pairwise_map];exact h.imp λh=>()
def rsI(vs:ez)(n:Nat)(a:Int):ew:=(zI (List.range n)).filter (RZ vs a)
def mQ{vs:ez}{n:Nat}{a x:Int}:x∈rsI vs n a↔(0<=x/\x<n)/\Rt vs a x:=by
 unfold rsI;rw[List.mem_filter,R7,mU]
def qy{vs:ez}{n:Nat}{a:Int}:(rsI vs n a).Pairwise (·<·):=(Cj List.pairwise_lt_range).filter _
def QW(vs:ez)(n:Nat)(a:Int):⇑(rsI vs n a)<=n:=by
 unfold rsI;have:=List.length_filter_le (RZ vs a) (zI (List.range n));unfold zI at this;rw[List.length_map,List.length_range]at this;exact this
def CG{l:ew}(h:l.Pairwise (·<·)):l.Nodup:=h.imp λh=>()
def uI{out ks l:ew}(hp:out.Perm ks)(hs:out.Pairwise (·<=·))(hn:ks.Nodup)(hl:l.Pairwise (·<·))(hk:∀q,q∈ks↔q∈l):out=l :=
 W.ksm_same (hp.trans ((List.perm_ext_iff_of_nodup hn (CG hl)).mpr hk)) hs (hl.imp λh=>())
def w6{l k:ew}(hl:l.Pairwise (·<·))(hk:k.Pairwise (·<·))(h:∀q,q∈l↔q∈k):l=k:=uI (List.Perm.refl _) (hl.imp λh=>()) (CG hl) hk h
def Px{vs:ez}{n:Nat}{a:Int}{out ks:ew}(hp:out.Perm ks)(hs:out.Pairwise (·<=·))(hn:ks.Nodup)(hk:∀q,q∈ks↔Rt vs a q)(hr:∀q,Rt vs a q->0<=q/\q<n):out=rsI vs n a :=
 uI hp hs hn qy λq=>by
  rw[mQ,hk];exact⟨λh=>⟨hr q h,h⟩,λh=>h.2⟩
def Cy{vs us:ez}{n:Nat}{a:Int}(h:∀x,Rt vs a x↔Rt us a x):rsI vs n a=rsI us n a:=w6 qy qy λq=>by rw[mQ,mQ,h]
def adj(us:ez)(F B:ew):ez:=us.zipIdx.flatMap λp=>if(~~~p.2)∈F then []else [p.1,(p.1.2,p.1.1)].filter λt=>decide (t.2∉B)
def eV{us:ez}{F B:ew}{x y:Int}:(x,y)∈adj us F B↔∃k:Nat,(us[k]?=some (x,y)\/us[k]?=some (y,x))/\(~~~k)∉F/\y∉B:=by
 unfold adj;rw[List.mem_flatMap];constructor
 ·rintro⟨⟨t,k⟩,hk,h⟩;have hk:=List.mem_zipIdx_iff_getElem?.mp hk;by_cases a:(~~~k)∈F
  ·rw[ed a]at h;cases h
  ·rw[ee a,List.mem_filter]at h;let⟨h,b⟩:=h;refine⟨k,?_,a,d5 b⟩;rcases List.mem_cons.mp h with e|e
   ·left;rw[e];exact hk
   ·right;have e:=List.mem_singleton.mp e;have c:x=t.2:=eh Prod.fst e;have d:y=t.1:=eh Prod.snd e;rw[c,d];exact hk
 ·rintro⟨k,h,a,b⟩;rcases h with h|h
  ·refine⟨((x,y),k),List.mem_zipIdx_iff_getElem?.mpr h,?_⟩;rw[ee a,List.mem_filter];exact⟨List.mem_cons_self,fy b⟩
  ·refine⟨((y,x),k),List.mem_zipIdx_iff_getElem?.mpr h,?_⟩;rw[ee a,List.mem_filter];exact⟨List.mem_cons_of_mem _ (List.mem_singleton.mpr rfl),fy b⟩
def wK{us:ez}{F B:ew}{n:Int}(ok:OkN n us)(n0:0<=n):∀t∈adj us F B,(0<=t.1/\t.1<(n.toNat:Nat))/\0<=t.2/\t.2<(n.toNat:Nat):=by
 rintro⟨x,y⟩ h;let⟨k,e,_⟩:=eV.mp h;have a:(~~~n.toNat)=n:=()
 rcases e with e|e
 ·have o:=ok _ (List.mem_of_getElem? e);exact⟨by rw[a];exact o.1,by rw[a];exact o.2.1⟩
 ·have o:=ok _ (List.mem_of_getElem? e);exact⟨by rw[a];exact o.2.1,by rw[a];exact o.1⟩
def qQ{us:ez}{F:ew}:∀a b,(a,b)∈adj us F []->(b,a)∈adj us F []:=λa b h=>by
 let⟨k,e,c,_⟩:=eV.mp h;exact eV.mpr ⟨k,e.symm,c,λz=>nomatch z⟩
def jN{n:Nat}{l:ew}(a:l.Nodup)(h:∀x∈l,0<=x/\x<n):⇑l<=n:=by
 induction n generalizing l with
 |zero=>cases l with
  |nil=>exact Nat.le_refl _
  |cons x l=>have:=h x (List.mem_cons_self ..);lia
 |succ n ih =>
  by_cases e:(~~~n)∈l
  ·have z:=ih (a.erase (~~~n)) λx hx=>by
    have:=h x (List.mem_of_mem_erase hx);have:x≠(~~~n):=(a.mem_erase_iff.mp hx).1;lia
   rw[List.length_erase_of_mem e]at z;lia
  ·have z:=ih a λx hx=>by
    have:=h x hx;have:x≠(~~~n):=λw=>e (w ▸ hx);lia
   lia
structure Fd(n:Nat)(es:ez)(a:Int)(l:ew)(at':Nat):Prop where
 nd:l.Nodup
 rng:∀x∈l,0<=x/\x<n
 st:a∈l
 rt:∀x∈l,Rt es a x
 cl:∀(j:Nat)(x:Int),j<at'->l[j]?=some x->∀y,(x,y)∈es->y∈l
def Fd.add{n:Nat}{es:ez}{a:Int}{l:ew}{i:Nat}(h:Fd n es a l i)(hi:i<=⇑l){x y:Int}(b:x∈l)(t:(x,y)∈es)(c:0<=y/\y<n)(d:y∉l):Fd n es a (l++[y]) i:=by
 refine⟨List.nodup_append.mpr ⟨h.nd,by simp,λz hz w hw=>by rw[List.mem_singleton.mp hw];rintro rfl;exact d hz⟩,λz hz=>?_,List.mem_append_left _ h.st,λz hz=>?_,λj z hj hz w hw=>?_⟩
 ·rcases List.mem_append.mp hz with z|z
  ·exact h.rng _ z
  ·rw[List.mem_singleton.mp z];exact c
 ·rcases List.mem_append.mp hz with z|z
  ·exact h.rt _ z
  ·rw[List.mem_singleton.mp z];exact .step (h.rt x b) t
 ·rw[List.getElem?_append_left ()]at hz;exact List.mem_append_left _ (h.cl j z hj hz w hw)
theorem Fd.all{n:Nat}{es:ez}{a:Int}{l:ew}{i:Nat}(h:Fd n es a l i)(hi:⇑l<=i):∀x,x∈l↔Rt es a x:=λx=>by
 refine⟨h.rt x,λr=>?_⟩;induction r with
 |refl=>exact h.st
 |step r t ih =>
  let⟨j,b⟩:=List.getElem?_of_mem ih;have:=(List.getElem?_eq_some_iff.mp b).1;exact h.cl j _ () b _ t
section
variable{P:Za}{w:Zb}{K:W.Frag}{mg:Str->eH}{fw:Heap}{f:Addr}{fd:Yi}
structure StepsOk(n:Nat)(es:ez)(S:List ez):Prop where
 len:⇑S=n
 rng:∀ts∈S,∀t∈ts,0<=t.1/\t.1<n
 few:∀ts∈S,⇑ts<=200
 is:∀(a:Nat)(ts:ez),S[a]?=some ts->∀b,(∃t∈ts,t.1=b)↔(~~~a,b)∈es
def stD(S:List ez):D:=.list (S.map λts=>.list (ts.map pD))
def rP(S:List ez):List eI:=S.map λts=>ts.map pD
def QJ(S:List ez):PyData.list ((rP S).map PyData.list)=stD S:=by
 unfold rP stD;rw[List.map_map];rfl
def Iu(S:List ez)(k:Nat)(l:ez)(u:Tie):(rP S).set k (l.map pD++[pD u])=rP (S.set k (l++[u])):=by
 unfold rP;rw[List.map_set,List.map_append];rfl
structure StepsTo(n:Nat)(us:ez)(k:Nat)(S:List ez):Prop where
 len:⇑S=n
 rng:∀ts∈S,∀t∈ts,0<=t.1/\t.1<n
 few:∀ts∈S,⇑ts<=2 * k
 is:∀(a:Nat)(ts:ez),S[a]?=some ts->∀b,(∃t∈ts,t.1=b)↔((~~~a,b)∈us.take k\/(b,~~~a)∈us.take k)
def xq{S:List ez}{p:Nat}{l:ez}(hl:S[p]?=some l)(q:Int)(x:Int)(a:Nat)(d:ez)(h:(S.set p (l++[(q,x)]))[a]?=some d):∃ts0,S[a]?=some ts0/\∀b,(∃t∈d,t.1=b)↔((∃t∈ts0,t.1=b)\/(a=p/\b=q)):=by
 have c:=(List.getElem?_eq_some_iff.mp hl).1;by_cases e:p=a
 ·subst e;rw[List.getElem?_set_self c]at h;cases h;refine⟨l,hl,λb=>?_⟩;constructor
  ·rintro⟨u,hu,e⟩;rcases List.mem_append.mp hu with z|z
   ·exact .inl ⟨u,z,e⟩
   ·rw[List.mem_singleton.mp z]at e;exact .inr ⟨rfl,e.symm⟩
  ·rintro(⟨u,hu,e⟩|⟨_,rfl⟩)
   ·exact⟨u,List.mem_append_left _ hu,e⟩
   ·exact⟨(b,x),List.mem_append_right _ (List.mem_singleton.mpr rfl),rfl⟩
 ·rw[List.getElem?_set_ne e]at h;exact⟨d,h,λb=>⟨.inl,λz=>z.elim id λz=>ef z.1.symm e⟩⟩
def StepsTo.next{n:Nat}{us:ez}{k:Nat}{S:List ez}(h:StepsTo n us k S){t:Tie}(ht:us[k]?=some t)(ok:(0<=t.1/\t.1<n)/\0<=t.2/\t.2<n){l f:ez}(x:Int)(hl:S[t.1.toNat]?=some l)(c:(S.set t.1.toNat (l++[(t.2,x)]))[t.2.toNat]?=some f):StepsTo n us (k+1) ((S.set t.1.toNat (l++[(t.2,x)])).set t.2.toNat (f++[(t.1,x)])):=by
 have hm:=List.mem_of_getElem? hl;have tk:us.take (k+1)=us.take k++[t]:=by rw[List.take_add_one,ht];rfl
 have d:∀ts∈S.set t.1.toNat (l++[(t.2,x)]),(∀t∈ts,0<=t.1/\t.1<n)/\⇑ts<=2 * k+1:=λts hts=>by
  rcases List.mem_or_eq_of_mem_set hts with z|rfl
  ·exact⟨h.rng ts z,by have:=h.few ts z;lia⟩
  ·refine⟨λu hu=>?_,by rw[List.length_append,List.length_singleton];have:=h.few l hm;lia⟩;rcases List.mem_append.mp hu with z|z
   ·exact h.rng l hm u z
   ·rw[List.mem_singleton.mp z];exact ok.2
 have j:=d f (List.mem_of_getElem? c);refine⟨by rw[List.length_set,List.length_set];exact h.len,λts hts=>?_,λts hts=>?_,λa ts ha b=>?_⟩
 ·rcases List.mem_or_eq_of_mem_set hts with z|rfl
  ·exact(d ts z).1
  ·intro u hu;rcases List.mem_append.mp hu with z|z
   ·exact j.1 u z
   ·rw[List.mem_singleton.mp z];exact ok.1
 ·rcases List.mem_or_eq_of_mem_set hts with z|rfl
  ·have:=(d ts z).2;lia
  ·rw[List.length_append,List.length_singleton];lia
 ·let⟨r,h1,p⟩:=xq c _ _ a ts ha;let⟨q,m,o⟩:=xq hl _ _ a r h1;rw[p,o,h.is a q m b,tk,List.mem_append,List.mem_append,List.mem_singleton,List.mem_singleton];have g:(a=t.1.toNat/\b=t.2)↔(~~~a,b)=t:=by
   constructor
   ·rintro⟨rfl,rfl⟩;rw[Int.toNat_of_nonneg ok.1.1]
   ·intro e;have s:(~~~a)=t.1:=eh Prod.fst e;exact⟨(),eh Prod.snd e⟩
  have i:(a=t.2.toNat/\b=t.1)↔(b,~~~a)=t:=by
   constructor
   ·rintro⟨rfl,rfl⟩;rw[Int.toNat_of_nonneg ok.2.1]
   ·intro e;have s:(~~~a)=t.2:=eh Prod.snd e;exact⟨(),eh Prod.fst e⟩
  rw[g,i];constructor
  ·rintro(((z|z)|z)|z)
   ·exact .inl (.inl z)
   ·exact .inr (.inl z)
   ·exact .inl (.inr z)
   ·exact .inr (.inr z)
  ·rintro((z|z)|(z|z))
   ·exact .inl (.inl (.inl z))
   ·exact .inl (.inr z)
   ·exact .inl (.inl (.inr z))
   ·exact .inr z
def wL{us:ez}{x y:Int}:(x,y)∈adj us [] []↔((x,y)∈us\/(y,x)∈us):=by
 rw[eV];constructor
 ·rintro⟨k,e|e,_⟩
  ·exact .inl (List.mem_of_getElem? e)
  ·exact .inr (List.mem_of_getElem? e)
 ·rintro(e|e)
  ·let⟨k,hk⟩:=List.getElem?_of_mem e;exact⟨k,.inl hk,List.not_mem_nil,List.not_mem_nil⟩
  ·let⟨k,hk⟩:=List.getElem?_of_mem e;exact⟨k,.inr hk,List.not_mem_nil,List.not_mem_nil⟩
def aU(m:IM):ew:=m.map (·.1)
def iy{m:IM}{k:Int}:fX m k=true↔k∈aU m:=by
 unfold fX aU;rw[List.any_eq_true,List.mem_map];constructor
 ·rintro⟨p,hp,e⟩;exact⟨p,hp,d5 e⟩
 ·rintro⟨p,hp,e⟩;exact⟨p,hp,fy e⟩
def SX{m:IM}{k:Int}(h:fX m k=false):k∉aU m:=λz=>by rw[iy.mpr z]at h;cases h
def vA{m:IM}{k:Int}{d:D}(h:fX m k=false):iC m k d=m++[(k,d)]:=by
 unfold iC;rw[h];rfl
structure Sr(n:Nat)(us:ez)(a:Int)(m:IM)(open':Int->Prop):Prop where
 im:pQ m=true
 nd:(aU m).Nodup
 rng:∀x∈aU m,0<=x/\x<n
 st:a∈aU m
 rt:∀x∈aU m,Rt us a x
 cl:∀x∈aU m,open' x\/∀b,(x,b)∈us->b∈aU m
def Sr.few{n:Nat}{us:ez}{a:Int}{m:IM}{o:Int->Prop}(h:Sr n us a m o):⇑m<=n:=by
 have:=jN h.nd h.rng;unfold aU at this
 rwa [List.length_map]at this
theorem Sr.all{n:Nat}{us:ez}{a:Int}{m:IM}(h:Sr n us a m λ_=>False):∀x,fX m x=true↔Rt us a x:=λx=>by
 rw[iy];refine⟨h.rt x,λr=>?_⟩;induction r with
 |refl=>exact h.st
 |step r t b=>exact(h.cl _ b).elim False.elim λz=>z _ t
def Sr.add{n:Nat}{us:ez}{a x c:Int}{m:IM}{o o':Int->Prop}(h:Sr n us a m o)(g:x∈aU m)(t:(x,c)∈us)(hc:0<=c/\c<n)(f:fX m c=false){d:D}(hd:fj d=true)(j:∀y,o y->o' y)(i:o' c):Sr n us a (iC m c d) o':=by
 have kk:aU (m++[(c,d)])=aU m++[c]:=by unfold aU;rw[List.map_append];rfl
 rw[vA f];refine⟨?_,?_,?_,?_,?_,?_⟩
 ·have:=h.im;unfold pQ at this ⊢;rw[List.all_append,this];show(true&&(fj d&&true))=true;rw[hd];rfl
 ·rw[kk];exact List.nodup_append.mpr ⟨h.nd,by simp,λy e z hz=>by rw[List.mem_singleton.mp hz];rintro rfl;exact SX f e⟩
 ·rw[kk];intro y e;rcases List.mem_append.mp e with z|z
  ·exact h.rng y z
  ·rw[List.mem_singleton.mp z];exact hc
 ·rw[kk];exact List.mem_append_left _ h.st
 ·rw[kk];intro y e;rcases List.mem_append.mp e with z|z
  ·exact h.rt y z
  ·rw[List.mem_singleton.mp z];exact .step (h.rt x g) t
 ·rw[kk];intro y e;rcases List.mem_append.mp e with z|z
  ·exact(h.cl y z).imp (j y) λq b hb=>List.mem_append_left _ (q b hb)
  ·rw[List.mem_singleton.mp z];exact .inl i
def Sr.wk{n:Nat}{us:ez}{a:Int}{m:IM}{o o':Int->Prop}(h:Sr n us a m o)(f:∀x∈aU m,o x->o' x\/∀b,(x,b)∈us->b∈aU m):Sr n us a m o' :=
 ⟨h.im,h.nd,h.rng,h.st,h.rt,λx hx=>(h.cl x hx).elim (f x hx) .inr⟩
def KC:FF:=λds P=>∃n us,ds=[bD n us]/\0<=n/\n<=100/\⇑us<=100/\OkN n us/\∀S,StepsOk n.toNat (adj us [] []) S->P (stD S)
def DW:FF:=λds P=>∃n us S a,ds=[stD S,.int a]/\n<=100/\StepsOk n us S/\0<=a/\a<n/\∀m:IM,pQ m=true->(aU m).Nodup->⇑m<=n->(∀x,fX m x=true↔Rt us a x)->P (.dict (kvD m))
def Qq:FF:=λds P=>∃n us a,ds=[bD n us,.int a]/\0<=n/\n<=60/\⇑us<=100/\OkN n us/\0<=a/\a<n/\P (iD (rsI (adj us [] []) n.toNat a))
def KH:FF:=λds P=>∃n us,ds=[bD n us]/\0<=n/\n<=60/\⇑us<=100/\OkN n us/\P (.list ((fB (RB (adj us [] [])) n.toNat n.toNat).map iD))
def nU:([bq,ar,dQ,be,dP]:List Str).Nodup:=⋯
def ql(F:Fun K br br (top 22) f fd)(B:Dl.Bn mg)(v:mg da=none):1∩[ar]∩spD KC:=by
 refine okT F (N:=[ar,dQ,be,dP]) zC (λhr nd=>Wr.aq (Wr.sU 0 [bq] (i:=1) rfl nd rfl zQ (Wr.cj B.range (Wr.aj (Wr.aH (Wr.dv 0) Wr.au) Wr.ak)) (λc=>(Wr.aF (i:=0) nU rfl zQ)))
  (Wr.aq (Wr.dF PassesOwn.never rfl (Wr.oR v (Wr.aj (Wr.aH (Wr.dv 0) Wr.au) Wr.ak)) (Wr.jo (n:=2) rfl (Wr.bQ (Wr.aF (i:=2) nd rfl zQ) (Wr.bQ (Wr.aF (i:=3) nd rfl zQ) Wr.gC))) (Wr.aq (Wr.lG (Wr.wv 1) (Wr.aH (Wr.dv 3) Wr.au) (Wr.aj (Wr.aV (Wr.aj (Wr.aH (Wr.dv 3) Wr.au) (Wr.aj (Wr.dv 2) Wr.ak))) Wr.ak))
  (Wr.aq (Wr.lG (Wr.wv 1) (Wr.aH (Wr.dv 3) Wr.au) (Wr.aj (Wr.aV (Wr.aj (Wr.aH (Wr.dv 3) Wr.au) (Wr.aj (Wr.dv 2) Wr.ak))) Wr.ak)) (Wr.aJ [2,3] Wr.aM))))
  (Wr.aJ [2,3] (Wr.aC (Wr.aL (Wr.dv 1)))))) ?_
 rintro ds P ⟨n,us,rfl,E,A,D,ok,q⟩;refine⟨[.im (bD n us),.any,.any,.any],?_,?_⟩
 ·show [d7 (bD n us),.any,.any,.any]=_;rw[qP]
 refine⟨.int n,rfl,⟨(),()⟩,by rw[aW];lia,rfl,?_⟩;rw[aW];refine⟨.tuple (us.map pD),rfl,rfl,λ(i:Nat) ρ=>∃S,ρ=[.im (bD n us),.rw 0 (rP S),.any,.any]/\StepsTo n.toNat us i S,?_,?_,?_⟩
 ·refine⟨List.replicate n.toNat [],?_,List.length_replicate ..,λts h=>?_,λts h=>?_,λa ts h b=>?_⟩
  ·unfold rP;rw[List.map_replicate];rfl
  ·rw[(List.mem_replicate.mp h).2];exact λt ht=>nomatch ht
  ·rw[(List.mem_replicate.mp h).2];exact Nat.le_refl _
  ·rw[(List.mem_replicate.mp (List.mem_of_getElem? h)).2];exact⟨λ⟨t,ht,_⟩=>(nomatch ht),λz=>z.elim (λz=>nomatch z) λz=>nomatch z⟩
 ·rintro i d ρ hd ⟨S,rfl,T⟩;rw[iY,List.getElem?_map]at hd;obtain⟨t,ht,rfl⟩:∃t,us[i]?=some t/\PyData.tuple [.int (~~~i),pD t]=d:=by
   cases e:us[i]? with
   |none=>rw[e]at hd;cases hd
   |some t=>rw[e]at hd;exact⟨t,rfl,Option.some.inj hd⟩
  let⟨⟨s,G⟩,⟨u,H⟩,I⟩:=ok t (List.mem_of_getElem? ht);have hi:=(List.getElem?_eq_some_iff.mp ht).1;have m:t.1.toNat<⇑S:=by rw[T.len];lia
  have hl:=List.getElem?_eq_getElem m;generalize S[t.1.toNat]=l at hl;have C:=T.few l (List.mem_of_getElem? hl);have x:=Iu S t.1.toNat l (t.2,~~~i);have k:t.2.toNat<⇑(S.set t.1.toNat (l++[(t.2,~~~i)])):=by rw[List.length_set,T.len];lia
  have j:=List.getElem?_eq_getElem k;have r:t.1.toNat≠t.2.toNat:=()
  have g:S[t.2.toNat]?=some (S.set t.1.toNat (l++[(t.2,~~~i)]))[t.2.toNat]:=by rw[←j,List.getElem?_set_ne r]
  have p:=T.next ht ⟨⟨s,()⟩,u,()⟩ (~~~i) hl j;generalize (S.set t.1.toNat (l++[(t.2,~~~i)]))[t.2.toNat]=o at j g p;have y:=T.few o (List.mem_of_getElem? g);refine⟨rfl,.int t.1,rfl,t.1.toNat,l.map pD,?_,by unfold rP;rw[List.getElem?_map,hl];rfl,.int t.2,rfl,zK,rfl,by rw[List.length_map];lia,.int t.2,rfl,?_⟩
  ·unfold ixN rP;rw[ed s,ed (by rw[List.length_map,T.len];lia)]
  refine⟨t.2.toNat,o.map pD,?_,?_,.int t.1,rfl,zK,rfl,by rw[List.length_map];lia,_,?_,p⟩
  ·unfold ixN rP;rw[ed u,ed (by rw[List.length_set,List.length_map,T.len];lia)]
  ·rw[List.getElem?_set_ne r];unfold rP;rw[List.getElem?_map,g];rfl
  ·have e:=Iu (S.set t.1.toNat (l++[(t.2,~~~i)])) t.2.toNat o (t.1,~~~i);rw[←e,←x];rfl
 ·rintro ρ ⟨S,rfl,T⟩;rw[gG,List.length_map]at T;refine⟨rfl,?_⟩;show P (.list ((rP S).map PyData.list));rw[QJ];refine q S ⟨T.len,T.rng,λts h=>by have:=T.few ts h;lia,λa ts h b=>?_⟩;have z:=T.is a ts h b;rw[List.take_length]at z;rw[z,wL]
def Fy(F:Fun K dy dy (top 23) f fd)(B:Dl.Bn mg):1∩[dQ,"start"]∩spD DW:=by
 refine okT F (N:=[dQ,"start","came","row","later",bq,"step"]) zC (λhr nd=>Wr.aq (Wr.aO (some 0) (i:=2) nd rfl zQ (Wr.rB (Wr.dv 1) Wr.iI))
  (Wr.aq (Wr.aO none (i:=3) nd rfl zQ (Wr.bM (Wr.aj (Wr.dv 1) Wr.ak)))
  (Wr.aq (Wr.oM PassesOwn.never (Wr.vD (Wr.dv 3)) (Wr.aq (Wr.aO (some 1) (i:=4) nd rfl zQ (Wr.bM Wr.ak))
  (Wr.aq (Wr.dF PassesOwn.never rfl (Wr.bV (Wr.dv 3)) (Wr.aF (i:=5) nd rfl zQ) (Wr.aq (Wr.dF PassesOwn.never rfl (Wr.bV (Wr.aH (Wr.dv 0) (Wr.dv 5))) (Wr.aF (i:=6) nd rfl zQ) (Wr.aq (Wr.cF (Wr.jf hr.units (Wr.aH (Wr.dv 6) Wr.au) (Wr.dv 2)) (Wr.aq (Wr.oO hr.units (Wr.wv 2) (Wr.aH (Wr.dv 6) Wr.au) (Wr.aV (Wr.aj (Wr.dv 5) (Wr.aj (Wr.aH (Wr.dv 6) Wr.au) Wr.ak))))
  (Wr.aC (Wr.fu (Wr.wv 4) (Wr.aj (Wr.aH (Wr.dv 6) Wr.au) Wr.ak)))) Wr.aM) (Wr.aJ [6] Wr.aM))) (Wr.aJ [5,6] Wr.aM)))
  (Wr.aJ [5,6] (Wr.BJ 4 (Wr.aq (Wr.aO none (i:=3) nd rfl zQ (Wr.dv 4)) (Wr.aJ [4,5,6] Wr.aM)))))))
  (Wr.aJ [3,4,5,6] (Wr.aC (Wr.aL (Wr.dv 2))))))) ?_
 rintro ds P ⟨n,us,S,a,rfl,Y,ok,a0,a1,q⟩;refine⟨[.sh (stD S),.im (.int a),.any,.any,.any,.any,.any],rfl,?_⟩;refine⟨rfl,zK,?_⟩;refine⟨λV ρ=>∃(m:IM)(row:ew),ρ=[.sh (stD S),.im (.int a),.dw 0 (.dict (kvD m)),.sn (iD row),.any,.any,.any]/\Sr n us a m (·∈row)/\(∀x∈row,x∈aU m)/\V=2 * (n - ⇑m)+(if row=[]then 0 else 1),⟨_,[(a,.none)],[a],rfl,?_,?_,rfl⟩,?_⟩
 ·refine⟨rfl,by simp[aU],λx k=>?_,by simp[aU],λx k=>?_,λx k=>.inl ?_⟩
  ·have e:x=a:=by simpa[aU]using k
   lia
  ·have e:x=a:=by simpa[aU]using k
   rw[e];exact .refl _
  ·have e:x=a:=by simpa[aU]using k
   rw[e];exact List.mem_singleton.mpr rfl
 ·intro x k;rw[List.mem_singleton.mp k];simp[aU]
 rintro V ρ ⟨m,R,rfl,h,hr,rfl⟩;show if(!(R.map PyData.int).isEmpty)=true then _ else _
 cases L:R with
 |nil =>
  refine bw (A:=True) ⟨rfl,q m h.im h.nd h.few (Sr.all (h.wk λx _ k=>?_))⟩;rw[L]at k;cases k
 |cons x0 R0 =>
  refine bF (B:=True) ?_;rw[←L];refine⟨∅,rfl,λ(i:Nat) ρ=>∃(E:IM)(c:ew),ρ=[.sh (stD S),.im (.int a),.dw 0 (.dict (kvD E)),.sn (iD R),.dw 1 (iD c),.any,.any]/\Sr n us a E (λy=>y∈c\/y∈R.drop i)/\(∀y∈R,y∈aU E)/\(∀y∈c,y∈aU E)/\⇑E=⇑m+⇑c,⟨m,[],rfl,h.wk λx _ k=>.inl (.inr k),hr,λy I=>(nomatch I),rfl⟩,?_,?_⟩
  ·rintro i d ρ hd ⟨E,c,rfl,h',H,G,p⟩;let⟨y,I,rfl⟩:=gA hd;have yk:=H y (List.mem_of_getElem? I);have yr:=h'.rng y yk;have M:y.toNat<⇑S:=by rw[ok.len];lia
   have hl:=List.getElem?_eq_getElem M;generalize S[y.toNat]=s at hl;have fl:=ok.few s (List.mem_of_getElem? hl);have O:=ok.is _ s hl;rw[show(~~~y.toNat)=y by lia]at O;have X:R.drop i=y::R.drop (i+1):=by
    have hi:=(List.getElem?_eq_some_iff.mp I).1;rw[List.drop_eq_getElem_cons hi,(List.getElem?_eq_some_iff.mp I).2]
   have J:atI (S.map λs=>PyData.list (s.map pD)) y=some (.list (s.map pD)):=by
    have:=dh (xs:=S.map λs=>PyData.list (s.map pD)) (j:=y.toNat) (v:=.list (s.map pD)) (by rw[List.getElem?_map,hl];rfl)
    rwa [show(~~~y.toNat)=y by lia]at this
   refine⟨.list (s.map pD),J,rfl,λ(j:Nat) ρ=>∃(l:IM)(c:ew),ρ=[.sh (stD S),.im (.int a),.dw 0 (.dict (kvD l)),.sn (iD R),.dw 1 (iD c),.im (.int y),.any]/\Sr n us a l (λz=>(z∈c\/z∈R.drop (i+1))\/z=y)/\(∀y∈R,y∈aU l)/\(∀y∈c,y∈aU l)/\⇑l=⇑m+⇑c/\∀t∈s.take j,t.1∈aU l,⟨E,c,rfl,h'.wk λz _ r=>.inl ?_,H,G,p,λt ht=>(nomatch ht)⟩,?_,?_⟩
   ·rcases r with r|r
    ·exact .inl (.inl r)
    ·rw[X]at r;rcases List.mem_cons.mp r with e|e
     ·exact .inr e
     ·exact .inl (.inr e)
   ·rintro j d ρ hd ⟨l,c,rfl,h2,C,o,g,D⟩;let⟨t,ht,rfl⟩:=gA hd;have tk:s.take (j+1)=s.take j++[t]:=by rw[List.take_add_one,ht];rfl
    have W:=List.mem_of_getElem? ht;have Z:=ok.rng s (List.mem_of_getElem? hl) t W;have U:=h2.few;refine⟨.int t.1,rfl,l,rfl,?_⟩;show if(!fX l t.1)=true then _ else _
    cases hb:fX l t.1 with
    |true =>
     refine bw (A:=True) ⟨l,c,rfl,h2,C,o,g,λu hu=>?_⟩;rw[tk]at hu;rcases List.mem_append.mp hu with z|z
     ·exact D u z
     ·rw[List.mem_singleton.mp z];exact iy.mp hb
    |false =>
     have kk:aU (iC l t.1 (.tuple [.int y,.int t.2]))=aU l++[t.1]:=by
      rw[vA hb];unfold aU;rw[List.map_append];rfl
     have ll:⇑(c.map PyData.int)=⇑c:=List.length_map ..;refine bF (B:=True) ⟨.int t.2,rfl,zK,.int t.1,rfl,l,rfl,rfl,h2.im,(),.int t.1,rfl,rfl,(),iC l t.1 (.tuple [.int y,.int t.2]),c++[t.1],?_,h2.add (x:=y) (C y (List.mem_of_getElem? I)) ((O t.1).mp ⟨t,W,rfl⟩) Z hb rfl (λz r=>?_) (.inl (.inl (List.mem_append_right _ (List.mem_singleton.mpr rfl)))),λz r=>?_,λz r=>?_,?_,λu hu=>?_⟩
     ·unfold iD;rw[List.map_append];rfl
     ·rcases r with(z|z)|z
      ·exact .inl (.inl (List.mem_append_left _ z))
      ·exact .inl (.inr z)
      ·exact .inr z
     ·rw[kk];exact List.mem_append_left _ (C z r)
     ·rw[kk];rcases List.mem_append.mp r with z|z
      ·exact List.mem_append_left _ (o _ z)
      ·rw[List.mem_singleton.mp z];exact List.mem_append_right _ (List.mem_singleton.mpr rfl)
     ·rw[vA hb,List.length_append,List.length_append,g];show ⇑m+⇑c+1=⇑m+(⇑c+1)
      lia
     ·rw[kk];rw[tk]at hu;rcases List.mem_append.mp hu with z|z
      ·exact List.mem_append_left _ (D u z)
      ·rw[List.mem_singleton.mp z];exact List.mem_append_right _ (List.mem_singleton.mpr rfl)
   ·rintro ρ ⟨l,c,rfl,h2,C,o,g,D⟩;rw[List.length_map,List.take_length]at D;refine⟨l,c,rfl,h2.wk λz r hz'=>?_,C,o,g⟩;rcases hz' with Q|Q
    ·exact .inl Q
    ·right;intro b hb;rw[Q]at hb;let⟨t,ht,e⟩:=(O b).mpr hb;rw[←e];exact D t ht
  ·rintro ρ ⟨E,c,rfl,h',H,G,p⟩;rw[List.length_map]at h';have T:=h'.few;refine⟨rfl,2 * (n - ⇑E)+(if c=[]then 0 else 1),?_,E,c,rfl,h'.wk λx _ k=>.inl ?_,G,rfl⟩
   ·rw[ee (show ¬R=[] by rw[L];exact λz=>nomatch z)];by_cases e:c=[]
    ·subst e;rw[ed rfl];have p:⇑E=⇑m+0:=p;lia
    ·rw[ee e];have:=List.length_pos_iff.mpr e;lia
   ·rcases k with k|k
    ·exact k
    ·rw[List.drop_length]at k;cases k
def jm{R:Nat->Nat->Bool}{n i:Nat}(hi:i<n)(hs:R i i=true):eE R n i=true↔∀b,b<i->(R i b&&R b i)=false:=by
 unfold eE cY;rw[decide_eq_true_iff,List.head?_filter,List.find?_range_eq_some];constructor
 ·intro h b hb;have:=h.2.2 b hb
  rwa [Bool.not_eq_true']at this
 ·intro h;refine⟨by rw[hs];rfl,List.mem_range.mpr hi,λj hj=>?_⟩;rw[h j hj];rfl
def Dj{es:ez}(d:∀a b,(a,b)∈es->(b,a)∈es)(n i:Nat):rsI es n (~~~i)=zI (cY (RB es) n i):=by
 refine w6 qy (Cj (List.pairwise_lt_range.filter _)) λq=>?_;rw[mQ,mO];unfold cY;rw[List.mem_filter,List.mem_range,Bool.and_eq_true,cR,cR];constructor
 ·rintro⟨⟨c,h1⟩,r⟩;rw[Int.toNat_of_nonneg c];exact⟨c,(),r,r.sym d⟩
 ·rintro⟨c,h1,r,_⟩;rw[Int.toNat_of_nonneg c]at r;exact⟨⟨c,()⟩,r⟩
structure Seen(n:Nat)(es:ez)(i:Nat)(m:IM):Prop where
 im:pQ m=true
 nd:(aU m).Nodup
 rng:∀x∈aU m,0<=x/\x<n
 is:∀x,x∈aU m↔∃p:Nat,p<i/\Rt es (~~~p) x
def IW{m:IM}(k:Int)(d:D):∀x,x∈aU (iC m k d)↔x∈aU m\/x=k:=λx=>by
 unfold iC;by_cases h:fX m k=true
 ·rw[ed h];have e:aU (m.map λp=>if p.1=k then(p.1,d)else p)=aU m:=by
   unfold aU;rw[List.map_map];refine List.map_congr_left λp _=>?_;show(if p.1=k then(p.1,d)else p).1=p.1;split <;> rfl
  rw[e];exact⟨.inl,λz=>z.elim id λz=>z ▸ iy.mp h⟩
 ·rw[ee h];unfold aU;rw[List.map_append,List.mem_append];exact Iff.rfl.trans ⟨λz=>z.imp id List.mem_singleton.mp,λz=>z.imp id λz=>List.mem_singleton.mpr z⟩
def CW{m:IM}(k:Int)(d:D)(h:pQ m=true)(hd:fj d=true):pQ (iC m k d)=true:=by
 unfold iC;split
 ·unfold pQ at *;rw[List.all_map,List.all_eq_true];intro p hp;show fj (if p.1=k then(p.1,d)else p).2=true;split
  ·exact hd
  ·exact List.all_eq_true.mp h p hp
 ·unfold pQ at *;rw[List.all_append,h];show(true&&(fj d&&true))=true;rw[hd];rfl
def Q7{m:IM}(k:Int)(d:D)(h:(aU m).Nodup):(aU (iC m k d)).Nodup:=by
 unfold iC;by_cases hh:fX m k=true
 ·rw[ed hh];have e:aU (m.map λp=>if p.1=k then(p.1,d)else p)=aU m:=by
   unfold aU;rw[List.map_map];refine List.map_congr_left λp _=>?_;show(if p.1=k then(p.1,d)else p).1=p.1;split <;> rfl
  rw[e];exact h
 ·rw[ee hh];unfold aU at *;rw[List.map_append];refine List.nodup_append.mpr ⟨h,by simp,λy hy z a=>?_⟩;have a:=List.mem_singleton.mp a;rw[a];rintro rfl;exact hh (iy.mpr hy)
def Aj(F:Fun K df df (top 24) f fd)(B:Dl.Bn mg)(c:1∪dy∪[dQ,"start"]∪spD DW)(d:1∪br∪[ar]∪spD KC):2∩[ar,bq]∩spD Qq:=by
 refine okT F (N:=[ar,bq]) zC (λhr nd=>Wr.aC (Wr.aL (Wr.rA rfl B.sorted (Wr.aj (Wr.dc c hr (Wr.aj (Wr.dc d hr (Wr.aj (Wr.dv 0) Wr.ak)) (Wr.aj (Wr.dv 1) Wr.ak))) Wr.ak)))) ?_;rintro ds P ⟨n,us,a,rfl,k,i,h,ok,b,j,q⟩;refine⟨[.im (bD n us),.im (.int a)],?_,?_⟩
 ·show [d7 (bD n us),.im (.int a)]=_;rw[qP]
 have g:=wK (F:=[]) (B:=[]) ok ();refine⟨n,us,rfl,(),(),h,ok,λS hS=>⟨n.toNat,_,S,a,rfl,(),hS,b,(),λm im nd few all=>⟨m,rfl,(),λout hp hs=>⟨rfl,?_⟩⟩⟩⟩;have e:=Px (vs:=adj us [] []) (n:=n.toNat) (a:=a) hp hs nd (λx=>by rw[←all,iy];rfl) λx r=>r.rng (λt ht=>(g t ht).2) ⟨b,()⟩;rw[e];exact q
abbrev kA0(P w K mg fw):=2∪df∪[ar,bq]∪spD Qq
def JF(F:Fun K dS dS (top 25) f fd)(B:Dl.Bn mg)(I:kA0 P w K mg fw):3∩[ar]∩spD KH:=by
 refine okT F (N:=[ar,"told","seen",bq,"part","member"]) zC (λhr nd=>Wr.aq (Wr.aO (some 0) (i:=1) nd rfl zQ (Wr.bM Wr.ak))
  (Wr.K8 1 true (Wr.aq (Wr.aO (some 1) (i:=2) nd rfl zQ Wr.qI)
  (Wr.aq (Wr.dF PassesOwn.never rfl (Wr.cj B.range (Wr.aj (Wr.aH (Wr.dv 0) Wr.au) Wr.ak)) (Wr.aF (i:=3) nd rfl zQ) (Wr.aq (Wr.cF (Wr.jf hr.units (Wr.dv 3) (Wr.dv 2)) (Wr.aq (Wr.aO none (i:=4) nd rfl zQ (Wr.dc I hr (Wr.aj (Wr.dv 0) (Wr.aj (Wr.dv 3) Wr.ak))))
  (Wr.aq (Wr.wg (Wr.wv 1) (Wr.aj (Wr.dv 4) Wr.ak))
  (Wr.aq (Wr.dF PassesOwn.never rfl (Wr.bV (Wr.dv 4)) (Wr.aF (i:=5) nd rfl zQ) (Wr.aq (Wr.oO hr.units (Wr.wv 2) (Wr.dv 5) Wr.jt) (Wr.aJ [5] Wr.aM))) (Wr.aJ [5] Wr.aM)))) Wr.aM) (Wr.aJ [3,4,5] Wr.aM)))
  (Wr.aJ [3,4,5] (Wr.aC (Wr.aL (Wr.dv 1)))))))) ?_
 rintro ds P ⟨n,us,rfl,Q,L,J,ok,q⟩;refine⟨[.im (bD n us),.any,.any,.any,.any,.any],?_,?_⟩
 ·show [d7 (bD n us),.any,.any,.any,.any,.any]=_;rw[qP]
 have s:=wK (F:=[]) (B:=[]) ok ();have E:=qQ (us:=us) (F:=[]);generalize C:adj us [] []=es at s E q;refine⟨zK,rfl,.int n,rfl,⟨(),()⟩,rfl,λ(i:Nat) ρ=>∃m,ρ=[.im (bD n us),.sp 0 true ((fB (RB es) n.toNat i).map iD),.dw 1 (.dict (kvD m)),.any,.any,.any]/\Seen n.toNat es i m,⟨[],rfl,rfl,by simp[aU],λx u=>(nomatch u),λx=>⟨λz=>(nomatch z),λ⟨p,hp,_⟩=>ef hp (Nat.not_lt_zero _)⟩⟩,?_,?_⟩
 ·rintro i d ρ hd ⟨m,rfl,h⟩;let⟨hi,rfl⟩:=cQ hd;have l:=yV (RB es) hi;have hl:=wB (RB es) n.toNat i;refine⟨m,rfl,?_⟩;show if(!fX m (0+~~~i))=true then _ else _
  rw[Int.zero_add];have G:eE (RB es) n.toNat i=!fX m (~~~i):=by
   rw[Bool.eq_iff_iff,jm hi (oZ es i),Bool.not_eq_true',←Bool.not_eq_true,iy,h.is];constructor
   ·rintro z ⟨p,hp,r⟩;have:=z p hp;rw[cR.mpr r,cR.mpr (r.sym E)]at this;cases this
   ·intro z b hb;rw[Bool.and_eq_false_iff,←Bool.not_eq_true,←Bool.not_eq_true,cR,cR];exact .inr λr=>z ⟨b,hb,r⟩
  cases hb:fX m (~~~i)with
  |true =>
   rw[G,hb,ee ∅,List.append_nil]at l;refine bw (A:=True) ⟨m,?_,h.im,h.nd,h.rng,λx=>?_⟩
   ·rw[l];rfl
   ·rw[h.is];constructor
    ·rintro⟨p,hp,r⟩;exact⟨p,(),r⟩
    ·rintro⟨p,hp,r⟩;by_cases e:p=i
     ·subst e;let⟨M,D,O⟩:=(h.is _).mp (iy.mp hb);exact⟨M,D,O.trans r⟩
     ·exact⟨p,(),r⟩
  |false =>
   rw[G,hb,ed ∅]at l;refine bF (B:=True) ⟨n,us,_,rfl,(),(),J,ok,(),(),?_⟩;rw[C];have o:∀x,x∈rsI es n.toNat (~~~i)↔Rt es (~~~i) x:=λx=>by
    rw[mQ];exact⟨λz=>z.2,λr=>⟨r.rng (λt ht=>(s t ht).2) ⟨(),()⟩,r⟩⟩
   rw[←Dj E]at l;have pl:=QW es n.toNat (~~~i);generalize rsI es n.toNat (~~~i)=v at l o pl;refine⟨rfl,by rw[List.length_map];lia,?_⟩;refine⟨rfl,λ(j:Nat) ρ=>∃g,ρ=[.im (bD n us),.sp 0 true ((fB (RB es) n.toNat (i+1)).map iD),.dw 1 (.dict (kvD g)),.im (.int (~~~i)),.sn (iD v),.any]/\pQ g=true/\(aU g).Nodup/\∀x,x∈aU g↔x∈aU m\/x∈v.take j,⟨m,?_,h.im,h.nd,λx=>⟨.inl,λz=>z.elim id λz=>nomatch z⟩⟩,?_,?_⟩
   ·rw[l,List.map_append];rfl
   ·rintro j d ρ hd ⟨g,rfl,c,k,a⟩;let⟨x,u,rfl⟩:=gA hd;have R:=(o x).mp (List.mem_of_getElem? u);have tk:v.take (j+1)=v.take j++[x]:=by rw[List.take_add_one,u];rfl
    have H:=jN k λy hy=>show 0<=y/\y<n.toNat from by
     rcases(a y).mp hy with z|z
     ·exact h.rng y z
     ·exact((o y).mp (List.mem_of_mem_take z)).rng (λt ht=>(s t ht).2) ⟨(),()⟩
    unfold aU at H;rw[List.length_map]at H;refine⟨g,rfl,rfl,c,(),iC g x (.bool true),rfl,CW _ _ c rfl,Q7 _ _ k,λy=>?_⟩;rw[IW,a,tk,List.mem_append,List.mem_singleton,or_assoc]
   ·rintro ρ ⟨g,rfl,c,k,a⟩;rw[List.length_map,List.take_length]at a;refine⟨g,rfl,c,k,λy hy=>?_,λx=>?_⟩
    ·rcases(a y).mp hy with z|z
     ·exact h.rng y z
     ·exact((o y).mp z).rng (λt ht=>(s t ht).2) ⟨(),()⟩
    ·rw[a,h.is,o];constructor
     ·rintro(⟨p,hp,r⟩|r)
      ·exact⟨p,(),r⟩
      ·exact⟨i,(),r⟩
     ·rintro⟨p,hp,r⟩;by_cases e:p=i
      ·subst e;exact .inr r
      ·exact .inl ⟨p,(),r⟩
 ·rintro ρ ⟨m,rfl,h⟩;rw[aW];exact⟨rfl,q⟩
def enum_zip(us:ez):oK (us.map pD)=us.zipIdx.map λp=>PyData.tuple [.int (~~~p.2),pD p.1]:=by
 refine List.ext_getElem? λi=>?_;rw[iY,List.getElem?_map,List.getElem?_map,List.getElem?_zipIdx];cases us[i]? with
 |none=>rfl
 |some t=>simp
def wo(us:ez)(F:ew):ez:=(us.zipIdx.filter λp=>decide ((~~~p.2)∉F)).map (·.1)
def Aw{us:ez}{F:ew}{t:Tie}:t∈wo us F↔∃k:Nat,us[k]?=some t/\(~~~k)∉F:=by
 unfold wo;rw[List.mem_map];constructor
 ·rintro⟨⟨u,k⟩,h,rfl⟩;rw[List.mem_filter]at h;exact⟨k,List.mem_zipIdx_iff_getElem?.mp h.1,d5 h.2⟩
 ·rintro⟨k,h,a⟩;exact⟨(t,k),List.mem_filter.mpr ⟨List.mem_zipIdx_iff_getElem?.mpr h,fy a⟩,rfl⟩
def zA(us:ez)(F:ew):⇑(wo us F)<=⇑us:=by
 unfold wo;rw[List.length_map];have:=List.length_filter_le (λp:Tie×Nat=>decide ((~~~p.2)∉F)) us.zipIdx;rw[List.length_zipIdx]at this;exact this
def Hi{n:Int}{us:ez}{F:ew}(h:OkN n us):OkN n (wo us F):=λt ht=>by
 let⟨k,e,_⟩:=Aw.mp ht;exact h t (List.mem_of_getElem? e)
def Hj{us:ez}{F:ew}{x y:Int}:(x,y)∈adj (wo us F) [] []↔(x,y)∈adj us F []:=by
 rw[wL,Aw,Aw,eV];constructor
 ·rintro(⟨k,e,h⟩|⟨k,e,h⟩)
  ·exact⟨k,.inl e,h,List.not_mem_nil⟩
  ·exact⟨k,.inr e,h,List.not_mem_nil⟩
 ·rintro⟨k,e|e,h,_⟩
  ·exact .inl ⟨k,e,h⟩
  ·exact .inr ⟨k,e,h⟩
def Ie{us:ez}{F:ew}{a b:Int}:Rt (adj (wo us F) [] []) a b↔Rt (adj us F []) a b:=⟨Rt.mono λ⟨_,_⟩ h=>Hj.mp h,Rt.mono λ⟨_,_⟩ h=>Hj.mpr h⟩
def lQ(us:ez)(k:Nat):Bool:=match us[k]? with
 |some t=>!RZ (adj us [~~~k] []) t.1 t.2
 |none=>false
def aX(us:ez):ew:=zI ((List.range ⇑us).filter (lQ us))
def yh{us:ez}{k:Nat}:(~~~k)∈aX us↔lQ us k=true:=by
 unfold aX;rw[mO,List.mem_filter,List.mem_range];have e:(~~~k).toNat=k:=()
 rw[e];refine⟨λh=>h.2.2,λh=>⟨(),?_,h⟩⟩;unfold lQ at h;cases e:us[k]? with
 |none=>rw[e]at h;cases h
 |some t=>exact(List.getElem?_eq_some_iff.mp e).1
def Vz:FF:=λds P=>∃i:Int,ds=[.int i]/\P (.bool true)
def Qt:FF:=λds P=>∃m i:Int,ds=[.int m,.int i]/\0<=i/\i<m/\P (.bool true)
def fTN:FF:=λds P=>∃n us i,ds=[bD n us,.int i]/\0<=i/\i<(⇑us:Nat)/\P (.bool true)
def V1:FF:=λds P=>∃n us i,ds=[bD n us,.int i]/\0<=i/\i<(⇑us:Nat)/\P .none
def VP:FF:=λds P=>∃n us i,ds=[bD n us,.int i]/\0<=i/\i<n/\P (.bool true)
def V2:FF:=λds P=>∃n us i,ds=[bD n us,.int i]/\0<=i/\i<n/\P .none
def fWo:FF:=λds P=>∃n us F,ds=[bD n us,iD F]/\⇑us<=100/\P (bD n (wo us F))
def Qo:FF:=λds P=>∃n us k t,ds=[bD n us,.int (~~~k)]/\us[k]?=some t/\1<=n/\n<=60/\⇑us<=100/\OkN n us/\P (if RZ (adj us [~~~k] []) t.1 t.2=true then .none else iD (rsI (adj us [~~~k] []) n.toNat t.1))
def Qs:FF:=λds P=>∃n us,ds=[bD n us]/\1<=n/\n<=60/\⇑us<=100/\OkN n us/\P (iD (aX us))
def Ea:FF:=λds P=>∃n us,ds=[bD n us]/\1<=n/\n<=60/\⇑us<=100/\OkN n us/\P (.list ((fB (RB (adj us (aX us) [])) n.toNat n.toNat).map iD))
def xQ(F:Fun K cq cq (top 10) f fd)(B:Dl.Bn mg):1∩[av]∩spD Vz:=by
 refine okT F (N:=[av]) zC (λhr nd=>Wr.aC (Wr.aL (Wr.fV (Wr.bC Dv B.isinstance (Wr.dv 0) (Wr.wty rfl B.int VE)) (Wr.iH (Wr.Ae (Wr.bC jW B.isinstance (Wr.dv 0) (Wr.wty rfl B.bool VI))))))) ?_;rintro ds P ⟨i,rfl,q⟩;refine⟨[.im (.int i)],rfl,?_⟩;exact⟨rfl,q⟩
abbrev kA1(P w K mg fw):=1∪cq∪[av]∪spD Vz
def xU(F:Fun K cr cr (top 11) f fd)(B:Dl.Bn mg)(a:kA1 P w K mg fw):2∩["limit",av]∩spD Qt:=by
 refine okT F (N:=["limit",av]) zC (λhr nd=>Wr.aC (Wr.aL (Wr.fV (Wr.dc a hr (Wr.aj (Wr.dv 1) Wr.ak)) (Wr.iH (Wr.vJ Wr.au (Wr.dv 1) (Wr.dv 0)))))) ?_;rintro ds P ⟨m,i,rfl,b,h1,q⟩;refine⟨[.im (.int m),.im (.int i)],rfl,?_⟩;refine⟨i,rfl,bF (B:=True) ?_⟩;show if decide ((0:Int)<=i)=true then _ else _
 rw[fy b];refine bF (B:=True) ⟨rfl,?_⟩;show P (.bool (decide (i<m)));rw[fy h1];exact q
abbrev kA2(P w K mg fw):=2∪cr∪["limit",av]∪spD Qt
def pI(F:Fun K bn bn (top 13) f fd)(B:Dl.Bn mg)(a:kA2 P w K mg fw):3∩[ar,av]∩spD fTN:=by
 refine okT F (N:=[ar,av]) zC (λhr nd=>Wr.aC (Wr.aL (Wr.dc a hr (Wr.aj (Wr.cM B.len (Wr.aj (Wr.aH (Wr.dv 0) Wr.au) Wr.ak)) (Wr.aj (Wr.dv 1) Wr.ak))))) ?_;rintro ds P ⟨n,us,i,rfl,b,h1,q⟩;refine⟨[.im (bD n us),.im (.int i)],pU rfl,?_⟩;refine⟨.tuple (us.map pD),rfl,_,i,rfl,b,?_,rfl,q⟩;rw[List.length_map];exact h1
def lK(F:Fun K ba ba (top 16) f fd)(B:Dl.Bn mg)(a:3∪bn∪[ar,av]∪spD fTN):4∩[ar,av]∩spD V1:=by
 refine okT F (N:=[ar,av]) zC (λhr nd=>Wr.aC (Wr.cF (Wr.cJ (Wr.bT (Wr.dc a hr (Wr.aj (Wr.dv 0) (Wr.aj (Wr.dv 1) Wr.ak))))) (Wr.aC Wr.gW) Wr.aM)) ?_;rintro ds P ⟨n,us,i,rfl,b,h1,q⟩;refine⟨[.im (bD n us),.im (.int i)],pU rfl,?_⟩;exact⟨n,us,i,rfl,b,h1,bw (A:=True) q⟩
def xR(F:Fun K cu cu (top 12) f fd)(B:Dl.Bn mg)(a:kA2 P w K mg fw):3∩[ar,av]∩spD VP:=by
 refine okT F (N:=[ar,av]) zC (λhr nd=>Wr.aC (Wr.aL (Wr.dc a hr (Wr.aj (Wr.aH (Wr.dv 0) Wr.au) (Wr.aj (Wr.dv 1) Wr.ak))))) ?_;rintro ds P ⟨n,us,i,rfl,b,h1,q⟩;refine⟨[.im (bD n us),.im (.int i)],pU rfl,?_⟩;exact⟨.int n,rfl,n,i,rfl,b,h1,rfl,q⟩
def rM(F:Fun K bv bv (top 14) f fd)(B:Dl.Bn mg)(a:3∪cu∪[ar,av]∪spD VP):4∩[ar,av]∩spD V2:=by
 refine okT F (N:=[ar,av]) zC (λhr nd=>Wr.aC (Wr.cF (Wr.cJ (Wr.bT (Wr.dc a hr (Wr.aj (Wr.dv 0) (Wr.aj (Wr.dv 1) Wr.ak))))) (Wr.aC Wr.gW) Wr.aM)) ?_;rintro ds P ⟨n,us,i,rfl,b,h1,q⟩;refine⟨[.im (bD n us),.im (.int i)],pU rfl,?_⟩;exact⟨n,us,i,rfl,b,h1,bw (A:=True) q⟩
def iw:([be,dP,ar,dL]:List Str).Nodup:=⋯
def qj(F:Fun K bt bt (top 27) f fd)(B:Dl.Bn mg)(b:mg da=none):1∩[ar,dL]∩spD fWo:=by
 refine okT F (N:=[ar,dL]) zC (λhr nd=>Wr.aC (Wr.aL (Wr.aV (Wr.aj (Wr.aH (Wr.dv 0) Wr.au) (Wr.aj (Wr.kZ B.tuple (Wr.aj (Wr.gO [be,dP] rfl (Wr.oR b (Wr.aj (Wr.aH (Wr.dv 0) Wr.au) Wr.ak)) (λc=>(Wr.jo (n:=2) rfl (Wr.bQ (Wr.aF (i:=0) iw rfl zQ) (Wr.bQ (Wr.aF (i:=1) iw rfl zQ) Wr.gC)))) (λc=>(Wr.dU (Wr.eZ hr.units (Wr.dv 0) (Wr.dv 3)))) (λc=>(Wr.dv 1))) Wr.ak)) Wr.ak))))) ?_;rintro ds P ⟨n,us,F,rfl,d,q⟩;refine⟨[.im (bD n us),.sh (iD F)],pU rfl,?_⟩;refine⟨.int n,rfl,.tuple (us.map pD),rfl,?_⟩;refine oh us.zipIdx (λp=>PyData.tuple [.int (~~~p.2),pD p.1]) (λp=>decide ((~~~p.2)∉F)) (λp=>pD p.1) .imm (enum_zip us) (by rw[List.length_zipIdx];lia) ?_ ?_
 ·rintro⟨t,k⟩ hk A B h1 h2;refine⟨rfl,rfl,dR F,?_⟩;show if(!((F.map PyData.int).any λe=>PyData.eqv e (.int (~~~k))))=true then _ else _
  rw[Dl.any_ints];by_cases a:(~~~k)∈F
  ·rw[fy a];exact bw (A:=True) (h2 (d4 λz=>z a))
  ·rw[d4 a];exact bF (B:=True) ⟨rfl,h1 (fy a)⟩
 ·have e:((us.zipIdx.filter λp=>decide ((~~~p.2)∉F)).map λp=>pD p.1)=(wo us F).map pD:=by
   unfold wo;rw[List.map_map];rfl
  show _/\_/\P (.tuple [.int n,.tuple ((us.zipIdx.filter λp=>decide ((~~~p.2)∉F)).map λp=>pD p.1)]);rw[e];refine⟨zK,?_,q⟩;show(norm _ (bD n (wo us F))).le .n0=true;rw[fM (lC _ _)];rfl
abbrev kA3(P w K mg fw):=1∪bt∪[ar,dL]∪spD fWo
def Ai(F:Fun K di di (top 28) f fd)(B:Dl.Bn mg)(d:4∪ba∪[ar,av]∪spD V1)(b:kA0 P w K mg fw)(c:kA3 P w K mg fw):5∩[ar,be]∩spD Qo:=by
 refine okT F (N:=[ar,be,dP,"side"]) zC (λhr nd=>Wr.aq (Wr.lH (Wr.dc d hr (Wr.aj (Wr.dv 0) (Wr.aj (Wr.dv 1) Wr.ak))))
  (Wr.aq (Wr.aO none (i:=2) nd rfl zQ (Wr.aH (Wr.aH (Wr.dv 0) Wr.au) (Wr.dv 1)))
  (Wr.aq (Wr.aO none (i:=3) nd rfl zQ (Wr.dc b hr (Wr.aj (Wr.dc c hr (Wr.aj (Wr.dv 0) (Wr.aj (Wr.bM (Wr.aj (Wr.dv 1) Wr.ak)) Wr.ak))) (Wr.aj (Wr.aH (Wr.dv 2) Wr.au) Wr.ak))))
  (Wr.aC (Wr.aL (Wr.jG (Wr.jE hr.units (Wr.aH (Wr.dv 2) Wr.au) (Wr.dv 3)) Wr.iI (Wr.dv 3))))))) ?_
 rintro ds P ⟨n,us,k,t,rfl,ht,p,h,g,ok,q⟩;refine⟨[.im (bD n us),.im (.int (~~~k)),.any,.any],pU rfl,?_⟩;have hk:=(List.getElem?_eq_some_iff.mp ht).1;let⟨⟨j,l⟩,⟨m,r⟩,s⟩:=ok t (List.mem_of_getElem? ht);have a:atI (us.map pD) (~~~k)=some (pD t):=dh (by rw[List.getElem?_map,ht];rfl);have o:=zA us [~~~k];refine⟨n,us,~~~k,rfl,(),(),.tuple (us.map pD),rfl,pD t,a,?_⟩;refine⟨zK,n,us,[~~~k],rfl,g,.int t.1,rfl,n,wo us [~~~k],t.1,rfl,(),(),(),Hi ok,j,l,?_⟩;rw[Cy λx=>Ie];refine⟨.int t.2,rfl,rfl,dR _,?_⟩;show if(((rsI (adj us [~~~k] []) n.toNat t.1).map PyData.int).any λe=>PyData.eqv e (.int t.2))=true then _ else _
 rw[Dl.any_ints];have e:decide (t.2∈rsI (adj us [~~~k] []) n.toNat t.1)=RZ (adj us [~~~k] []) t.1 t.2:=by
  rw[Bool.eq_iff_iff,decide_eq_true_iff,mQ,mU];exact⟨λz=>z.2,λz=>⟨⟨m,()⟩,z⟩⟩
 rw[e];cases hr:RZ (adj us [~~~k] []) t.1 t.2 with
 |true =>
  rw[hr,ed rfl]at q;exact bF (B:=True) ⟨rfl,q⟩
 |false =>
  rw[hr,ee Bool.false_ne_true]at q;exact bw (A:=True) ⟨rfl,q⟩
def uh:([be,ar]:List Str).Nodup:=⋯
def xW(F:Fun K cc cc (top 29) f fd)(B:Dl.Bn mg)(d:5∪di∪[ar,be]∪spD Qo):6∩[ar]∩spD Qs:=by
 refine okT F (N:=[ar]) zC (λhr nd=>Wr.aC (Wr.aL (Wr.gO [be] rfl (Wr.cj B.range (Wr.aj (Wr.cM B.len (Wr.aj (Wr.aH (Wr.dv 0) Wr.au) Wr.ak)) Wr.ak)) (λc=>(Wr.aF (i:=0) uh rfl zQ)) (λc=>(Wr.dU (Wr.mF (Wr.dc d hr (Wr.aj (Wr.dv 1) (Wr.aj (Wr.dv 0) Wr.ak))) Wr.iI))) (λc=>(Wr.dv 0))))) ?_;rintro ds P ⟨n,us,rfl,h,a,g,ok,q⟩;refine⟨[.im (bD n us)],pU rfl,?_⟩;refine⟨.tuple (us.map pD),rfl,?_⟩;show(-(2 ^ 62)<=(⇑(us.map pD):Int)/\(⇑(us.map pD):Int)<2 ^ 62)/\_;rw[List.length_map];refine⟨⟨(),()⟩,oh (List.range ⇑us) (λb:Nat=>.int (0+~~~b)) (lQ us) (λb:Nat=>.int (0+~~~b)) .imm rfl (by rw[List.length_range];lia) ?_ ?_⟩
 ·intro b hb A B h1 h2;have hb:=List.mem_range.mp hb;have ht:=List.getElem?_eq_getElem hb;generalize us[b]=t at ht;have hc:lQ us b=!RZ (adj us [~~~b] []) t.1 t.2:=by unfold lQ;rw[ht]
  refine⟨n,us,b,t,by show [bD n us,PyData.int (0+~~~b)]=_;rw[Int.zero_add],ht,h,a,g,ok,?_⟩;cases hr:RZ (adj us [~~~b] []) t.1 t.2 with
  |true =>
   rw[ed rfl];rw[hr]at hc;exact bw (A:=True) (h2 hc)
  |false =>
   rw[ee Bool.false_ne_true];rw[hr]at hc;exact bF (B:=True) ⟨rfl,h1 hc⟩
 ·have e:PyData.list (((List.range ⇑us).filter (lQ us)).map λb:Nat=>PyData.int (0+~~~b))=iD (aX us):=by
   unfold iD aX zI;rw[List.map_map];rfl
  rw[e];exact⟨rfl,q⟩
abbrev kA4(P w K mg fw):=6∪cc∪[ar]∪spD Qs
def Fz(F:Fun K bg bg (top 31) f fd)(B:Dl.Bn mg)(i:3∪dS∪[ar]∪spD KH)(g:kA3 P w K mg fw)(h:kA4 P w K mg fw):7∩[ar]∩spD Ea:=by
 refine okT F (N:=[ar]) zC (λhr nd=>Wr.aC (Wr.aL (Wr.dc i hr (Wr.aj (Wr.dc g hr (Wr.aj (Wr.dv 0) (Wr.aj (Wr.dc h hr (Wr.aj (Wr.dv 0) Wr.ak)) Wr.ak))) Wr.ak)))) ?_;rintro ds P ⟨n,us,rfl,j,c,d,ok,q⟩;refine⟨[.im (bD n us)],pU rfl,?_⟩;have k:=zA us (aX us);refine⟨n,us,rfl,j,c,d,ok,n,us,aX us,rfl,d,n,_,rfl,(),c,(),Hi ok,rfl,?_⟩;rw[yX (R':=RB (adj us (aX us) [])) λa b _ _=>by
  have e:∀a b,RB (adj (wo us (aX us)) [] []) a b=RB (adj us (aX us) []) a b:=λa b=>by rw[Bool.eq_iff_iff,cR,cR,Ie]
  rw[e,e]]
 exact q
structure LstOf(R:Nat->Nat->Bool)(n:Nat)(L:ew):Prop where
 len:⇑L=n
 is:∀(a:Nat)(x:Int),L[a]?=some x->∃m:Nat,x=(~~~m)/\m<n/\R a m=true/\∀b,b<n->R a b=true->m<=b
structure EqvR(R:Nat->Nat->Bool)(n:Nat):Prop where
 rf:∀a,a<n->R a a=true
 sy:∀a b,a<n->b<n->R a b=true->R b a=true
 tr:∀a b c,a<n->b<n->c<n->R a b=true->R b c=true->R a c=true
def EqvR.and{R:Nat->Nat->Bool}{n:Nat}(h:EqvR R n){a b:Nat}(ha:a<n)(hb:b<n):(R a b&&R b a)=R a b:=by
 rw[Bool.eq_iff_iff,Bool.and_eq_true];exact⟨λz=>z.1,λz=>⟨z,h.sy a b ha hb z⟩⟩
def Ip{es:ez}(d:∀a b,(a,b)∈es->(b,a)∈es)(n:Nat):EqvR (RB es) n :=
 ⟨λa _=>oZ es a,λa b _ _ h=>cR.mpr ((cR.mp h).sym d),λa b c _ _ _ h h'=>cR.mpr ((cR.mp h).trans (cR.mp h'))⟩
def jZ(p:Int×D)(m:IM)(x:Int):lM (p::m) x=if p.1=x then some p.2 else lM m x:=by
 unfold lM;rw[List.find?_cons];by_cases h:p.1=x
 ·rw[ed h,fy h];rfl
 ·rw[ee h,d4 h]
def yD(p:Int×D)(m:IM)(x:Int):fX (p::m) x=(decide (p.1=x) || fX m x):=rfl
theorem get_map(k:Int)(d:D)(x:Int):∀m:IM,lM (m.map λp=>if p.1=k then(p.1,d)else p) x=if k=x/\fX m k=true then some d else lM m x
 |[]=>by
  rw[ee (λz=>nomatch z.2)];rfl
 |p::m=>by
  rw[List.map_cons,jZ,jZ,get_map k d x m,yD];by_cases h1:p.1=k
  ·rw[ed h1,fy h1];by_cases h2:k=x
   ·rw[ed (by rw[←h2];exact h1),ed ⟨h2,rfl⟩]
   ·rw[ee (λz=>h2 (h1 ▸ z)),ee (λz=>h2 z.1),ee (λz=>h2 z.1),ee (λz=>h2 (h1 ▸ z))]
  ·rw[ee h1,d4 h1,Bool.false_or];by_cases h2:k=x
   ·have b:¬p.1=x:=λz=>h1 (z.trans h2.symm);rw[ee b,ee b]
   ·have a:¬(k=x/\fX m k=true):=λz=>h2 z.1;rw[ee a,ee a]
theorem Dz(k:Int)(d:D)(x:Int):∀m:IM,fX m k=false->lM (m++[(k,d)]) x=if k=x then some d else lM m x
 |[],_=>by
  show lM ((k,d)::[]) x=_;rw[jZ]
 |p::m,h=>by
  rw[yD,Bool.or_eq_false_iff]at h;rw[List.cons_append,jZ,Dz k d x m h.2,jZ];have h1:¬p.1=k:=of_decide_eq_false h.1;by_cases h2:k=x
  ·rw[ed h2,ed h2,ee (λz=>h1 (z.trans h2.symm))]
  ·rw[ee h2,ee h2]
def Dy(m:IM)(k:Int)(d:D)(x:Int):lM (iC m k d) x=if k=x then some d else lM m x:=by
 unfold iC;by_cases h:fX m k=true
 ·rw[ed h,get_map];by_cases h2:k=x
  ·rw[ed ⟨h2,h⟩,ed h2]
  ·rw[ee (λz=>h2 z.1),ee h2]
 ·rw[ee h,Dz k d x m ↑h]
def M4(m:IM)(k:Int)(d:D):⇑(iC m k d)<=⇑m+1:=by
 unfold iC;split
 ·rw[List.length_map];lia
 ·rw[List.length_append];exact Nat.le_refl _
def Mf(a:et):Prop:=∀(i j:Nat)(c d:ew)(x:Int),a[i]?=some c->a[j]?=some d->x∈c->x∈d->i=j
def Cov(a:et)(n:Int):Prop:=∀x:Int,0<=x->x<n->∃(j:Nat)(c:ew),a[j]?=some c/\x∈c
def Aa(R:Nat->Nat->Bool)(N:Nat):eA:=(List.range N).filter (eE R N)
def Eo(R:Nat->Nat->Bool)(N:Nat):fB R N N=(Aa R N).map λa=>zI (cY R N a):=by
 unfold fB Aa;rw[List.take_of_length_le (by rw[List.length_range];exact Nat.le_refl _)]
def jP{R:Nat->Nat->Bool}{N a b:Nat}:b∈cY R N a↔b<N/\(R a b&&R b a)=true:=by
 unfold cY;rw[List.mem_filter,List.mem_range]
def Ep{R:Nat->Nat->Bool}{N j:Nat}{c:ew}(h:(fB R N N)[j]?=some c):∃a,(Aa R N)[j]?=some a/\c=zI (cY R N a)/\a<N/\eE R N a=true:=by
 rw[Eo,List.getElem?_map]at h;cases e:(Aa R N)[j]? with
 |none=>rw[e]at h;cases h
 |some a =>
  rw[e]at h;have hm:=List.mem_of_getElem? e;unfold Aa at hm;rw[List.mem_filter,List.mem_range]at hm;exact⟨a,rfl,(Option.some.inj h).symm,hm.1,hm.2⟩
def QZ(R:Nat->Nat->Bool)(N:Nat):(Aa R N).Nodup:=(List.nodup_range).filter _
def Ls{R:Nat->Nat->Bool}{N:Nat}(h:EqvR R N):Mf (fB R N N):=by
 intro i j c d x hi p hc hd;let⟨a,ha,rfl,k,n⟩:=Ep hi;let⟨b,hb,rfl,g,o⟩:=Ep p;have f:=jP.mp (mO.mp hc).2;have l:=jP.mp (mO.mp hd).2;rw[h.and k f.1]at f;rw[h.and g l.1]at l;have m:=h.tr a _ b k f.1 g f.2 (h.sy b _ g f.1 l.2);have e:a=b:=by
  rw[jm k (h.rf a k)]at n;rw[jm g (h.rf b g)]at o;by_cases h1:a<b
  ·have:=o a h1;rw[h.and g k,h.sy a b k g m]at this;cases this
  ·by_cases h2:b<a
   ·have:=n b h2;rw[h.and k g,m]at this;cases this
   ·lia
 subst e;have h1:=List.getElem?_eq_some_iff.mp ha;have h2:=List.getElem?_eq_some_iff.mp hb;exact(List.getElem_inj (QZ R N) (h₀:=h1.1) (h₁:=h2.1)).mp (h1.2.trans h2.2.symm)
def uW{R:Nat->Nat->Bool}{N:Nat}(h:EqvR R N):Cov (fB R N N) N:=by
 intro x k h1;have d:x.toNat<N:=()
 have f:=NZ (h.rf _ d) d;cases hm:cY R N x.toNat with
 |nil=>exact ef hm f
 |cons a l =>
  have ha:a∈cY R N x.toNat:=by rw[hm];exact List.mem_cons_self
  have c:=jP.mp ha;rw[h.and d c.1]at c;have i:eE R N a=true:=by
   rw[jm c.1 (h.rf a c.1)];intro b hb;have e:b<N:=()
   rw[h.and c.1 e];cases hr:R a b with
   |false=>rfl
   |true =>
    have g:(cY R N x.toNat).head?=some a:=by rw[hm];rfl
    unfold cY at g;rw[List.head?_filter,List.find?_range_eq_some]at g;have:=g.2.2 b hb;rw[h.and d e,h.tr _ a b d c.1 e c.2 hr]at this;cases this
  have hr:a∈Aa R N:=List.mem_filter.mpr ⟨List.mem_range.mpr c.1,i⟩;let⟨j,m⟩:=List.getElem?_of_mem hr;refine⟨j,zI (cY R N a),?_,?_⟩
  ·rw[Eo,List.getElem?_map,m];rfl
  ·rw[mO,jP,h.and c.1 d];exact⟨k,d,h.sy _ _ d c.1 c.2⟩
def hmN(a:et)(x:Int):Nat:=a.findIdx λc=>decide (x∈c)
def Ql{a:et}(d:Mf a){j:Nat}{c:ew}{x:Int}(h:a[j]?=some c)(b:x∈c):hmN a x=j:=by
 unfold hmN;let⟨f,e⟩:=List.getElem?_eq_some_iff.mp h;rw[List.findIdx_eq f];refine⟨by rw[e];exact fy b,λk hk=>?_⟩;refine d4 λz=>?_;have:=d k j _ c x (List.getElem?_eq_getElem ()) h z b;lia
def BL(us:ez):eA:=(List.range ⇑us).filter (lQ us)
def lkT(us:ez)(a:et)(k:Nat):D:=match us[k]? with
 |some t=>.tuple [.int (~~~k),.int (~~~(hmN a t.1)),.int (~~~(hmN a t.2))]
 |none=>.none
def R8(us:ez)(a:et):eI:=(BL us).map (lkT us a)
def O5{us:ez}{k:Nat}(h:k∈BL us):∃t,us[k]?=some t:=by
 unfold BL at h;rw[List.mem_filter,List.mem_range]at h;exact⟨_,List.getElem?_eq_getElem h.1⟩
def Lq(us:ez):⇑(BL us)<=⇑us:=by
 unfold BL;have:=List.length_filter_le (lQ us) (List.range ⇑us)
 rwa [List.length_range]at this
def VR:FF:=λds P=>∃CL:et,ds=[.list (CL.map iD)]/\⇑CL<=16/\(∀c∈CL,⇑c<=16)/\Mf CL/\∀m:IM,(∀(j:Nat) c x,CL[j]?=some c->x∈c->lM m x=some (.int (~~~j)))->P (.dict (kvD m))
def pcI(us:ez)(n:Int):et:=fB (RB (adj us (aX us) [])) n.toNat n.toNat
def Qn:FF:=λds P=>∃n us,ds=[bD n us]/\1<=n/\n<=16/\⇑us<=60/\OkN n us/\P (.tuple [.list ((pcI us n).map iD),.list (R8 us (pcI us n))])
def iT(us:ez){n:Int}(n0:0<=n):Mf (pcI us n)/\Cov (pcI us n) n/\⇑(pcI us n)<=n.toNat/\∀c∈pcI us n,⇑c<=n.toNat:=by
 have e:=Ip (es:=adj us (aX us) []) qQ n.toNat;unfold pcI;refine⟨Ls e,?_,wB _ _ _,yW _ _ _⟩;have:=uW e
 rwa [show(~~~n.toNat)=n by lia]at this
structure HomTo(CL:et)(k:Nat)(c:ew)(i:Nat)(m:IM):Prop where
 im:pQ m=true
 len:⇑m<=16 * k+i
 is:∀(j:Nat) d x,j<k->CL[j]?=some d->x∈d->lM m x=some (.int (~~~j))
 cur:∀x∈c.take i,lM m x=some (.int (~~~k))
def xV(F:Fun K cw cw (top 32) f fd)(B:Dl.Bn mg)(g:mg da=none):1∩[bo]∩spD VR:=by
 refine okT F (N:=[bo,"homes",be,"some",bq]) zC (λhr nd=>Wr.aq (Wr.aO (some 0) (i:=1) nd rfl zQ Wr.qI)
  (Wr.aq (Wr.dF PassesOwn.never rfl (Wr.sX g (Wr.aj (Wr.dv 0) Wr.ak)) (Wr.jo (n:=2) rfl (Wr.bQ (Wr.aF (i:=2) nd rfl zQ) (Wr.bQ (Wr.aF (i:=3) nd rfl zQ) Wr.gC))) (Wr.aq (Wr.dF PassesOwn.never rfl (Wr.bV (Wr.dv 3)) (Wr.aF (i:=4) nd rfl zQ) (Wr.aq (Wr.oO hr.units (Wr.wv 1) (Wr.dv 4) (Wr.dv 2)) (Wr.aJ [4] Wr.aM))) (Wr.aJ [2,3,4] Wr.aM)))
  (Wr.aJ [2,3,4] (Wr.aC (Wr.aL (Wr.dv 1)))))) ?_
 rintro ds P ⟨a,rfl,p,o,l,q⟩;refine⟨[.sh (.list (a.map iD)),.any,.any,.any,.any],rfl,?_⟩;refine⟨rfl,λ(k:Nat) ρ=>∃m:IM,ρ=[.sh (.list (a.map iD)),.dw 0 (.dict (kvD m)),.any,.any,.any]/\HomTo a k [] 0 m,⟨[],rfl,rfl,Nat.zero_le _,λj d x h=>ef h (Nat.not_lt_zero _),λx h=>nomatch h⟩,?_,?_⟩
 ·rintro k d ρ hd ⟨m,rfl,h⟩;rw[iY,List.getElem?_map]at hd;obtain⟨c,hc,rfl⟩:∃c,a[k]?=some c/\PyData.tuple [.int (~~~k),iD c]=d:=by
   cases e:a[k]? with
   |none=>rw[e]at hd;cases hd
   |some c=>rw[e]at hd;exact⟨c,rfl,Option.some.inj hd⟩
  have hk:=(List.getElem?_eq_some_iff.mp hc).1;have r:=o c (List.mem_of_getElem? hc);refine⟨rfl,rfl,λ(i:Nat) ρ=>∃m:IM,ρ=[.sh (.list (a.map iD)),.dw 0 (.dict (kvD m)),.im (.int (~~~k)),.sh (iD c),.any]/\HomTo a k c i m,⟨m,rfl,h.im,h.len,h.is,λx z=>nomatch z⟩,?_,?_⟩
  ·rintro i d ρ hd ⟨m,rfl,h⟩;let⟨x,b,rfl⟩:=gA hd;have hi:=(List.getElem?_eq_some_iff.mp b).1;have hl:=h.len;have pl:=M4 m x (.int (~~~k));have tk:c.take (i+1)=c.take i++[x]:=by rw[List.take_add_one,b];rfl
   refine⟨m,rfl,rfl,h.im,(),iC m x (.int (~~~k)),rfl,CW _ _ h.im rfl,(),λj d y hj hd hy=>?_,λy hy=>?_⟩
   ·rw[Dy,ee]
    ·exact h.is j d y hj hd hy
    ·intro z;subst z;have:=l j k d c x hd hc hy (List.mem_of_getElem? b);lia
   ·rw[Dy];by_cases z:x=y
    ·rw[ed z]
    ·rw[ee z];rw[tk]at hy;rcases List.mem_append.mp hy with w|w
     ·exact h.cur y w
     ·exact ef (List.mem_singleton.mp w).symm z
  ·rintro ρ ⟨m,rfl,h⟩;rw[List.length_map]at h;have hl:=h.len;refine⟨m,rfl,h.im,(),λj d y hj hd2 hy=>?_,λy hy=>nomatch hy⟩;by_cases z:j=k
   ·subst z;have e:c=d:=Option.some.inj (hc.symm.trans hd2);rw[←e]at hy;exact h.cur y (by rw[List.take_length];exact hy)
   ·exact h.is j d y () hd2 hy
 ·rintro ρ ⟨m,rfl,h⟩;rw[gG,List.length_map]at h;exact⟨rfl,q m λj c x hj b=>h.is j c x (List.getElem?_eq_some_iff.mp hj).1 hj b⟩
def Ga:([be,ar,bo,"homes","links"]:List Str).Nodup:=⋯
def Nz(F:Fun K "tree" "tree" (top 33) f fd)(B:Dl.Bn mg)(s:7∪bg∪[ar]∪spD Ea)(u:1∪cw∪[bo]∪spD VR)(r:kA4 P w K mg fw):8∩[ar]∩spD Qn:=by
 refine okT F (N:=[ar,bo,"homes","links"]) zC (λhr nd=>Wr.aq (Wr.aO none (i:=1) nd rfl zQ (Wr.dc s hr (Wr.aj (Wr.dv 0) Wr.ak)))
  (Wr.aq (Wr.aO none (i:=2) nd rfl zQ (Wr.dc u hr (Wr.aj (Wr.dv 1) Wr.ak)))
  (Wr.aq (Wr.yL none [be] (i:=3) rfl nd rfl zQ (Wr.bV (Wr.dc r hr (Wr.aj (Wr.dv 0) Wr.ak))) (λc=>(Wr.aF (i:=0) Ga rfl zQ)) (λc=>Wr.cZ) (λc=>(Wr.aV (Wr.aj (Wr.dv 0) (Wr.aj (Wr.qJ hr.units (Wr.dv 3) (Wr.aH (Wr.aH (Wr.aH (Wr.dv 1) Wr.au) (Wr.dv 0)) Wr.au)) (Wr.aj (Wr.qJ hr.units (Wr.dv 3) (Wr.aH (Wr.aH (Wr.aH (Wr.dv 1) Wr.au) (Wr.dv 0)) Wr.au)) Wr.ak))))))
  (Wr.aC (Wr.aL (Wr.aV (Wr.aj (Wr.dv 1) (Wr.aj (Wr.dv 3) Wr.ak)))))))) ?_
 rintro ds P ⟨n,us,rfl,p,z,J,ok,q⟩;refine⟨[.im (bD n us),.any,.any,.any],pU rfl,?_⟩;let⟨j,cv,H,y⟩:=iT us (show 0<=n by lia);refine⟨n,us,rfl,p,(),(),ok,pcI us n,rfl,(),λc hc=>by have:=y c hc;lia,j,λm hm=>?_⟩;refine⟨n,us,rfl,p,(),(),ok,?_⟩;have I:=Lq us;refine Ke (BL us) (λk:Nat=>.int (0+~~~k)) (lkT us (pcI us n)) .imm (by unfold aX BL zI;rw[List.map_map];rfl) () ?_ ?_
 ·intro k hk A B a;let⟨t,ht⟩:=O5 hk;let⟨⟨C,D⟩,⟨E,G⟩,L⟩:=ok t (List.mem_of_getElem? ht);have b:atI (us.map pD) (0+~~~k)=some (pD t):=by rw[Int.zero_add];exact dh (by rw[List.getElem?_map,ht];rfl)
  let⟨l,v,d,g⟩:=cv t.1 C D;let⟨o,x,e,h⟩:=cv t.2 E G;refine bF (B:=B) ⟨.tuple (us.map pD),rfl,pD t,b,.int t.1,rfl,m,.int (~~~l),rfl,hm l v t.1 d g,.tuple (us.map pD),rfl,pD t,b,.int t.2,rfl,m,.int (~~~o),rfl,hm o x t.2 e h,zK,rfl,?_⟩;unfold lkT at a;rw[ht]at a;have a:A (.tuple [.int (~~~k),.int (~~~(hmN (pcI us n) t.1)),.int (~~~(hmN (pcI us n) t.2))]):=a;rw[Ql j d g,Ql j e h]at a;show A (.tuple [.int (0+~~~k),.int (~~~l),.int (~~~o)]);rw[Int.zero_add];exact a
 ·exact⟨zK,rfl,q⟩
def rD(r:T3):D:=.tuple [.int r.1,.int r.2.1,.int r.2.2]
def kyR(r:T3):T3:=(r.2.1,r.2.2,r.1)
def dM(r:T3):Tie:=(r.2.1,r.2.2)
def Ord(a out:List T3):Prop:=out.Perm a/\(out.map λr=>cH (kyR r)).Pairwise (·<=·)
def fIO:FF:=λds P=>∃rs:List T3,ds=[.list (rs.map rD)]/\⇑rs<=63/\(∀r∈rs,iz (kyR r))/\∀out,Ord rs out->P (.list (out.map rD))
def lamOf:Zt->Yp×Zt×Zs×Pos
 |.Lambda a b s p=>(a,b,s,p)
 |e=>(⟨[],[],none,[],[],none,[]⟩,e,{ kind:=.function,names:=[],isGenerator:=false,isCoroutine:=false },⟨0,0,0,0⟩)
def Og:List ZF->Zt
 |[.Return (some (.Call _ _ [k] _)) _]=>k.value
 |_=>.Constant .none 0 ⟨0,0,0,0⟩
def Vm(st:ZF):Yp:=(lamOf (Og (bW st))).1
def Vl(st:ZF):Zt:=(lamOf (Og (bW st))).2.1
def Oe(st:ZF):Zs:=(lamOf (Og (bW st))).2.2.1
def lamP(st:ZF):Pos:=(lamOf (Og (bW st))).2.2.2
def ioq:Str:=(bi:Str)++".<locals>."++"<lambda>"
def xH(PT:Addr):Pn:=xG PT (lamP (top 35)) ioq
def gKy(a:D)(k:T3):Prop:=∃r:T3,a=rD r/\k=kyR r
section
variable{P:Za}{w:Zb}{K:W.Frag}{mg:Str->eH}{fw:Heap}{f:Addr}{fd:Yi}{PT:Addr}
theorem Jo{α β:Type}{f:α->β}:∀{l:List α}{ps:List β},ps.Perm (l.map f)->∃out:List α,out.Perm l/\ps=out.map f:=λ{l ps} h=>by
 generalize e:l.map f=m at h;induction h generalizing l with
 |nil=>exact⟨[],by rw[List.map_eq_nil_iff.mp e],rfl⟩
 |cons x _ ih =>
  cases l with
  |nil=>cases e
  |cons y l =>
   injection e with e1 e2;let⟨o,p,q⟩:=ih e2;exact⟨y::o,p.cons y,by rw[List.map_cons,e1,q]⟩
 |swap x y l2 =>
  match l,e with
  |a::b::l,e =>
   injection e with e1 e;injection e with e2 e3;exact⟨b::a::l,.swap _ _ _,by rw[List.map_cons,List.map_cons,e1,e2,e3]⟩
 |trans _ _ ih1 ih2 =>
  let⟨o,p,q⟩:=ih2 e;let⟨c,d,g⟩:=ih1 q.symm;exact⟨c,d.trans p,g⟩
def U0:FnScope [aw] [aw] (aG (top 35)):=zC
def Gi:LamScope ["row"] [] (Oe (top 35)) []:=by
 have a:∀y∈(Oe (top 35)).names,y.2≠.free:=⋯
 refine⟨rfl,rfl,rfl,⋯,λx hx=>?_,λy hy=>(nomatch hy),⋯,λx h=>?_,λx y c h1 h2=>(nomatch h1)⟩
 ·rw[List.mem_singleton.mp hx];rfl
 ·exact ef rfl (a _ (PySem.mem_of_lookup h))
def Sh{cvs:List V}{c:Heap}{l j:Addr}{q g:Value}(hl:⇑cvs=0)(e:c.get? l=some (W.kla_obj "<lambda>" ioq (Vm (top 35)) (Vl (top 35)) (Oe (top 35)) [] q j g))(C:Caps c [] [] cvs) :
  ∃fd,FnOk P w K mg c CX0 3 l fd ["row"] (QK ioq gKy cvs j)/\Binds K fd ["row"] []:=by
 refine⟨_,Tc (cvs:=cvs) e (λ_ _ _ _ h=>h.1) Gi C (λvs H Q E h=>?_) (λA outer s H vs Q E hr h=>?_),.all λus hl=>?_⟩
 ·let⟨_,m,n,k,_,rfl,_⟩:=h;rfl
 ·let⟨x,m,n,k,rfl,rfl,t,⟨r,rfl,rfl⟩,kk⟩:=h;refine⟨_,(Wr.aV (Wr.aj (Wr.aH (Wr.dv 0) Wr.au) (Wr.aj (Wr.aH (Wr.dv 0) Wr.au) (Wr.aj (Wr.aH (Wr.dv 0) Wr.au) Wr.ak)))).h,?_⟩;refine⟨nQ,H,λ_=>none,[.im (rD r)],λk d=>d=.tuple [.int r.2.1,.int r.2.2,.int r.1],?_,?_,λkd d v H' hd A rp=>?_⟩
  ·refine⟨λ_ _ e _=>e,trivial,(λ_ _ e=>(nomatch e)),λi s e=>?_,rfl,trivial⟩;match i,e with
   |0,e=>cases e;exact⟨m,rfl,t.imm rfl⟩
  ·exact⟨_,rfl,_,rfl,_,rfl,zK,rfl⟩
  ·subst hd;let⟨a,vs,rfl,ha,u⟩:=rp.dX;have p:vs=[V.int r.2.1,V.int r.2.2,V.int r.1]:=Rps.ints (ns:=[r.2.1,r.2.2,r.1]) u;subst p;exact kk a H' (λb o e=>A.kp b o e λz=>z) ha
 ·obtain⟨_,rfl⟩:∃a,us=[a]:=by
   match us,hl with
   |[a],_=>exact⟨a,rfl⟩
  rfl
abbrev xIO(P:Za)(w:Zb)(K:W.Frag)(mg:Str->eH)(fw:Heap)(f c:Addr)(A:Zr)(outer:List Env)(s:Shared)(H:Hp)(E:XK):Cx:=(yQ CX0 P w K mg fw [aw] bi (aG (top 35)) f (.ref c) A outer s H E).nox
def Vd{c:Addr}{J kV i n u:Value}{L o:eD}{m:Array eH}(I:K.lookup f=some ⟨J,L,.func (W.fnOf bi bi (dI (top 35)) (bW (top 35)) (aG (top 35)) .none kV i n o (.ref c) u),m⟩)(hcd:W.codeIn K (.ref c) bi=true)(F:∀h:Heap,K.In h->W.CodeHd h c PT)(D:fw.BuiltinsAt mg PT)(B:Dl.Bn mg) :
  FnOk P w K mg fw CX0 9 f (W.fnOf bi bi (dI (top 35)) (bW (top 35)) (aG (top 35)) .none kV i n o (.ref c) u) [aw] (spT (xH PT) fIO):=by
 refine Qm (N:=[aw]) I hcd U0 Oa (λA outer s H vs Q E hr h=>?_);letI:=grU (xH PT);have g:∀{e:Zt}{te:DE}{p pos kp:Pos},Wr.WD (xIO P w K mg fw f c A outer s H E) e te->Zu [e] (xIO P w K mg fw f c A outer s H E).env=(false,Zv e (xIO P w K mg fw f c A outer s H E).env)::Zu [] (xIO P w K mg fw f c A outer s H E).env ->
   Wr.WD (xIO P w K mg fw f c A outer s H E) (.Call (.Name "sorted" p) [e] [⟨some "key",.Lambda (Vm (top 35)) (Vl (top 35)) (Oe (top 35)) (lamP (top 35)),kp⟩] pos) (Uj gKy te):=λ{e te p pos kp} he hs=>by
  refine⟨PE.wk (xJ (X:=xIO P w K mg fw f c A outer s H E) (c:=c) (P:=PT) (ys:=[]) (ps:=["row"]) (qual:=ioq) (k:=3) (cl:=[]) (spL:=QK ioq gKy) (λcvs base' fl c' n ctv hl e C=>Sh hl e C) (Room.in1 (Room.in1 (hr.mono (show 5<=8 by decide)))) rfl B.sorted he.h rfl rfl rfl rfl (F fw) (λ_=>D) (λ_=>rfl) ?_ ?_ hs) J1⟩
  ·intro y b h;exact nomatch h
  ·intro y G;exact nomatch G
 refine⟨_,PSs.nox (Wr.WDSs.h (Wr.aC (Wr.aL (g (Wr.dv 0) rfl)))),Te h ?_⟩;rintro ds P ⟨a,rfl,hl,hn,q⟩;have im:cG (a.map rD)=true:=lE λd hd=>by
  let⟨r,_,rfl⟩:=List.mem_map.mp hd;rfl
 refine⟨[.sh (.list (a.map rD))],rfl,?_⟩;refine⟨a.map rD,a.map kyR,rfl,λt ht=>?_,by rw[List.length_map,List.length_map],by rw[List.length_map];exact hl,λj x c h1 h2=>?_,λps hp hw=>?_⟩
 ·let⟨r,hr,rfl⟩:=List.mem_map.mp ht;exact hn r hr
 ·rw[List.getElem?_map]at h1 h2;let⟨r,hr,rfl⟩:=Option.map_eq_some_iff.mp h1;rw[hr]at h2;cases h2;exact⟨r,rfl,rfl⟩
 ·rw[ed im];refine⟨rfl,?_⟩;have z:((a.map kyR).map cH).zip (a.map rD)=a.map λr=>(cH (kyR r),rD r):=by
   rw[List.map_map,List.zip_map'];rfl
  rw[z]at hp;let⟨out,l,rfl⟩:=Jo hp;have v:(out.map λr=>(cH (kyR r),rD r)).map (·.2)=out.map rD:=by rw[List.map_map];rfl
  rw[v];refine q out ⟨l,?_⟩;rw[List.pairwise_map]at hw ⊢;exact hw
end
def G8(us:ez):Prop:=us.Pairwise λa b=>bA a<=bA b
def OkW.okn{n:Int}{us:ez}(h:OkW n us):OkN n us:=λt ht=>by
 let⟨a,b,c⟩:=h t ht;exact⟨⟨a,()⟩,⟨(),c⟩,()⟩
def OkN.nice{n:Int}{us:ez}(h:OkN n us)(hn:n<=16):∀t∈us,pW t:=λt ht=>by
 let⟨_,⟨a,b⟩,_⟩:=h t ht;exact⟨a,()⟩
def HD{us vs:ez}(hn:∀t∈us,pW t)(hs:G8 us)(hp:vs.Perm us)(hv:G8 vs):vs=us:=by
 refine List.Perm.eq_of_pairwise (le:=λa b=>bA a<=bA b) (λa b ha hb h1 h2=>?_) hv hs hp;exact code_inj (hn a (hp.mem_iff.mp ha)) (hn b hb) ()
def V3:FF:=λds P=>∃n us i j,ds=[bD n us,.int i,.int j]/\0<=i/\i<n/\0<=j/\j<n/\i≠j/\P .none
def VN:FF:=λds P=>∃n t,ds=[.int n,pD t]/\OkT n t/\P (.bool true)
def VJ:FF:=λds P=>∃n us,ds=[.int n,.tuple (us.map pD)]/\1<=n/\n<=16/\⇑us<=40/\OkN n us/\P (.bool true)
def fOW:FF:=λds P=>∃n us,ds=[bD n us]/\1<=n/\n<=16/\⇑us<=40/\OkN n us/\G8 us/\P (.bool true)
def VL:FF:=λds P=>∃n us,ds=[bD n us]/\1<=n/\n<=16/\⇑us<=40/\OkW n us/\G8 us/\P (.bool true)
def fSW:FF:=λds P=>∃(CL:et)(x:Int),ds=[.list (CL.map iD),.int x]/\⇑CL<=100/\(∀c∈CL,⇑c<=100)/\(∃c∈CL,x∈c)/\∀c∈CL,x∈c->P (iD c)
def VD:FF:=λds P=>∃(CL:et)(g:ew),ds=[.list (CL.map iD),iD g]/\⇑CL<=100/\(∀c∈CL,c≠[]/\⇑c<=100)/\⇑g<=100/\P (.list ((CL.filter λc=>decide (c.headD 0∈g)).map iD))
def at0{α:Type}(x:α)(r:List α):atI (x::r) 0=some x:=dh (j:=0) rfl
def lJ(F:Fun K bb bb (top 15) f fd)(B:Dl.Bn mg)(a:4∪bv∪[ar,av]∪spD V2):5∩[ar,"a","b"]∩spD V3:=by
 refine okT F (N:=[ar,"a","b"]) zC (λhr nd=>Wr.aq (Wr.lH (Wr.dc a hr (Wr.aj (Wr.dv 0) (Wr.aj (Wr.dv 1) Wr.ak))))
  (Wr.aq (Wr.lH (Wr.dc a hr (Wr.aj (Wr.dv 0) (Wr.aj (Wr.dv 2) Wr.ak))))
  (Wr.aC (Wr.cF (Wr.dO hr.units (Wr.dv 1) (Wr.dv 2)) (Wr.aC Wr.gW) Wr.aM)))) ?_
 rintro ds P ⟨n,us,i,j,rfl,b,h1,h2,c,d,q⟩;refine⟨[.im (bD n us),.im (.int i),.im (.int j)],pU rfl,?_⟩;refine⟨n,us,i,rfl,b,h1,n,us,j,rfl,h2,c,?_⟩;show if decide (i=j)=true then _ else _
 rw[d4 d];exact bw (A:=True) q
def FN(F:Fun K dA dA (top 17) f fd)(B:Dl.Bn mg)(a:kA2 P w K mg fw):3∩["n",av]∩spD VN:=by
 refine okT F (N:=["n",av]) zC (λhr nd=>Wr.aq (Wr.cF (Wr.wpt (Wr.iG (Wr.cJ (Wr.bT (Wr.bC kit_tuple B.isinstance (Wr.dv 1) (Wr.wty rfl B.tuple We)))) (Wr.fH (Wr.nG hr.units (Wr.cM B.len (Wr.aj (Wr.dv 1) Wr.ak)) Wr.au)))) (Wr.aC (Wr.aL Wr.jt)) Wr.aM)
  (Wr.aC (Wr.aL (Wr.fV (Wr.dc a hr (Wr.aj (Wr.dv 0) (Wr.aj (Wr.aH (Wr.dv 1) Wr.au) Wr.ak))) (Wr.fV (Wr.dc a hr (Wr.aj (Wr.dv 0) (Wr.aj (Wr.aH (Wr.dv 1) Wr.au) Wr.ak))) (Wr.iH (Wr.Af hr.units (Wr.aH (Wr.dv 1) Wr.au) (Wr.aH (Wr.dv 1) Wr.au)))))))) ?_
 rintro ds P ⟨n,t,rfl,ok,q⟩;refine⟨[.im (.int n),.im (pD t)],rfl,?_⟩;let⟨⟨b,c⟩,⟨d,e⟩,g⟩:=ok;refine bw (A:=True) (bw (A:=True) ?_);refine⟨.int t.1,rfl,n,t.1,rfl,b,c,?_⟩;refine bF (B:=True) ⟨.int t.2,rfl,n,t.2,rfl,d,e,?_⟩;refine bF (B:=True) ⟨.int t.1,rfl,.int t.2,rfl,rfl,?_⟩;show P (.bool (!decide (t.1=t.2)));rw[d4 g];exact q
def rR:([dP,"n","ties"]:List Str).Nodup:=⋯
def vL{a:Tok}{d:Tok}(F:Fun K ce ce (top 18) f fd)(B:Dl.Bn mg)(b:mg "MOST_PLACES"=some (.int 16 a))(g:mg "MOST_TIES"=some (.int 40 d))(j:kA1 P w K mg fw)(k:3∪dA∪["n",av]∪spD VN):4∩["n","ties"]∩spD VJ:=by
 refine okT F (N:=["n","ties"]) zC (λhr nd=>Wr.aq (Wr.cF (Wr.wpt (Wr.iG (Wr.cJ (Wr.bT (Wr.dc j hr (Wr.aj (Wr.dv 0) Wr.ak)))) (Wr.fH (Wr.cJ (Wr.pG Jz Jz Wr.au (Wr.dv 0) (Wr.jH rfl b ⟨_,rfl⟩)))))) (Wr.aC (Wr.aL Wr.jt)) Wr.aM)
  (Wr.aq (Wr.cF (Wr.wpt (Wr.iG (Wr.cJ (Wr.bT (Wr.nM B.isinstance (Wr.dv 1) (Wr.wty rfl B.list X9) (Wr.wty rfl B.tuple We)))) (Wr.fH (Wr.pF (Wr.cM B.len (Wr.aj (Wr.dv 1) Wr.ak)) (Wr.jH rfl g ⟨_,rfl⟩))))) (Wr.aC (Wr.aL Wr.jt)) Wr.aM)
  (Wr.aC (Wr.aL (Wr.rF rfl B.all Dl.boot_all (Wr.aj (Wr.gO [dP] rfl (Wr.bV (Wr.dv 1)) (λc=>(Wr.aF (i:=0) rR rfl zQ)) (λc=>Wr.cZ) (λc=>(Wr.dc k hr (Wr.aj (Wr.dv 1) (Wr.aj (Wr.dv 0) Wr.ak))))) Wr.ak)))))) ?_
 rintro ds P ⟨n,us,rfl,l,h,m,ok,q⟩;refine⟨[.im (.int n),.im (.tuple (us.map pD))],by show [d7 (.int n),d7 (.tuple (us.map pD))]=_;rw[show d7 (.tuple (us.map pD))=.im (.tuple (us.map pD))from ed (bK us)];rfl,?_⟩;refine⟨n,rfl,bw (A:=True) ?_⟩;show if decide ((1:Int)<=n)=true then _ else _
 rw[fy l];refine bF (B:=True) ?_;show if(!decide (n<=16))=true then _ else _
 rw[fy h];refine bw (A:=True) (bw (A:=True) ?_);show if decide ((40:Int)<(⇑(us.map pD):Int))=true then _ else _
 rw[List.length_map,d4 ()];refine bw (A:=True) (Ke us pD (λ_=>.bool true) .imm rfl () (λt ht A B hA=>bF (B:=True) ⟨n,t,rfl,ok t ht,rfl,hA⟩) ?_);refine⟨us.map λ_=>true,by rw[List.map_map];rfl,rfl,?_⟩;have e:(us.map λ_=>true).all id=true:=by rw[List.all_map];exact List.all_eq_true.mpr λ_ _=>rfl
 rw[e];exact q
def tY(F:Fun K bS bS (top 19) f fd)(B:Dl.Bn mg)(b:4∪ce∪["n","ties"]∪spD VJ):5∩[av]∩spD fOW:=by
 refine okT F (N:=[av]) zC (λhr nd=>Wr.aq (Wr.cF (Wr.wpt (Wr.iG (Wr.cJ (Wr.bT (Wr.bC kit_tuple B.isinstance (Wr.dv 0) (Wr.wty rfl B.tuple We)))) (Wr.fH (Wr.nG hr.units (Wr.cM B.len (Wr.aj (Wr.dv 0) Wr.ak)) Wr.au)))) (Wr.aC (Wr.aL Wr.jt)) Wr.aM)
  (Wr.aq (Wr.cF (Wr.wpt (Wr.iG (Wr.cJ (Wr.bT (Wr.dc b hr (Wr.aj (Wr.aH (Wr.dv 0) Wr.au) (Wr.aj (Wr.aH (Wr.dv 0) Wr.au) Wr.ak))))) (Wr.fH (Wr.cJ (Wr.bT (Wr.bC kit_tuple B.isinstance (Wr.aH (Wr.dv 0) Wr.au) (Wr.wty rfl B.tuple We))))))) (Wr.aC (Wr.aL Wr.jt)) Wr.aM)
  (Wr.aC (Wr.aL (Wr.jJ hr.units (Wr.nH B.sorted (Wr.aj (Wr.aH (Wr.dv 0) Wr.au) Wr.ak)) (Wr.qG B.list (Wr.aj (Wr.aH (Wr.dv 0) Wr.au) Wr.ak))))))) ?_
 rintro ds P ⟨n,us,rfl,d,a,c,ok,e,q⟩;refine⟨[.im (bD n us)],pU rfl,?_⟩;refine bw (A:=True) (bw (A:=True) ?_);refine⟨_,rfl,_,rfl,n,us,rfl,d,a,c,ok,bw (A:=True) ⟨_,rfl,bw (A:=True) ?_⟩⟩;refine⟨_,rfl,us,.inr rfl,(),ok.nice a,λvs hp hs=>?_⟩;obtain rfl:=HD (ok.nice a) e hp hs;refine⟨_,rfl,.inl ⟨bK vs,(Dh vs).1,(Dh vs).1,rfl,?_⟩⟩;show P (.bool (PyData.eqv (.list (vs.map pD)) (.list (vs.map pD))));rw[Ot,fy rfl];exact q
def xZ:([dP,av]:List Str).Nodup:=⋯
def FJ(F:Fun K dC dC (top 20) f fd)(B:Dl.Bn mg)(b:5∪bS∪[av]∪spD fOW):6∩[av]∩spD VL:=by
 refine okT F (N:=[av]) zC (λhr nd=>Wr.aC (Wr.aL (Wr.fV (Wr.dc b hr (Wr.aj (Wr.dv 0) Wr.ak)) (Wr.iH (Wr.rF rfl B.all Dl.boot_all (Wr.aj (Wr.gO [dP] rfl (Wr.bV (Wr.aH (Wr.dv 0) Wr.au)) (λc=>(Wr.aF (i:=0) xZ rfl zQ)) (λc=>Wr.cZ) (λc=>(Wr.Jw (Wr.aH (Wr.dv 0) Wr.au) (Wr.aH (Wr.dv 0) Wr.au)))) Wr.ak)))))) ?_;rintro ds P ⟨n,us,rfl,g,a,d,ok,h,q⟩;refine⟨[.im (bD n us)],pU rfl,?_⟩;refine⟨n,us,rfl,g,a,d,ok.okn,h,bF (B:=True) ⟨_,rfl,?_⟩⟩;refine Ke us pD (λ_=>.bool true) .imm rfl () (λt ht A B hA=>bF (B:=True) ⟨.int t.1,rfl,.int t.2,rfl,?_⟩) ?_
 ·refine⟨rfl,?_⟩;show A (.bool (decide (t.1<t.2)));rw[fy (ok t ht).2.1];exact hA
 refine⟨us.map λ_=>true,by rw[List.map_map];rfl,rfl,?_⟩;have e:(us.map λ_=>true).all id=true:=by rw[List.all_map];exact List.all_eq_true.mpr λ_ _=>rfl
 rw[e];exact q
def pY:FnScope [bo,bq] [bo,bq] (aG (top 36)):=zC
def uf:(["some",bo,bq]:List Str).Nodup:=⋯
def xO(F:Fun K cy cy (top 36) f fd)(B:Dl.Bn mg):1∩[bo,bq]∩spR fSW:=by
 refine F.ok pY Dq (λcdv A outer s H vs Q E hr h=>?_);have l:=pY.nd;refine⟨_,Dl.WR.h (Dl.Ig (Wr.aH (Wr.gO ["some"] rfl (Wr.bV (Wr.dv 0)) (λc=>(Wr.aF (i:=0) uf rfl zQ)) (λc=>(Wr.dU (Wr.jE hr.units (Wr.dv 2) (Wr.dv 0)))) (λc=>(Wr.dv 0))) Wr.au)),K6 h ?_⟩;rintro ds P ⟨b,x,rfl,j,k,d,q⟩;refine⟨[.sh (.list (b.map iD)),.im (.int x)],rfl,?_⟩;refine oh b iD (λc=>decide (x∈c)) iD .shr rfl () ?_ ?_
 ·intro c hc A B h1 h2;refine⟨rfl,dR c,?_⟩;show if((c.map PyData.int).any λe=>PyData.eqv e (.int x))=true then _ else _
  rw[Dl.any_ints];by_cases a:x∈c
  ·rw[fy a];exact bF (B:=True) ⟨rfl,h1 (fy a)⟩
  ·rw[d4 a];exact bw (A:=True) (h2 (d4 a))
 ·let⟨c,hc,a⟩:=d;have hm:c∈b.filter λc=>decide (x∈c):=List.mem_filter.mpr ⟨hc,fy a⟩;cases e:b.filter λc=>decide (x∈c)with
  |nil=>rw[e]at hm;exact nomatch hm
  |cons c0 r =>
   have g:c0∈b.filter λc=>decide (x∈c):=by rw[e];exact List.mem_cons_self
   let⟨h1,h2⟩:=List.mem_filter.mp g;exact⟨iD c0,at0 _ _,q c0 h1 (d5 h2)⟩
def jy:FnScope [bo,dV] [bo,dV] (aG (top 37)):=zC
def pL:(["some",bo,dV]:List Str).Nodup:=⋯
def rJ(F:Fun K bz bz (top 37) f fd)(B:Dl.Bn mg):1∩[bo,dV]∩spR VD:=by
 refine F.ok jy Dq (λcdv A outer s H vs Q E hr h=>?_);have l:=jy.nd;refine⟨_,Dl.WR.h (Dl.Ig (Wr.gO ["some"] rfl (Wr.bV (Wr.dv 0)) (λc=>(Wr.aF (i:=0) pL rfl zQ)) (λc=>(Wr.dU (Wr.jE hr.units (Wr.aH (Wr.dv 0) Wr.au) (Wr.dv 2)))) (λc=>(Wr.dv 0)))),K6 h ?_⟩;rintro ds P ⟨b,g,rfl,j,d,k,q⟩;refine⟨[.sh (.list (b.map iD)),.sh (iD g)],rfl,?_⟩;refine oh b iD (λc=>decide (c.headD 0∈g)) iD .shr rfl () ?_ q;intro c hc A B h1 h2;let⟨hn,_⟩:=d c hc;cases c with
 |nil=>exact(hn rfl).elim
 |cons y r =>
  refine⟨.int y,at0 _ _,rfl,dR g,?_⟩;show if((g.map PyData.int).any λe=>PyData.eqv e (.int y))=true then _ else _
  rw[Dl.any_ints];by_cases a:y∈g
  ·rw[fy a];exact bF (B:=True) ⟨rfl,h1 (fy a)⟩
  ·rw[d4 a];exact bw (A:=True) (h2 (d4 a))
def Rw(p:List T3×Int):D:=.tuple [.list (p.1.map rD),.int p.2]
def kG(l:Addr)(a b c:D)(ds:eI):FS:=[(bc,.nb a),(aw,.nb b),(az,.nb c),(bp,.ls l ds)]
def Qk:((aw:Str)==bc)=false/\((az:Str)==bc)=false/\((az:Str)==aw)=false/\((bp:Str)==bc)=false/\((bp:Str)==aw)=false/\((bp:Str)==az)=false:=⋯
def jX(l:Addr)(a b c:D)(ds:eI):List.lookup (bc:Str) (kG l a b c ds)=some (.nb a)/\List.lookup (aw:Str) (kG l a b c ds)=some (.nb b)/\List.lookup (az:Str) (kG l a b c ds)=some (.nb c)/\List.lookup (bp:Str) (kG l a b c ds)=some (.ls l ds):=by
 let⟨h1,h2,d,e,f,g⟩:=Qk;refine⟨?_,?_,?_,?_⟩ <;> simp[kG,List.lookup,h1,h2,d,e,f,g]
def Bf(l:Addr)(a b c d:D)(ds es:eI):eO aw (.nb d) (kG l a b c ds)=kG l a d c ds/\eO az (.nb d) (kG l a b c ds)=kG l a b d ds/\eO bp (.ls l es) (kG l a b c ds)=kG l a b c es:=by
 have e:¬((bc:Str)=aw):=⋯
 have f:¬((bc:Str)=az):=⋯
 have g:¬((bc:Str)=bp):=⋯
 have h:¬((aw:Str)=az):=⋯
 have i:¬((aw:Str)=bp):=⋯
 have j:¬((az:Str)=bp):=⋯
 refine⟨?_,?_,?_⟩ <;> simp[kG,eO,e,f,g,h,i,j]
def fJ(l:Addr)(a b c:D)(ds:eI):List.lookup (ar:Str) (kG l a b c ds)=none/\List.lookup ("names":Str) (kG l a b c ds)=none/\List.lookup (bg:Str) (kG l a b c ds)=none/\List.lookup (dl:Str) (kG l a b c ds)=none/\List.lookup ("ties":Str) (kG l a b c ds)=none/\List.lookup ("put":Str) (kG l a b c ds)=none/\List.lookup ("drop":Str) (kG l a b c ds)=none/\List.lookup ("back":Str) (kG l a b c ds)=none/\List.lookup (cc:Str) (kG l a b c ds)=none/\List.lookup ("of_one_piece":Str) (kG l a b c ds)=none:=by
 have h:∀x:Str,(x==(bc:Str))=false->(x==(aw:Str))=false->(x==(az:Str))=false->(x==(bp:Str))=false->List.lookup x (kG l a b c ds)=none:=λx h1 h2 h3 h4=>by simp[kG,List.lookup,h1,h2,h3,h4]
 refine⟨?_,?_,?_,?_,?_,?_,?_,?_,?_,?_⟩ <;> exact h _ ⋯ ⋯ ⋯ ⋯
def kF(l:Addr)(n:Int)(b:List T3)(a:Int)(ps:List (List T3×Int)):FS:=kG l (.int n) (.list (b.map rD)) (.int a) (ps.map Rw)
def Lx{r:Nat}{x a:Addr}{b:FS}{ρ:List Sl}:zx (.gn r (shG (some a) x b)::ρ) 0 (some a) b:=⟨r,x,.inr rfl⟩
def oV{r:Nat}{x a:Addr}{b:FS}{ρ:List Sl}:zx (.gn r (bJ (some a) x b)::ρ) 0 (some a) b:=⟨r,x,.inl rfl⟩
def Km(a:List T3):cG (a.map rD)=true:=lE λd hd=>by
 let⟨r,_,rfl⟩:=List.mem_map.mp hd;rfl
structure KOk(n:Int)(rs:List T3)(fr:Int):Prop where
 n1:1<=n
 n16:n<=16
 len:⇑rs<=40
 rw:∀r∈rs,(0<=r.1/\r.1<fr)/\0<=r.2.1/\r.2.1<r.2.2/\r.2.2<n
 nd:(rs.map (·.1)).Nodup
 fb:fr<=1000
def KOk.nice{n:Int}{f:List T3}{g:Int}(h:KOk n f g):∀r∈f,iz (kyR r):=λr hr=>by
 let⟨⟨a,b⟩,c,d,e⟩:=h.rw r hr;have:=h.n16;have:=h.fb;exact⟨⟨by show 0<=r.2.2;lia,by show r.2.2<64;lia⟩,a,by show r.1<4096;lia⟩
def KOk.okw{n:Int}{a out:List T3}{b:Int}(h:KOk n a b)(p:out.Perm a):OkW n (out.map dM):=λt ht=>by
 let⟨r,hr,rfl⟩:=List.mem_map.mp ht;exact(h.rw r (p.mem_iff.mp hr)).2
def je(d:List T3)(c a b:Int):List T3:=d++[(c,if b<a then b else a,if b > a then b else a)]
def IV{n:Int}{d:List T3}{c a b:Int}(h:KOk n d c)(l:⇑d<40)(f:c<1000)(e:0<=c)(g:0<=a)(i:a<n)(b0:0<=b)(b1:b<n)(j:a≠b):KOk n (je d c a b) (c+1):=by
 refine⟨h.n1,h.n16,by unfold je;rw[List.length_append,List.length_singleton];lia,λr hr=>?_,?_,()⟩
 ·rcases List.mem_append.mp hr with z|z
  ·let⟨⟨p,q⟩,s⟩:=h.rw r z;exact⟨⟨p,()⟩,s⟩
  ·have z:r=(c,if b<a then b else a,if b > a then b else a):=List.mem_singleton.mp z;subst z;refine⟨⟨e,by show c<c+1;lia⟩,?_⟩;dsimp only;split <;> split <;> lia
 ·unfold je;rw[List.map_append,List.map_singleton];refine List.nodup_append.mpr ⟨h.nd,by simp,λx hx y hy=>?_⟩;let⟨r,hr,rfl⟩:=List.mem_map.mp hx;have:=(h.rw r hr).1.2;have:y=c:=List.mem_singleton.mp hy;lia
def PJ{us:ez}{n:Int}{c:ew}(h:c∈pcI us n):c≠[]:=by
 unfold pcI fB at h;let⟨a,ha,rfl⟩:=List.mem_map.mp h;have:=(List.mem_filter.mp ha).2;unfold eE at this;have:=d5 this;intro z;unfold zI at z;rw[List.map_eq_nil_iff.mp z]at this;cases this
def cA(us:ez):List T3:=us.zipIdx.map λp=>(~~~p.2,p.1.1,p.1.2)
structure KT(K:W.Frag)(C:Addr):Prop where
 cl:Cls K C
 size_:fD K C bc
 rows_:fD K C aw
 fresh_:fD K C az
 past_:fD K C bp
def Eb(a:FS)(ds:eI)(P:D->Prop):Prop:=∃l n rs fr ps,a=kF l n rs fr ps/\ds=[]/\KOk n rs fr/\∀out,Ord rs out->P (bD n (out.map dM))
def yK(a:FS)(ds:eI)(P:D->Prop):Prop:=∃l n rs fr ps,a=kF l n rs fr ps/\ds=[]/\KOk n rs fr/\∀out,Ord rs out->P (.list ((pcI (out.map dM) n).map iD))
def KR(x:Addr)(a:FS)(ds:eI)(P:FS->D->Prop):Prop:=∃l n rs fr ps rs' fr',a=kF l n rs fr ps/\ds=[.list (rs'.map rD),.int fr']/\⇑ps<900/\P (kF l n rs' fr' (ps++[(rs,fr)])) .none
def inP(P:et)(g:ew):et:=P.filter λc=>decide (c.headD 0∈g)
def KN(x:Addr)(c:FS)(ds:eI)(P:FS->D->Prop):Prop:=∃l n rs fr ps a b,c=kF l n rs fr ps/\ds=[.int a,.int b]/\KOk n rs fr/\⇑rs<40/\fr<1000/\0<=fr/\⇑ps<900/\0<=a/\a<n/\0<=b/\b<n/\a≠b /\
 ∀out out2 g,Ord rs out->Ord (je rs fr a b) out2->g∈pcI (out2.map dM) n->a∈g->P (kF l n (je rs fr a b) (fr+1) (ps++[(rs,fr)])) (.tuple [.int fr,.list (if 1<⇑(inP (pcI (out.map dM) n) g) then(inP (pcI (out.map dM) n) g).map iD else [])])
def KQ(x:Addr)(a:FS)(ds:eI)(P:FS->D->Prop):Prop:=∃n us,a=[]/\ds=[bD n us]/\1<=n/\n<=16/\⇑us<=40/\OkW n us/\G8 us/\∀l,l≠x->P (kF l n (cA us) (⇑us:Int) []) .none
section
variable{P:Za}{w:Zb}{K:W.Frag}{mg:Str->eH}{fw:Heap}{f:Addr}{fd:Yi} [Tt]
def Ia:FnScope [ay] [ay] (aG (inClass (top 38) 1)):=zC
def lY:FnScope [ay] [ay] (aG (inClass (top 38) 2)):=zC
def qt:(["row",ay]:List Str).Nodup:=⋯
def tZ{a:Addr}(F:Fun K ar "Keeper.web" (inClass (top 38) 2) f fd)(B:Dl.Bn mg)(b:9∪bi∪[aw]∪spT Tt.T fIO)(T:KT K a):10∩[ay]∩spQ a Eb:=by
 refine F.ok lY Dr (λcdv A outer s H vs Q E hr h=>?_);have k:=lY.nd;refine⟨_,Wr.WDSs.h (Wr.aC (Wr.aL (Wr.aV (Wr.aj (Dl.jK (Dl.gj T.cl T.size_ (Wr.wv 0))) (Wr.aj (Wr.kZ B.tuple (Wr.aj (Wr.gO ["row"] rfl (Wr.bV (Wr.dcS b hr (Wr.aj (Dl.jK (Dl.gj T.cl T.rows_ (Wr.wv 0))) Wr.ak))) (λc=>(Wr.aF (i:=0) qt rfl zQ)) (λc=>Wr.cZ) (λc=>(Wr.aV (Wr.aj (Wr.aH (Wr.dv 0) Wr.au) (Wr.aj (Wr.aH (Wr.dv 0) Wr.au) Wr.ak))))) Wr.ak)) Wr.ak))))),Ed h ?_⟩;rintro x j ds P ⟨l,n,d,g,ps,rfl,rfl,ok,q⟩;refine⟨[],rfl,?_⟩;refine⟨_,_,Lx,(jX ..).1,?_⟩;refine⟨_,_,Lx,(jX ..).2.1,d,rfl,by have:=ok.len;lia,ok.nice,λout ho=>?_⟩;have hl:⇑out<=40:=by rw[ho.1.length_eq];exact ok.len
 refine Ke out rD (λr=>pD (dM r)) .imm rfl () (λr hr A B hA=>bF (B:=True) ⟨_,rfl,_,rfl,zK,rfl,hA⟩) ?_;refine⟨zK,?_⟩;have e:out.map (λr=>pD (dM r))=(out.map dM).map pD:=by rw[List.map_map];rfl
 show(norm _ (.tuple [.int n,.tuple (out.map λr=>pD (dM r))])).le .n0=true/\P (.tuple [.int n,.tuple (out.map λr=>pD (dM r))]);rw[e];refine⟨?_,q out ho⟩;show(norm _ (bD n (out.map dM))).le .n0=true;rw[fM (lC _ _)];rfl
def iJ:FnScope [ay] [ay] (aG (inClass (top 38) 4)):=zC
def pJ{b:Addr}(F:Fun K bg dr (inClass (top 38) 4) f fd)(B:Dl.Bn mg)(c:8∪"tree"∪[ar]∪spD Qn)(a:Dl.CalM P w K mg fw b 10 ar [ay] (spQ b Eb)):11∩[ay]∩spQ b yK:=by
 refine F.ok iJ Dr (λcdv A outer s H vs Q E hr h=>?_);have i:=iJ.nd;refine⟨_,Wr.WDSs.h (Wr.aC (Wr.aL (Wr.aH (Wr.dc c hr (Wr.aj (Dl.yP a hr (Wr.wv 0)) Wr.ak)) Wr.au))),Ed h ?_⟩;rintro x g ds P ⟨l,n,e,d,ps,rfl,rfl,ok,q⟩;refine⟨[],rfl,?_⟩;refine⟨_,Lx,(fJ ..).1,l,n,e,d,ps,rfl,rfl,ok,λout ho=>?_⟩;have hl:⇑out<=40:=by rw[ho.1.length_eq];exact ok.len
 refine⟨n,_,rfl,ok.n1,ok.n16,by rw[List.length_map];lia,(ok.okw ho.1).okn,_,at0 _ _,?_⟩;refine⟨?_,q out ho⟩;rfl
def iK:FnScope [ay,aw,az] [ay,aw,az] (aG (inClass (top 38) 7)):=zC
def pK{i:Addr}(F:Fun K dl dt (inClass (top 38) 7) f fd)(B:Dl.Bn mg)(T:KT K i):1∩[ay,aw,az]∩spM i KR:=by
 refine F.ok iK vR (λcdv A outer s H vs Q E hr h=>?_);have p:=iK.nd;refine⟨_,Dl.WJs.h (Dl.bU (Dl.fW (Dl.OD (gb (uJ PySem.F.plainAttrs_list PySem.F.slot_list_append PySem.F.type_list_append iV (Dl.gj T.cl T.past_ (Wr.wv 0)) (Wr.aj (Wr.aV (Wr.aj (Dl.jK (Dl.gj T.cl T.rows_ (Wr.wv 0))) (Wr.aj (Dl.jK (Dl.gj T.cl T.fresh_ (Wr.wv 0))) Wr.ak))) Wr.ak).h))))
  (Dl.bU (Dl.fW (Dl.sV (Dl.jA T.cl T.rows_ (Wr.wv 0) (Wr.dv 1))))
  (Dl.yx (Dl.fW (Dl.sV (Dl.jA T.cl T.fresh_ (Wr.wv 0) (Wr.dv 2))))))),Bx h ?_⟩
 rintro x o ds P ⟨l,n,g,c,ps,b,e,rfl,rfl,hl,q⟩;refine⟨[.sh (.list (b.map rD)),.im (.int e)],rfl,?_⟩;refine⟨0,x,_,l,_,rfl,(jX ..).2.2.2,rfl,?_⟩;refine⟨_,_,oV,(jX ..).2.1,_,_,oV,(jX ..).2.2.1,zK,rfl,by rw[List.length_map];lia,?_⟩;have j:eO bp (.ls l (ps.map Rw++[.tuple [.list (g.map rD),.int c]])) (kF l n g c ps)=kF l n g c (ps++[(g,c)]):=by
  unfold kF;rw[(Bf (d:=.none) ..).2.2,List.map_append];rfl
 dsimp only;show uo _ _ _ [.gn 0 (bJ (some i) x (eO bp (.ls l (ps.map Rw++[.tuple [.list (g.map rD),.int c]])) (kF l n g c ps))),.sh (.list (b.map rD)),.im (.int e)];rw[j];refine⟨0,x,_,rfl,rfl,(show 4<900 by decide),(λz=>nomatch z),?_⟩;have k:eO aw (.nb (.list (b.map rD))) (kF l n g c (ps++[(g,c)]))=kF l n b c (ps++[(g,c)]):=(Bf (es:=[]) ..).1;dsimp only;show jOf _ _ [.gn 0 (bJ (some i) x (eO aw (.nb (.list (b.map rD))) (kF l n g c (ps++[(g,c)])))),.sh (.list (b.map rD)),.im (.int e)];rw[k];refine⟨0,x,_,rfl,rfl,(show 4<900 by decide),(λz=>nomatch z),?_⟩;have m:eO az (.nb (.int e)) (kF l n b c (ps++[(g,c)]))=kF l n b e (ps++[(g,c)]):=(Bf (es:=[]) ..).2.1;dsimp only;show Ma i x _ _ [.gn 0 (bJ (some i) x (eO az (.nb (.int e)) (kF l n b c (ps++[(g,c)])))),.sh (.list (b.map rD)),.im (.int e)];rw[m];exact⟨_,rfl,λa h=>h,q⟩
def gM:FnScope [ay,ar] [ay,ar] (aG (inClass (top 38) 0)):=zC
def fO:([be,dP,ay,ar]:List Str).Nodup:=⋯
def mK{b:Addr}(F:Fun K "__init__" db (inClass (top 38) 0) f fd)(B:Dl.Bn mg)(u:mg da=none)(v:6∪dC∪[av]∪spD VL)(T:KT K b):7∩[ay,ar]∩spM b KQ:=by
 refine F.ok gM vR (λcdv A outer s H vs Q E hr h=>?_);have S:=gM.nd;refine⟨_,Dl.WJs.h (Dl.bU (Dl.fW (Wr.cF (Wr.cJ (Wr.bT (Wr.dc v hr (Wr.aj (Wr.dv 1) Wr.ak)))) (Wr.aC Wr.gW) Wr.aM))
  (Dl.bU (Dl.fW (Dl.sV (Dl.jA T.cl T.size_ (Wr.wv 0) (Wr.aH (Wr.dv 1) Wr.au))))
  (Dl.bU (Dl.fW (Dl.sV (Dl.jA T.cl T.rows_ (Wr.wv 0) (Wr.gO [be,dP] rfl (Wr.oR u (Wr.aj (Wr.aH (Wr.dv 1) Wr.au) Wr.ak)) (λc=>(Wr.jo (n:=2) rfl (Wr.bQ (Wr.aF (i:=0) fO rfl zQ) (Wr.bQ (Wr.aF (i:=1) fO rfl zQ) Wr.gC)))) (λc=>Wr.cZ) (λc=>(Wr.aV (Wr.aj (Wr.dv 0) (Wr.aj (Wr.aH (Wr.dv 1) Wr.au) (Wr.aj (Wr.aH (Wr.dv 1) Wr.au) Wr.ak)))))))))
  (Dl.bU (Dl.fW (Dl.sV (Dl.jA T.cl T.fresh_ (Wr.wv 0) (Wr.cM B.len (Wr.aj (Dl.jK (Dl.gj T.cl T.rows_ (Wr.wv 0))) Wr.ak)))))
  (Dl.yx (Dl.fW (Dl.Oz (Dl.Jc T.cl T.past_ (Wr.wv 0))))))))),Bx h ?_⟩
 rintro x R ds P ⟨n,us,rfl,rfl,N,e,M,ok,O,q⟩;refine⟨[.im (bD n us)],pU rfl,?_⟩;refine⟨n,us,rfl,N,e,M,ok,O,bw (A:=True) ?_⟩;refine⟨.int n,rfl,0,x,_,rfl,rfl,(show 0<900 by decide),(λz=>nomatch z),?_⟩;dsimp only;show uo _ _ _ [.gn 0 (bJ (some b) x [(bc,.nb (.int n))]),.im (bD n us)];have d:¬((bc:Str)=aw):=⋯
 have g:¬((bc:Str)=az):=⋯
 have j:¬((bc:Str)=bp):=⋯
 have m:¬((aw:Str)=az):=⋯
 have o:¬((aw:Str)=bp):=⋯
 have r:¬((az:Str)=bp):=⋯
 refine⟨.tuple (us.map pD),rfl,?_⟩;refine Ke us.zipIdx (λp=>PyData.tuple [.int (~~~p.2),pD p.1]) (λp=>rD (~~~p.2,p.1.1,p.1.2)) .imm (enum_zip us) (by rw[List.length_zipIdx];lia) ?_ ?_
 ·rintro⟨t,k⟩ hk A B I;exact⟨rfl,bF (B:=True) ⟨.int t.1,rfl,.int t.2,rfl,zK,rfl,I⟩⟩
 have G:(us.zipIdx.map λp:Tie×Nat=>rD (~~~p.2,p.1.1,p.1.2))=(cA us).map rD:=by
  unfold cA;rw[List.map_map];rfl
 refine⟨0,x,_,rfl,rfl,(show 1<900 by decide),(λz=>nomatch z),?_⟩;rw[G];have y:eO aw (.nb (.list ((cA us).map rD))) [((bc:Str),.nb (.int n))]=([(bc,.nb (.int n)),(aw,.nb (.list ((cA us).map rD)))]:FS):=by simp[eO,d]
 dsimp only;show uo _ _ _ [.gn 0 (bJ (some b) x (eO aw (.nb (.list ((cA us).map rD))) [(bc,.nb (.int n))])),.im (bD n us)];rw[y];have J:List.lookup (aw:Str) ([(bc,.nb (.int n)),(aw,.nb (.list ((cA us).map rD)))]:FS)=some (.nb (.list ((cA us).map rD))):=by simp[List.lookup,Qk.1]
 refine⟨_,_,oV,J,0,x,_,rfl,rfl,(show 2<900 by decide),(λz=>nomatch z),?_⟩;have L:⇑((cA us).map rD)=⇑us:=by rw[List.length_map];unfold cA;rw[List.length_map,List.length_zipIdx]
 have C:eO az (.nb (.int (⇑((cA us).map rD):Int))) [((bc:Str),.nb (.int n)),(aw,.nb (.list ((cA us).map rD)))]=([(bc,.nb (.int n)),(aw,.nb (.list ((cA us).map rD))),(az,.nb (.int (⇑us:Int)))]:FS):=by rw[L];simp[eO,g,m]
 dsimp only;show jOf _ _ [.gn 0 (bJ (some b) x (eO az (.nb (.int (⇑((cA us).map rD):Int))) [(bc,.nb (.int n)),(aw,.nb (.list ((cA us).map rD)))])),.im (bD n us)];rw[C];refine⟨0,x,_,rfl,(show 3<900 by decide),(λz=>nomatch z),λl hl=>?_⟩;have D:eO bp (.ls l []) [((bc:Str),.nb (.int n)),(aw,.nb (.list ((cA us).map rD))),(az,.nb (.int (⇑us:Int)))]=kF l n (cA us) (⇑us:Int) []:=by simp[eO,j,o,r,kF,kG]
 dsimp only;show Ma b x _ _ [.gn 0 (bJ (some b) x (eO bp (.ls l []) [(bc,.nb (.int n)),(aw,.nb (.list ((cA us).map rD))),(az,.nb (.int (⇑us:Int)))])),.im (bD n us)];rw[D];exact⟨_,rfl,(λa h=>nomatch h),q l λz=>hl (by rw[z];exact List.mem_cons_self)⟩
def lZ:FnScope [ay,"a","b","before","name",bo] [ay,"a","b"] (aG (inClass (top 38) 8)):=zC
def ud{d:Tok}{r:Addr}(F:Fun K "put" "Keeper.put" (inClass (top 38) 8) f fd)(B:Dl.Bn mg)(k:mg "MOST_TIES"=some (.int 40 d))(O:5∪bb∪[ar,"a","b"]∪spD V3)(R:1∪bz∪[bo,dV]∪spR VD)(N:1∪cy∪[bo,bq]∪spR fSW)(T:KT K r)(t:Dl.CalM P w K mg fw r 10 ar [ay] (spQ r Eb))(e:Dl.CalM P w K mg fw r 11 bg [ay] (spQ r yK))(p:Dl.CalM P w K mg fw r 1 dl [ay,aw,az] (spM r KR)):12∩[ay,"a","b"]∩spM r KN:=by
 refine F.ok lZ vR (λcdv A outer s H vs Q E hr h=>?_);have I:=lZ.nd;refine⟨_,Dl.WJs.h (Dl.bU (Dl.fW (Wr.lH (Wr.dc O hr (Wr.aj (Dl.yP t hr (Wr.wv 0)) (Wr.aj (Wr.dv 1) (Wr.aj (Wr.dv 2) Wr.ak))))))
  (Dl.bU (Dl.fW (Wr.cF (Wr.Ad (Wr.cM B.len (Wr.aj (Dl.jK (Dl.gj T.cl T.rows_ (Wr.wv 0))) Wr.ak)) (Wr.jH rfl k ⟨_,rfl⟩)) (Wr.aC Wr.gW) Wr.aM))
  (Dl.bU (Dl.fW (Dl.Eh 99 (i:=3) I rfl zQ (Dl.yP e hr (Wr.wv 0))))
  (Dl.bU (Dl.fW (Wr.aO none (i:=4) I rfl zQ (Dl.jK (Dl.gj T.cl T.fresh_ (Wr.wv 0)))))
  (Dl.bU (Dl.fW (Dl.Lb (Dl.T9 p hr (Wr.wv 0) (Wr.aj (Wr.bG (Dl.jK (Dl.gj T.cl T.rows_ (Wr.wv 0))) (Wr.bM (Wr.aj (Wr.aV (Wr.aj (Wr.dv 4) (Wr.aj (Wr.qF rfl B.min (Wr.aj (Wr.dv 1) (Wr.aj (Wr.dv 2) Wr.ak))) (Wr.aj (Wr.vI rfl B.max (Wr.aj (Wr.dv 1) (Wr.aj (Wr.dv 2) Wr.ak))) Wr.ak)))) Wr.ak))) (Wr.aj (Wr.bG (Wr.dv 4) Wr.au) Wr.ak)))))
  (Dl.bU (Dl.fW (Dl.K9 99 (i:=5) I rfl zQ R hr (Wr.aj (Wr.dv 3) (Wr.aj (Dl.W9 N hr (Wr.aj (Dl.yP e hr (Wr.wv 0)) (Wr.aj (Wr.dv 1) Wr.ak))) Wr.ak))))
  (Dl.yx (Dl.Kh (Wr.aV (Wr.aj (Wr.dv 4) (Wr.aj (Wr.jG (Wr.pF (Wr.cM B.len (Wr.aj (Wr.dv 5) Wr.ak)) Wr.au) (Wr.dv 5) (Wr.bM Wr.ak)) Wr.ak))))))))))),Bx h ?_⟩
 rintro x fs ds P ⟨l,n,o,m,ps,a,b,rfl,rfl,ok,G,u,U,X,z,C,b0,b1,y,q⟩;refine⟨[.im (.int a),.im (.int b),.any,.any,.any],rfl,?_⟩;refine⟨_,oV,(fJ ..).1,l,n,o,m,ps,rfl,rfl,ok,λout0 ho0=>?_⟩;refine⟨n,_,a,b,rfl,z,C,b0,b1,y,?_⟩;refine⟨_,_,oV,(jX ..).2.1,?_⟩;show if decide ((40:Int)<=(⇑(o.map rD):Int))=true then _ else _
 rw[List.length_map,d4 ()];refine bw (A:=True) ?_;refine⟨_,oV,(fJ ..).2.2.1,l,n,o,m,ps,rfl,rfl,ok,λout ho=>?_⟩;refine⟨rfl,?_⟩;refine⟨_,_,oV,(jX ..).2.2.1,?_⟩;dsimp only;show uo _ _ _ [.gn 0 (bJ (some r) x (kF l n o m ps)),.im (.int a),.im (.int b),.dw 99 (.list ((pcI (out.map dM) n).map iD)),.im (.int m),.any];refine⟨0,x,_,rfl,∅,(fJ ..).2.2.2.1,?_⟩;have Y:⇑(o.map rD)=⇑o:=List.length_map ..;refine⟨_,_,oV,(jX ..).2.1,zK,zK,?_⟩;have ep:o.map rD++[.tuple [.int m,.int (if b<a then b else a),.int (if b > a then b else a)]]=(je o m a b).map rD:=by
  unfold je;rw[List.map_append];rfl
 refine⟨by show(o.map rD).length+1<=1000;rw[Y];lia,.inl ⟨by show cG (o.map rD++[.tuple [.int m,.int (if b<a then b else a),.int (if b > a then b else a)]])=true;rw[ep];exact Km _,?_⟩⟩;refine⟨List.forall_mem_cons.mpr ⟨rfl,List.forall_mem_cons.mpr ⟨rfl,(λ_ h=>nomatch h)⟩⟩,l,n,o,m,ps,je o m a b,m+1,rfl,by rw[←ep];rfl,X,(λa h=>h),?_⟩;dsimp only;show uo _ _ _ [.gn 0 (bJ (some r) x (kF l n (je o m a b) (m+1) (ps++[(o,m)]))),.im (.int a),.im (.int b),.dw 99 (.list ((pcI (out.map dM) n).map iD)),.im (.int m),.any];have J:=IV ok G u U z C b0 b1 y;refine⟨_,oV,(fJ ..).2.2.1,l,n,_,_,_,rfl,rfl,J,λout2 ho2=>?_⟩;let⟨S,D,l1,L⟩:=iT (out2.map dM) (show 0<=n by lia);let⟨_,_,l3,W⟩:=iT (out.map dM) (show 0<=n by lia);have Z:=ok.n16;refine⟨pcI (out2.map dM) n,a,rfl,(),λc hc=>by have:=L c hc;lia,?_,λg hg hag=>?_⟩
 ·let⟨j,c,V,hc⟩:=D a z C;exact⟨c,List.mem_of_getElem? V,hc⟩
 refine⟨List.forall_mem_cons.mpr ⟨.inr rfl,List.forall_mem_cons.mpr ⟨.inl rfl,(λ_ h=>nomatch h)⟩⟩,pcI (out.map dM) n,g,rfl,(),λc hc=>⟨PJ hc,by have:=W c hc;lia⟩,by have:=L g hg;lia,?_⟩;have v:=q out out2 g ho ho2 hg hag;dsimp only;show SJ _ _ [.gn 0 (bJ (some r) x (kF l n (je o m a b) (m+1) (ps++[(o,m)]))),.im (.int a),.im (.int b),.dw 99 (.list ((pcI (out.map dM) n).map iD)),.im (.int m),.dw 99 (.list ((inP (pcI (out.map dM) n) g).map iD))];generalize inP (pcI (out.map dM) n) g=M at v;show if decide ((1:Int)<(⇑(M.map iD):Int))=true then _ else _
 rw[List.length_map];by_cases hs:1<⇑M
 ·rw[ed hs]at v;rw[fy ()];exact bF (B:=True) ⟨zK,.inr (.inl ⟨rfl,_,rfl,(λa h=>h),v⟩)⟩
 ·rw[ee hs]at v;rw[d4 ()];exact bw (A:=True) ⟨zK,zK,.inl ⟨rfl,_,rfl,(λa h=>h),v⟩⟩
end
def sW(a:Int)(k j:Nat):(aY a k).drop j=aY (a+~~~j) (k - j):=by
 unfold aY;refine List.ext_getElem? λi=>?_;rw[List.getElem?_drop,List.getElem?_map,List.getElem?_map];by_cases h:i<k - j
 ·rw[List.getElem?_range h,List.getElem?_range ()];show some (PyData.int _)=some (PyData.int _);congr 2;lia
 ·rw[List.getElem?_eq_none (by rw[List.length_range];lia),List.getElem?_eq_none (by rw[List.length_range];lia)];rfl
def qW(a:Int)(k j:Nat):(aY a k).take j=aY a (min j k):=by
 unfold aY;rw[←List.map_take,List.take_range]
def yR{α:Type}(l:List α)(j:Nat):jc l (some (~~~j)) none=l.drop j:=by
 unfold jc;have a:HT.sIx ⇑l ⇑l none=⇑l:=rfl;rw[a,HT.qx,List.take_of_length_le (by rw[List.length_drop];lia)];by_cases h:j<=⇑l
 ·rw[Nat.min_eq_left h]
 ·rw[Nat.min_eq_right (),List.drop_of_length_le (Nat.le_refl _),List.drop_of_length_le ()]
def BK{α:Type}(l:List α)(j:Nat):jc l none (some (~~~j))=l.take j:=by
 unfold jc;have a:HT.sIx ⇑l 0 none=0:=rfl;rw[a,HT.qx,List.drop_zero,Nat.sub_zero];by_cases h:j<=⇑l
 ·rw[Nat.min_eq_left h]
 ·rw[Nat.min_eq_right (),List.take_of_length_le (Nat.le_refl _),List.take_of_length_le ()]
def O6{α:Type}(l:List α)(i j:Nat)(hi:i<=⇑l):jc l (some (~~~i)) (some (~~~j))=(l.drop i).take (j - i):=by
 unfold jc;rw[HT.qx,HT.qx,Nat.min_eq_left hi];by_cases h:j<=⇑l
 ·rw[Nat.min_eq_left h]
 ·rw[Nat.min_eq_right (),List.take_of_length_le (by rw[List.length_drop];lia),List.take_of_length_le (by rw[List.length_drop];lia)]
def j4(a:Int)(k:Nat):ew:=(List.range k).map λi=>a+(~~~i)
def jY(a:Int)(k:Nat):aY a k=(j4 a k).map PyData.int:=by
 unfold aY j4;rw[List.map_map];rfl
def sJ{a:Int}{k:Nat}{x:Int}(h:x∈j4 a k):a<=x/\x<a+~~~k:=by
 let⟨i,hi,rfl⟩:=List.mem_map.mp h;have:=List.mem_range.mp hi;lia
def sI(a:Int)(k:Nat):(j4 a k).Nodup:=(List.pairwise_map.mpr (List.nodup_range.imp λh e=>h ()))
def fQ(a:Int)(k:Nat):⇑(j4 a k)=k:=by unfold j4;rw[List.length_map,List.length_range]
def tR(l:ew)(us:ez):Prop:=⇑us=⇑l/\∀t∈us,t.1∈l/\t.2∈l/\(l.Nodup->2<=⇑l->t.1≠t.2)
def Qp:FF:=λds P=>∃l:ew,ds=[iD l]/\⇑l<=60/\∀us:ez,tR l us->P (.list (us.map pD))
def KD:FF:=λds P=>∃n:Int,ds=[.int n]/\1<=n/\n<=16/\∀us:ez,OkN n us->⇑us<=400->P (.list (us.map pD))
def VB:FF:=λds P=>∃n:Int,ds=[.int n]/\1<=n/\n<=16/\∀us:ez,OkW n us->G8 us->⇑us<=36->P (bD n us)
def OkN.app{n:Int}{us vs:ez}(h:OkN n us)(h':OkN n vs):OkN n (us++vs):=λu hu=>(List.mem_append.mp hu).elim (h u) (h' u)
def tR.okn{l:ew}{us:ez}{n:Int}(h:tR l us)(e:l.Nodup)(d:2<=⇑l)(hn:∀x∈l,0<=x/\x<n):OkN n us:=λt ht=>by
 let⟨a,b,c⟩:=h.2 t ht;exact⟨hn _ a,hn _ b,c e d⟩
def LK{α:Type}{l:List α}(h:l≠[]):atI l (-1)=some (l.getLast h):=by
 have hl:=List.length_pos_iff.mpr h;have e:ixN ⇑l (-1)=some (⇑l - 1):=by
  unfold ixN;rw[ee (),ed ()];congr 1;lia
 unfold atI;rw[e];show l[⇑l - 1]?=_;rw[List.getLast_eq_getElem,List.getElem?_eq_getElem]
def Ji:∀N:Nat,N<17->(∀i∈L2.stepI N,1<=i/\i<N)/\⇑(L2.stepI N)<=8:=⋯
def Fq{N:Nat}(h:N<=16):⇑(dN (aY 0 N))<=8/\cG (dN (aY 0 N))=true/\∀(i:Nat) d,(dN (aY 0 N))[i]?=some d->∃x:Nat,d=.int (~~~x)/\1<=x/\x<N:=by
 let⟨h1,h2⟩:=Ji N ();have key:∀l:eA,(∀i∈l,1<=i/\i<N)->(l.filterMap λi=>(aY 0 N)[i]?)=l.map λi=>PyData.int (~~~i):=λl hl=>by
  induction l with
  |nil=>rfl
  |cons i l ih =>
   have hi:=hl i (List.mem_cons_self ..);have e:(aY 0 N)[i]?=some (PyData.int (~~~i)):=by
    unfold aY;rw[List.getElem?_map,List.getElem?_range hi.2];show some (PyData.int _)=_;rw[Int.zero_add]
   rw[List.filterMap_cons,e,ih λi h=>hl i (List.mem_cons_of_mem _ h)];rfl
 have e:dN (aY 0 N)=((L2.stepI N).map λi=>(~~~i)).map PyData.int:=by
  unfold dN;rw[aW,key _ h1,List.map_map];rfl
 rw[e];refine⟨by rw[List.length_map,List.length_map];exact h2,oF _,λi d hd=>?_⟩;let⟨x,a,rfl⟩:=gA hd;let⟨y,b,rfl⟩:=gA a;exact⟨y,rfl,h1 y (List.mem_of_getElem? b)⟩
def eF(a:Int)(k:Nat):cG (aY a k)=true:=by rw[jY];exact oF _
def iU{A B C:Prop}(a:A)(b:B):(A/\B)\/C:=.inl ⟨a,b⟩
def SM{c A B:Prop}[Decidable c](hc:c)(h:A):if(decide c)=true then A else B:=by rw[fy hc];exact bF h
def Df{n:Int}{l:ew}(h:IsOrd n l){a:Int}(c:0<=a)(h1:a<n):∃x:Int,atI (l.map PyData.int) a=some (.int x)/\(0<=x/\x<n)/\l[a.toNat]?=some x:=by
 have hl:=h.len;have hk:a.toNat<⇑l:=()
 have b:a=(~~~a.toNat):=()
 have z:atI (l.map PyData.int) (~~~a.toNat)=some (.int l[a.toNat]):=dh (by rw[List.getElem?_map,List.getElem?_eq_getElem hk];rfl);rw[←b]at z;exact⟨_,z,h.rng _ (List.getElem_mem hk),List.getElem?_eq_getElem hk⟩
def RX{r:Int}(a:0<=r)(c:r<3)(b:Bool):Hf r (if b=true then 1 else 0):=by
 unfold Hf;exact .inl ⟨(),()⟩
def Pb(d:D):d7 d=.im d\/d7 d=.sh d:=by
 unfold d7;by_cases h:fj d=true
 ·rw[ed h];exact .inl rfl
 ·rw[ee h];exact .inr rfl
def Bk{k:Kd}{a b:D}{ρ:List Sl}{Q:List Sl->Prop}{i j:Nat}(h:∀s5 s6,s5=wW (norm (norm k a) a) a->s6=wW (norm (norm k b) b) b->Q ((ρ.set i s5).set j s6)):v7 (gNm i) (v7 (gNm j) Ko) k [a,b] ρ Q:=h _ _ rfl rfl
def Qe{E:DEnds}{ρ:List Sl}(h:E.nx ρ):qe E ρ:=h
def vd{a b:DT}{t u:DS}{P:DEnds}{ρ:List Sl}(ha:∀Q:Bool->Prop,Q true->a ρ Q)(hb:∀Q:Bool->Prop,Q true->b ρ Q)(h:t { P with nx:=u P } ρ):ur (dIf (GP a b) t qe) u P ρ:=ha _ (bF (hb _ (bF h)))
def Aq{b c:DT}{t u:DS}{P:DEnds}{ρ:List Sl}{p q:Bool}(ha:∀Q:Bool->Prop,Q p->b ρ Q)(hb:∀Q:Bool->Prop,Q q->c ρ Q)(a:(p&&q)=false)(h:u P ρ):ur (dIf (GP b c) t qe) u P ρ:=by
 refine ha _ ?_;cases p with
 |false=>exact bw (A:=True) h
 |true =>
  refine bF (B:=True) (hb _ ?_);cases q with
  |false=>exact bw (A:=True) h
  |true=>exact ef a ∅
def Gu(a:Int)(k:Nat):cG ([PyData.int 0]++aY a k)=true:=by
 rw[jY];exact oF (0::j4 a k)
def tD{N:Nat}{a:Int}{j:Nat}(e:a=(~~~j)):jc (aY 0 N) (some a) none=aY (~~~j) (N - j):=by
 subst e;rw[yR,sW,Int.zero_add]
def Lp{N:Nat}{a:Int}{j:Nat}(e:a=(~~~j))(h:j<=N):jc (aY 0 N) none (some a)=aY 0 j:=by
 subst e;rw[BK,qW,Nat.min_eq_left h]
def TF{N:Nat}{a b:Int}{i j:Nat}(e:a=(~~~i))(c:b=(~~~j))(h:i<=N):jc (aY 0 N) (some a) (some b)=aY (~~~i) (min (j - i) (N - i)):=by
 subst e c;rw[O6 _ _ _ (by rw[aW];exact h),sW,qW,Int.zero_add]
def CJ{a:Int}{k:Nat}{us:ez}{n:Int}(h:tR (j4 a k) us)(b:0<=a)(h1:a+(~~~k)<=n)(h2:2<=k):OkN n us:=h.okn (sI a k) (by rw[fQ];exact h2) λx hx=>by have:=sJ hx;lia
def QX(b:Bool)(us:ez):(List.replicate (if b=true then(1:Int)else 0).toNat (us.map pD)).flatten=(if b=true then us else []).map pD:=by
 cases b
 ·rfl
 ·show(List.replicate 1 (us.map pD)).flatten=us.map pD;simp
def ug:([aT,aE]:List Str).Nodup:=⋯
def xP(F:Fun K cf cf (top 43) f fd)(B:Dl.Bn mg):1∩[aE]∩spD Qp:=by
 refine okT F (N:=[aE]) zC (λhr nd=>Wr.aC (Wr.aL (Wr.gO [aT] rfl (Wr.cj B.range (Wr.aj (Wr.cM B.len (Wr.aj (Wr.dv 0) Wr.ak)) Wr.ak)) (λc=>(Wr.aF (i:=0) ug rfl zQ)) (λc=>Wr.cZ) (λc=>(Wr.aV (Wr.aj (Wr.aH (Wr.dv 1) (Wr.jg (Wr.dv 0) Wr.au)) (Wr.aj (Wr.aH (Wr.dv 1) (Wr.dv 0)) Wr.ak))))))) ?_;rintro ds P ⟨l,rfl,hl,q⟩;refine⟨[.sh (iD l)],rfl,?_⟩;have a:⇑(l.map PyData.int)=⇑l:=List.length_map ..;refine⟨⟨by rw[a];lia,by rw[a];lia⟩,by rw[aW,a];lia,.imm,λi ys=>∃us:ez,ys=us.map pD/\⇑us=i/\∀t∈us,t.1∈l/\t.2∈l/\(l.Nodup->2<=⇑l->t.1≠t.2),⟨[],rfl,rfl,λ_ h=>nomatch h⟩,?_,?_⟩
 ·rintro i d ys hd ⟨us,rfl,hu,ok⟩;let⟨hi,rfl⟩:=cQ hd;rw[a]at hi;have hi:i<⇑l:=()
  have g:atI (l.map PyData.int) (0+~~~i)=some (.int l[i]):=by rw[Int.zero_add];exact dh (by rw[List.getElem?_map,List.getElem?_eq_getElem hi];rfl)
  obtain⟨y,e,k,m⟩:∃y:Int,atI (l.map PyData.int) (0+(~~~i) - 1)=some (.int y)/\y∈l/\(l.Nodup->2<=⇑l->y≠l[i]):=by
   cases i with
   |zero =>
    have b:l≠[]:=λz=>by rw[z]at hi;exact ef hi (Nat.not_lt_zero _)
    refine⟨l.getLast b,?_,List.getLast_mem b,λnd l2 z=>?_⟩
    ·rw[show(0+(~~~(0)) - 1)=-1 from rfl,LK (l:=l.map PyData.int) ↑b,List.getLast_map]
    ·rw[List.getLast_eq_getElem]at z;have:=(List.getElem_inj nd).mp z;lia
   |succ j =>
    refine⟨l[j],?_,List.getElem_mem _,λnd l2 z=>?_⟩
    ·rw[show(0+(~~~(j+1)) - 1)=(~~~j) by lia];exact dh (by rw[List.getElem?_map,List.getElem?_eq_getElem ()];rfl)
    ·have:=(List.getElem_inj nd).mp z;lia
  refine bF (B:=True) ⟨_,e,_,g,zK,rfl,us++[(y,l[i])],app1 _ _ _,by rw[List.length_append,List.length_singleton,hu],λt ht=>?_⟩;rcases List.mem_append.mp ht with z|z
  ·exact ok t z
  ·rw[List.mem_singleton.mp z];exact⟨k,List.getElem_mem _,m⟩
 ·rintro ys ⟨us,rfl,hu,ok⟩;rw[aW,a]at hu;exact⟨rfl,q us ⟨(),ok⟩⟩
def ni:FnScope [af,ai,ci,aE,aN,ag,aT,ck,bX,bj] [af,ai] (aG (top 44)):=zC
def gQ:([aT,af,ai,ci,aE,aN,ag,"",ck,bX,bj]:List Str).Nodup:=⋯
def rT:([cm,af,ai,ci,aE,aN,ag,aT,ck,bX,bj]:List Str).Nodup:=⋯
abbrev kA5(P w K mg fw):=1∪bN∪[af,aN]∪spP (CP K) Ec
def vM(F:Fun K ca ca (top 44) f fd)(B:Dl.Bn mg)(v:kA5 P w K mg fw)(C:1∪cf∪[aE]∪spD Qp):2∩[af,ai]∩spP (CP K) KD:=by
 refine F.ok ni qN (λcdv A outer s H vs Q E hr h=>?_);have o:=ni.nd;refine⟨_,Wr.WDSs.h (Wr.aq (Wr.aO none (i:=2) o rfl zQ (Wr.dcP v hr (Wr.wv 0) (Wr.aj Wr.au Wr.ak)))
  (Wr.aq (Wr.aO none (i:=3) o rfl zQ (Wr.mH rfl B.list B.range (Wr.aj (Wr.dv 1) Wr.ak)))
  (Wr.aq (Wr.cF (Wr.dO hr.units (Wr.dv 2) Wr.au) (Wr.aC (Wr.aL (Wr.mJ [aT] [af,ai,ci,aE,aN,ag,"",ck,bX,bj] rfl (Wr.bV (Wr.iR (Wr.dv 3) (Wr.dg Wr.au) Wr.dW)) (λc=>(Wr.aF (i:=0) gQ rfl zQ)) (λc=>Wr.cZ) (λc=>(Wr.aV (Wr.aj (Wr.jg (Wr.dv 0) Wr.au) (Wr.aj (Wr.dv 0) Wr.ak)))) (hk:=rfl)))) Wr.aM)
  (Wr.aq (Wr.cF (Wr.dO hr.units (Wr.dv 2) Wr.au) (Wr.aC (Wr.aL (Wr.mJ [aT] [af,ai,ci,aE,aN,ag,"",ck,bX,bj] rfl (Wr.bV (Wr.iR (Wr.dv 3) (Wr.dg Wr.au) Wr.dW)) (λc=>(Wr.aF (i:=0) gQ rfl zQ)) (λc=>Wr.cZ) (λc=>(Wr.aV (Wr.aj (Wr.dcP v hr (Wr.wv 1) (Wr.aj (Wr.dv 0) Wr.ak)) (Wr.aj (Wr.dv 0) Wr.ak)))) (hk:=rfl)))) Wr.aM)
  (Wr.aq (Wr.cF (Wr.wpt (Wr.nF (Wr.dO hr.units (Wr.dv 2) Wr.au) (Wr.jD (Wr.pF (Wr.dv 1) Wr.au)))) (Wr.aq (Wr.aO none (i:=4) o rfl zQ (Wr.bG Wr.au (Wr.dcP v hr (Wr.wv 0) (Wr.aj (Wr.jg (Wr.dv 1) Wr.au) Wr.ak))))
  (Wr.aC (Wr.aL (Wr.bG (Wr.dc C hr (Wr.aj (Wr.iR (Wr.dv 3) Wr.dW (Wr.dg (Wr.dv 4))) Wr.ak)) (Wr.mJ [aT] [af,ai,ci,aE,aN,ag,"",ck,bX,bj] rfl (Wr.bV (Wr.iR (Wr.dv 3) (Wr.dg (Wr.dv 4)) Wr.dW)) (λc=>(Wr.aF (i:=0) gQ rfl zQ)) (λc=>Wr.cZ) (λc=>(Wr.aV (Wr.aj (Wr.dcP v hr (Wr.wv 1) (Wr.aj (Wr.dv 0) Wr.ak)) (Wr.aj (Wr.dv 0) Wr.ak)))) (hk:=rfl)))))) Wr.aM)
  (Wr.aJ [4] (Wr.aq (Wr.aO none (i:=5) o rfl zQ (Wr.bM Wr.ak))
  (Wr.aq (Wr.cF (Wr.dO hr.units (Wr.dv 2) Wr.au) (Wr.aq (Wr.dF PassesOwn.never rfl (Wr.bV (Wr.vG (Wr.dv 3))) (Wr.aF (i:=6) o rfl zQ) (Wr.aq (Wr.aO none (i:=5) o rfl zQ (Wr.bG (Wr.dv 5) (Wr.dc C hr (Wr.aj (Wr.bG (Wr.bM (Wr.aj Wr.au Wr.ak)) (Wr.iR (Wr.dv 3) (Wr.dg (Wr.dv 6)) (Wr.dg (Wr.bG (Wr.dv 6) Wr.au)))) Wr.ak)))) (Wr.aJ [6] Wr.aM)))
  (Wr.aJ [6] (Wr.aC (Wr.aL (Wr.dv 5))))) Wr.aM)
  (Wr.aJ [6] (Wr.aq (Wr.cF (Wr.dO hr.units (Wr.dv 2) Wr.au) (Wr.aq (Wr.dF PassesOwn.never rfl (Wr.bV (Wr.aV (Wr.aj (Wr.iR (Wr.dv 3) Wr.dW (Wr.dg (Wr.qH (Wr.dv 1) Wr.au))) (Wr.aj (Wr.iR (Wr.dv 3) (Wr.dg (Wr.qH (Wr.dv 1) Wr.au)) Wr.dW) Wr.ak)))) (Wr.aF (i:=7) o rfl zQ) (Wr.aq (Wr.aO none (i:=5) o rfl zQ (Wr.bG (Wr.dv 5) (Wr.jF (Wr.dc C hr (Wr.aj (Wr.dv 7) Wr.ak)) (Wr.iu B.int VE (Wr.aj (Wr.uL (Wr.cM B.len (Wr.aj (Wr.dv 7) Wr.ak)) Wr.au) Wr.ak))))) (Wr.aJ [7] Wr.aM)))
  (Wr.aJ [7] (Wr.aC (Wr.aL (Wr.dv 5))))) Wr.aM)
  (Wr.aJ [7] (Wr.aq (Wr.aO none (i:=8) o rfl zQ (Wr.jG (Wr.pF (Wr.dv 2) Wr.au) (Wr.aH (Wr.bM (Wr.aj Wr.au (Wr.aj Wr.au (Wr.aj Wr.au Wr.ak)))) (Wr.jg (Wr.dv 2) Wr.au)) Wr.au))
  (Wr.aq (Wr.dF PassesOwn.never rfl (Wr.bV (Wr.dv 3)) (Wr.aF (i:=9) o rfl zQ) (Wr.aq (Wr.aO none (i:=5) o rfl zQ (Wr.bG (Wr.dv 5) (Wr.gO [cm] rfl (Wr.bV (Wr.iR (Wr.dv 3) (Wr.dg (Wr.bG (Wr.dv 9) Wr.au)) Wr.dW)) (λc=>(Wr.aF (i:=0) rT rfl zQ)) (λc=>(Wr.dU (Wr.dO hr.units (Wr.dcP v hr (Wr.wv 1) (Wr.aj (Wr.dv 9) Wr.ak)) Wr.au))) (λc=>(Wr.aV (Wr.aj (Wr.dv 10) (Wr.aj (Wr.dv 0) Wr.ak))))))) (Wr.aJ [9] Wr.aM)))
  (Wr.aJ [9] (Wr.aC (Wr.aL (Wr.dv 5))))))))))))))))),enterQ h ?_⟩
 rintro ds P ⟨n,rfl,n1,n16,q⟩;obtain⟨N,rfl⟩:∃N:Nat,n=(~~~N):=⟨n.toNat,()⟩
 refine⟨[.im (.int (~~~N)),.any,.any,.any,.any,.any,.any,.any,.any],rfl,?_⟩;refine⟨rfl,8,rfl,∅,∅,λkd k0 k8=>?_⟩;refine⟨⟨(),()⟩,?_⟩;rw[show((~~~N) - 0).toNat=N by lia];show if decide (kd=0)=true then _ else _
 refine uq (λc=>?_) (λJ=>?_)
 ·have e:=tD (N:=N) (a:=1) (j:=1) rfl;refine iU (by rw[e];exact eF _ _) ?_;rw[e];refine⟨by rw[aW];lia,.imm,λi ys=>∃vs:ez,ys=vs.map pD/\⇑vs=i/\OkN N vs,⟨[],rfl,rfl,λ_ h=>(nomatch h)⟩,?_,?_⟩
  ·rintro i d ys hd ⟨vs,rfl,hv,g⟩;let⟨hi,rfl⟩:=cQ hd;refine bF (B:=True) ⟨zK,rfl,vs++[(_,_)],app1 _ _ _,by rw[List.length_append,List.length_singleton,hv],g.snoc ⟨⟨(),()⟩,⟨(),()⟩,()⟩⟩
  rintro ys ⟨vs,rfl,hv,g⟩;rw[aW]at hv;exact⟨rfl,q _ g ()⟩
 show if decide (kd=1)=true then _ else _
 refine uq (λc=>?_) (λL=>?_)
 ·have e:=tD (N:=N) (a:=1) (j:=1) rfl;refine iU (by rw[e];exact eF _ _) ?_;rw[e];refine⟨by rw[aW];lia,.imm,λi ys=>∃vs:ez,ys=vs.map pD/\⇑vs=i/\OkN N vs,⟨[],rfl,rfl,λ_ h=>(nomatch h)⟩,?_,?_⟩
  ·rintro i d ys hd ⟨vs,rfl,hv,g⟩;let⟨hi,rfl⟩:=cQ hd;refine bF (B:=True) ⟨rfl,_,rfl,(),(),λr r0 r1=>⟨zK,rfl,vs++[(r,_)],app1 _ _ _,by rw[List.length_append,List.length_singleton,hv],g.snoc ⟨⟨(),()⟩,⟨(),()⟩,()⟩⟩⟩
  rintro ys ⟨vs,rfl,hv,g⟩;rw[aW]at hv;exact⟨rfl,q _ g ()⟩
 have J:¬kd=0:=λz=>J (fy z);have L:¬kd=1:=λz=>L (fy z);by_cases D:kd=2/\1<N
 ·let⟨rfl,D⟩:=D;refine Qe ?_;dsimp only;refine vd ?_ ?_ ?_
  ·exact λ_ h=>h
  ·exact λQ h=>by
    show Q (decide (1<(~~~N)));rw[fy (():1<(~~~N))];exact h
  refine⟨rfl,_,rfl,(),(),λr r0 r1=>?_⟩;obtain⟨m,hm,m2,mN⟩:∃m:Nat,2+r=(~~~m)/\2<=m/\m<=N:=⟨(2+r).toNat,(),(),()⟩
  show GK 4 none (λ_ P=>P .imm (.int (2+r))) _ _;rw[hm];have e:=Lp (N:=N) (a:=(~~~m)) (j:=m) rfl mN;refine iU (by rw[e];exact eF _ _) ?_;rw[e];refine⟨j4 0 m,by rw[jY];rfl,by rw[fQ];lia,λus ru=>?_⟩;have l:=CJ (n:=(~~~N)) ru () () m2;have t:=ru.1;rw[fQ]at t;have e:=tD (N:=N) (a:=(~~~m)) (j:=m) rfl;refine iU (by rw[e];exact eF _ _) ?_;rw[e];refine⟨by rw[aW];lia,.imm,λi ys=>∃vs:ez,ys=vs.map pD/\⇑vs=i/\OkN N vs,⟨[],rfl,rfl,λ_ h=>(nomatch h)⟩,?_,?_⟩
  ·rintro i d ys hd ⟨vs,rfl,hv,g⟩;let⟨hi,rfl⟩:=cQ hd;refine bF (B:=True) ⟨rfl,_,rfl,(),(),λr r0 r1=>⟨zK,rfl,vs++[(r,_)],app1 _ _ _,by rw[List.length_append,List.length_singleton,hv],g.snoc ⟨⟨(),()⟩,⟨(),()⟩,()⟩⟩⟩
  rintro ys ⟨vs,rfl,hv,g⟩;rw[aW]at hv;refine⟨by rw[List.length_map,List.length_map];lia,iU (by rw[←List.map_append];exact bK _) ?_⟩;rw[←List.map_append];exact⟨rfl,q _ (l.app g) (by rw[List.length_append];lia)⟩
 refine Qe ?_;dsimp only;refine Aq (p:=decide (kd=2)) (q:=decide (1<(~~~N))) ?_ ?_ ?_ ?_
 ·exact λ_ h=>h
 ·exact λ_ h=>h
 ·rw[Bool.and_eq_false_iff];by_cases z:kd=2
  ·exact .inr (d4 λz2=>D ⟨z,()⟩)
  ·exact .inl (d4 z)
 refine⟨zK,?_⟩;show if decide (kd=3)=true then _ else _
 refine uq (λc=>?_) (λM=>?_)
 ·let⟨p1,p2,p3⟩:=Fq (N:=N) ();refine⟨(),iU p2 ⟨rfl,λi ρ=>∃(us:ez)(s:Sl),ρ=[.pen (CP K),.im (.int (~~~N)),.im (.int kd),.sn (.list (aY 0 N)),.any,.sn (.list (us.map pD)),s,.any,.any,.any]/\OkN N us/\⇑us<=3 * i,⟨[],.any,rfl,λ_ h=>(nomatch h),Nat.le_refl _⟩,?_,?_⟩⟩
  ·rintro i d ρ hd ⟨us,s,rfl,l,t⟩;let⟨x,rfl,x1,xN⟩:=p3 i d hd;have hi:i<8:=by
    have:=(List.getElem?_eq_some_iff.mp hd).1;lia
   have e:=TF (N:=N) (a:=(~~~x)) (b:=(~~~x)+2) (i:=x) (j:=x+2) rfl () ();have lm:min (x+2 - x) (N - x)<=2/\1<=min (x+2 - x) (N - x)/\x+min (x+2 - x) (N - x)<=N:=()
   refine⟨zK,iU (by rw[e];exact eF _ _) ?_⟩;rw[e];generalize min (x+2 - x) (N - x)=m at lm;refine⟨by rw[aW];show 1+_<=_;lia,iU (Gu _ _) ?_⟩;refine⟨0::j4 (~~~x) m,by rw[jY];rfl,by rw[List.length_cons,fQ];lia,λvs rv=>?_⟩;have g:=tR.okn (n:=(~~~N)) rv (List.nodup_cons.mpr ⟨λh=>by have:=sJ h;lia,sI _ _⟩) (by rw[List.length_cons,fQ];lia) (λz hz=>(List.mem_cons.mp hz).elim (λh=>()) λh=>by have:=sJ h;lia);have G:=rv.1;rw[List.length_cons,fQ]at G;refine⟨by rw[List.length_map,List.length_map];lia,iU (by rw[←List.map_append];exact bK _) ?_⟩;rw[←List.map_append];exact⟨us++vs,.any,rfl,l.app g,by rw[List.length_append];lia⟩
  ·rintro ρ ⟨us,s,rfl,l,t⟩;exact⟨rfl,q us l ()⟩
 have M:¬kd=3:=λz=>M (fy z);show if decide (kd=4)=true then _ else _
 refine uq (λc=>?_) (λO=>?_)
 ·have hd:(0:Int)<=(~~~N) / 2:=()
  obtain⟨h,hh,h1,h2⟩:∃h:Nat,(~~~N) / 2=(~~~h)/\2 * h<=N/\N<=2 * h+1:=⟨((~~~N) / 2).toNat,(),(),()⟩
  have R:=Lp (N:=N) (a:=(~~~N) / 2) (j:=h) hh ();have S:=tD (N:=N) (a:=(~~~N) / 2) (j:=h) hh;refine⟨⟨∅,∅⟩,?_⟩;refine iU (by rw[R];exact eF _ _) ?_;refine⟨⟨∅,∅⟩,?_⟩;refine iU (by rw[S];exact eF _ _) ?_;rw[R,S];refine⟨zK,rfl,λi ρ=>∃(us:ez)(s:Sl),ρ=[.pen (CP K),.im (.int (~~~N)),.im (.int kd),.sn (.list (aY 0 N)),.any,.sn (.list (us.map pD)),.any,s,.any,.any]/\OkN N us/\⇑us<=16 * i,⟨[],.any,rfl,λ_ h=>(nomatch h),Nat.le_refl _⟩,?_,?_⟩
  ·rintro i d ρ hd ⟨us,s,rfl,l,t⟩;obtain⟨a,k,rfl,hk,i2⟩:∃a k:Nat,d=.list (aY (~~~a) k)/\a+k<=N/\i<2:=by
    match i,hd with
    |0,hd=>exact⟨0,h,(Option.some.inj hd).symm,(),()⟩
    |1,hd=>exact⟨h,N - h,(Option.some.inj hd).symm,(),()⟩
   refine⟨j4 (~~~a) k,by rw[jY];rfl,by rw[fQ];lia,λvs rv=>?_⟩;have G:=rv.1;rw[fQ]at G;have V:decide ((~~~(1))<(⇑(aY (~~~a) k):Int))=decide (1<k):=by rw[aW];exact decide_eq_decide.mpr ()
   obtain⟨u,W,I,lw⟩:∃u:ez,(if decide (1<k)=true then vs else [])=u/\OkN N u/\⇑u<=k:=by
    by_cases z:1<k
    ·exact⟨vs,by rw[fy z];rfl,CJ rv () () (),()⟩
    ·exact⟨[],by rw[d4 z];rfl,λ_ h=>(nomatch h),Nat.zero_le _⟩
   have T:=QX (decide (1<k)) vs;rw[W]at T;have key:∀b:Bool,b=decide (1<k)->(0:Int)<=(if b=true then 1 else 0)/\(if b=true then(1:Int)else 0)<1000/\⇑(vs.map pD) * (if b=true then(1:Int)else 0).toNat<=1000/\(List.replicate (if b=true then(1:Int)else 0).toNat (vs.map pD)).flatten=u.map pD:=by
    rintro _ rfl;refine⟨by split <;> decide,by split <;> decide,?_,T⟩;rw[List.length_map];split
    ·show _ * 1<=_;lia
    ·show _ * 0<=_;lia
   let⟨X,Y,Z,y⟩:=key (decide ((1:Int)<(⇑(aY (~~~a) k):Int))) V;refine⟨X,Y,Z,iU (by rw[y];exact bK _) ⟨?_,iU ?_ ?_⟩⟩
   ·show(us.map pD).length+(List.replicate (if decide ((1:Int)<(⇑(aY (~~~a) k):Int))=true then(1:Int)else 0).toNat (vs.map pD)).flatten.length<=1000;rw[y,List.length_map,List.length_map];lia
   ·show cG (us.map pD++(List.replicate (if decide ((1:Int)<(⇑(aY (~~~a) k):Int))=true then(1:Int)else 0).toNat (vs.map pD)).flatten)=true;rw[y,←List.map_append];exact bK _
   ·refine⟨us++u,.any,?_,l.app I,by rw[List.length_append];lia⟩;show [_,_,_,_,_,Sl.sn (.list (us.map pD++(List.replicate (if decide ((1:Int)<(⇑(aY (~~~a) k):Int))=true then(1:Int)else 0).toNat (vs.map pD)).flatten)),_,_,_,_]=_;rw[y,←List.map_append]
  ·rintro ρ ⟨us,s,rfl,l,t⟩;have t:⇑us<=16 * 2:=t;exact⟨rfl,q us l ()⟩
 have O:¬kd=4:=λz=>O (fy z);obtain⟨m,hm,m0,m1⟩:∃m:Int,(if decide (4<kd)=true then atI [PyData.int 9,.int 3,.int 2] (kd - 5)else some (.int 4))=some (.int m)/\0<m/\m<=9:=by
  by_cases z:4<kd
  ·rw[fy z,ed rfl];rcases(():kd=5\/kd=6\/kd=7)with rfl|rfl|rfl
   ·exact⟨9,rfl,(),()⟩
   ·exact⟨3,rfl,(),()⟩
   ·exact⟨2,rfl,(),()⟩
  ·rw[d4 z,ee Bool.false_ne_true];exact⟨4,rfl,(),()⟩
 have U:ur (Tw (iSq (tV 3)) (gNm 9)
              (ur
               (GK 5 none
                (t2 DP (tV 5)
                 (dLC 1
                  (iSq (QC (tV 3) (JM (t2 DP (tV 9) (tK (PyData.int 1)))) JN)) (gNm 0)
                  (dY
                   (t2 (lN false) (Ml (CP K) Ec 1 (fU (tV 9) lR)) (tK (PyData.int 0))))
                  (zN (fU (tV 10) (fU (tV 0) lR))))))
               (tu [9] qe)))
             (tu [9] (Tq (tV 5))) { nx:=λ_=>P PyData.none,rt:=P } [.pen (CP K),.im (.int (~~~N)),.im (.int kd),.sn (.list (aY 0 N)),.any,.sn (.list []),.any,.any,.im (.int m),.any]:=by
  refine⟨rfl,λi ρ=>∃(us:ez)(s:Sl),ρ=[.pen (CP K),.im (.int (~~~N)),.im (.int kd),.sn (.list (aY 0 N)),.any,.sn (.list (us.map pD)),.any,.any,.im (.int m),s]/\OkN N us/\⇑us<=16 * i,⟨[],.any,rfl,λ_ h=>(nomatch h),Nat.le_refl _⟩,?_,?_⟩
  ·rintro i d ρ hd ⟨us,s,rfl,l,t⟩;let⟨hi,rfl⟩:=cQ hd;have e:=tD (N:=N) (a:=0+(~~~i)+1) (j:=i+1) ();refine iU (by rw[e];exact eF _ _) ?_;rw[e];refine⟨by rw[aW];lia,.imm,λi' ys=>∃vs:ez,ys=vs.map pD/\⇑vs<=i'/\OkN N vs,⟨[],rfl,Nat.le_refl _,λ_ h=>(nomatch h)⟩,?_,?_⟩
   ·rintro j d ys hd ⟨vs,rfl,hv,g⟩;let⟨hj,rfl⟩:=cQ hd;refine⟨rfl,m,rfl,m0,(),λr r0 r1=>?_⟩;show if decide (r=0)=true then _ else _
    refine uq (λc=>⟨zK,rfl,vs++[(_,_)],app1 _ _ _,by rw[List.length_append,List.length_singleton];lia,g.snoc ⟨⟨(),()⟩,⟨(),()⟩,()⟩⟩) (λc=>⟨vs,rfl,(),g⟩)
   rintro ys ⟨vs,rfl,hv,g⟩;rw[aW]at hv;refine⟨by rw[List.length_map,List.length_map];lia,iU (by rw[←List.map_append];exact bK _) ?_⟩;rw[←List.map_append];exact⟨us++vs,.any,rfl,l.app g,by rw[List.length_append];lia⟩
  ·rintro ρ ⟨us,s,rfl,l,t⟩;rw[aW]at t;exact⟨rfl,q us l ()⟩
 show if decide (4<kd)=true then _ else _
 by_cases z:4<kd
 ·rw[fy z,ed rfl]at hm;refine SM z ?_;exact⟨zK,_,hm,U⟩
 ·rw[d4 z,ee Bool.false_ne_true]at hm;obtain rfl:(4:Int)=m:=by injection hm with h;injection h
  rw[d4 z];exact bw U
def q9:FnScope [af,ai,ah,aT,bj,"_law_turned"] [af,ai] (aG (top 45)):=zC
def nW:([bj,cm,af,ai,ah,aT,"","_law_turned"]:List Str).Nodup:=⋯
def Ak(F:Fun K cz cz (top 45) f fd)(B:Dl.Bn mg)(S:2∪ca∪[af,ai]∪spP (CP K) KD)(I:kA5 P w K mg fw)(T:2∪bP∪[af,ai]∪spP (CP K) KJ):3∩[af,ai]∩spP (CP K) VB:=by
 refine F.ok q9 qN (λcdv A outer s H vs Q E hr h=>?_);have C:=q9.nd;refine⟨_,Wr.WDSs.h (Wr.aq (Wr.aO (some 0) (i:=2) C rfl zQ (Wr.iR (Wr.dcP S hr (Wr.wv 0) (Wr.aj (Wr.dv 1) Wr.ak)) Wr.dW (Wr.dg Wr.au)))
  (Wr.aq (Wr.dF PassesOwn.never rfl (Wr.cj B.range (Wr.aj (Wr.jF (Wr.dcP I hr (Wr.wv 0) (Wr.aj Wr.au Wr.ak)) (Wr.iu B.int VE (Wr.aj (Wr.uL (Wr.dv 1) Wr.au) Wr.ak))) Wr.ak)) (Wr.aF (i:=3) C rfl zQ) (Wr.aq (Wr.aO none (i:=4) C rfl zQ (Wr.dcP I hr (Wr.wv 0) (Wr.aj (Wr.dv 1) Wr.ak)))
  (Wr.aq (Wr.fu (Wr.wv 2) (Wr.aj (Wr.aV (Wr.aj (Wr.dv 4) (Wr.aj (Wr.vH (Wr.bG (Wr.bG (Wr.dv 4) Wr.au) (Wr.dcP I hr (Wr.wv 0) (Wr.aj (Wr.jg (Wr.dv 1) Wr.au) Wr.ak))) (Wr.dv 1)) Wr.ak))) Wr.ak)) (Wr.aJ [3,4] Wr.aM))))
  (Wr.aJ [3,4] (Wr.aq (Wr.aO none (i:=5) C rfl zQ (Wr.dcP T hr (Wr.wv 0) (Wr.aj (Wr.dv 1) Wr.ak)))
  (Wr.aC (Wr.aL (Wr.aV (Wr.aj (Wr.dv 1) (Wr.aj (Wr.kZ B.tuple (Wr.aj (Wr.nH B.sorted (Wr.aj (Wr.mJ [bj,cm] [af,ai,ah,aT,"","_law_turned"] rfl (Wr.bV (Wr.dv 2)) (λc=>(Wr.jo (n:=2) rfl (Wr.bQ (Wr.aF (i:=0) nW rfl zQ) (Wr.bQ (Wr.aF (i:=1) nW rfl zQ) Wr.gC)))) (λc=>Wr.cZ) (λc=>(Wr.kZ B.tuple (Wr.aj (Wr.nJ B.sorted (Wr.aj (Wr.bM (Wr.aj (Wr.aH (Wr.dv 7) (Wr.dv 0)) (Wr.aj (Wr.aH (Wr.dv 7) (Wr.dv 1)) Wr.ak))) Wr.ak)) Wr.ak))) (hk:=rfl)) Wr.ak)) Wr.ak)) Wr.ak))))))))),enterQ h ?_⟩
 rintro ds P ⟨n,rfl,n1,L,q⟩;refine⟨[.im (.int n),.any,.any,.any,.any],rfl,?_⟩;refine⟨rfl,n,rfl,n1,L,λus g p=>?_⟩;have e:jc (us.map pD) none (some 34)=(us.take 34).map pD:=by rw[show(34:Int)=(~~~(34))from rfl,BK,List.map_take]
 refine iU (by rw[e];exact bK _) ?_;rw[e];have m:OkN n (us.take 34):=λt h=>g t (List.mem_of_mem_take h);have N:⇑(us.take 34)<=34:=by rw[List.length_take];lia
 generalize us.take 34=us at m N;refine⟨rfl,3,rfl,∅,∅,λr r0 r3=>?_⟩;obtain⟨j,W,j0,j2,Y⟩:∃j:Int,r * (if decide (1<n)=true then 1 else 0)=j/\0<=j/\j<=2/\(0<j->1<n):=by
  by_cases z:1<n
  ·exact⟨r,by rw[fy z,ed rfl];lia,(),(),λ_=>z⟩
  ·exact⟨0,by rw[d4 z,ee Bool.false_ne_true];lia,(),(),λh=>ef h ()⟩
 have o:∀xs:ez,⇑(xs.map pD)=⇑xs:=λxs=>List.length_map ..;refine⟨RX r0 r3 _,?_⟩;rw[W];refine⟨⟨(),()⟩,rfl,λi ρ=>∃(us:ez)(s M:Sl),ρ=[.pen (CP K),.im (.int n),.dw 0 (.list (us.map pD)),s,M,.any]/\OkN n us/\⇑us<=34+i,⟨us,.any,.any,rfl,m,N⟩,?_,?_⟩
 ·rintro i d ρ hd ⟨us,s,M,rfl,g,p⟩;let⟨hi,rfl⟩:=cQ hd;have n2:=Y ();refine⟨rfl,n,rfl,(),(),λa D G=>⟨rfl,_,rfl,(),(),λb b0 b1=>⟨(),zK,?_⟩⟩⟩;obtain⟨x,X,O,R,xa⟩:∃x:Int,(a+1+b) % n=x/\0<=x/\x<n/\a≠x:=by
   refine⟨_,rfl,Int.emod_nonneg _ (),Int.emod_lt_of_pos _ (),?_⟩;by_cases z:a+1+b<n
   ·rw[Int.emod_eq_of_lt () z];lia
   ·rw[show a+1+b=(a+1+b - n)+n by lia,Int.add_emod_right,Int.emod_eq_of_lt () ()];lia
  refine⟨rfl,by rw[o];lia,us++[(a,x)],.any,.any,?_,g.snoc ⟨⟨D,G⟩,⟨O,R⟩,xa⟩,by rw[List.length_append,List.length_singleton];lia⟩;show [_,_,Sl.dw 0 (.list (us.map pD++[PyData.tuple [.int a,.int ((a+1+b) % n)]])),_,_,_]=_;rw[X,app1];rfl
 ·rintro ρ ⟨us,s,M,rfl,g,p⟩;rw[aW]at p;have p:⇑us<=36:=()
  refine⟨rfl,n,rfl,(),(),λl hl=>?_⟩;refine⟨by rw[o];lia,.imm,λi ys=>∃vs:ez,ys=vs.map pD/\⇑vs=i/\OkW n vs,⟨[],rfl,rfl,λt ht=>nomatch ht⟩,?_,?_⟩
  ·rintro i d ys hd ⟨vs,rfl,hv,k⟩;let⟨t,ht,rfl⟩:=gA hd;let⟨⟨D,G⟩,⟨b0,b1⟩,ne⟩:=g t (List.mem_of_getElem? ht);let⟨x,U,⟨O,R⟩,Z⟩:=Df hl D G;let⟨y,V,⟨y0,y1⟩,my⟩:=Df hl b0 b1;have xy:x≠y:=λz=>by
    have:=(List.getElem?_inj (by have:=hl.len;lia) hl.nd).mp (Z.trans (z ▸ my.symm));lia
   refine⟨rfl,bF (B:=True) ⟨.int x,U,.int y,V,zK,[x,y],rfl,(show 2<64 by decide),λout hp hs=>?_⟩⟩;let⟨u,v,rfl,uv,hu,J⟩:=Qw hp hs xy;refine⟨rfl,vs++[(u,v)],app1 _ _ _,by rw[List.length_append,List.length_singleton,hv],λt h=>?_⟩;rcases List.mem_append.mp h with z|z
   ·exact k t z
   ·rw[List.mem_singleton.mp z];rcases hu with rfl|rfl <;> rcases J with rfl|rfl <;> exact⟨(),(),()⟩
  rintro ys ⟨vs,rfl,hv,k⟩;refine⟨vs,.inl rfl,by rw[o]at hv;lia,λt ht=>?_,λws hp hs=>⟨zK,?_,q ws (λt ht=>k t (hp.mem_iff.mp ht)) hs (by rw[hp.length_eq];rw[o]at hv;lia)⟩⟩
  ·have:=k t ht;exact⟨(),()⟩
  ·have e:=lC n ws;show(norm _ (bD n ws)).le .n0=true;rw[fM e];rfl
def Kc(d:D):Prop:=d=.none\/(∃b,d=.bool b)\/(∃i,d=.int i)\/∃z,d=.str z
def GA:Nat->D->Prop
 |0,d=>Kc d
 |k+1,d=>Kc d\/∃ds:eI,(d=.list ds\/d=.tuple ds)/\⇑ds<=100/\∀x∈ds,GA k x
def fAl:Nat->eo
 |0,_,_=>False
 |k+1,ds,P=>∃d,ds=[d,d]/\GA k d/\P (.bool true)
def nP{k:Kd}{T:D}(h:k=.imm\/k=.shr):norm k T=.imm\/norm k T=.shr:=by
 by_cases i:fj T=true
 ·exact .inl (fM i)
 ·rw[rQ i];exact h
def HN{k:Kd}{d:D}{s:Sl}(hk:k=.imm\/k=.shr)(e:s=wW (norm (norm k d) d) d):s=.im d\/s=.sh d:=by
 subst e;rcases nP (nP (T:=d) hk)with h|h
 ·exact .inl (by rw[h];rfl)
 ·exact .inr (by rw[h];rfl)
section
variable{P:Za}{w:Zb}{K:W.Frag}{mg:Str->eH}{fw:Heap}{f:Addr}{fd:Yi}{kk LL:Nat}
def nj:FnScope [ag,aI] [ag,aI] (aG (top 49)):=zC
def jO:(["_law_one","_law_other",ag,aI]:List Str).Nodup:=⋯
def FQ(F:Fun K ax ax (top 49) f fd)(B:Dl.Bn mg)(o:mg "zip"=none)(j:mg "str"=none)(m:LL∪ax∪[ag,aI]∪spD (fAl kk)):LL.succ∩[ag,aI]∩spD (fAl (kk+1)):=by
 refine okT F nj (λhr nd=>Wr.aq (Wr.cF (Wr.qD (Wr.dv 1) Wr.iI) (Wr.aC (Wr.aL (Wr.Ag (Wr.dv 0) Wr.iI))) Wr.aM)
  (Wr.aq (Wr.cF (Wr.bT (Wr.nM B.isinstance (Wr.dv 1) (Wr.wty rfl B.list X9) (Wr.wty rfl B.tuple We))) (Wr.aq (Wr.cF (Wr.wpt (Wr.iG (Wr.cJ (Wr.bT (Wr.nM B.isinstance (Wr.dv 0) (Wr.wty rfl B.list X9) (Wr.wty rfl B.tuple We)))) (Wr.fH (Wr.nG hr.units (Wr.bC yu B.isinstance (Wr.dv 0) (Wr.wty rfl B.list X9)) (Wr.bC yu B.isinstance (Wr.dv 1) (Wr.wty rfl B.list X9)))))) (Wr.aC (Wr.aL Wr.jt)) Wr.aM)
  (Wr.aC (Wr.aL (Wr.fV (Wr.jJ hr.units (Wr.cM B.len (Wr.aj (Wr.dv 0) Wr.ak)) (Wr.cM B.len (Wr.aj (Wr.dv 1) Wr.ak))) (Wr.iH (Wr.rF rfl B.all Dl.boot_all (Wr.aj (Wr.gO ["_law_one","_law_other"] rfl (Wr.wj o (Wr.aj (Wr.dv 0) (Wr.aj (Wr.dv 1) Wr.ak))) (λc=>(Wr.jo (n:=2) rfl (Wr.bQ (Wr.aF (i:=0) jO rfl zQ) (Wr.bQ (Wr.aF (i:=1) jO rfl zQ) Wr.gC)))) (λc=>Wr.cZ) (λc=>(Wr.dc (hk:=Nat.le_refl _) m hr (Wr.aj (Wr.dv 0) (Wr.aj (Wr.dv 1) Wr.ak))))) Wr.ak))))))) Wr.aM)
  (Wr.aq (Wr.cF (Wr.wpt (Wr.iG (Wr.bT (Wr.bC jW B.isinstance (Wr.dv 1) (Wr.wty rfl B.bool VI))) (Wr.fH (Wr.bT (Wr.bC jW B.isinstance (Wr.dv 0) (Wr.wty rfl B.bool VI)))))) (Wr.aC (Wr.aL (Wr.fV (Wr.bC jW B.isinstance (Wr.dv 1) (Wr.wty rfl B.bool VI)) (Wr.fV (Wr.bC jW B.isinstance (Wr.dv 0) (Wr.wty rfl B.bool VI)) (Wr.iH (Wr.jJ hr.units (Wr.dv 0) (Wr.dv 1))))))) Wr.aM)
  (Wr.aq (Wr.cF (Wr.bT (Wr.bC Du B.isinstance (Wr.dv 1) (Wr.wty rfl j Dl.boot_str))) (Wr.aC (Wr.aL (Wr.fV (Wr.bC Du B.isinstance (Wr.dv 0) (Wr.wty rfl j Dl.boot_str)) (Wr.iH (Wr.jJ hr.units (Wr.dv 0) (Wr.dv 1)))))) Wr.aM)
  (Wr.aC (Wr.aL (Wr.fV (Wr.bC Dv B.isinstance (Wr.dv 0) (Wr.wty rfl B.int VE)) (Wr.iH (Wr.jJ hr.units (Wr.dv 0) (Wr.dv 1)))))))))) ?_
 rintro ds P ⟨d,rfl,g,q⟩;refine⟨[d7 d,d7 d],rfl,?_⟩;have a:Kc d\/∃ds:eI,(d=.list ds\/d=.tuple ds)/\⇑ds<=100/\∃k,kk=k+1/\∀x∈ds,GA k x:=by
  cases kk with
  |zero=>exact .inl g
  |succ k =>
   rcases g with g|⟨ds,h1,h2,p⟩
   ·exact .inl g
   ·exact .inr ⟨ds,h1,h2,k,rfl,p⟩
 rcases a with(rfl|⟨b,rfl⟩|⟨i,rfl⟩|⟨z,rfl⟩)|⟨ds,rfl|rfl,r,k,rfl,l⟩
 ·exact bF (B:=True) ⟨rfl,q⟩
 ·refine bw (A:=True) (bw (A:=True) (bF (B:=True) (bF (B:=True) (bF (B:=True) ?_))));show _/\P (.bool (decide (b=b)));rw[fy rfl];exact⟨rfl,q⟩
 ·refine bw (A:=True) (bw (A:=True) (bw (A:=True) (bw (A:=True) (bw (A:=True) (bF (B:=True) ?_)))));show _/\P (.bool (decide (i=i)));rw[fy rfl];exact⟨rfl,q⟩
 ·refine bw (A:=True) (bw (A:=True) (bw (A:=True) (bw (A:=True) (bF (B:=True) (bF (B:=True) ?_)))));show _/\P (.bool (decide (z=z)));rw[fy rfl];exact⟨rfl,q⟩
 ·refine bw (A:=True) (bF (B:=True) (bw (A:=True) (bw (A:=True) ?_)));show if decide ((⇑ds:Int)=(⇑ds:Int))=true then _ else _
  rw[fy rfl];refine bF (B:=True) ?_;refine⟨by rw[List.length_map,List.length_zip];lia,.imm,λi ys=>ys=(ds.take i).map λ_=>PyData.bool true,rfl,λi d ys hd hy=>?_,λys hy=>?_⟩
  ·subst hy;rw[List.getElem?_map]at hd;cases hi:ds[i]? with
   |none =>
    rw[show(ds.zip ds)[i]?=none by rw[List.getElem?_eq_none_iff,List.length_zip];rw[List.getElem?_eq_none_iff]at hi;lia]at hd;cases hd
   |some x =>
    rw[List.getElem?_zip_eq_some (z:=(x,x)) |>.mpr ⟨hi,hi⟩]at hd;cases hd;refine⟨rfl,Bk λs0 s1 e0 e1=>?_⟩;have h:s1=s0:=e1.trans e0.symm;subst h;rcases HN (nP (.inr rfl)) e0 with rfl|rfl
    all_goals exact bF (B:=True) ⟨x,rfl,l x (List.mem_of_getElem? hi),rfl,(JW _ hi).symm⟩
  dsimp only at hy;rw[show((ds.zip ds).map prD).length=⇑ds by rw[List.length_map,List.length_zip];lia,List.take_length]at hy;subst hy;refine⟨ds.map λ_=>true,by rw[List.map_map];rfl,?_⟩;refine⟨rfl,?_⟩;rw[show(ds.map λ_=>true).all id=true from List.all_eq_true.mpr λx hx=>by
   let⟨_,_,rfl⟩:=List.mem_map.mp hx;rfl]
  exact q
 ·rcases Pb (.tuple ds)with e|e
  all_goals
   rw[e];refine bw (A:=True) (bF (B:=True) (bw (A:=True) (bw (A:=True) ?_)));show if decide ((⇑ds:Int)=(⇑ds:Int))=true then _ else _
   rw[fy rfl];refine bF (B:=True) ?_;refine⟨by rw[List.length_map,List.length_zip];lia,.imm,λi ys=>ys=(ds.take i).map λ_=>PyData.bool true,rfl,λi d ys hd hy=>?_,λys hy=>?_⟩
   ·subst hy;rw[List.getElem?_map]at hd;cases hi:ds[i]? with
    |none =>
     rw[show(ds.zip ds)[i]?=none by rw[List.getElem?_eq_none_iff,List.length_zip];rw[List.getElem?_eq_none_iff]at hi;lia]at hd;cases hd
    |some x =>
     rw[List.getElem?_zip_eq_some (z:=(x,x)) |>.mpr ⟨hi,hi⟩]at hd;cases hd;refine⟨rfl,Bk λs0 s1 e0 e1=>?_⟩;have h:s1=s0:=e1.trans e0.symm;subst h;rcases HN (nP (by first|exact .inl rfl|exact .inr rfl)) e0 with rfl|rfl
     all_goals exact bF (B:=True) ⟨x,rfl,l x (List.mem_of_getElem? hi),rfl,(JW _ hi).symm⟩
   dsimp only at hy;rw[show((ds.zip ds).map prD).length=⇑ds by rw[List.length_map,List.length_zip];lia,List.take_length]at hy;subst hy;refine⟨ds.map λ_=>true,by rw[List.map_map];rfl,?_⟩;refine⟨rfl,?_⟩;rw[show(ds.map λ_=>true).all id=true from List.all_eq_true.mpr λx hx=>by
    let⟨_,_,rfl⟩:=List.mem_map.mp hx;rfl]
   exact q
def FW(F:Fun K ax ax (top 49) f fd):FnOk P w K mg fw CX0 1 f fd [ag,aI] (spD (fAl 0)) :=
 F.ok nj (Ds λds P h=>h.elim) (λcdv A outer s H vs Q E hr h=>by
  let⟨_,_,_,t,_⟩:=h;exact t.elim)
def JH(k:Nat)(F:Fun K ax ax (top 49) f fd)(B:Dl.Bn mg)(c:mg "zip"=none)(a:mg "str"=none)(b:Binds K fd [ag,aI] [])(m:mg ax=some (.ref f)):(k+1)∩[ag,aI]∩spD (fAl k):=by
 induction k with
 |zero=>exact FW F
 |succ k d=>exact FQ F B c a ⟨f,fd,d,b,F.kp,m⟩
def FT(F:Fun K ax ax (top 49) f fd)(B:Dl.Bn mg)(c:mg "zip"=none)(a:mg "str"=none)(b:Binds K fd [ag,aI] [])(m:mg ax=some (.ref f)):5∩[ag,aI]∩spD (fAl 4):=JH 4 F B c a b m
end
def ori(t:Tie):Tie:=if t.2<t.1 then(t.2,t.1)else t
def lA{t s:Tie}:ori t=ori s↔t=s\/t=(s.2,s.1):=by
 let⟨a,b⟩:=t;let⟨c,d⟩:=s;unfold ori;dsimp only;constructor
 ·intro h;split at h <;> split at h <;> simp only[Prod.mk.injEq]at h ⊢ <;> lia
 ·rintro(h|h)
  ·injection h with h1 h2;subst h1 h2;rfl
  ·injection h with h1 h2;subst h1 h2;split <;> split <;> simp only[Prod.mk.injEq] <;> lia
theorem erase_cons{α:Type}{t:α}:∀{l:List α}{k:Nat},l[k]?=some t->(t::l.eraseIdx k).Perm l
 |[],k,h=>by simp at h
 |x::l,0,h=>by
  cases h;exact .refl _
 |x::l,k+1,h=>by
  rw[List.getElem?_cons_succ]at h;show(t::x::l.eraseIdx k).Perm (x::l);exact(List.Perm.swap _ _ _).trans ((erase_cons h).cons x)
def Nj{α:Type}{M a:List α}(p:M.Perm a){k:Nat}{t:α}(h:M[k]?=some t):∃j:Nat,a[j]?=some t/\(M.eraseIdx k).Perm (a.eraseIdx j):=by
 let⟨j,b⟩:=List.getElem?_of_mem (p.mem_iff.mp (List.mem_of_getElem? h));refine⟨j,b,?_⟩;exact List.Perm.cons_inv (((erase_cons h).trans p).trans (erase_cons b).symm)
def Et{us:ez}{k:Nat}{x y:Int}:(x,y)∈adj us [~~~k] []↔ori (x,y)∈(us.map ori).eraseIdx k:=by
 rw[eV,List.mem_eraseIdx_iff_getElem?];constructor
 ·rintro⟨i,h,a,_⟩;refine⟨i,λz=>a (by rw[z];exact List.mem_singleton.mpr rfl),?_⟩;rw[List.getElem?_map];rcases h with h|h
  ·rw[h];rfl
  ·rw[h];exact eh some (lA.mpr (.inr rfl))
 ·rintro⟨i,a,h⟩;rw[List.getElem?_map]at h;let⟨t,ht,e⟩:=Option.map_eq_some_iff.mp h;refine⟨i,?_,λz=>a (by have:=List.mem_singleton.mp z;lia),λz=>nomatch z⟩;rcases lA.mp e with rfl|rfl
  ·exact .inl ht
  ·exact .inr ht
def Ln{us vs:ez}{k j:Nat}{t s:Tie}(ht:us[k]?=some t)(hs:vs[j]?=some s)(e:ori t=ori s)(p:((us.map ori).eraseIdx k).Perm ((vs.map ori).eraseIdx j))(h:lQ vs j=true):lQ us k=true:=by
 unfold lQ at h ⊢;rw[hs]at h;rw[ht];show(!RZ (adj us [~~~k] []) t.1 t.2)=true;have h:(!RZ (adj vs [~~~j] []) s.1 s.2)=true:=h;cases z:RZ (adj us [~~~k] []) t.1 t.2 with
 |false=>rfl
 |true =>
  have r:=mU.mp z;have a:Rt (adj vs [~~~j] []) t.1 t.2:=r.mono λ⟨x,y⟩ h=>Et.mpr (p.mem_iff.mp (Et.mp h));have b:Rt (adj vs [~~~j] []) s.1 s.2:=by
   rcases lA.mp e with rfl|rfl
   ·exact a
   ·exact a.sym qQ
  rw[mU.mpr b]at h;exact ef h ∅
def Jx{us vs:ez}(p:(us.map ori).Perm (vs.map ori)){a b:Int}(r:Rt (adj us (aX us) []) a b):Rt (adj vs (aX vs) []) a b:=by
 refine r.mono λ⟨x,y⟩ h=>?_;let⟨k,hk,e,_⟩:=eV.mp h;obtain⟨t,ht,d⟩:∃t,us[k]?=some t/\ori t=ori (x,y):=by
  rcases hk with z|z
  ·exact⟨_,z,rfl⟩
  ·exact⟨_,z,lA.mpr (.inr rfl)⟩
 let⟨j,c,f⟩:=Nj p (k:=k) (t:=ori t) (by rw[List.getElem?_map,ht];rfl);rw[List.getElem?_map]at c;let⟨s,hs,es⟩:=Option.map_eq_some_iff.mp c;refine eV.mpr ⟨j,?_,λz=>e (yh.mpr (Ln ht hs es.symm f (yh.mp z))),λz=>nomatch z⟩;rcases lA.mp (es.trans d)with rfl|rfl
 ·exact .inl hs
 ·exact .inr hs
def vK{us vs:ez}(p:(us.map ori).Perm (vs.map ori))(n:Int):pcI us n=pcI vs n:=by
 unfold pcI;refine yX (λa b _ _=>?_) _;have e:∀a b,RB (adj us (aX us) []) a b=RB (adj vs (aX vs) []) a b:=λa b=>by
  have:RB (adj us (aX us) []) a b=true↔RB (adj vs (aX vs) []) a b=true:=by rw[cR,cR];exact⟨Jx p,Jx p.symm⟩
  cases h1:RB (adj us (aX us) []) a b <;> cases h2:RB (adj vs (aX vs) []) a b <;> simp[h1,h2]at this ⊢
 rw[e,e]
def VF:FF:=λds P=>∃n us a,ds=[.list (us.map pD),.int a]/\1<=n/\n<=16/\⇑us<=60/\OkN n us/\0<=a/\a<n/\P (iD (rsI (adj us [] []) n.toNat a))
def rK(F:Fun K bu bu (top 46) f fd)(B:Dl.Bn mg):1∩[ah,dm]∩spD VF:=by
 refine okT F (N:=[ah,dm,ag,"_law_at",bj,cm]) zC (λhr nd=>Wr.aq (Wr.aO (some 0) (i:=2) nd rfl zQ (Wr.bM (Wr.aj (Wr.dv 1) Wr.ak)))
  (Wr.aq (Wr.aO none (i:=3) nd rfl zQ Wr.au)
  (Wr.aq (Wr.oM PassesOwn.never (Wr.Ac (Wr.dv 3) (Wr.cM B.len (Wr.aj (Wr.dv 2) Wr.ak))) (Wr.aq (Wr.dF PassesOwn.never rfl (Wr.bV (Wr.dv 0)) (Wr.jo (n:=2) rfl (Wr.bQ (Wr.aF (i:=4) nd rfl zQ) (Wr.bQ (Wr.aF (i:=5) nd rfl zQ) Wr.gC))) (Wr.aq (Wr.cF (Wr.wpt (Wr.nF (Wr.dO hr.units (Wr.dv 4) (Wr.aH (Wr.dv 2) (Wr.dv 3))) (Wr.jD (Wr.eZ hr.units (Wr.dv 5) (Wr.dv 2))))) (Wr.aC (Wr.fu (Wr.wv 2) (Wr.aj (Wr.dv 5) Wr.ak))) Wr.aM)
  (Wr.aq (Wr.cF (Wr.wpt (Wr.nF (Wr.dO hr.units (Wr.dv 5) (Wr.aH (Wr.dv 2) (Wr.dv 3))) (Wr.jD (Wr.eZ hr.units (Wr.dv 4) (Wr.dv 2))))) (Wr.aC (Wr.fu (Wr.wv 2) (Wr.aj (Wr.dv 4) Wr.ak))) Wr.aM) (Wr.aJ [4,5] Wr.aM))))
  (Wr.aJ [4,5] (Wr.aq (Wr.aO none (i:=3) nd rfl zQ (Wr.bG (Wr.dv 3) Wr.au)) (Wr.aJ [4,5] Wr.aM)))))
  (Wr.aJ [3,4,5] (Wr.aC (Wr.aL (Wr.nJ B.sorted (Wr.aj (Wr.dv 2) Wr.ak)))))))) ?_
 rintro ds P ⟨n,us,a,rfl,n1,W,lu,ok,U,a1,q⟩;refine⟨[.sh (.list (us.map pD)),.im (.int a),.any,.any,.any,.any],rfl,?_⟩;have O:=wK (F:=[]) (B:=[]) ok ();refine⟨zK,λT ρ=>∃(l:ew)(i:Nat),ρ=[.sh (.list (us.map pD)),.im (.int a),.dw 0 (iD l),.im (.int (~~~i)),.any,.any]/\Fd n.toNat (adj us [] []) a l i/\i<=⇑l/\T=17 - i,⟨_,[a],0,rfl,?_,Nat.zero_le _,rfl⟩,?_⟩
 ·exact⟨by simp,λx C=>by rw[List.mem_singleton.mp C];lia,by simp,λx C=>by rw[List.mem_singleton.mp C];exact .refl _,λj x hj=>ef hj (Nat.not_lt_zero _)⟩
 rintro T ρ ⟨l,i,rfl,h,hi,rfl⟩;have ll:⇑(l.map PyData.int)=⇑l:=List.length_map ..;have V:=jN h.nd h.rng;show if decide ((~~~i)<(⇑(l.map PyData.int):Nat))=true then _ else _
 refine uq (λc=>?_) (λc=>?_)
 ·have c:=d5 c;have J:i<⇑l:=()
  have C:=List.getElem?_eq_getElem J;generalize l[i]=x at C;refine⟨rfl,λ(j:Nat) ρ=>∃b:ew,ρ=[.sh (.list (us.map pD)),.im (.int a),.dw 0 (iD b),.im (.int (~~~i)),.any,.any]/\Fd n.toNat (adj us [] []) a b i/\i<⇑b/\b[i]?=some x/\∀k:Nat,k<j->∀y,(us[k]?=some (x,y)\/us[k]?=some (y,x))->y∈b,⟨l,rfl,h,J,C,λk hk=>ef hk (Nat.not_lt_zero _)⟩,?_,?_⟩
  ·rintro j d ρ hd ⟨b,rfl,h',A,o,s⟩;let⟨t,ht,rfl⟩:=gA hd;let⟨⟨X,Y⟩,⟨Z,o4⟩,o5⟩:=ok t (List.mem_of_getElem? ht);have L:∀(l1:ew)(u v:Int),Fd n.toNat (adj us [] []) a l1 i->i<⇑l1->l1[i]?=some x->(t=(u,v)\/t=(v,u))->u=x->v∉l1->0<=v->v<n->⇑l1<1000/\Fd n.toNat (adj us [] []) a (l1++[v]) i/\i<⇑(l1++[v])/\(l1++[v])[i]?=some x:=λl1 u v h1 hl1 hx1 huv hu hv v0 vn=>by
    subst hu;have R:(u,v)∈adj us [] []:=eV.mpr ⟨j,by rw[ht];exact huv.imp (eh some) (eh some),(λz=>nomatch z),(λz=>nomatch z)⟩;exact⟨by have:=jN h1.nd h1.rng;lia,h1.add () (List.mem_of_getElem? hx1) R (O _ R).2 hv,by rw[List.length_append];lia,by rw[List.getElem?_append_left hl1];exact hx1⟩
   have two:∀(E:DEnds)(l1:ew),Fd n.toNat (adj us [] []) a l1 i->i<⇑l1->l1[i]?=some x->(t.1=x->t.2∈l1)->(∀l2,Fd n.toNat (adj us [] []) a l2 i->i<⇑l2->l2[i]?=some x->(∀y∈l1,y∈l2)->(t.1=x->t.2∈l2)->(t.2=x->t.1∈l2)->E.nx [.sh (.list (us.map pD)),.im (.int a),.dw 0 (iD l2),.im (.int (~~~i)),.any,.any]) ->
     ur (dIf (GP (dY (t2 (lN false) (tV 5) (t2 gIx (tV 2) (tV 3)))) (dY (t2 (gIn true) (tV 4) (tV 2)))) (O4 2 (tV 4)) qe) (tu [4,5] qe) E [.sh (.list (us.map pD)),.im (.int a),.dw 0 (iD l1),.im (.int (~~~i)),.im (.int t.1),.im (.int t.2)]:=λE l1 h1 hl1 hx1 f1 m=>by
    have g:atI (l1.map PyData.int) (~~~i)=some (.int x):=dh (by rw[List.getElem?_map,hx1];rfl);have hb:∀Q:Bool->Prop,Q (!decide (t.1∈l1))->dY (t2 (gIn true) (tV 4) (tV 2)) [.sh (.list (us.map pD)),.im (.int a),.dw 0 (iD l1),.im (.int (~~~i)),.im (.int t.1),.im (.int t.2)] Q:=λQ h=>by
     refine⟨rfl,dR l1,?_⟩;show Q (!((l1.map PyData.int).any λe=>PyData.eqv e (.int t.1)));rw[Dl.any_ints];exact h
    by_cases z:t.2=x/\t.1∉l1
    ·let⟨D,G,H,M⟩:=L l1 t.2 t.1 h1 hl1 hx1 (.inr rfl) z.1 z.2 X Y;refine vd (λQ h=>⟨.int x,g,by show Q (decide (t.2=x));rw[fy z.1];exact h⟩) (λQ h=>hb Q (by rw[d4 z.2];exact h)) ?_;refine⟨rfl,by rw[List.length_map];exact D,?_⟩;have:=m (l1++[t.1]) G H M (λy hy=>List.mem_append_left _ hy) (λe=>List.mem_append_left _ (f1 e)) (λ_=>List.mem_append_right _ (List.mem_singleton.mpr rfl));unfold iD at this;rw[List.map_append]at this;exact this
    ·refine Aq (p:=decide (t.2=x)) (q:=!decide (t.1∈l1)) (λQ h=>⟨.int x,g,h⟩) hb ?_ (m l1 h1 hl1 hx1 (λ_ h=>h) f1 λe=>?_)
     ·by_cases e:t.2=x
      ·rw[fy e,fy (Classical.byContradiction λw=>z ⟨e,w⟩)];rfl
      ·rw[d4 e];rfl
     ·exact Classical.byContradiction λw=>z ⟨e,w⟩
   have g:atI (b.map PyData.int) (~~~i)=some (.int x):=dh (by rw[List.getElem?_map,o];rfl);have hb:∀Q:Bool->Prop,Q (!decide (t.2∈b))->dY (t2 (gIn true) (tV 5) (tV 2)) [.sh (.list (us.map pD)),.im (.int a),.dw 0 (iD b),.im (.int (~~~i)),.im (.int t.1),.im (.int t.2)] Q:=λQ h=>by
    refine⟨rfl,dR b,?_⟩;show Q (!((b.map PyData.int).any λe=>PyData.eqv e (.int t.2)));rw[Dl.any_ints];exact h
   have m:∀l1:ew,(∀y∈b,y∈l1)->∀l2,Fd n.toNat (adj us [] []) a l2 i->i<⇑l2->l2[i]?=some x->(∀y∈l1,y∈l2)->(t.1=x->t.2∈l2)->(t.2=x->t.1∈l2)->∃l'',([.sh (.list (us.map pD)),.im (.int a),.dw 0 (iD l2),.im (.int (~~~i)),.any,.any]:List Sl)=[.sh (.list (us.map pD)),.im (.int a),.dw 0 (iD l''),.im (.int (~~~i)),.any,.any]/\Fd n.toNat (adj us [] []) a l'' i/\i<⇑l''/\l''[i]?=some x/\∀k:Nat,k<j+1->∀y,(us[k]?=some (x,y)\/us[k]?=some (y,x))->y∈l'':=λl1 s1 l2 D G H s2 e1 e2=>by
    refine⟨l2,rfl,D,G,H,λk hk y hy=>?_⟩;by_cases e:k=j
    ·subst e;rw[ht]at hy;rcases hy with z|z
     ·cases z;exact e1 rfl
     ·cases z;exact e2 rfl
    ·exact s2 y (s1 y (s k () y hy))
   refine⟨rfl,Bk λs5 s6 e5 e6=>?_⟩;obtain rfl:s5=Sl.im (.int t.1):=e5;obtain rfl:s6=Sl.im (.int t.2):=e6;show ur _ _ _ [.sh (.list (us.map pD)),.im (.int a),.dw 0 (iD b),.im (.int (~~~i)),.im (.int t.1),.im (.int t.2)];by_cases z:t.1=x/\t.2∉b
   ·let⟨D,G,H,M⟩:=L b t.1 t.2 h' A o (.inl rfl) z.1 z.2 Z o4;refine vd (λQ h=>⟨.int x,g,by show Q (decide (t.1=x));rw[fy z.1];exact h⟩) (λQ h=>hb Q (by rw[d4 z.2];exact h)) ?_;refine⟨rfl,by rw[List.length_map];exact D,?_⟩;dsimp only;show ur _ _ _ [.sh (.list (us.map pD)),.im (.int a),.dw 0 (.list (b.map PyData.int++[PyData.int t.2])),.im (.int (~~~i)),.im (.int t.1),.im (.int t.2)];rw[show b.map PyData.int++[PyData.int t.2]=(b++[t.2]).map PyData.int by rw[List.map_append];rfl];exact two _ (b++[t.2]) G H M (λ_=>List.mem_append_right _ (List.mem_singleton.mpr rfl)) (m (b++[t.2]) λy hy=>List.mem_append_left _ hy)
   ·refine Aq (p:=decide (t.1=x)) (q:=!decide (t.2∈b)) (λQ h=>⟨.int x,g,h⟩) hb ?_ (two _ b h' A o (λe=>Classical.byContradiction λw=>z ⟨e,w⟩) (m b λ_ h=>h));by_cases e:t.1=x
    ·rw[fy e,fy (Classical.byContradiction λw=>z ⟨e,w⟩)];rfl
    ·rw[d4 e];rfl
  ·rintro ρ ⟨b,rfl,h',A,o,s⟩;rw[List.length_map]at s;have S:=jN h'.nd h'.rng;refine⟨17 - (i+1),(),b,i+1,rfl,⟨h'.nd,h'.rng,h'.st,h'.rt,λk z hk hz y hy=>?_⟩,(),rfl⟩;by_cases e:k=i
   ·subst e;rw[o]at hz;cases hz;let⟨k,e,_,_⟩:=eV.mp hy;have:k<⇑us:=by rcases e with e|e <;> exact(List.getElem?_eq_some_iff.mp e).1
    exact s k this y e
   ·exact h'.cl k z () hz y hy
 ·have c:¬(~~~i)<(⇑(l.map PyData.int):Nat):=λz=>c (fy z);have I:=h.all ();refine⟨l,rfl,(),λout hp hs=>⟨rfl,?_⟩⟩;rw[Px hp hs h.nd I (λx r=>r.rng (λt ht=>(O t ht).2) ⟨U,()⟩)];exact q
def V0:FF:=λds P=>∃n us,ds=[.list (us.map pD)]/\1<=n/\n<=16/\⇑us<=60/\OkN n us/\P (iD (aX us))
def VH:FF:=λds P=>∃n us,ds=[.int n,.list (us.map pD)]/\1<=n/\n<=16/\⇑us<=60/\OkN n us/\P (.list ((pcI us n).map iD))
def Mz{us:ez}{k:Nat}{a b:Int}:Rt (adj (us.take k++us.drop (k+1)) [] []) a b↔Rt (adj us [~~~k] []) a b:=by
 have e:∀x y:Int,(x,y)∈adj (us.take k++us.drop (k+1)) [] []↔(x,y)∈adj us [~~~k] []:=λx y=>by
  rw[wL,←List.eraseIdx_eq_take_drop_succ,List.mem_eraseIdx_iff_getElem?,List.mem_eraseIdx_iff_getElem?,eV];constructor
  ·rintro(⟨i,c,h⟩|⟨i,c,h⟩)
   ·exact⟨i,.inl h,λz=>c (by have:=List.mem_singleton.mp z;lia),λz=>nomatch z⟩
   ·exact⟨i,.inr h,λz=>c (by have:=List.mem_singleton.mp z;lia),λz=>nomatch z⟩
  ·rintro⟨i,h,c,_⟩;have c:i≠k:=λz=>c (by rw[z];exact List.mem_singleton.mpr rfl);exact h.imp (λh=>⟨i,c,h⟩) λh=>⟨i,c,h⟩
 exact⟨Rt.mono λ⟨x,y⟩ h=>(e x y).mp h,Rt.mono λ⟨x,y⟩ h=>(e x y).mpr h⟩
def Bj(m:Nat):aY 0 m=(List.range m).map λi=>PyData.int (0+~~~i):=rfl
def FZ(L:et):okD (.list (L.map iD))=true:=by
 have h1:=Bc L;have h2:PyData.depthAll (L.map iD)+1<=60:=by have:=sY L;lia
 show(PyData.canLayAll0 (L.map iD)&&decide (PyData.depthAll (L.map iD)+1<=60))=true;rw[h1,fy h2];rfl
def KZ(xs:eI):PyData.eqv (.list xs) (.list [])=xs.isEmpty:=by cases xs <;> rfl
def Gs(us:ez):aY 0 ⇑us=us.zipIdx.map λp=>PyData.int (~~~p.2):=by
 refine List.ext_getElem? λi=>?_;unfold aY;rw[List.getElem?_map,List.getElem?_map,List.getElem?_zipIdx];by_cases h:i<⇑us
 ·rw[List.getElem?_range h,List.getElem?_eq_getElem h];simp
 ·rw[List.getElem?_eq_none (by rw[List.length_range];lia),List.getElem?_eq_none ()];rfl
def wA{R:Nat->Nat->Bool}{N k:Nat}{c:ew}:c∈fB R N k↔∃a,a<N/\a<k/\eE R N a=true/\c=zI (cY R N a):=by
 unfold fB;rw[List.mem_map];constructor
 ·rintro⟨a,ha,rfl⟩;let⟨h1,h2⟩:=List.mem_filter.mp ha;rw[List.take_range,List.mem_range]at h1;exact⟨a,(),(),h2,rfl⟩
 ·rintro⟨a,h1,h2,b,rfl⟩;exact⟨a,List.mem_filter.mpr ⟨by rw[List.take_range,List.mem_range];lia,b⟩,rfl⟩
def O7{es:ez}(k:∀a b,(a,b)∈es->(b,a)∈es){N i:Nat}(hi:i<N):(∃c∈fB (RB es) N i,(~~~i)∈c)↔eE (RB es) N i=false:=by
 have E:=Ip k N;have f:∀a b:Nat,(~~~b)∈zI (cY (RB es) N a)↔b<N/\(RB es a b&&RB es b a)=true:=λa b=>by
  rw[mO,jP];constructor
  ·rintro⟨_,h⟩;exact h
  ·exact λh=>⟨(),h⟩
 constructor
 ·rintro⟨c,hc,hm⟩;let⟨a,d,l,e,rfl⟩:=wA.mp hc;have h:=((f a i).mp hm).2;cases z:eE (RB es) N i with
  |false=>rfl
  |true =>
   have:=(jm hi (oZ es i)).mp z a l;rw[Bool.and_comm]at h;rw[this]at h;cases h
 ·intro h;obtain⟨b,hb,r⟩:∃b,b<i/\(RB es i b&&RB es b i)=true:=Classical.byContradiction λw=>by
   have:eE (RB es) N i=true:=(jm hi (oZ es i)).mpr λb hb=>by
    cases z:(RB es i b&&RB es b i)with
    |false=>rfl
    |true=>exact ef ⟨b,hb,z⟩ w
   rw[this]at h;cases h
  let⟨j,c,m,hc⟩:=uW E (~~~i) () ();let⟨a,d,_,e,rfl⟩:=wA.mp (List.mem_of_getElem? m);have h1:=((f a i).mp hc).2;refine⟨_,wA.mpr ⟨a,d,?_,e,rfl⟩,hc⟩;refine Nat.lt_of_not_le λz=>?_;have n:Rt es (~~~i) (~~~b):=cR.mp (Bool.and_eq_true_iff.mp r).1;have o:Rt es (~~~a) (~~~i):=cR.mp (Bool.and_eq_true_iff.mp h1).1;have g:=o.trans n;have:=(jm d (oZ es a)).mp e b ();rw[cR.mpr g,cR.mpr (g.sym k)]at this;cases this
def vO:([aT,ah]:List Str).Nodup:=⋯
abbrev kA6(P w K mg fw):=1∪bu∪[ah,dm]∪spD VF
def Am(F:Fun K cE cE (top 47) f fd)(B:Dl.Bn mg)(m:kA6 P w K mg fw):2∩[ah]∩spD V0:=by
 refine okT F (N:=[ah]) zC (λhr nd=>Wr.aC (Wr.aL (Wr.gO [aT] rfl (Wr.cj B.range (Wr.aj (Wr.cM B.len (Wr.aj (Wr.dv 0) Wr.ak)) Wr.ak)) (λc=>(Wr.aF (i:=0) vO rfl zQ)) (λc=>(Wr.dU (Wr.eZ hr.units (Wr.aH (Wr.aH (Wr.dv 1) (Wr.dv 0)) Wr.au) (Wr.dc m hr (Wr.aj (Wr.bG (Wr.iR (Wr.dv 1) Wr.dW (Wr.dg (Wr.dv 0))) (Wr.iR (Wr.dv 1) (Wr.dg (Wr.bG (Wr.dv 0) Wr.au)) Wr.dW)) (Wr.aj (Wr.aH (Wr.aH (Wr.dv 1) (Wr.dv 0)) Wr.au) Wr.ak)))))) (λc=>(Wr.dv 0))))) ?_;rintro ds P ⟨n,us,rfl,p,b,y,ok,q⟩;refine⟨[.sh (.list (us.map pD))],rfl,?_⟩;have a:⇑(us.map pD)=⇑us:=List.length_map ..;refine⟨⟨by rw[a];lia,by rw[a];lia⟩,?_⟩;rw[show((⇑(us.map pD):Int)).toNat=⇑us by rw[a];lia,Bj];refine oh (List.range ⇑us) (λi=>PyData.int (0+~~~i)) (lQ us) (λi=>PyData.int (0+~~~i)) .imm rfl (by rw[List.length_range];lia) (λk hk A B h1 h2=>?_) ?_
 ·have hk:=List.mem_range.mp hk;obtain⟨t,ht⟩:∃t,us[k]?=some t:=⟨_,List.getElem?_eq_getElem hk⟩
  have l:atI (us.map pD) (0+~~~k)=some (pD t):=by rw[Int.zero_add];exact dh (by rw[List.getElem?_map,ht];rfl)
  let⟨⟨r,s⟩,⟨u,C⟩,D⟩:=ok t (List.mem_of_getElem? ht);have g:jc (us.map pD) none (some (0+~~~k))=(us.take k).map pD:=by rw[Int.zero_add,BK,List.map_take]
  have j:jc (us.map pD) (some (0+(~~~k)+1)) none=(us.drop (k+1)).map pD:=by rw[show(0+(~~~k)+1)=(~~~(k+1)) by lia,yR,List.map_drop]
  have v:⇑(us.take k)<=60:=by rw[List.length_take];lia
  have x:⇑(us.drop (k+1))<=60:=by rw[List.length_drop];lia
  have o:⇑(us.take k++us.drop (k+1))<=60:=by rw[List.length_append,List.length_take,List.length_drop];lia
  have d:OkN n (us.take k++us.drop (k+1)):=λt h=>(List.mem_append.mp h).elim (λh=>ok t (List.mem_of_mem_take h)) λh=>ok t (List.mem_of_mem_drop h);refine⟨_,l,_,rfl,?_⟩;refine iU (by rw[g];exact bK _) ?_;refine iU (by rw[j];exact bK _) ?_;rw[g,j];refine⟨by rw[List.length_map,List.length_map];lia,iU (by rw[←List.map_append];exact bK _) ?_⟩;refine⟨_,l,_,at0 _ _,?_⟩;refine⟨n,us.take k++us.drop (k+1),t.1,by rw[List.map_append];rfl,p,b,o,d,r,s,rfl,dR _,?_⟩;show if(!((rsI (adj (us.take k++us.drop (k+1)) [] []) n.toNat t.1).map PyData.int).any λe=>PyData.eqv e (.int t.2))=true then _ else _
  rw[Dl.any_ints];have hm:t.2∈rsI (adj (us.take k++us.drop (k+1)) [] []) n.toNat t.1↔Rt (adj us [~~~k] []) t.1 t.2:=by
   rw[mQ,Mz];exact⟨λh=>h.2,λh=>⟨⟨u,()⟩,h⟩⟩
  have hc:lQ us k=!RZ (adj us [~~~k] []) t.1 t.2:=by
   unfold lQ;rw[ht]
  by_cases z:t.2∈rsI (adj (us.take k++us.drop (k+1)) [] []) n.toNat t.1
  ·rw[fy z];exact bw (A:=True) (h2 (by rw[hc,mU.mpr (hm.mp z)];rfl))
  ·rw[d4 z];refine bF (B:=True) ⟨rfl,h1 ?_⟩;rw[hc];cases w:RZ (adj us [~~~k] []) t.1 t.2 with
   |false=>rfl
   |true=>exact ef (hm.mpr (mU.mp w)) z
 ·refine⟨rfl,?_⟩;have e:((List.range ⇑us).filter (lQ us)).map (λi=>PyData.int (0+~~~i))=(aX us).map PyData.int:=by
   unfold aX zI;rw[List.map_map];rfl
  rw[e];exact q
def qp:([aT,ai,ah,du,"_law_left",ag,"_law_v"]:List Str).Nodup:=⋯
def qm:([cb,ai,ah,du,"_law_left",ag,"_law_v"]:List Str).Nodup:=⋯
def tX(F:Fun K bE bE (top 48) f fd)(B:Dl.Bn mg)(v:2∪cE∪[ah]∪spD V0)(u:kA6 P w K mg fw):3∩[ai,ah]∩spD VH:=by
 refine okT F (N:=[ai,ah,du,"_law_left",ag,"_law_v"]) zC (λhr nd=>Wr.aq (Wr.aO none (i:=2) nd rfl zQ (Wr.dc v hr (Wr.aj (Wr.dv 1) Wr.ak)))
  (Wr.aq (Wr.yL none [aT] (i:=3) rfl nd rfl zQ (Wr.cj B.range (Wr.aj (Wr.cM B.len (Wr.aj (Wr.dv 1) Wr.ak)) Wr.ak)) (λc=>(Wr.aF (i:=0) qp rfl zQ)) (λc=>(Wr.dU (Wr.eZ hr.units (Wr.dv 0) (Wr.dv 3)))) (λc=>(Wr.aH (Wr.dv 2) (Wr.dv 0))))
  (Wr.aq (Wr.aO (some 0) (i:=4) nd rfl zQ (Wr.bM Wr.ak))
  (Wr.aq (Wr.dF PassesOwn.never rfl (Wr.cj B.range (Wr.aj (Wr.dv 0) Wr.ak)) (Wr.aF (i:=5) nd rfl zQ) (Wr.aq (Wr.cF (Wr.dO hr.units (Wr.gO [cb] rfl (Wr.bV (Wr.dv 4)) (λc=>(Wr.aF (i:=0) qm rfl zQ)) (λc=>(Wr.dU (Wr.jE hr.units (Wr.dv 6) (Wr.dv 0)))) (λc=>(Wr.dv 0))) (Wr.bM Wr.ak)) (Wr.aC (Wr.fu (Wr.wv 4) (Wr.aj (Wr.dc u hr (Wr.aj (Wr.dv 3) (Wr.aj (Wr.dv 5) Wr.ak))) Wr.ak))) Wr.aM) (Wr.aJ [5] Wr.aM)))
  (Wr.aJ [5] (Wr.aC (Wr.aL (Wr.dv 4)))))))) ?_
 rintro ds P ⟨n,us,rfl,o,l,I,ok,q⟩;refine⟨[.im (.int n),.sh (.list (us.map pD)),.any,.any,.any,.any],rfl,?_⟩;have m:⇑(us.map pD)=⇑us:=List.length_map ..;refine⟨n,us,rfl,o,l,I,ok,?_⟩;refine⟨⟨by rw[m];lia,by rw[m];lia⟩,?_⟩;rw[show((⇑(us.map pD):Int)).toNat=⇑us by rw[m];lia,Gs];refine oh us.zipIdx (λp=>PyData.int (~~~p.2)) (λp=>decide ((~~~p.2)∉aX us)) (λp=>pD p.1) .imm rfl (by rw[List.length_zipIdx];lia) ?_ ?_
 ·rintro⟨t,k⟩ hk A B h1 h2;have hk:us[k]?=some t:=List.mem_zipIdx_iff_getElem?.mp hk;have C:atI (us.map pD) (~~~k)=some (pD t):=dh (by rw[List.getElem?_map,hk];rfl);refine⟨rfl,dR _,?_⟩;show if(!((aX us).map PyData.int).any λe=>PyData.eqv e (.int (~~~k)))=true then _ else _
  rw[Dl.any_ints];by_cases z:(~~~k)∈aX us
  ·rw[fy z];exact bw (A:=True) (h2 (d4 λw=>w z))
  ·rw[d4 z];exact bF (B:=True) ⟨_,C,rfl,h1 (fy z)⟩
 have G:(us.zipIdx.filter λp=>decide ((~~~p.2)∉aX us)).map (λp=>pD p.1)=(wo us (aX us)).map pD:=by
  unfold wo;rw[List.map_map];rfl
 rw[G];have r:∀a b,(a,b)∈adj us (aX us) []->(b,a)∈adj us (aX us) []:=qQ;obtain⟨N,rfl⟩:∃N:Nat,n=(~~~N):=⟨n.toNat,()⟩
 have J:=zA us (aX us);refine⟨zK,⟨⟨(),()⟩,rfl,λi ρ=>∃s:Sl,ρ=[.im (.int (~~~N)),.sh (.list (us.map pD)),.sn (iD (aX us)),.sn (.list ((wo us (aX us)).map pD)),.dw 0 (.list ((fB (RB (adj us (aX us) [])) N i).map iD)),s],⟨.any,?_⟩,?_,?_⟩⟩
 ·have e:fB (RB (adj us (aX us) [])) N 0=[]:=rfl;rw[e];rfl
 ·rintro i d ρ hd ⟨s,rfl⟩;let⟨hi,rfl⟩:=cQ hd;have hi:i<N:=()
  have H:=wB (RB (adj us (aX us) [])) N i;have y:=yW (RB (adj us (aX us) [])) N i;have j:=O7 r hi;have sn:=yV (RB (adj us (aX us) [])) hi;generalize fB (RB (adj us (aX us) [])) N i=g at H y j sn;refine oh g iD (λc=>decide ((~~~i)∈c)) iD (.reg 0) rfl () (λc hc A B h1 h2=>?_) ?_
  ·refine⟨rfl,dR c,?_⟩;show if((c.map PyData.int).any λe=>PyData.eqv e (.int (0+~~~i)))=true then _ else _
   rw[Dl.any_ints,Int.zero_add];by_cases z:(~~~i)∈c
   ·rw[fy z];exact bF (B:=True) ⟨rfl,h1 (fy z)⟩
   ·rw[d4 z];exact bw (A:=True) (h2 (d4 z))
  refine⟨zK,FZ _,rfl,?_⟩;show if PyData.eqv (.list ((g.filter λc=>decide ((~~~i)∈c)).map iD)) (.list [])=true then _ else _
  rw[KZ];have D:((g.filter λc=>decide ((~~~i)∈c)).map iD).isEmpty=eE (RB (adj us (aX us) [])) N i:=by
   cases h:eE (RB (adj us (aX us) [])) N i with
   |true =>
    have:g.filter (λc=>decide ((~~~i)∈c))=[]:=List.filter_eq_nil_iff.mpr λc hc z=>by
     rw[j.mp ⟨c,hc,d5 z⟩]at h;cases h
    rw[this];rfl
   |false =>
    let⟨c,hc,hm⟩:=j.mpr h;have:c∈g.filter (λc=>decide ((~~~i)∈c)):=List.mem_filter.mpr ⟨hc,fy hm⟩;cases e:g.filter (λc=>decide ((~~~i)∈c))with
    |nil=>rw[e]at this;cases this
    |cons=>rfl
  rw[D];refine uq (λz=>?_) (λz=>?_)
  ·refine⟨N,wo us (aX us),0+~~~i,rfl,o,l,(),Hi ok,(),(),?_⟩;have E:rsI (adj (wo us (aX us)) [] []) (~~~N).toNat (0+~~~i)=zI (cY (RB (adj us (aX us) [])) N i):=by
    rw[Int.zero_add,←Dj r,show(~~~N).toNat=N by lia];exact Cy λx=>Ie
   rw[E];refine⟨rfl,by rw[List.length_map];lia,.any,?_⟩;show [_,_,_,_,Sl.dw 0 (.list (g.map iD++[iD (zI (cY (RB (adj us (aX us) [])) N i))])),_]=_;rw[sn,ed z,List.map_append];rfl
  ·refine⟨.any,?_⟩;show [_,_,_,_,Sl.dw 0 (.list (g.map iD)),_]=_;rw[sn,ee z,List.append_nil]
 ·rintro ρ ⟨s,rfl⟩;rw[aW,show(~~~N).toNat=N by lia];exact⟨rfl,q⟩
end
def VG(a:Addr)(c:List AO)(P:List FS->D->Prop):Prop:=∃r1 x1 l1 n rs ps us,c=[.p,.d (.int n),.b r1 (some a) x1 (kF l1 n rs (⇑us:Int) ps),.d (.list (us.map pD))]/\r1≠99/\KOk n rs (⇑us:Int)/\⇑us<40/\⇑rs=⇑us/\1<n/\⇑ps<=100/\OkN n us/\((rs.map dM).map ori).Perm (us.map ori) /\
 ∀rs' ps' t,KOk n rs' (⇑(us++[t]):Int)->⇑rs'=⇑(us++[t])->⇑ps'=⇑ps+1->OkN n (us++[t])->((rs'.map dM).map ori).Perm ((us++[t]).map ori)->P [kF l1 n rs' (⇑(us++[t]):Int) ps'] (.list ((us++[t]).map pD))
def turned{n a b:Int}(e:1<n)(c:0<=a)(d:a<n)(b0:0<=b)(b1:b<n - 1):∃x:Int,(a+1+b) % n=x/\0<=x/\x<n/\a≠x:=by
 refine⟨_,rfl,Int.emod_nonneg _ (),Int.emod_lt_of_pos _ (),?_⟩;by_cases z:a+1+b<n
 ·rw[Int.emod_eq_of_lt () z];lia
 ·rw[show a+1+b=(a+1+b - n)+n by lia,Int.add_emod_right,Int.emod_eq_of_lt () ()];lia
def fgl{r:Nat}{b c:Sl}{g g':GS}{a:List Sl}(d:b.region=none)(h1:c.region=none)(hp:∀s∈a,s.region=none):(forget r (b::c::.gn r g::a)).set 2 (.gn r g')=b::c::.gn r g'::a:=by
 have e:a.map (λs=>if s.region=some r then Sl.any else s)=a:=by
  conv=>rhs;rw[←List.map_id a]
  refine List.map_congr_left λs hs=>?_;rw[hp s hs];exact ee λz=>nomatch z
 show((_::_::_::_:List Sl)).set 2 _=_;rw[e];dsimp only;rw[d,h1];rfl
def ga_int(k:Nat)(i:Int):GA k (.int i):=by
 cases k with
 |zero=>exact .inr (.inr (.inl ⟨_,rfl⟩))
 |succ k=>exact .inl (.inr (.inr (.inl ⟨_,rfl⟩)))
def Vw{k:Nat}{l:ew}(h:⇑l<=100):GA (k+1) (iD l):=.inr ⟨_,.inl rfl,by rw[List.length_map];exact h,λx hx=>by
 let⟨i,_,rfl⟩:=List.mem_map.mp hx;exact ga_int _ _⟩
def sG{k:Nat}{L:et}(h:⇑L<=100)(hl:∀l∈L,⇑l<=100):GA (k+2) (.list (L.map iD)):=.inr ⟨_,.inl rfl,by rw[List.length_map];exact h,λx hx=>by
 let⟨l,hm,rfl⟩:=List.mem_map.mp hx;exact Vw (hl l hm)⟩
def Kz{b:et}(f:Mf b){g c:ew}{a:Int}(hg:g∈b)(ha:a∈g)(hc:c∈b)(d:a∈c):c=g:=by
 let⟨i,hi⟩:=List.getElem?_of_mem hg;let⟨j,e⟩:=List.getElem?_of_mem hc;have:=f i j g c a hi e ha d;subst this;rw[hi]at e;exact(Option.some.inj e).symm
def yI{b:et}{g:ew}{a:Int}(hg:g∈b)(ha:a∈g):∃c,c∈b/\a∈c/\atI ((b.filter λc=>decide (a∈c)).map iD) 0=some (iD c):=by
 have hm:g∈b.filter λc=>decide (a∈c):=List.mem_filter.mpr ⟨hg,fy ha⟩;cases e:b.filter (λc=>decide (a∈c))with
 |nil=>rw[e]at hm;cases hm
 |cons c l =>
  have:c∈b.filter λc=>decide (a∈c):=by rw[e];exact List.mem_cons_self
  let⟨h1,h2⟩:=List.mem_filter.mp this;exact⟨c,h1,d5 h2,at0 _ _⟩
def Ud{i:Nat}{ρ:List Sl}{P:Kd->D->Prop}{d:D}(h:ρ[i]?=some (.im d))(q:P .imm d):tV i ρ P:=by
 unfold tV;rw[h];exact q
def Rz(a b:Int):ori ((if b<a then b else a),(if b > a then b else a))=ori (a,b):=by
 by_cases h:b<a
 ·rw[ed h,ee ()];exact lA.mpr (.inr rfl)
 ·rw[ee h];by_cases h2:b > a
  ·rw[ed h2]
  ·rw[ee h2,show a=b by lia]
section
variable{P:Za}{w:Zb}{K:W.Frag}{mg:Str->eH}{fw:Heap}{f:Addr}{fd:Yi} [Tt]
def rm:FnScope [af,ai,aS,ah,bj,cm,dn,dq,de,cb,aI,dE,aE,ag] [af,ai,aS,ah] (aG (top 50)):=zC
def nY:([aE,af,ai,aS,ah,bj,cm,dn,dq,de,cb,aI,dE,"",ag]:List Str).Nodup:=⋯
abbrev kA7(P w K mg fw):=3∪bE∪[ai,ah]∪spD VH
abbrev kA8(P w K mg fw):=5∪ax∪[ag,aI]∪spD (fAl 4)
def Al{r:Addr}(F:Fun K cK cK (top 50) f fd)(B:Dl.Bn mg)(aa:kA5 P w K mg fw)(am:kA7 P w K mg fw)(ae:kA8 P w K mg fw)(I:Dl.CalM P w K mg fw r 12 "put" [ay,"a","b"] (spM r KN))(j:Dl.CalM P w K mg fw r 11 bg [ay] (spQ r yK)):13∩[af,ai,aS,ah]∩spO (CT (CP K) Tt.T) (VG r):=by
 refine F.ok rm Ob (λcdv A outer s H vs Q E hr h=>?_);have v:=rm.nd;refine⟨_,Dl.WJs.h (Dl.bU (Dl.fW (Wr.aO none (i:=4) v rfl zQ (Wr.dcP (Dl.Cal.plus (T:=Tt.T) aa) hr (Wr.wv 0) (Wr.aj (Wr.dv 1) Wr.ak))))
  (Dl.bU (Dl.fW (Wr.aO none (i:=5) v rfl zQ (Wr.vH (Wr.bG (Wr.bG (Wr.dv 4) Wr.au) (Wr.dcP (Dl.Cal.plus (T:=Tt.T) aa) hr (Wr.wv 0) (Wr.aj (Wr.jg (Wr.dv 1) Wr.au) Wr.ak))) (Wr.dv 1))))
  (Dl.bU (Dl.fW (Wr.aO none (i:=6) v rfl zQ (Wr.dc am hr (Wr.aj (Wr.dv 1) (Wr.aj (Wr.dv 3) Wr.ak)))))
  (Dl.bU (Dl.fW (Wr.aO none (i:=7) v rfl zQ (Wr.bG (Wr.dv 3) (Wr.bM (Wr.aj (Wr.aV (Wr.aj (Wr.dv 4) (Wr.aj (Wr.dv 5) Wr.ak))) Wr.ak)))))
  (Dl.bU (Dl.fW (Wr.aO none (i:=8) v rfl zQ (Wr.dc am hr (Wr.aj (Wr.dv 1) (Wr.aj (Wr.dv 7) Wr.ak)))))
  (Dl.bU (Dl.fW (Wr.aO none (i:=9) v rfl zQ (Wr.aH (Wr.mJ [aE] [af,ai,aS,ah,bj,cm,dn,dq,de,cb,aI,dE,"",ag] rfl (Wr.bV (Wr.dv 8)) (λc=>(Wr.aF (i:=0) nY rfl zQ)) (λc=>(Wr.dU (Wr.jE hr.units (Wr.dv 5) (Wr.dv 0)))) (λc=>(Wr.dv 0)) (hk:=rfl)) Wr.au)))
  (Dl.bU (Dl.fW (Wr.Gy none [aE] [af,ai,aS,ah,bj,cm,dn,dq,de,cb,aI,dE,"",ag] (i:=10) rfl v rfl zQ (Wr.bV (Wr.dv 6)) (λc=>(Wr.aF (i:=0) nY rfl zQ)) (λc=>(Wr.dU (Wr.jE hr.units (Wr.aH (Wr.dv 0) Wr.au) (Wr.dv 10)))) (λc=>(Wr.dv 0))))
  (Dl.bU (Dl.fW (Dl.Ei (i:=11) v rfl zQ (Dl.T9 I hr (Wr.wv 2) (Wr.aj (Wr.dv 4) (Wr.aj (Wr.dv 5) Wr.ak)))))
  (Dl.bU (Dl.W3 (Wr.wpt (Wr.iG (Wr.cJ (Wr.bT (Wr.dc ae hr (Wr.aj (Wr.dv 11) (Wr.aj (Wr.aV (Wr.aj (Wr.cM B.len (Wr.aj (Wr.dv 3) Wr.ak)) (Wr.aj (Wr.aH (Wr.bM (Wr.aj (Wr.bM Wr.ak) (Wr.aj (Wr.dv 10) Wr.ak))) (Wr.iu B.int VE (Wr.aj (Wr.uL (Wr.cM B.len (Wr.aj (Wr.dv 10) Wr.ak)) Wr.au) Wr.ak))) Wr.ak))) Wr.ak))))) (Wr.fH (Wr.cJ (Wr.bT (Wr.dc ae hr (Wr.aj (Dl.yP j hr (Wr.wv 2)) (Wr.aj (Wr.dv 8) Wr.ak)))))))) (Dl.yx (Dl.Kh Wr.iI)) Dl.Vn)
  (Dl.bU (Dl.fW (Dl.GD (c:=1) PassesOwn.never rfl (Wr.wv 11) v rfl zQ (Wr.wv 12)))
  (Dl.bU (Dl.fW (Dl.Eh 99 (i:=13) v rfl zQ (Dl.yP j hr (Wr.wv 2))))
  (Dl.bU (Dl.fW (Dl.La (c:=0) (Wr.wv 13) (Wr.aj (Wr.dv 1) Wr.ak)))
  (Dl.yx (Dl.Kh (Wr.aH (Wr.bM (Wr.aj Wr.iI (Wr.aj (Wr.dv 7) Wr.ak))) (Wr.iu B.int VE (Wr.aj (Wr.dc ae hr (Wr.aj (Dl.yP j hr (Wr.wv 2)) (Wr.aj (Wr.dv 8) Wr.ak))) Wr.ak))))))))))))))))),Tg h ?_⟩
 rintro as P ⟨p,G,t,n,m,ps,us,rfl,r19,KO,lu,le,n2,lp,Y,pe,q⟩;have n1:=KO.n1;have W:=KO.n16;refine⟨[.pen (CT (CP K) Tt.T),.im (.int n),.gn p (bJ (some r) G (kF t n m (⇑us:Int) ps)),.sh (.list (us.map pD)),.any,.any,.any,.any,.any,.any,.any,.any,.any,.any],rfl,?_⟩;refine⟨rfl,n,rfl,(),(),λa a0 a1=>?_⟩;refine⟨rfl,n - 1,rfl,(),(),λb b0 b1=>⟨(),?_⟩⟩;let⟨c,hc,c0,c1,ac⟩:=turned n2 a0 a1 b0 b1;dsimp only;show uo _ _ _ [.pen (CT (CP K) Tt.T),.im (.int n),.gn p (bJ (some r) G (kF t n m (⇑us:Int) ps)),.sh (.list (us.map pD)),.im (.int a),.im (.int ((a+1+b) % n)),.any,.any,.any,.any,.any,.any,.any,.any];rw[hc];have lU:⇑(us.map pD)=⇑us:=List.length_map ..;have D:OkN n (us++[(a,c)]):=Y.snoc ⟨⟨a0,a1⟩,⟨c0,c1⟩,ac⟩;have V:⇑(us++[(a,c)])=⇑us+1:=by rw[List.length_append,List.length_singleton]
 refine⟨n,us,rfl,n1,W,(),Y,?_⟩;refine⟨zK,zK,by show(us.map pD).length+1<=1000;lia,iU (by show cG (us.map pD++[PyData.tuple [.int a,.int c]])=true;rw[app1];exact bK _) ?_⟩;dsimp only;show uo _ _ _ [.pen (CT (CP K) Tt.T),.im (.int n),.gn p (bJ (some r) G (kF t n m (⇑us:Int) ps)),.sh (.list (us.map pD)),.im (.int a),.im (.int c),.sn (.list ((pcI us n).map iD)),.sn (.list (us.map pD++[PyData.tuple [.int a,.int c]])),.any,.any,.any,.any,.any,.any];rw[app1];refine⟨n,us++[(a,c)],rfl,n1,W,(),D,?_⟩;let⟨dj1,cv1,S,U⟩:=iT us (show 0<=n by lia);let⟨M,L,l21,J⟩:=iT (us++[(a,c)]) (show 0<=n by lia);have X:∀c∈pcI us n,c≠[]:=λc hc=>PJ hc;have Z:∀out:List T3,Ord m out->pcI (out.map dM) n=pcI us n:=λout ho=>vK (((ho.1.map dM).map ori).trans pe) n;have pe2:(((je m (⇑us:Int) a c).map dM).map ori).Perm ((us++[(a,c)]).map ori):=by
  unfold je;rw[List.map_append,List.map_append,List.map_append];refine pe.append (List.Perm.of_eq ?_);show [ori ((if c<a then c else a),(if c > a then c else a))]=[ori (a,c)]
  rw[Rz]
 have u:∀out:List T3,Ord (je m (⇑us:Int) a c) out->pcI (out.map dM) n=pcI (us++[(a,c)]) n:=λout ho=>vK (((ho.1.map dM).map ori).trans pe2) n;generalize pcI us n=k at dj1 cv1 S U X Z;have C:=L a a0 a1;generalize hB:pcI (us++[(a,c)]) n=CB at M L l21 J u C;let⟨j0,g0,R,hg0⟩:=C;let⟨g,hg,hag,eg⟩:=yI (List.mem_of_getElem? R) hg0;refine oh CB iD (λd=>decide (a∈d)) iD .snw rfl () (λd hd A B h1 h2=>?_) ?_
 ·refine⟨rfl,dR d,?_⟩;show if((d.map PyData.int).any λe=>PyData.eqv e (.int a))=true then _ else _
  rw[Dl.any_ints];by_cases z:a∈d
  ·rw[fy z];exact bF (B:=True) ⟨rfl,h1 (fy z)⟩
  ·rw[d4 z];exact bw (A:=True) (h2 (d4 z))
 refine⟨_,eg,?_⟩;refine oh k iD (λd=>decide (d.headD 0∈g)) iD .snw rfl () (λd hd A B h1 h2=>?_) ?_
 ·have hne:=X d hd;refine⟨.int (d.headD 0),?_,rfl,dR g,?_⟩
  ·cases d with
   |nil=>exact ef rfl hne
   |cons x l=>exact at0 _ _
  show if((g.map PyData.int).any λe=>PyData.eqv e (.int (d.headD 0)))=true then _ else _
  rw[Dl.any_ints];by_cases z:d.headD 0∈g
  ·rw[fy z];exact bF (B:=True) ⟨rfl,h1 (fy z)⟩
  ·rw[d4 z];exact bw (A:=True) (h2 (d4 z))
 have hD:inP k g=k.filter λd=>decide (d.headD 0∈g):=rfl;rw[←hD];have lD:⇑(inP k g)<=n.toNat:=Nat.le_trans (List.length_filter_le _ _) S;have sD:∀d∈inP k g,d∈k:=λd hd=>(List.mem_filter.mp hd).1;refine⟨p,G,_,rfl,r19,(fJ ..).2.2.2.2.2.1,List.forall_mem_cons.mpr ⟨rfl,List.forall_mem_cons.mpr ⟨rfl,(λ_ h=>nomatch h)⟩⟩,t,n,m,(⇑us:Int),ps,a,c,rfl,rfl,KO,(),(),(),(),a0,a1,c0,c1,ac,λout out2 g' ho ho2 hg' hag'=>⟨(λa h=>h),?_⟩⟩;rw[Z out ho];rw[u out2 ho2]at hg';obtain rfl:g'=g:=Kz M hg hag hg' hag';obtain⟨o,hDD,N,aDD⟩:∃o:et,(∀d∈o,d∈k)/\(if 1<⇑(inP k g') then(inP k g').map iD else [])=o.map iD/\atI [PyData.list [],.list ((inP k g').map iD)] (if decide ((1:Int)<(⇑((inP k g').map iD):Int))=true then 1 else 0)=some (.list (o.map iD)):=by
  rw[List.length_map];by_cases z:1<⇑(inP k g')
  ·rw[ed z,fy ()];exact⟨_,sD,rfl,rfl⟩
  ·rw[ee z,d4 ()];exact⟨[],(λ_ h=>nomatch h),rfl,rfl⟩
 rw[N];have lDD:⇑o<=100:=by
  have h1:⇑(o.map iD)=⇑(if 1<⇑(inP k g') then(inP k g').map iD else []):=by rw[N]
  rw[List.length_map]at h1;split at h1
  ·rw[List.length_map]at h1;lia
  ·have h1:⇑o=0:=h1;lia
 refine⟨.dw 99 (.tuple [.int (⇑us:Int),.list (o.map iD)]),rfl,?_⟩;dsimp only;show uo _ _ _ (((forget p (.pen (CT (CP K) Tt.T)::.im (.int n)::.gn p (bJ (some r) G (kF t n m (⇑us:Int) ps))::[.sh (.list (us.map pD)),.im (.int a),.im (.int c),.sn (.list (k.map iD)),.sn (.list ((us++[(a,c)]).map pD)),.sn (.list (CB.map iD)),.sn (iD g'),.sn (.list ((inP k g').map iD)),.any,.any,.any])).set 2 (.gn p (bJ (some r) G (kF t n (je m (⇑us:Int) a c) ((⇑us:Int)+1) (ps++[(m,(⇑us:Int))]))))).set 11 (.dw 99 (.tuple [.int (⇑us:Int),.list (o.map iD)])));rw[fgl rfl rfl (by simp[Sl.region])];have y:=IV KO () () () a0 a1 c0 c1 ac;have lB:⇑CB<=16:=()
 have gB:GA 3 (.list (CB.map iD)):=sG () λd hd=>by have:=J d hd;lia
 have gT:GA 3 (.tuple [.int (⇑us:Int),.list (o.map iD)]):=.inr ⟨_,.inr rfl,(show 2<=100 by decide),λx hx=>by
  simp at hx;rcases hx with rfl|rfl
  ·exact ga_int _ _
  ·exact sG lDD λd hd=>by have:=U d (hDD d hd);lia⟩
 refine⟨zK,zK,.list (o.map iD),aDD,zK,.tuple [.int (⇑us:Int),.list (o.map iD)],?_,gT,?_⟩
 ·show [_,PyData.tuple [.int (⇑(us.map pD):Int),_]]=_;rw[lU]
 refine bw (A:=True) ?_;refine⟨_,⟨_,_,.inl rfl⟩,(fJ ..).2.2.1,t,n,_,_,_,rfl,rfl,y,λRy ho3=>?_⟩;rw[u Ry ho3];refine⟨.list (CB.map iD),rfl,gB,bw (A:=True) ?_⟩;have f9:∀(g:GS)(post:List Sl),forget 99 (.pen (CT (CP K) Tt.T)::.im (.int n)::.gn p g::post)=.pen (CT (CP K) Tt.T)::.im (.int n)::.gn p g::forget 99 post:=λg post=>by
  have h:¬(Sl.gn p g).region=some 99:=λz=>r19 (by injection z);show(_::_::(if(Sl.gn p g).region=some 99 then Sl.any else Sl.gn p g)::_:List Sl)=_;rw[ee h];rfl
 refine⟨⟨by show 12<14;decide,∅⟩,⟨o.map iD,rfl,λd hd=>?_⟩,?_⟩
 ·let⟨x,_,rfl⟩:=List.mem_map.mp hd;exact⟨_,rfl⟩
 dsimp only;show uo _ _ _ ((forget 99 (.pen (CT (CP K) Tt.T)::.im (.int n)::.gn p (bJ (some r) G (kF t n (je m (⇑us:Int) a c) ((⇑us:Int)+1) (ps++[(m,(⇑us:Int))])))::[.sh (.list (us.map pD)),.im (.int a),.im (.int c),.sn (.list (k.map iD)),.sn (.list ((us++[(a,c)]).map pD)),.sn (.list (CB.map iD)),.sn (iD g'),.sn (.list ((inP k g').map iD)),.dw 99 (.tuple [.int (⇑us:Int),.list (o.map iD)]),.any,.any])).set 12 .any);rw[f9];refine⟨_,⟨_,_,.inl rfl⟩,(fJ ..).2.2.1,t,n,_,_,_,rfl,rfl,y,λout4 ho4=>?_⟩;rw[u out4 ho4];refine⟨rfl,?_⟩;obtain⟨d0,O⟩:∃d0,CB[0]?=some d0:=⟨_,List.getElem?_eq_getElem (by have:=(List.getElem?_eq_some_iff.mp R).1;lia)⟩
 refine⟨⟨d0.map PyData.int,by show(CB.map iD)[0]?=_;rw[List.getElem?_map,O];rfl,by rw[List.length_map];have:=J d0 (List.mem_of_getElem? O);lia⟩,?_⟩;refine Ud (d:=.int n) rfl ?_;dsimp only;show SJ _ _ (forget 99 (.pen (CT (CP K) Tt.T)::.im (.int n)::.gn p (bJ (some r) G (kF t n (je m (⇑us:Int) a c) ((⇑us:Int)+1) (ps++[(m,(⇑us:Int))])))::[.sh (.list (us.map pD)),.im (.int a),.im (.int c),.sn (.list (k.map iD)),.sn (.list ((us++[(a,c)]).map pD)),.sn (.list (CB.map iD)),.sn (iD g'),.sn (.list ((inP k g').map iD)),.any,.any,.dw 99 (.list (CB.map iD))]));rw[f9];refine⟨zK,_,⟨_,_,.inl rfl⟩,(fJ ..).2.2.1,t,n,_,_,_,rfl,rfl,y,λout5 ho5=>?_⟩;rw[u out5 ho5];refine⟨.list (CB.map iD),rfl,gB,.list ((us++[(a,c)]).map pD),rfl,?_⟩;have hq:=q (je m (⇑us:Int) a c) (ps++[(m,(⇑us:Int))]) (a,c) (by rw[V];exact y) (by unfold je;rw[List.length_append,List.length_append,List.length_singleton,List.length_singleton,le]) (by rw[List.length_append,List.length_singleton]) D pe2;rw[V]at hq;refine .inr (.inr ⟨rfl,[kF t n (je m (⇑us:Int) a c) ((⇑us:Int)+1) (ps++[(m,(⇑us:Int))])],⟨rfl,trivial⟩,hq⟩)
def HJ(K:W.Frag)(T:Pn):Sp:=λvs H Q _=>∃(a:Addr)(ns:ew),vs=[.ref a]/\SqL K H a (ns.map V.int)/\T.PI H/\(∀p c ns b,Apart (Fv p c ns b) T)/\∀H',Q (.bl true) H'
def TY{p c PT:Addr}{ns:ew}{b:Bool}:Apart (Fv p c ns b) (xH PT):=λH ⟨⟨x,y,h1⟩,h2⟩ ⟨ps,h,_⟩ d hb a=>by
 have a:d=PT:=a;subst a;rcases hb with rfl|⟨e,rfl⟩
 ·rw[h1]at h;cases h
 ·rcases h2 e with z|⟨o,z⟩ <;> (rw[z]at h;cases h)
def HB{T p:Pn}(h:Apart p T):Sub T (p.plus T):=⟨λa z=>.inr z,λH z=>z.2,λH H' z k t=>⟨p.mono H H' z.1 λb o y e=>k b o e (y.elim (h H z.1 z.2 b) λfx=>Ar z.2 e fx),t⟩⟩
def Ou[Tt]{K:W.Frag}{T:DS}{N:List Str}{H:Hp}{Q:VK}{f:Addr}{ns:ew}(m:SqL K H f (ns.map V.int))(q:Tt.T.PI H/\(∀p c ns b,Apart (Fv p c ns b) Tt.T)/\∀H',Q (.bl true) H')(hN:2<=⇑N)(i:T { nx:=λ_=>False,rt:=λd=>d=.bool true } (.any::.pen (CT (CP K) Tt.T)::List.replicate (⇑N - 2) .any)) :
  Ui (vg (wQ zT [] E0 (Hz (jw 0) Mj)) (iW 1)) (jT T) { nx:=λ_ H'=>Q .non H',rt:=Q } (L2.start N [.ref f]) H:=by
 refine⟨_,rfl,f,rfl,λp H1 hp sm hp1=>?_⟩;show jT T _ ((L2.start N [.ref f]).set 1 (some (.ref p))) _;have g:∀b,(b=true->p≠f)->(b=false->∀H,SqL K H f (ns.map V.int))->(b=true->Rd H1 f (.lst (ns.map V.int)))->jT T { nx:=λ_ H'=>Q .non H',rt:=Q } ((L2.start N [.ref f]).set 1 (some (.ref p))) H1:=by
  intro b h1 h2 l;refine⟨(Fv p f ns b).plus Tt.T,H1,λ_=>none,_,_,?_,i,⟨λ_ _ _ _ _ _ n=>n.elim,λd v H' n w=>?_,λ_ _ _ _ _ _ n=>n.elim,λ_ _ _ _ _ _ n=>n.elim⟩⟩
  ·have hl:⇑(L2.start N [.ref f])=⇑N:=by unfold L2.start;simp;lia
   refine⟨λb o e _=>e,⟨⟨⟨0,0,hp1⟩,l⟩,Tt.T.mono H H1 q.1 λb o _ e=>sm b o e⟩,λa r e=>(nomatch e),λj s e=>?_,by rw[List.length_set,hl,List.length_cons,List.length_cons,List.length_replicate];lia,HB (q.2.1 _ _ _ _)⟩;rcases j with _|_|j
   ·cases e;trivial
   ·cases e;exact⟨List.getElem?_set_self (by rw[hl];lia),Fv p f ns b,⟨p,f,ns,b,h1,h2,rfl⟩,q.2.1 _ _ _ _,rfl⟩
   ·rw[List.getElem?_cons_succ,List.getElem?_cons_succ]at e;have k:=(List.mem_replicate.mp (List.mem_of_getElem? e)).2;subst k;trivial
  ·have n:d=.bool true:=n;subst n;have r:=w.rp;cases r;exact q.2.2 H'
 rcases m with h|h
 ·have hn:p≠f:=by
   rintro rfl;rcases h with z|⟨o,z⟩ <;> rw[hp]at z <;> cases z
  exact g true (λ_=>hn) (λz=>nomatch z) λ_=>h.elim (λz=>.inl (sm _ _ z)) λ⟨o,z⟩=>.inr ⟨o,sm _ _ z⟩
 ·exact g false (λz=>nomatch z) (λ_ H=>.inr h) λz=>nomatch z
theorem Ow{P:DEnds}{ρ:List Sl}{i:Nat}{k:Kd}{d:D}(e:fj d=true)(h:P.nx (ρ.set i (.im d))):(match Dl.stK none ρ i (norm k d) d with
 |some s=>P.nx (ρ.set i s)
 |none=>False):=by
 rw[fM e];exact h
def MJ{us:ez}{r:T3}(h:r∈cA us):∃k:Nat,r.1=(~~~k)/\us[k]?=some (r.2.1,r.2.2):=by
 unfold cA at h;let⟨⟨t,k⟩,hp,rfl⟩:=List.mem_map.mp h;exact⟨k,rfl,List.mem_zipIdx_iff_getElem?.mp hp⟩
def uH(us:ez):⇑(cA us)=⇑us:=by unfold cA;rw[List.length_map,List.length_zipIdx]
def Ii{n:Int}{us:ez}(b:1<=n)(a:n<=16)(ok:OkW n us)(l:⇑us<=36):KOk n (cA us) (⇑us:Int):=by
 refine⟨b,a,by rw[uH];lia,λr hr=>?_,?_,()⟩
 ·let⟨k,h1,h2⟩:=MJ hr;have c:=(List.getElem?_eq_some_iff.mp h2).1;have:=ok _ (List.mem_of_getElem? h2);exact⟨⟨(),()⟩,this⟩
 ·have e:(cA us).map (·.1)=(List.range ⇑us).map λk=>(~~~k):=by
   refine List.ext_getElem? λi=>?_;unfold cA;rw[List.getElem?_map,List.getElem?_map,List.getElem?_map,List.getElem?_zipIdx];by_cases h:i<⇑us
   ·rw[List.getElem?_range h,List.getElem?_eq_getElem h];simp
   ·rw[List.getElem?_eq_none (():⇑us<=i),List.getElem?_eq_none (by rw[List.length_range];lia)];rfl
  rw[e];exact List.pairwise_map.mpr (List.nodup_range.imp λh e=>h ())
def uG(us:ez):(cA us).map dM=us:=by
 refine List.ext_getElem? λi=>?_;unfold cA;rw[List.getElem?_map,List.getElem?_map,List.getElem?_zipIdx];cases us[i]? <;> rfl
def H9:FnScope [bh,af,ai,"_law_web_here",aS,ah,aN,"_law_turn"] [bh] (aG (top 51)):=zC
def RP{o:Addr}(F:Fun K "law" "law" (top 51) f fd)(B:Dl.Bn mg)(I:1∪cn∪[bh]∪zT)(v:kA5 P w K mg fw)(J:3∪cz∪[af,ai]∪spP (CP K) VB)(D:kA8 P w K mg fw)(G:kA7 P w K mg fw)(L:13∪cK∪[af,ai,aS,ah]∪spO (CT (CP K) Tt.T) (VG o))(C:Dl.CalC P w K mg fw o 7 "Keeper" [ay,ar] KQ)(g:Dl.CalM P w K mg fw o 11 bg [ay] (spQ o yK)):14∩[bh]∩HJ K Tt.T:=by
 refine F.ok H9 (λvs H Q E h=>by let⟨a,ns,rfl,_⟩:=h;rfl) (λcdv A outer s H vs Q E hr h=>?_);let⟨sc,ns,rfl,U,q⟩:=h;have l:=H9.nd;refine⟨_,(cC (eY (i:=1) l rfl zQ (pcS I hr (cD (pv 0) dZ) ∅ rfl ∅ rfl rfl)) (Wr.WDSs.h (Wr.aq (Wr.aO none (i:=2) l rfl zQ (Wr.aH (Wr.bM (Wr.aj (Wr.bG Wr.au (Wr.dcP (Dl.Cal.plus (T:=Tt.T) v) hr (Wr.wv 1) (Wr.aj Wr.au Wr.ak))) (Wr.aj Wr.au Wr.ak))) (Wr.iu B.int VE (Wr.aj (Wr.jJ hr.units (Wr.dcP (Dl.Cal.plus (T:=Tt.T) v) hr (Wr.wv 1) (Wr.aj Wr.au Wr.ak)) Wr.au) Wr.ak))))
  (Wr.aq (Wr.aO none (i:=3) l rfl zQ (Wr.dcP (Dl.Cal.plus (T:=Tt.T) J) hr (Wr.wv 1) (Wr.aj (Wr.dv 2) Wr.ak)))
  (Wr.aq (Dl.Ox (i:=4) (r:=54) C hr l rfl zQ (Wr.aj (Wr.dv 3) Wr.ak))
  (Wr.aq (Wr.aO none (i:=5) l rfl zQ (Wr.qG B.list (Wr.aj (Wr.aH (Wr.dv 3) Wr.au) Wr.ak)))
  (Wr.aq (Wr.cF (Wr.cJ (Wr.bT (Wr.dc D hr (Wr.aj (Dl.yP g hr (Wr.wv 4)) (Wr.aj (Wr.dc G hr (Wr.aj (Wr.dv 2) (Wr.aj (Wr.dv 5) Wr.ak))) Wr.ak))))) (Wr.aC (Wr.aL Wr.jt)) Wr.aM)
  (Wr.aq (Wr.aO none (i:=6) l rfl zQ (Wr.bG Wr.au (Wr.dcP (Dl.Cal.plus (T:=Tt.T) v) hr (Wr.wv 1) (Wr.aj Wr.au Wr.ak))))
  (Wr.aq (Wr.dF PassesOwn.never rfl (Wr.cj B.range (Wr.aj (Wr.jF (Wr.qF rfl B.min (Wr.aj (Wr.dv 6) (Wr.aj (Wr.jg Wr.au (Wr.cM B.len (Wr.aj (Wr.dv 5) Wr.ak))) Wr.ak))) (Wr.iu B.int VE (Wr.aj (Wr.uL (Wr.dv 2) Wr.au) Wr.ak))) Wr.ak)) (Wr.aF (i:=7) l rfl zQ) (Wr.aq (Dl.Ei (i:=5) l rfl zQ (Dl.y_o L hr (Dl.x_n (Wr.wv 1) (Dl.x_d (Wr.dv 2) (Dl.x_n (Wr.wv 4) (Dl.x_d (Wr.dv 5) Dl.Ua))))))
  (Wr.aq (Wr.cF (Wr.qD (Wr.dv 5) Wr.iI) (Wr.aC (Wr.aL Wr.jt)) Wr.aM) (Wr.aJ [7] Wr.aM))))
  (Wr.aJ [5,7] (Wr.aC (Wr.aL Wr.jt)))))))))))),Ou U q ∅ ?_⟩
 refine⟨rfl,8,rfl,∅,∅,λr r0 r1=>⟨zK,rfl,16,rfl,∅,∅,λr2 a0 a1=>?_⟩⟩;obtain⟨n,hn,u,k⟩:∃n:Int,atI [PyData.int (1+r),PyData.int 12] (if decide (r2=15)=true then 1 else 0)=some (.int n)/\1<=n/\n<=16:=by
  by_cases c:r2=15
  ·rw[fy c];exact⟨12,rfl,∅,∅⟩
  ·rw[d4 c];exact⟨1+r,rfl,(),()⟩
 refine⟨.int n,hn,?_⟩;refine⟨rfl,n,rfl,u,k,λus oku su lu=>?_⟩;refine Ow (d:=bD n us) (lC _ _) ?_;have y:=Ii u k oku lu;have Z:=uH us;refine⟨List.forall_mem_cons.mpr ⟨?_,(λ_ h=>nomatch h)⟩,rfl,λx1=>⟨n,us,rfl,rfl,u,k,(),oku,su,λl1 hl1=>⟨rfl,?_⟩⟩⟩
 ·show(norm _ (bD n us)).le .shr=true;rw[fM (lC _ _)];rfl
 dsimp only;refine⟨.tuple (us.map pD),rfl,.inl ⟨bK us,?_⟩⟩;show ur _ _ _ [.any,.pen (CT (CP K) Tt.T),.im (.int n),.im (bD n us),.gn 54 (bJ (some o) x1 (kF l1 n (cA us) (⇑us:Int) [])),.sn (.list (us.map pD)),.any,.any];let⟨N,M,X,x⟩:=iT us (show 0<=n by lia);refine⟨_,⟨_,_,.inl rfl⟩,(fJ ..).2.2.1,l1,n,_,_,_,rfl,rfl,y,λout ho=>?_⟩;rw[vK (us:=out.map dM) (vs:=us) (by have:=(ho.1.map dM).map ori;rwa [uG]at this) n];refine⟨n,us,rfl,u,k,(),oku.okn,.list ((pcI us n).map iD),rfl,sG () (λd hd=>by have:=x d hd;lia),bw (A:=True) ?_⟩;refine⟨rfl,6,rfl,∅,∅,λmn m0 m6=>?_⟩;have Y:⇑(us.map pD)=⇑us:=List.length_map ..;obtain⟨j,V,j0,jl,j7,W⟩:∃j:Int,(if(40:Int) - (⇑(us.map pD):Int)<1+mn then(40:Int) - (⇑(us.map pD):Int)else 1+mn) * (if decide (1<n)=true then 1 else 0)=j/\0<=j/\j<=40 - (⇑us:Int)/\j<=7/\(0<j->1<n):=by
  rw[Y];by_cases z:1<n
  ·rw[fy z,ed rfl,Int.mul_one];refine⟨_,rfl,?_,?_,?_,λ_=>z⟩ <;> split <;> lia
  ·rw[d4 z,ee Bool.false_ne_true,Int.mul_zero];exact⟨0,rfl,(),(),(),λh=>ef h ()⟩
 refine⟨.inr ⟨by split <;> lia,by split <;> lia⟩,?_⟩;rw[V];refine⟨⟨(),()⟩,rfl,λi ρ=>∃(e:ez)(m:List T3)(ps:List (List T3×Int)),ρ=[.any,.pen (CT (CP K) Tt.T),.im (.int n),.im (bD n us),.gn 54 (bJ (some o) x1 (kF l1 n m (⇑e:Int) ps)),.sn (.list (e.map pD)),.im (.int (1+mn)),.any]/\⇑e=⇑us+i/\KOk n m (⇑e:Int)/\⇑m=⇑e/\⇑ps=i/\OkN n e/\((m.map dM).map ori).Perm (e.map ori),⟨us,cA us,[],rfl,rfl,y,Z,rfl,oku.okn,by rw[uG]⟩,?_,?_⟩
 ·rintro i d ρ hd ⟨e,m,ps,rfl,h1,h2,O,h4,R,S⟩;let⟨hi,rfl⟩:=cQ hd;refine⟨.inr ⟨_,rfl⟩,.inl ⟨_,_,rfl⟩,[.p,.d (.int n),.b 54 (some o) x1 (kF l1 n m (⇑e:Int) ps),.d (.list (e.map pD))],.p rfl (.d rfl (.b rfl (.d rfl .nil))),54,x1,l1,n,m,ps,e,rfl,∅,h2,(),O,W (),(),R,S,λrs' ps' t k1 k2 k3 k4 k5=>⟨.sn (.list ((e++[t]).map pD)),rfl,?_⟩⟩;exact bw (A:=True) ⟨e++[t],rs',ps',rfl,by rw[List.length_append,List.length_singleton];lia,k1,k2,(),k4,k5⟩
 ·rintro ρ ⟨e,m,ps,rfl,_⟩;exact⟨rfl,rfl⟩
end
theorem len1{α:Type}:∀us:List α,⇑us=1->∃a,us=[a]
 |[a],_=>⟨a,rfl⟩
theorem len2{α:Type}:∀us:List α,⇑us=2->∃a b,us=[a,b]
 |[a,b],_=>⟨a,b,rfl⟩
theorem W0{α:Type}:∀us:List α,⇑us=3->∃a b c,us=[a,b,c]
 |[a,b,c],_=>⟨a,b,c,rfl⟩
theorem WX{α:Type}:∀us:List α,⇑us=4->∃a b c d,us=[a,b,c,d]
 |[a,b,c,d],_=>⟨a,b,c,d,rfl⟩
def aD{K:W.Frag}{f:Addr}{b:Value}{c:eD}{a:Yi}{d:Array eH}(l:K.lookup f=some ⟨b,c,.func a,d⟩):W.keepIn K (.ref f)=true:=by
 unfold W.keepIn;simp only[l]
def TQ{P:Za}{w:Zb}{K:W.Frag}{mg:Str->eH}{fw:Heap}{k:Nat}{x:Str}{st:ZF}{f:Addr}{a:Yi}{ps:List Str}{sp:Sp}(F:Fun K x x st f a)(b:Binds K a ps [])(m:mg x=some (.ref f))(h:FnOk P w K mg fw CX0 k f a ps sp) :
  k∪x∪ps∪sp:=⟨f,a,h,b,F.kp,m⟩
abbrev zl(K:W.Frag)(f:Addr)(x:Str)(st:ZF)(oc:Value)(od:eD)(kV dc pm:Value)(an:eD)(cd ct:Value)(sl:Array eH):Prop:=K.lookup f=some ⟨oc,od,.func (W.fnOf x x (dI st) (bW st) (aG st) .none kV dc pm an cd ct),sl⟩
abbrev za(K:W.Frag)(x:Str)(f:Addr):Prop:=W.nsIn K mainGlobals x=some (some (.ref f))
abbrev zc(K:W.Frag)(x:Str)(cd:Value):Prop:=W.codeIn K cd x=true
abbrev zn(K:W.Frag)(x:Str):Prop:=W.nsIn K mainGlobals x=some none
def all_mk{l:W.OpenLaw}{w:Zb}{K:W.Frag}{h:Heap}{mg:Str->eH}{d kb PT fa f0 f1 f2 f3 f4 f5 f6 f7 f8 f9 f10 f11 f12 f13 f14 f15 f16 f17 f18 f19 f20 f21 f22 f23 q r t x y f29 f30 f31 f32 f33 f34 f35 f36 f37 f38 f39 f40:Addr}(hT:∀Q∈([PT]:List Addr),h.get? Q=some (W.tabObj #[]))(X:K.In h)(G:h.Ns mainGlobals mg)(hfa:mg "law"=some (.ref fa)){od0 an0 od1 an1 od2 an2 od3 an3 od4 an4 od5 an5 od6 an6 od7 an7 od8 an8 od9 an9 od10 an10 od11 an11 od12 an12 od13 an13 od14 an14 od15 an15 od16 an16 od17 an17 od18 an18 od19 an19 od20 an20 od21 an21 od22 an22 od23 an23 od24 an24 od25 an25 od26 an26 od27 an27 od28 an28 od29 an29 od30 an30 od31 an31 od32 an32 od33 an33 od34 an34 od35 an35 od36 an36 od37 an37 od38 an38 od39 an39 od40 L:eD}{sl0 sl1 sl2 sl3 sl4 sl5 sl6 sl7 sl8 sl9 sl10 sl11 sl12 sl13 sl14 sl15 sl16 sl17 sl18 sl19 sl20 sl21 sl22 sl23 sl24 sl25 sl26 sl27 sl28 sl29 sl30 sl31 sl32 sl33 sl34 sl35 sl36 sl37 sl38 sl39 sl40:Array eH}{oc0 kV0 dc0 pm0 cd0 ct0 oc1 kV1 dc1 pm1 cd1 ct1 oc2 kV2 dc2 pm2 cd2 ct2 oc3 kV3 dc3 pm3 cd3 ct3 oc4 kV4 dc4 pm4 cd4 ct4 oc5 kV5 dc5 pm5 cd5 ct5 oc6 kV6 dc6 pm6 cd6 ct6 oc7 kV7 dc7 pm7 cd7 ct7 oc8 kV8 dc8 pm8 cd8 ct8 oc9 kV9 dc9 pm9 cd9 ct9 oc10 kV10 dc10 pm10 M ct10 oc11 kV11 dc11 pm11 N ct11 oc12 kV12 dc12 pm12 O ct12 oc13 kV13 dc13 pm13 R ct13 oc14 kV14 dc14 pm14 S ct14 oc15 kV15 dc15 pm15 U ct15 oc16 kV16 dc16 pm16 Y ct16 oc17 kV17 dc17 pm17 Z ct17 oc18 kV18 dc18 pm18 cd18 ct18 oc19 kV19 dc19 pm19 cd19 ct19 oc20 kV20 dc20 pm20 cd20 ct20 oc21 kV21 dc21 pm21 ct21 oc22 kV22 dc22 pm22 cd22 ct22 oc23 kV23 dc23 pm23 cd23 ct23 oc24 kV24 dc24 pm24 cd24 ct24 oc25 kV25 dc25 pm25 cd25 ct25 oc26 kV26 dc26 pm26 cd26 ct26 oc27 kV27 dc27 pm27 cd27 ct27 oc28 kV28 dc28 pm28 cd28 ct28 oc29 kV29 dc29 pm29 cd29 ct29 oc30 kV30 dc30 pm30 cd30 ct30 oc31 kV31 dc31 pm31 cd31 ct31 oc32 kV32 dc32 pm32 cd32 ct32 oc33 kV33 dc33 pm33 cd33 ct33 oc34 kV34 dc34 pm34 cd34 ct34 oc35 kV35 dc35 pm35 cd35 ct35 oc36 kV36 dc36 pm36 cd36 ct36 oc37 kV37 dc37 pm37 cd37 ct37 oc38 kV38 dc38 pm38 cd38 ct38 oc39 kV39 dc39 pm39 cd39 ct39 oc40 kV40 dc40 pm40 p ct40:Value}{g j:Tok}(aK:za K "Keeper" d)(zpg:W.plainGet K d Str.empty=true)(zhd:W.hasDictIn K d=true)(zpo:W.plainOver K d=true)(zsa:W.findIn K (.ref d) "__setattr__"=some (some (.builtin "object.__setattr__")))(zmk:W.makesIn K d=true)(zkp:W.keepIn K (.ref d)=true)(E:W.findIn K (.ref d) bc=some none)(D:W.findIn K (.ref d) aw=some none)(k:W.findIn K (.ref d) az=some none)(C:W.findIn K (.ref d) bp=some none)(a0:za K cq f0)(l0:zl K f0 cq (top 10) oc0 od0 kV0 dc0 pm0 an0 cd0 ct0 sl0)(c0:zc K cq cd0)(a1:za K cr f1)(l1:zl K f1 cr (top 11) oc1 od1 kV1 dc1 pm1 an1 cd1 ct1 sl1)(c1:zc K cr cd1)(a2:za K cu f2)(l2:zl K f2 cu (top 12) oc2 od2 kV2 dc2 pm2 an2 cd2 ct2 sl2)(c2:zc K cu cd2)(a3:za K bn f3)(l3:zl K f3 bn (top 13) oc3 od3 kV3 dc3 pm3 an3 cd3 ct3 sl3)(c3:zc K bn cd3)(a4:za K bv f4)(l4:zl K f4 bv (top 14) oc4 od4 kV4 dc4 pm4 an4 cd4 ct4 sl4)(c4:zc K bv cd4)(a5:za K bb f5)(l5:zl K f5 bb (top 15) oc5 od5 kV5 dc5 pm5 an5 cd5 ct5 sl5)(c5:zc K bb cd5)(a6:za K ba f6)(l6:zl K f6 ba (top 16) oc6 od6 kV6 dc6 pm6 an6 cd6 ct6 sl6)(c6:zc K ba cd6)(a7:za K dA f7)(l7:zl K f7 dA (top 17) oc7 od7 kV7 dc7 pm7 an7 cd7 ct7 sl7)(c7:zc K dA cd7)(a8:za K ce f8)(l8:zl K f8 ce (top 18) oc8 od8 kV8 dc8 pm8 an8 cd8 ct8 sl8)(c8:zc K ce cd8)(a9:za K bS f9)(l9:zl K f9 bS (top 19) oc9 od9 kV9 dc9 pm9 an9 cd9 ct9 sl9)(c9:zc K bS cd9)(a10:za K dC f10)(l10:zl K f10 dC (top 20) oc10 od10 kV10 dc10 pm10 an10 M ct10 sl10)(c10:zc K dC M)(a11:za K br f11)(l11:zl K f11 br (top 22) oc11 od11 kV11 dc11 pm11 an11 N ct11 sl11)(c11:zc K br N)(a12:za K dy f12)(l12:zl K f12 dy (top 23) oc12 od12 kV12 dc12 pm12 an12 O ct12 sl12)(c12:zc K dy O)(a13:za K df f13)(l13:zl K f13 df (top 24) oc13 od13 kV13 dc13 pm13 an13 R ct13 sl13)(c13:zc K df R)(a14:za K dS f14)(l14:zl K f14 dS (top 25) oc14 od14 kV14 dc14 pm14 an14 S ct14 sl14)(c14:zc K dS S)(a15:za K bt f15)(l15:zl K f15 bt (top 27) oc15 od15 kV15 dc15 pm15 an15 U ct15 sl15)(c15:zc K bt U)(a16:za K di f16)(l16:zl K f16 di (top 28) oc16 od16 kV16 dc16 pm16 an16 Y ct16 sl16)(c16:zc K di Y)(a17:za K cc f17)(l17:zl K f17 cc (top 29) oc17 od17 kV17 dc17 pm17 an17 Z ct17 sl17)(c17:zc K cc Z)(a18:za K bg f18)(l18:zl K f18 bg (top 31) oc18 od18 kV18 dc18 pm18 an18 cd18 ct18 sl18)(c18:zc K bg cd18)(a19:za K cw f19)(l19:zl K f19 cw (top 32) oc19 od19 kV19 dc19 pm19 an19 cd19 ct19 sl19)(c19:zc K cw cd19)(a20:za K "tree" f20)(l20:zl K f20 "tree" (top 33) oc20 od20 kV20 dc20 pm20 an20 cd20 ct20 sl20)(c20:zc K "tree" cd20)(a21:za K bi f21)(l21:zl K f21 bi (top 35) oc21 od21 kV21 dc21 pm21 an21 (.ref kb) ct21 sl21)(c21:zc K bi (.ref kb))(a22:za K cy f22)(l22:zl K f22 cy (top 36) oc22 od22 kV22 dc22 pm22 an22 cd22 ct22 sl22)(c22:zc K cy cd22)(a23:za K bz f23)(l23:zl K f23 bz (top 37) oc23 od23 kV23 dc23 pm23 an23 cd23 ct23 sl23)(c23:zc K bz cd23)(a24:W.findIn K (.ref d) dl=some (some (.ref q)))(l24:K.lookup q=some ⟨oc24,od24,.func (W.fnOf dl dt (dI (inClass (top 38) 7)) (bW (inClass (top 38) 7)) (aG (inClass (top 38) 7)) .none kV24 dc24 pm24 an24 cd24 ct24),sl24⟩)(c24:zc K dt cd24)(i24:W.isFn K (.ref q)=true)(a25:W.findIn K (.ref d) "__init__"=some (some (.ref r)))(l25:K.lookup r=some ⟨oc25,od25,.func (W.fnOf "__init__" db (dI (inClass (top 38) 0)) (bW (inClass (top 38) 0)) (aG (inClass (top 38) 0)) .none kV25 dc25 pm25 an25 cd25 ct25),sl25⟩)(c25:zc K db cd25)(i25:W.isFn K (.ref r)=true)(a26:W.findIn K (.ref d) ar=some (some (.ref t)))(l26:K.lookup t=some ⟨oc26,od26,.func (W.fnOf ar "Keeper.web" (dI (inClass (top 38) 2)) (bW (inClass (top 38) 2)) (aG (inClass (top 38) 2)) .none kV26 dc26 pm26 an26 cd26 ct26),sl26⟩)(c26:zc K "Keeper.web" cd26)(i26:W.isFn K (.ref t)=true)(a27:W.findIn K (.ref d) bg=some (some (.ref x)))(l27:K.lookup x=some ⟨oc27,od27,.func (W.fnOf bg dr (dI (inClass (top 38) 4)) (bW (inClass (top 38) 4)) (aG (inClass (top 38) 4)) .none kV27 dc27 pm27 an27 cd27 ct27),sl27⟩)(c27:zc K dr cd27)(i27:W.isFn K (.ref x)=true)(a28:W.findIn K (.ref d) "put"=some (some (.ref y)))(l28:K.lookup y=some ⟨oc28,od28,.func (W.fnOf "put" "Keeper.put" (dI (inClass (top 38) 8)) (bW (inClass (top 38) 8)) (aG (inClass (top 38) 8)) .none kV28 dc28 pm28 an28 cd28 ct28),sl28⟩)(c28:zc K "Keeper.put" cd28)(i28:W.isFn K (.ref y)=true)(a29:za K cn f29)(l29:zl K f29 cn (top 40) oc29 od29 kV29 dc29 pm29 an29 cd29 ct29 sl29)(c29:zc K cn cd29)(a30:za K bN f30)(l30:zl K f30 bN (top 41) oc30 od30 kV30 dc30 pm30 an30 cd30 ct30 sl30)(c30:zc K bN cd30)(a31:za K bP f31)(l31:zl K f31 bP (top 42) oc31 od31 kV31 dc31 pm31 an31 cd31 ct31 sl31)(c31:zc K bP cd31)(a32:za K cf f32)(l32:zl K f32 cf (top 43) oc32 od32 kV32 dc32 pm32 an32 cd32 ct32 sl32)(c32:zc K cf cd32)(a33:za K ca f33)(l33:zl K f33 ca (top 44) oc33 od33 kV33 dc33 pm33 an33 cd33 ct33 sl33)(c33:zc K ca cd33)(a34:za K cz f34)(l34:zl K f34 cz (top 45) oc34 od34 kV34 dc34 pm34 an34 cd34 ct34 sl34)(c34:zc K cz cd34)(a35:za K bu f35)(l35:zl K f35 bu (top 46) oc35 od35 kV35 dc35 pm35 an35 cd35 ct35 sl35)(c35:zc K bu cd35)(a36:za K cE f36)(l36:zl K f36 cE (top 47) oc36 od36 kV36 dc36 pm36 an36 cd36 ct36 sl36)(c36:zc K cE cd36)(a37:za K bE f37)(l37:zl K f37 bE (top 48) oc37 od37 kV37 dc37 pm37 an37 cd37 ct37 sl37)(c37:zc K bE cd37)(a38:za K ax f38)(l38:zl K f38 ax (top 49) oc38 od38 kV38 dc38 pm38 an38 cd38 ct38 sl38)(c38:zc K ax cd38)(a39:za K cK f39)(l39:zl K f39 cK (top 50) oc39 od39 kV39 dc39 pm39 an39 cd39 ct39 sl39)(c39:zc K cK cd39)(a40:za K "law" f40)(l40:zl K f40 "law" (top 51) oc40 od40 kV40 dc40 pm40 L p ct40 sl40)(c40:zc K "law" p)(i:W.nsIn K mainGlobals "MOST_PLACES"=some (some (.int 16 g)))(f:W.nsIn K mainGlobals "MOST_TIES"=some (some (.int 40 j)))(z0:zn K "isinstance")(z1:zn K "int")(z2:zn K "bool")(z3:zn K "tuple")(z4:zn K "list")(z5:zn K "len")(z6:zn K "all")(z7:zn K "min")(z8:zn K "max")(z9:zn K "sorted")(z10:zn K "range")(z11:zn K "abs")(z12:zn K da)(z13:zn K "zip")(z14:zn K "str"){oc_kb:Value}{od_kb:eD}{z:eB}{sl_kb:Array eH}(lc_kb:K.lookup kb=some ⟨oc_kb,od_kb,.fields z,sl_kb⟩)(v11_kb:z[11]?=some (.ref PT))(I:K.lookup PT=none)(J:W.codeHdIn K kb PT=true)
  :
  ∃(K':W.Frag)(Ps:List Addr)(fd:Yi)(sp:Sp),K'.In h/\(∀PT∈Ps,K'.lookup PT=none)/\(∀PT∈Ps,∃c,W.CodeHd h c PT)/\(∀PT∈Ps,h.get? PT=some (W.tabObj #[]))/\(∀(s:Shared)(u:Value),Yj s fd ⟨[u],[]⟩ [(bh,u)]) /\
    (∀fw:Heap,K'.In fw->fw.Ns mainGlobals mg->(∀PT∈Ps,fw.BuiltinsAt mg PT)->(∃o,fw.get? Zn=some o)->FnOk l.prog w K' mg fw CX0 14 fa fd [bh] sp)/\∀(H:Hp)(a:Addr)(ns:ew),SqL K' H a (ns.map V.int)->(∀PT∈Ps,H PT=some (.tbl #[]))->sp [.ref a] H (λv _=>v=.bl true) λ_ _ _=>False:=by
 have e:=hfa.symm.trans (W.mg_of X G a40);cases e;have F0:=aQ (st:=top 10) l0 c0 (aD l0);have b0:=F0.binds (ps:=[av]);have m0:=W.mg_of X G a0;have F1:=aQ (st:=top 11) l1 c1 (aD l1);have b1:=F1.binds (ps:=["limit",av]);have m1:=W.mg_of X G a1;have F2:=aQ (st:=top 12) l2 c2 (aD l2);have b2:=F2.binds (ps:=[ar,av]);have m2:=W.mg_of X G a2;have F3:=aQ (st:=top 13) l3 c3 (aD l3);have b3:=F3.binds (ps:=[ar,av]);have m3:=W.mg_of X G a3;have F4:=aQ (st:=top 14) l4 c4 (aD l4);have b4:=F4.binds (ps:=[ar,av]);have m4:=W.mg_of X G a4;have F5:=aQ (st:=top 15) l5 c5 (aD l5);have b5:=F5.binds (ps:=[ar,"a","b"]);have m5:=W.mg_of X G a5;have F6:=aQ (st:=top 16) l6 c6 (aD l6);have b6:=F6.binds (ps:=[ar,av]);have m6:=W.mg_of X G a6;have F7:=aQ (st:=top 17) l7 c7 (aD l7);have b7:=F7.binds (ps:=["n",av]);have m7:=W.mg_of X G a7;have F8:=aQ (st:=top 18) l8 c8 (aD l8);have b8:=F8.binds (ps:=["n","ties"]);have m8:=W.mg_of X G a8;have F9:=aQ (st:=top 19) l9 c9 (aD l9);have b9:=F9.binds (ps:=[av]);have m9:=W.mg_of X G a9;have F10:=aQ (st:=top 20) l10 c10 (aD l10);have b10:=F10.binds (ps:=[av]);have m10:=W.mg_of X G a10;have F11:=aQ (st:=top 22) l11 c11 (aD l11);have b11:=F11.binds (ps:=[ar]);have m11:=W.mg_of X G a11;have F12:=aQ (st:=top 23) l12 c12 (aD l12);have b12:=F12.binds (ps:=[dQ,"start"]);have m12:=W.mg_of X G a12;have F13:=aQ (st:=top 24) l13 c13 (aD l13);have b13:=F13.binds (ps:=[ar,bq]);have m13:=W.mg_of X G a13;have F14:=aQ (st:=top 25) l14 c14 (aD l14);have b14:=F14.binds (ps:=[ar]);have m14:=W.mg_of X G a14;have F15:=aQ (st:=top 27) l15 c15 (aD l15);have b15:=F15.binds (ps:=[ar,dL]);have m15:=W.mg_of X G a15;have F16:=aQ (st:=top 28) l16 c16 (aD l16);have b16:=F16.binds (ps:=[ar,be]);have m16:=W.mg_of X G a16;have F17:=aQ (st:=top 29) l17 c17 (aD l17);have b17:=F17.binds (ps:=[ar]);have m17:=W.mg_of X G a17;have F18:=aQ (st:=top 31) l18 c18 (aD l18);have b18:=F18.binds (ps:=[ar]);have m18:=W.mg_of X G a18;have F19:=aQ (st:=top 32) l19 c19 (aD l19);have b19:=F19.binds (ps:=[bo]);have m19:=W.mg_of X G a19;have F20:=aQ (st:=top 33) l20 c20 (aD l20);have b20:=F20.binds (ps:=[ar]);have m20:=W.mg_of X G a20;have F21:=aQ (st:=top 35) l21 c21 (aD l21);have b21:=F21.binds (ps:=[aw]);have m21:=W.mg_of X G a21;have F22:=aQ (st:=top 36) l22 c22 (aD l22);have b22:=F22.binds (ps:=[bo,bq]);have m22:=W.mg_of X G a22;have F23:=aQ (st:=top 37) l23 c23 (aD l23);have b23:=F23.binds (ps:=[bo,dV]);have m23:=W.mg_of X G a23;have F24:=aQ (st:=(inClass (top 38) 7)) l24 c24 (aD l24);have b24:=F24.binds (ps:=[ay,aw,az]);have m24:L2.Meth K d dl q:=⟨a24,i24,aD l24⟩
 have F25:=aQ (st:=(inClass (top 38) 0)) l25 c25 (aD l25);have b25:=F25.binds (ps:=[ay,ar]);have m25:L2.Meth K d "__init__" r:=⟨a25,i25,aD l25⟩
 have F26:=aQ (st:=(inClass (top 38) 2)) l26 c26 (aD l26);have b26:=F26.binds (ps:=[ay]);have m26:L2.Meth K d ar t:=⟨a26,i26,aD l26⟩
 have F27:=aQ (st:=(inClass (top 38) 4)) l27 c27 (aD l27);have b27:=F27.binds (ps:=[ay]);have m27:L2.Meth K d bg x:=⟨a27,i27,aD l27⟩
 have F28:=aQ (st:=(inClass (top 38) 8)) l28 c28 (aD l28);have b28:=F28.binds (ps:=[ay,"a","b"]);have m28:L2.Meth K d "put" y:=⟨a28,i28,aD l28⟩
 have F29:=aQ (st:=top 40) l29 c29 (aD l29);have b29:=F29.binds (ps:=[bh]);have m29:=W.mg_of X G a29;have F30:=aQ (st:=top 41) l30 c30 (aD l30);have b30:=F30.binds (ps:=[af,aN]);have m30:=W.mg_of X G a30;have F31:=aQ (st:=top 42) l31 c31 (aD l31);have b31:=F31.binds (ps:=[af,ai]);have m31:=W.mg_of X G a31;have F32:=aQ (st:=top 43) l32 c32 (aD l32);have b32:=F32.binds (ps:=[aE]);have m32:=W.mg_of X G a32;have F33:=aQ (st:=top 44) l33 c33 (aD l33);have b33:=F33.binds (ps:=[af,ai]);have m33:=W.mg_of X G a33;have F34:=aQ (st:=top 45) l34 c34 (aD l34);have b34:=F34.binds (ps:=[af,ai]);have m34:=W.mg_of X G a34;have F35:=aQ (st:=top 46) l35 c35 (aD l35);have b35:=F35.binds (ps:=[ah,dm]);have m35:=W.mg_of X G a35;have F36:=aQ (st:=top 47) l36 c36 (aD l36);have b36:=F36.binds (ps:=[ah]);have m36:=W.mg_of X G a36;have F37:=aQ (st:=top 48) l37 c37 (aD l37);have b37:=F37.binds (ps:=[ai,ah]);have m37:=W.mg_of X G a37;have F38:=aQ (st:=top 49) l38 c38 (aD l38);have b38:=F38.binds (ps:=[ag,aI]);have m38:=W.mg_of X G a38;have F39:=aQ (st:=top 50) l39 c39 (aD l39);have b39:=F39.binds (ps:=[af,ai,aS,ah]) λ_ _ _ _ _ _ us hl=>by let⟨_,_,_,_,rfl⟩:=WX us hl;rfl
 have m39:=W.mg_of X G a39;have F40:=aQ (st:=top 51) l40 c40 (aD l40);have B:Dl.Bn mg:=⟨W.mg_none_of X G z0,W.mg_none_of X G z1,W.mg_none_of X G z2,W.mg_none_of X G z3,W.mg_none_of X G z4,W.mg_none_of X G z5,W.mg_none_of X G z6,W.mg_none_of X G z7,W.mg_none_of X G z8,W.mg_none_of X G z9,W.mg_none_of X G z10,W.mg_none_of X G z11⟩
 have F:=W.mg_none_of X G z12;have N13:=W.mg_none_of X G z13;have N14:=W.mg_none_of X G z14;have A:L2.Cls K d:=⟨zpg,zhd,zpo,zsa⟩
 have T:KT K d:=⟨A,E,D,k,C⟩
 have n:∀h:Heap,K.In h->W.CodeHd h kb PT:=λh X2=>W.codeHd_of_K X2 J;have HP0:∀Q∈([PT]:List Addr),K.lookup Q=none:=(λQ hQ=>by
  simp only[List.mem_cons,List.not_mem_nil,or_false]at hQ;rcases hQ with rfl
  ·exact I)
 have HCE:∀Q∈([PT]:List Addr),∃c,W.CodeHd h c Q:=(λQ hQ=>by
  simp only[List.mem_cons,List.not_mem_nil,or_false]at hQ;rcases hQ with rfl
  ·exact⟨_,n h X⟩)
 refine⟨K,[PT],W.fnOf "law" "law" (dI (top 51)) (bW (top 51)) (aG (top 51)) .none kV40 dc40 pm40 L p ct40,HJ K (xH PT),X,HP0,HCE,hT,λs v=>.of_eq rfl,λfw _ _ hBm SY=>?_,λH a ns hS hT=>⟨a,ns,rfl,hS,⟨_,hT PT List.mem_cons_self,.inl rfl⟩,λ_ _ _ _=>TY,λ_=>rfl⟩⟩;letI:Dl.Tt:=⟨xH PT⟩
 have zc:=λb=>@TQ l.prog w K mg b;have C0:=λfw=>zc fw F0 b0 m0 (xQ F0 B);have C1:=λfw=>zc fw F1 b1 m1 (xU F1 B (C0 fw));have C2:=λfw=>zc fw F2 b2 m2 (xR F2 B (C1 fw));have C3:=λfw=>zc fw F3 b3 m3 (pI F3 B (C1 fw));have C4:=λfw=>zc fw F4 b4 m4 (rM F4 B (C2 fw));have C5:=λfw=>zc fw F5 b5 m5 (lJ F5 B (C4 fw));have C6:=λfw=>zc fw F6 b6 m6 (lK F6 B (C3 fw));have C7:=λfw=>zc fw F7 b7 m7 (FN F7 B (C1 fw));have C8:=λfw=>zc fw F8 b8 m8 (vL F8 B (W.mg_of X G i) (W.mg_of X G f) (C0 fw) (C7 fw));have C9:=λfw=>zc fw F9 b9 m9 (tY F9 B (C8 fw));have C10:=λfw=>zc fw F10 b10 m10 (FJ F10 B (C9 fw));have C11:=λfw=>zc fw F11 b11 m11 (ql F11 B F);have C12:=λfw=>zc fw F12 b12 m12 (Fy F12 B);have C13:=λfw=>zc fw F13 b13 m13 (Aj F13 B (C12 fw) (C11 fw));have C14:=λfw=>zc fw F14 b14 m14 (JF F14 B (C13 fw));have C15:=λfw=>zc fw F15 b15 m15 (qj F15 B F);have C16:=λfw=>zc fw F16 b16 m16 (Ai F16 B (C6 fw) (C13 fw) (C15 fw));have C17:=λfw=>zc fw F17 b17 m17 (xW F17 B (C16 fw));have C18:=λfw=>zc fw F18 b18 m18 (Fz F18 B (C14 fw) (C15 fw) (C17 fw));have C19:=λfw=>zc fw F19 b19 m19 (xV F19 B F);have C20:=λfw=>zc fw F20 b20 m20 (Nz F20 B (C18 fw) (C19 fw) (C17 fw));have C21:=zc fw F21 b21 m21 (Vd l21 c21 n (hBm PT List.mem_cons_self) B);have C22:=λfw=>zc fw F22 b22 m22 (xO F22 B);have C23:=λfw=>zc fw F23 b23 m23 (rJ F23 B);have C24:Dl.CalM l.prog w K mg fw d 1 dl [ay,aw,az] (spM d KR):=⟨⟨q,_,(pK (P:=l.prog) (w:=w) (fw:=fw) F24 B T),b24,m24⟩,A⟩
 have C25:Dl.CalC l.prog w K mg fw d 7 "Keeper" [ay,ar] KQ:=⟨⟨r,_,⟨zmk,a25,i25,zkp⟩,(mK (P:=l.prog) (w:=w) (fw:=fw) F25 B F (C10 fw) T),b25,W.mg_of X G aK⟩⟩
 have C26:Dl.CalM l.prog w K mg fw d 10 ar [ay] (spQ d Eb):=⟨⟨t,_,(tZ (P:=l.prog) (w:=w) (fw:=fw) F26 B C21 T),b26,m26⟩,A⟩
 have C27:Dl.CalM l.prog w K mg fw d 11 bg [ay] (spQ d yK):=⟨⟨x,_,(pJ (P:=l.prog) (w:=w) (fw:=fw) F27 B (C20 fw) C26),b27,m27⟩,A⟩
 have C28:Dl.CalM l.prog w K mg fw d 12 "put" [ay,"a","b"] (spM d KN):=⟨⟨y,_,(ud (P:=l.prog) (w:=w) (fw:=fw) F28 B (W.mg_of X G f) (C5 fw) (C23 fw) (C22 fw) T C26 C27 C24),b28,m28⟩,A⟩
 have C29:=λfw=>zc fw F29 b29 m29 (RN F29 );have m:=λfw=>zc fw F30 b30 m30 (NK F30 B);have C31:=λfw=>zc fw F31 b31 m31 (JG F31 B (m fw));have C32:=λfw=>zc fw F32 b32 m32 (xP F32 B);have C33:=λfw=>zc fw F33 b33 m33 (vM F33 B (m fw) (C32 fw));have C34:=λfw=>zc fw F34 b34 m34 (Ak F34 B (C33 fw) (m fw) (C31 fw));have C35:=λfw=>zc fw F35 b35 m35 (rK F35 B);have C36:=λfw=>zc fw F36 b36 m36 (Am F36 B (C35 fw));have C37:=λfw=>zc fw F37 b37 m37 (tX F37 B (C36 fw) (C35 fw));have C38:=λfw=>zc fw F38 b38 m38 (FT F38 B N13 N14 b38 m38);have C39:=zc fw F39 b39 m39 (Al F39 B (m fw) (C37 fw) (C38 fw) C28 C27);exact RP F40 B (C29 fw) (m fw) (C34 fw) (C38 fw) (C37 fw) C39 C25 C27
end Nf
open PySem.W
local macro_rules
 |`(tactic| k_qdec)=>`(tactic| fail)
local macro_rules
 |`(tactic| o_head (kmHook $k $a $e $t))=>`(tactic| o_head (kHook (λP=>List.append (List.map (λa=>(a,PySem.W.tabObj #[])) $t) ($k P)) (List.append $t $a) (λ_=>by kernel_rfl)))
local macro_rules
 |`(tactic| o_head (kHook $k $a $e))=>`(tactic| (
  refine holds_open (q:=view PySem.Challenge.pw_nofall_k56_pieces_made_one Nf.uN) (loose:=[]) (Xt:=λs=>xlAt (view PySem.Challenge.pw_nofall_k56_pieces_made_one Nf.uN) [] s&&recOk [] s) (XP:=XL (view PySem.Challenge.pw_nofall_k56_pieces_made_one Nf.uN) []) (Yf:=Hook.obs (kHook $k $a $e)) (Ya:=Hook.val (kHook $k $a $e)) (YP:=Hook.says (kHook $k $a $e)) (N:=5590) ?hl (Hook.of (kHook $k $a $e)) (Hook.keeps (kHook $k $a $e)) (λs e=>xl_of s (Bool.and_eq_true_iff.mp e).1) XL.keeps (by rfl) (by rfl) (by rfl) (λs e=>recFacts_of (Bool.and_eq_true_iff.mp e).2) (by rfl) (by first|assumption|decide +kernel) ⋯ ⟨rfl,rfl,rfl,rfl,rfl,⋯⟩ ?hw ?hc))
set_option maxRecDepth 100000 in
set_option maxHeartbeats 0 in
theorem PySem.Challenge.cw_nofall_k56_pieces_made_one_holds : PySem.Challenge.rw_nofall_k56_pieces_made_one.Holds := by
 w_on;refine PySem.W.holds_law Nf.well λsaid=>?_;k_head
 ·refine Nf.Oc 90 (boot_open (by kernel_rfl) rfl (λs=>by kernel_rfl)) Nf.N6 (λw os=>?_) (λw os=>?_)
  ·show Nf.sH PySem.Challenge.pw_nofall_k56_pieces_made_one w os _ 90=Nf.frF _ 90;rw[PySem.W.Fast.frontQ_eq]
   kernel_rfl
  ·show Nf.zq PySem.Challenge.pw_nofall_k56_pieces_made_one w os _ 90=Nf.frB _ 90;rw[PySem.W.Fast.backQ_eq]
   kernel_rfl
 ·w_witness2
 k_fill
 refine L2.Hr (n:=63) (k:=14) (x:="_law_script") (l:=PySem.Challenge.rw_nofall_k56_pieces_made_one) (by rfl) rfl ∅ rfl ⟨rfl,∅,∅,rfl⟩ (λw h Y=>PySem.W.kIn_of Y) ?F
 case F =>
  intro w mg fa h KX2 G hmg;let⟨KX,hPT⟩:=L2.Mh KX2 (by
   intro Q hQ;simp only[List.mem_cons,List.not_mem_nil,or_false]at hQ;rcases hQ with rfl <;> kernel_rfl)
  refine' Nf.all_mk hPT KX G hmg ?aK ?zpg ?zhd ?zpo ?zsa ?zmk ?zkp ?zn_size ?zn_rows ?zn_fresh ?zn_past ?a0 ?l0 ?c0 ?a1 ?l1 ?c1 ?a2 ?l2 ?c2 ?a3 ?l3 ?c3 ?a4 ?l4 ?c4 ?a5 ?l5 ?c5 ?a6 ?l6 ?c6 ?a7 ?l7 ?c7 ?a8 ?l8 ?c8 ?a9 ?l9 ?c9 ?a10 ?l10 ?c10 ?a11 ?l11 ?c11 ?a12 ?l12 ?c12 ?a13 ?l13 ?c13 ?a14 ?l14 ?c14 ?a15 ?l15 ?c15 ?a16 ?l16 ?c16 ?a17 ?l17 ?c17 ?a18 ?l18 ?c18 ?a19 ?l19 ?c19 ?a20 ?l20 ?c20 ?a21 ?l21 ?c21 ?a22 ?l22 ?c22 ?a23 ?l23 ?c23 ?a24 ?l24 ?c24 ?i24 ?a25 ?l25 ?c25 ?i25 ?a26 ?l26 ?c26 ?i26 ?a27 ?l27 ?c27 ?i27 ?a28 ?l28 ?c28 ?i28 ?a29 ?l29 ?c29 ?a30 ?l30 ?c30 ?a31 ?l31 ?c31 ?a32 ?l32 ?c32 ?a33 ?l33 ?c33 ?a34 ?l34 ?c34 ?a35 ?l35 ?c35 ?a36 ?l36 ?c36 ?a37 ?l37 ?c37 ?a38 ?l38 ?c38 ?a39 ?l39 ?c39 ?a40 ?l40 ?c40 ?g_MOST_PLACES ?g_MOST_TIES ?z0 ?z1 ?z2 ?z3 ?z4 ?z5 ?z6 ?z7 ?z8 ?z9 ?z10 ?z11 ?z12 ?z13 ?z14 ?lc_kb ?v11_kb ?hP0_kb ?hcI_kb
  any_goals (show _=_;k_is)
  case v11_kb=>exact rfl
  case hP0_kb=>kernel_rfl
  case hcI_kb=>kernel_rfl
  all_goals rfl
end
